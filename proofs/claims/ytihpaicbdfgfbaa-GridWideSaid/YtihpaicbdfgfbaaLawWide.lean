/- How many columns there may be: for every number of cells of so many columns. -/
import Derived.Test.YtihpaicbdfgfbaaRows
import Derived.WalkKit
import Derived.ProofKit
import Derived.OpenShut
import Derived.Below
import Derived.Test.YtihpaicbdfgfbaaGMake
import Derived.ShutString
namespace Go.Proofs.Ytihpaicbdfgfbaa.gridWide
open Go.ChangeShapes Go.WideShapes Go.ChangeAt Go.RowKit
set_option linter.unusedVariables false

theorem own : ownKnob Try.prog.godebug = none := by kernel_rfl

theorem right_wide (n m : Nat) (hn : n ≤ 12) (hm : 990 ≤ m) (hm2 : m ≤ 1000) : RightQ [List.replicate n (wideC m)] [1] := by
  refine ⟨by simp, rfl, fun i e h => ?_, fun x h => ?_⟩
  · match i, h with
    | 0, h => simp at h; subst h; rfl
    | k + 1, h => simp at h
  · rw [cells_one_row, List.map_replicate] at h
    obtain ⟨_, rfl⟩ := List.mem_replicate.1 h
    unfold okC wideC
    dsimp only
    rw [within_one, within_one]
    simp; omega
theorem lay_wide (n m : Nat) (hm : 990 ≤ m) : (n * m ≤ 10000 → ∃ s, layP [List.replicate n (wideC m)] [1] = some s ∧ s.t.length = n * m ∧ s.ps.length = n) ∧ (10000 < n * m → layP [List.replicate n (wideC m)] [1] = none) := by
  unfold layP
  rw [cells_one_row, List.map_replicate]
  obtain ⟨h1, h2⟩ := wide_run m (by omega) n
  exact ⟨fun h => by obtain ⟨s, hs, hw⟩ := h1 h; exact ⟨s, hs, by rw [hw.t]; simp, hw.ps⟩, h2⟩
theorem set_wide (n m k : Nat) (hk : k < n) : (List.replicate k (wideC m) ++ List.replicate (n - k) Sp.zero).set k (wideC m) = List.replicate (k + 1) (wideC m) ++ List.replicate (n - (k + 1)) Sp.zero := by
  rw [List.set_append_right _ _ (by simp)]
  simp only [List.length_replicate, Nat.sub_self]
  obtain ⟨e, he⟩ : ∃ e, n - k = e + 1 := ⟨n - k - 1, by omega⟩
  rw [he, show n - (k + 1) = e by omega, List.replicate_succ, List.set_cons_zero, List.replicate_succ', List.append_assoc]
  rfl
set_option maxRecDepth 100000 in
set_option maxHeartbeats 2000000 in
theorem wide_at (n m : Nat) (hn : n ≤ 12) (hm : 990 ≤ m) (hm2 : m ≤ 1000) (w : World) :
    Calls Try.prog 9 #[.int .i64 (n : Int), .int .i64 (m : Int)] w fun e w' => e = .returned (.bool true) ∧ Below w.heap.size w w' := by
  have hmk := make_spans n (by omega)
  obtain ⟨zc, hzc⟩ : ∃ zc, (flat3 (List.replicate n Sp.zero)).toArray = zc := ⟨_, rfl⟩
  rw [hzc] at hmk
  have HZC := Lib.hid hzc
  clear hzc
  obtain ⟨LW1, LW2⟩ := lay_wide n m hm
  have HW1 := Lib.hid LW1
  have HW2 := Lib.hid LW2
  clear LW1 LW2
  go_enter Try.func9, Try.ntmps9
  go_wp2_with (go_at_call 10; refine (shown7_any _).mono ?_; rintro e w1 ⟨rfl, hb1⟩; have HB1 := Lib.hid hb1; clear hb1)
  have HS : Hid (Whole (w1.alloc (.cells zc 54)) w1.heap.size 54 (flat3 (List.replicate 0 (wideC m) ++ List.replicate (n - 0) Sp.zero)) ∧ Below w.heap.size w (w1.alloc (.cells zc 54))) := Lib.hid ⟨by rw [← HZC.out]; exact whole_new w1 _ _ _ rfl, HB1.out.alloc HB1.out.size _⟩
  go_loopw [7] (fun s7 x => ∃ k : Nat, k ≤ n ∧ s7 = .int .i64 (k : Int) ∧ Hid (Whole x w1.heap.size 54 (flat3 (List.replicate k (wideC m) ++ List.replicate (n - k) Sp.zero)) ∧ Below w.heap.size w x)) (fun s7 _ => n - (intOf s7).toNat)
  case atStart => exact ⟨0, Nat.zero_le _, rfl, HS⟩
  case round =>
    obtain ⟨k, hk, rfl, HX⟩ := hrel
    clear HS hmk
    have hw1 := HB1.out.size
    by_cases hlt : k < n
    · have hl : (flat3 (List.replicate k (wideC m) ++ List.replicate (n - k) Sp.zero)).length = n * 3 := by rw [flat3_len]; simp; omega
      have l0 := HX.out.1.lt
      have f0 := HX.out.1.free (k * 3)
      have f1 := HX.out.1.free (k * 3 + 1)
      have f2 := HX.out.1.free (k * 3 + 2)
      obtain ⟨o0, c0⟩ : ∃ o0, wr.cell? ⟨w1.heap.size, k * 3, none⟩ = some o0 := by rw [HX.out.1.cellAt]; exact ⟨_, List.getElem?_eq_getElem (by omega)⟩
      obtain ⟨o1, c1⟩ : ∃ o1, wr.cell? ⟨w1.heap.size, k * 3 + 1, none⟩ = some o1 := by rw [HX.out.1.cellAt]; exact ⟨_, List.getElem?_eq_getElem (by omega)⟩
      obtain ⟨o2, c2⟩ : ∃ o2, wr.cell? ⟨w1.heap.size, k * 3 + 2, none⟩ = some o2 := by rw [HX.out.1.cellAt]; exact ⟨_, List.getElem?_eq_getElem (by omega)⟩
      have HX2 : Hid (Whole (((wr.setCell ⟨w1.heap.size, k * 3, none⟩ (.int .i64 0)).setCell ⟨w1.heap.size, k * 3 + 1, none⟩ (.int .i64 (m : Int))).setCell ⟨w1.heap.size, k * 3 + 2, none⟩ (.int .i64 0)) w1.heap.size 54 (flat3 (List.replicate (k + 1) (wideC m) ++ List.replicate (n - (k + 1)) Sp.zero)) ∧
          Below w.heap.size w (((wr.setCell ⟨w1.heap.size, k * 3, none⟩ (.int .i64 0)).setCell ⟨w1.heap.size, k * 3 + 1, none⟩ (.int .i64 (m : Int))).setCell ⟨w1.heap.size, k * 3 + 2, none⟩ (.int .i64 0))) := Lib.hid (by
        refine ⟨?_, below_set_at (below_set_at (below_set_at HX.out.2 _ _ _ hw1) _ _ _ hw1) _ _ _ hw1⟩
        rw [← set_wide n m k hlt]
        exact HX.out.1.sp k (wideC m) (by simp; omega))
      clear hl HX
      go_wp2
      go_roundw
      case rel => exact ⟨k + 1, by omega, by go_num, HX2⟩
      case measure => simp [intOf]; omega
    · have hkn : k = n := by omega
      have HXn : Hid (Whole wr w1.heap.size 54 (flat3 (List.replicate n (wideC m))) ∧ Below w.heap.size w wr) := Lib.hid ⟨by have := HX.out.1; rw [hkn, Nat.sub_self] at this; simpa using this, HX.out.2⟩
      clear HX
      obtain ⟨P, hP⟩ : ∃ P, n * m = P := ⟨_, rfl⟩
      have hPI : (n : Int) * (m : Int) = (P : Int) := by rw [← hP]; simp
      have hP2 : P ≤ 12000 := by rw [← hP]; exact Nat.le_trans (Nat.mul_le_mul hn hm2) (by omega)
      rw [hP] at HW1 HW2
      clear hP
      have hl1 := HXn.out.1.lt
      have hHL : Hid (∀ X : World, Below wr.heap.size wr X → (∃ X0, X = (X0 : World).alloc (.cells #[.int .i64 1] 3) ∧ X0 = wr.alloc (.cells #[.slice (some ⟨w1.heap.size, 0, none⟩) n n] 50)) →
          RowsIn X.heap.size X (.slice (some ⟨wr.heap.size, 0, none⟩) 1 1) (fun _ => .slice (some ⟨w1.heap.size, 0, none⟩) n n) [List.replicate n (wideC m)] ∧ Ints X (.slice (some ⟨wr.heap.size + 1, 0, none⟩) 1 1) [1]) := Lib.hid (by
        rintro X hX ⟨X0, rfl, rfl⟩
        have kA : Whole ((wr.alloc (.cells #[.slice (some ⟨w1.heap.size, 0, none⟩) n n] 50)).alloc (.cells #[.int .i64 1] 3)) wr.heap.size 50 [.slice (some ⟨w1.heap.size, 0, none⟩) n n] := (whole_new wr [.slice (some ⟨w1.heap.size, 0, none⟩) n n] 50 _ rfl).alloc _
        have kB : Whole ((wr.alloc (.cells #[.slice (some ⟨w1.heap.size, 0, none⟩) n n] 50)).alloc (.cells #[.int .i64 1] 3)) (wr.heap.size + 1) 3 [.int .i64 1] := whole_new (wr.alloc (.cells #[.slice (some ⟨w1.heap.size, 0, none⟩) n n] 50)) [.int .i64 1] 3 _ (by simp)
        have kC := (HXn.out.1.alloc (.cells #[.slice (some ⟨w1.heap.size, 0, none⟩) n n] 50)).alloc (.cells #[.int .i64 1] 3)
        refine ⟨rows_whole (t := 50) (rows := [List.replicate n (wideC m)]) (fun i hi => ?_) (by simp) (by simp; omega) (fun i row hr => ?_), Ints.whole kB rfl (by simp)⟩
        · obtain rfl : i = 0 := by simpa using hi
          exact kA.cellAt 0
        · match i, hr with
          | 0, hr =>
            simp at hr; subst hr
            have := row_whole (c := n) (B := ((wr.alloc (.cells #[.slice (some ⟨w1.heap.size, 0, none⟩) n n] 50)).alloc (.cells #[.int .i64 1] 3)).heap.size) (xs := List.replicate n (wideC m)) kC (by simp; omega) (by simp; omega)
            rw [List.length_replicate] at this
            exact this
          | j + 1, hr => simp at hr)
      have hcl : (cellsF 0 [List.replicate n (wideC m)]).length ≤ 1000000 := by rw [cells_one_row]; simp; omega
      have hRQ := right_wide n m hn hm hm2
      have HB2 : Hid (Below wr.heap.size wr ((wr.alloc (.cells #[.slice (some ⟨w1.heap.size, 0, none⟩) n n] 50)).alloc (.cells #[.int .i64 1] 3))) := Lib.hid (((Below.refl _ wr).alloc (Nat.le_refl _) _).alloc (by simp) _)
      obtain ⟨hr1, hr2⟩ := hHL.out _ HB2.out ⟨_, rfl, rfl⟩
      by_cases hbig : 10000 < P
      · have HLAY := Lib.hid (lay_full _ _ _ _ _ _ hr1 hr2 hcl hRQ (HW2.out hbig))
        clear hr1 hr2 hcl hRQ HW1 HW2 hHL
        go_wp2_with (go_at_call 12; refine HLAY.out.mono ?_; clear HLAY; rintro e w3 ⟨rfl, hb3⟩; have HB3 := Lib.hid (HXn.out.2.trans ((HB2.out.trans (hb3.mono HB2.out.size)).mono HXn.out.2.size)); clear hb3)
        go_ret
        exact ⟨rfl, HB3.out⟩
      · obtain ⟨s, hs, hst, hsp⟩ := HW1.out (by omega)
        have HLAY := Lib.hid (lay_good _ _ _ _ _ _ hr1 hr2 hcl hRQ s hs)
        rw [hst] at HLAY
        have HSP := Lib.hid hsp
        clear hr1 hr2 hcl hRQ HW1 HW2 hHL hs hst hsp
        go_wp2_with (go_at_call 12; refine HLAY.out.mono ?_; clear HLAY; rintro e w3 ⟨v3, rfl, ho3, hb3⟩; obtain ⟨q3, c3, hv3⟩ := (ho3.places (by rw [HSP.out]; omega)).form; rw [List.length_map, HSP.out] at hv3; subst hv3; have HB3 := Lib.hid (HXn.out.2.trans ((HB2.out.trans (hb3.mono HB2.out.size)).mono HXn.out.2.size)); clear hb3 ho3)
        go_ret
        exact ⟨rfl, HB3.out⟩
set_option maxHeartbeats 1000000 in
theorem wide_not (a0 a1 : Int) (h : a0 < 0 ∨ 12 < a0 ∨ a1 < 990 ∨ 1000 < a1) (w : World) : Calls Try.prog 9 #[.int .i64 a0, .int .i64 a1] w fun e w' => e = .returned (.bool true) ∧ Below w.heap.size w w' := by
  go_enter Try.func9, Try.ntmps9
  by_cases h1 : a0 < 0
  · clear h
    go_wp2_with (go_at_call 10; refine (shown7_any _).mono ?_; rintro e w1 ⟨rfl, hb1⟩; have HB1 := Lib.hid hb1; clear hb1)
    go_ret
    exact ⟨rfl, HB1.out⟩
  · by_cases h2 : 12 < a0
    · clear h
      go_wp2_with (go_at_call 10; refine (shown7_any _).mono ?_; rintro e w1 ⟨rfl, hb1⟩; have HB1 := Lib.hid hb1; clear hb1)
      go_ret
      exact ⟨rfl, HB1.out⟩
    · by_cases h3 : a1 < 990
      · clear h
        go_wp2_with (go_at_call 10; refine (shown7_any _).mono ?_; rintro e w1 ⟨rfl, hb1⟩; have HB1 := Lib.hid hb1; clear hb1)
        go_ret
        exact ⟨rfl, HB1.out⟩
      · have h4 : 1000 < a1 := by omega
        clear h
        go_wp2_with (go_at_call 10; refine (shown7_any _).mono ?_; rintro e w1 ⟨rfl, hb1⟩; have HB1 := Lib.hid hb1; clear hb1)
        go_ret
        exact ⟨rfl, HB1.out⟩
theorem walk (a0 : Int) (h0 : (Lit.int .i64 a0).wf = true) (a1 : Int) (h1 : (Lit.int .i64 a1).wf = true) (w : World) : Calls Try.prog 9 #[.int .i64 a0, .int .i64 a1] w fun e w' => e = .returned (.bool true) ∧ Below w.heap.size w w' := by
  by_cases hc : 0 ≤ a0 ∧ a0 ≤ 12 ∧ 990 ≤ a1 ∧ a1 ≤ 1000
  · obtain ⟨n, rfl⟩ : ∃ n : Nat, a0 = (n : Int) := ⟨a0.toNat, by omega⟩
    obtain ⟨m, rfl⟩ : ∃ m : Nat, a1 = (m : Int) := ⟨a1.toNat, by omega⟩
    exact wide_at n m (by omega) (by omega) (by omega) w
  · exact wide_not a0 a1 (by omega) w

set_option maxRecDepth 100000 in
theorem lifted (os : Os) (started : os.Started) (H : Type) (enc : TypeId × Value → H) :
    ReturnsInHanded {} Try.checked os 9 .any (Rows.gridWideSpec.pre6 enc Try.prog Try.f9 Rows.gridWideRow.domain false) (Rows.gridWideSpec.post enc Try.prog Try.f9 false true false false) := by
  refine returnsInHanded_of_change (C := Try.checked) own started (by kernel_rfl) Try.func9
    (ChangeSpec.witness6 (enc := enc) (C := Try.checked) false ⟨#[], #[.int .i64 0, .int .i64 0], []⟩ 8 (by kernel_rfl) (by kernel_rfl) (by kernel_rfl) (by kernel_rfl)) ?_
  intro W base args ds gs before hval0 hW hcnd _
  have hval : ∀ (j : Nat) t v, Try.f9.params[j]? = some t → args[j]? = some v → Value.okWide Try.prog W .any base t v := hval0
  have hW' := hW
  obtain ⟨p, q, hA0, hV, rfl, hfz, hnd⟩ := hW
  have hA : DataW.TrodAll enc Try.prog W 0 (fun _ => true) true Try.f9.params.toList args.toList ds p := hA0
  rw [Try.params9] at hA hval
  obtain ⟨v0, vs0, d0, ds0, p0, q0, hargs, rfl, rfl, h0, r0⟩ := trodAll_cons hA
  obtain ⟨v1, vs1, d1, ds1, p1, q1, rfl, rfl, rfl, h1, r1⟩ := trodAll_cons r0
  obtain ⟨rfl, rfl, rfl⟩ := trodAll_nil r1
  obtain rfl : args = #[v0, v1] := by cases args; simp_all
  obtain ⟨rfl, rfl⟩ := trodVars_none hV
  obtain ⟨a0, rfl, rfl, rfl, w0⟩ := open_int Try.underlying3 (hval 0 3 v0 rfl rfl) h0
  obtain ⟨a1, rfl, rfl, rfl, w1⟩ := open_int Try.underlying3 (hval 1 3 v1 rfl rfl) h1
  clear hA0 hval0
  simp only [List.append_nil] at hW'
  refine (walk a0 w0 a1 w1 W).mono fun e W' ⟨he, hg⟩ => ?_
  subst he
  exact ⟨_, rfl, _, _, _, [], [], [], hW', (trodAll_cons_mk (shut_bool Try.underlying4 _) trodAll_mk0), (trodAll_cons_mk (shut_int Try.underlying3 w0) (trodAll_cons_mk (shut_int Try.underlying3 w1) trodAll_mk0)), rfl, hg.frame _, fun h => by cases h⟩

theorem over : Rows.gridWideRow.holds Try.pinned (OpenSpec.ofChange Rows.gridWideSpec) :=
  OpenClaim.holds_of_wide 9 Try.f9 rfl rfl rfl rfl rfl rfl rfl ⟨rfl, rfl, rfl, rfl, rfl⟩ rfl rfl rfl rfl rfl (by kernel_rfl) Try.func9 (by kernel_rfl)
    (of_decide_eq_true (by kernel_rfl)) (by unfold Func.isWrapper; first | (rw [if_pos (by decide +kernel)]; kernel_rfl) | (rw [if_neg (by decide +kernel)]; exact ⟨rfl, rfl⟩))
    (fun os started H enc _ => lifted os started H enc)

/-- the statement -/
theorem proved : Rows.GridWideSaid :=
  over
#print axioms proved
end Go.Proofs.Ytihpaicbdfgfbaa.gridWide
