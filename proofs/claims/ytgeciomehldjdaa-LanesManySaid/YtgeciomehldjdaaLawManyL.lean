/- How many columns there may be: for every ColSpan and number of columns. -/
import Derived.Test.YtgeciomehldjdaaRows
import Derived.WalkKit
import Derived.ProofKit
import Derived.OpenShut
import Derived.Below
import Derived.Test.YtgeciomehldjdaaLMany
import Derived.ShutString
namespace Go.Proofs.Ytgeciomehldjdaa.lanesMany
open Go.ChangeShapes Go.WideShapes Go.ChangeAt Go.RowKit
set_option linter.unusedVariables false

theorem own : ownKnob Try.prog.godebug = none := by kernel_rfl

theorem many_start (s : Int) (w X : World) (h : Below w.heap.size w X) : MW w.heap.size s 0 0 (.slice (some ⟨X.heap.size, 0, none⟩) 1 1) (.slice none 0 0) w (X.alloc (.cells (headNd 0 (.slice none 0 0)).cells.toArray 45)) := by
  refine ⟨?_, World.ownsRow_nil _ _ _ _, h.alloc h.size _⟩
  have := World.ownsRow_lit (base := w.heap.size) (e := 45) (size := 34) X (headNd 0 (.slice none 0 0)).cells.toArray 1 h.size (by unfold maxLen; omega) (by simp [Nd.len])
  simpa [mpg, flatN] using this
theorem fanM_snoc (j : Nat) : (fanM (j + 1)).map (Value.int .i64) = (fanM j).map (Value.int .i64) ++ [.int .i64 ((j : Int) + 1)] := by
  unfold fanM
  rw [List.range'_concat]; simp; omega
theorem col_ok (s : Int) (W : World) : (colNd s).ok W := ⟨ints_nil W, ints_nil W, capok_slice none 0 0 (by omega) (by omega), capok_slice none 0 0 (by omega) (by omega)⟩
set_option maxRecDepth 100000 in
set_option maxHeartbeats 4000000 in
theorem many_at (s n : Nat) (h1 : 1 ≤ s) (h2 : s ≤ 1000) (hn : n ≤ 12) (w : World) :
    Calls Try.prog 4 #[.int .i64 (s : Int), .int .i64 (n : Int)] w fun e w' => e = .returned (.bool true) ∧ Below w.heap.size w w' := by
  obtain ⟨i0, hi0, hz0, hz1, hz2⟩ := info_parts Try.infoInt
  obtain ⟨i1, hi1, hy0, hy1, hy2⟩ := info_parts Try.infoNd2
  have HI0 := Lib.hid hi0
  have HI1 := Lib.hid hi1
  have HI2 := Lib.hid hz0
  have HI3 := Lib.hid hz1
  have HI4 := Lib.hid hz2
  have HI5 := Lib.hid hy0
  have HI6 := Lib.hid hy1
  have HI7 := Lib.hid hy2
  clear hi0 hz0 hz1 hz2 hi1 hy0 hy1 hy2
  go_enter Try.func4, Try.ntmps4
  go_wp2_with (go_at_call 5; refine (shown6_any _).mono ?_; rintro e w1 ⟨rfl, hb1⟩; have HB1 := Lib.hid hb1; clear hb1)
  have HS := Lib.hid (many_start (s : Int) w w1 HB1.out)
  go_loopw [6, 7] (fun l i x => ∃ (j L c : Nat) (v : Value), j ≤ n ∧ i = .int .i64 (j : Int) ∧ l = .slice (some ⟨L, 0, none⟩) (j + 1) c ∧ Hid (MW w.heap.size (s : Int) j j (.slice (some ⟨L, 0, none⟩) (j + 1) c) v w x)) (fun _ i _ => n - (intOf i).toNat)
  case atStart => exact ⟨0, _, _, _, by omega, rfl, rfl, HS⟩
  case round =>
    obtain ⟨j, L, c, v, hj, rfl, rfl, HZ⟩ := hrel
    clear HS
    by_cases hlt : j < n
    · have cj : wr.cell? ⟨L, 1, none⟩ = some v := by rw [HZ.out.row.cellAt 1 (by omega)]; rfl
      have lj : L < wr.heap.size := (HZ.out.row.lt L rfl).2
      have hzz : w.heap.size ≤ wr.heap.size := HZ.out.low.size
      go_wp2_with (at_builtin; refine wpList_append_own_at _ rfl _ _ 32 rfl w.heap.size 3 i0 (.int .i64 0) 1 8 Try.underlying32 HI0.out HI2.out HI3.out HI4.out rfl (by decide) _ _ _ rfl (HZ.out.own.alloc _) ⟨wr.heap.size, 0, none⟩ 1 1 [.int .i64 ((j : Int) + 1)] rfl rfl (cell_one_new _ _ _) (by intro u hu; simp at hu; subst hu; rfl) (by unfold maxLen; omega) (by omega) (by simp; omega) ?_)
      intro v7 W7 hown7 hgrow7 _ _
      obtain ⟨p7, k7, c7, rfl⟩ := own_slice hown7
      have hr7 := (HZ.out.row.alloc _).kept hgrow7 (own_typesM HZ.out.row HZ.out.own ne_tM)
      have HM7 := Lib.hid (HZ.out.kid (.inr hzz) (by rw [fanM_snoc]; exact hown7) hgrow7)
      have c7' : W7.cell? ⟨L, 1, none⟩ = some v := by rw [hr7.cellAt 1 (by omega)]; rfl
      have f7 : W7.frozen? ⟨L, 1, none⟩ = false := hr7.frozenAt 1
      have l7 : L < W7.heap.size := (hr7.lt L rfl).2
      clear hown7 hgrow7 hr7 HZ
      go_wp2_with (at_builtin; refine Hid.out ?_)
      refine Lib.hid ?_
      obtain ⟨W8, hW8⟩ : ∃ W8, W7.setCell ⟨L, 1, none⟩ (.slice p7 k7 c7) = W8 := ⟨_, rfl⟩
      have hs8 : W8.heap.size = W7.heap.size := by rw [← hW8]; simp
      rw [hW8] at HM7 ⊢
      clear hW8 c7' f7 l7 cj lj
      have hz8 : w.heap.size ≤ W8.heap.size := HM7.out.low.size
      refine (wpList_append_own_at _ rfl _ _ 22 rfl w.heap.size 45 i1 (.agg Nd.zero.cells.toArray) 34 288 Try.underlying22 HI1.out HI5.out HI6.out HI7.out nd_size0 (by decide) (.slice (some ⟨L, 0, none⟩) (j + 1) c) (j + 1) (flatN (mpg (s : Int) (j + 1) j (.slice p7 k7 c7))) rfl (HM7.out.row.alloc _) ⟨W7.heap.size, 0, none⟩ 1 1 (colNd (s : Int)).cells rfl (by rw [Nd.len]) (lay_new W8 _ _ _ hs8.symm) (fun u hu => by have := nd_one (colNd (s : Int)) W8 (col_ok (s : Int) W8); rw [Array.all_eq_true_iff_forall_mem] at this; exact this u (by simpa using hu)) (by unfold maxLen; omega) (by omega) (by simp; omega) ?_)
      intro v9 W9 hown9 hgrow9 _ _
      obtain ⟨L9, c9, rfl⟩ : ∃ L9 c9, v9 = .slice (some ⟨L9, 0, none⟩) (j + 1 + 1) c9 := by
        rcases hown9.2 with ⟨_, h0⟩ | ⟨g, cap, cur, e, _⟩
        · omega
        · exact ⟨g, cap, e⟩
      have HM9 := Lib.hid (HM7.out.col hz8 hown9 hgrow9)
      clear hown9 hgrow9 HM7
      go_wp2
      go_roundw
      case rel => exact ⟨j + 1, L9, c9, _, by omega, by go_num, rfl, HM9⟩
      case measure => simp [intOf]; omega
    · obtain rfl : j = n := by omega
      have HC := Lib.hid (cols_many h1 h2 hn HZ.out)
      have HL := Lib.hid HZ.out.low
      obtain ⟨P, hP⟩ : ∃ P, s * j = P := ⟨_, rfl⟩
      have hPI : (s : Int) * (j : Int) = (P : Int) := by rw [← hP]; simp
      have hP2 : P ≤ 12000 := by rw [← hP]; exact Nat.le_trans (Nat.mul_le_mul h2 hn) (by omega)
      rw [hP] at HC
      clear hP HZ hlt
      by_cases hbig : 10000 < P
      · have HCB := Lib.hid (HC.out.mono (fun e W' h => show e = .returned (.tuple #[.slice none 0 0, .int .i64 43]) ∧ Below wr.heap.size wr W' from by
          obtain ⟨⟨q, l, cc, hle, _, _⟩ | ⟨_, e⟩, hb⟩ := h
          · omega
          · exact ⟨e, hb⟩))
        clear HC
        go_wp2_with (go_at_call 7; refine HCB.out.mono ?_; clear HCB; rintro e w3 ⟨rfl, hb3⟩; have HB3 := Lib.hid (HL.out.trans (hb3.mono HL.out.size)); clear hb3)
        all_goals go_ret
        all_goals exact ⟨rfl, HB3.out⟩
      · obtain ⟨l, hl⟩ : ∃ l, max P 7 = l := ⟨_, rfl⟩
        have HCB := Lib.hid (HC.out.mono (fun e W' h => show (∃ q cc, e = .returned (.tuple #[.slice q l cc, .int .i64 0])) ∧ Below wr.heap.size wr W' from by
          obtain ⟨⟨q, l', cc, _, e, hl'⟩ | ⟨hgt, _⟩, hb⟩ := h
          · exact ⟨⟨q, cc, by rw [e, hl', hl]⟩, hb⟩
          · omega))
        clear HC
        have hlI : (if (P : Int) < 7 then (7 : Int) else (P : Int)) = (l : Int) := by rw [← hl]; split <;> omega
        have hlI2 : max (P : Int) 7 = (l : Int) := by rw [← hl]; omega
        clear hl
        go_wp2_with (go_at_call 7; refine HCB.out.mono ?_; clear HCB; rintro e w3 ⟨⟨q, cc, rfl⟩, hb3⟩; have HB3 := Lib.hid (HL.out.trans (hb3.mono HL.out.size)); clear hb3)
        all_goals go_ret
        all_goals exact ⟨rfl, HB3.out⟩
set_option maxHeartbeats 1000000 in
theorem many_not (a0 a1 : Int) (h : a0 < 1 ∨ 1000 < a0 ∨ a1 < 0 ∨ 12 < a1) (w : World) : Calls Try.prog 4 #[.int .i64 a0, .int .i64 a1] w fun e w' => e = .returned (.bool true) ∧ Below w.heap.size w w' := by
  go_enter Try.func4, Try.ntmps4
  by_cases h1 : a0 < 1
  · clear h
    go_wp2_with (go_at_call 5; refine (shown6_any _).mono ?_; rintro e w1 ⟨rfl, hb1⟩; have HB1 := Lib.hid hb1; clear hb1)
    go_ret
    exact ⟨rfl, HB1.out⟩
  · by_cases h2 : 1000 < a0
    · clear h
      go_wp2_with (go_at_call 5; refine (shown6_any _).mono ?_; rintro e w1 ⟨rfl, hb1⟩; have HB1 := Lib.hid hb1; clear hb1)
      go_ret
      exact ⟨rfl, HB1.out⟩
    · by_cases h3 : a1 < 0
      · clear h
        go_wp2_with (go_at_call 5; refine (shown6_any _).mono ?_; rintro e w1 ⟨rfl, hb1⟩; have HB1 := Lib.hid hb1; clear hb1)
        go_ret
        exact ⟨rfl, HB1.out⟩
      · have h4 : 12 < a1 := by omega
        clear h
        go_wp2_with (go_at_call 5; refine (shown6_any _).mono ?_; rintro e w1 ⟨rfl, hb1⟩; have HB1 := Lib.hid hb1; clear hb1)
        go_ret
        exact ⟨rfl, HB1.out⟩
theorem walk (a0 : Int) (h0 : (Lit.int .i64 a0).wf = true) (a1 : Int) (h1 : (Lit.int .i64 a1).wf = true) (w : World) : Calls Try.prog 4 #[.int .i64 a0, .int .i64 a1] w fun e w' => e = .returned (.bool true) ∧ Below w.heap.size w w' := by
  by_cases hc : 1 ≤ a0 ∧ a0 ≤ 1000 ∧ 0 ≤ a1 ∧ a1 ≤ 12
  · obtain ⟨s, rfl⟩ : ∃ s : Nat, a0 = (s : Int) := ⟨a0.toNat, by omega⟩
    obtain ⟨n, rfl⟩ : ∃ n : Nat, a1 = (n : Int) := ⟨a1.toNat, by omega⟩
    exact many_at s n (by omega) (by omega) (by omega) w
  · exact many_not a0 a1 (by omega) w

set_option maxRecDepth 100000 in
theorem lifted (os : Os) (started : os.Started) (H : Type) (enc : TypeId × Value → H) :
    ReturnsInHanded {} Try.checked os 4 .any (Rows.lanesManySpec.pre6 enc Try.prog Try.f4 Rows.lanesManyRow.domain false) (Rows.lanesManySpec.post enc Try.prog Try.f4 false true false false) := by
  refine returnsInHanded_of_change (C := Try.checked) own started (by kernel_rfl) Try.func4
    (ChangeSpec.witness6 (enc := enc) (C := Try.checked) false ⟨#[], #[.int .i64 0, .int .i64 0], []⟩ 8 (by kernel_rfl) (by kernel_rfl) (by kernel_rfl) (by kernel_rfl)) ?_
  intro W base args ds gs before hval0 hW hcnd _
  have hval : ∀ (j : Nat) t v, Try.f4.params[j]? = some t → args[j]? = some v → Value.okWide Try.prog W .any base t v := hval0
  have hW' := hW
  obtain ⟨p, q, hA0, hV, rfl, hfz, hnd⟩ := hW
  have hA : DataW.TrodAll enc Try.prog W 0 (fun _ => true) true Try.f4.params.toList args.toList ds p := hA0
  rw [Try.params4] at hA hval
  obtain ⟨v0, vs0, d0, ds0, p0, q0, hargs, rfl, rfl, h0, r0⟩ := trodAll_cons hA
  obtain ⟨v1, vs1, d1, ds1, p1, q1, rfl, rfl, rfl, h1, r1⟩ := trodAll_cons r0
  obtain ⟨rfl, rfl, rfl⟩ := trodAll_nil r1
  obtain rfl : args = #[v0, v1] := by cases args; simp_all
  obtain ⟨rfl, rfl⟩ := trodVars_none hV
  obtain ⟨a0, rfl, rfl, rfl, w0⟩ := open_int Try.underlying3 (hval 0 3 v0 rfl rfl) h0
  obtain ⟨a1, rfl, rfl, rfl, w1⟩ := open_int Try.underlying3 (hval 1 3 v1 rfl rfl) h1
  clear hA0 hval0
  simp only [List.append_nil] at hW'
  refine (walk a0 w0 a1 w1 W).mono fun e W' ⟨he, hg⟩ => ?_
  subst he
  exact ⟨_, rfl, _, _, _, [], [], [], hW', (trodAll_cons_mk (shut_bool Try.underlying4 _) trodAll_mk0), (trodAll_cons_mk (shut_int Try.underlying3 w0) (trodAll_cons_mk (shut_int Try.underlying3 w1) trodAll_mk0)), rfl, hg.frame _, fun h => by cases h⟩

theorem over : Rows.lanesManyRow.holds Try.pinned (OpenSpec.ofChange Rows.lanesManySpec) :=
  OpenClaim.holds_of_wide 4 Try.f4 rfl rfl rfl rfl rfl rfl rfl ⟨rfl, rfl, rfl, rfl, rfl⟩ rfl rfl rfl rfl rfl (by kernel_rfl) Try.func4 (by kernel_rfl)
    (of_decide_eq_true (by kernel_rfl)) (by unfold Func.isWrapper; first | (rw [if_pos (by decide +kernel)]; kernel_rfl) | (rw [if_neg (by decide +kernel)]; exact ⟨rfl, rfl⟩))
    (fun os started H enc _ => lifted os started H enc)

/-- the statement -/
theorem proved : Rows.LanesManySaid :=
  over
#print axioms proved
end Go.Proofs.Ytgeciomehldjdaa.lanesMany
