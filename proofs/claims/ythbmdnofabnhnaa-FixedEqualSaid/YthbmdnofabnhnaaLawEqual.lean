/- Weights that are all the same share a length out evenly: for every length, weight and number. -/
import Derived.Test.YthbmdnofabnhnaaRows
import Derived.WalkKit
import Derived.ProofKit
import Derived.OpenShut
import Derived.Below
import Derived.Test.YthbmdnofabnhnaaStEnd
import Derived.ShutString
namespace Go.Proofs.Ythbmdnofabnhnaa.fixedEqual
open Go.ChangeShapes Go.WideShapes Go.ChangeAt Go.RowKit
open Go.ChangeMaps (open_string shut_string)
set_option linter.unusedVariables false      -- a walk need not use every 'w<i>' (that an integer argument fits its kind)

theorem own : ownKnob Try.prog.godebug = none := by kernel_rfl

theorem counted_rep (w : Int) (k : Nat) : counted (List.replicate k w) = List.replicate k w ∨ counted (List.replicate k w) = List.replicate k 1 := by
  unfold counted; split
  · right; simp
  · left; rfl
theorem share_rep (t w : Int) (k : Nat) (t0 : 0 ≤ t) (hw : 0 ≤ w) (hk : 1 ≤ k) : shareL (ordS k) t (counted (List.replicate k w)) = evenL t k := by
  by_cases h0 : w = 0
  · subst h0
    have : counted (List.replicate k (0 : Int)) = List.replicate k 1 := by unfold counted; rw [if_pos (by rw [sumZ_rep]; simp)]; simp
    rw [this]
    have := shareS_rep t 1 k (by omega) hk t0
    unfold shareS at this
    simpa using this
  · have hn : (k : Int) * w ≠ 0 := by
      have := Int.mul_pos (show (0 : Int) < k by omega) (show 0 < w by omega)
      omega
    have : counted (List.replicate k w) = List.replicate k w := by unfold counted; rw [if_neg (by rw [sumZ_rep]; exact hn)]
    rw [this]
    have := shareS_rep t w k (by omega) hk t0
    unfold shareS at this
    simpa using this
def repTo (w : Int) (k j : Nat) : List Value := List.replicate j (Value.int .i64 w) ++ List.replicate (k - j) (.int .i64 0)
theorem repTo_length (w : Int) (k j : Nat) (h : j ≤ k) : (repTo w k j).length = k := by simp [repTo]; omega
theorem repTo_succ (w : Int) (k j : Nat) (h : j < k) : (repTo w k j).set j (.int .i64 w) = repTo w k (j + 1) := by
  unfold repTo
  rw [List.set_append_right _ _ (by simp)]
  obtain ⟨d, hd⟩ : ∃ d, k - j = d + 1 := ⟨k - j - 1, by omega⟩
  rw [hd, show k - (j + 1) = d by omega, List.length_replicate, Nat.sub_self, List.replicate_succ, List.set_cons_zero, List.replicate_succ']
  simp
set_option maxHeartbeats 2000000 in
theorem equal_in (t x : Int) (k : Nat) (w : World) (hk : 1 ≤ k) (hk2 : k ≤ 200) (hx : 0 ≤ x) (hx2 : x ≤ 1125899906842623) :
    Calls Try.prog 5 #[.int .i64 t, .int .i64 x, .int .i64 k] w fun e w' => e = .returned (.bool true) ∧ Below w.heap.size w w' := by
  obtain ⟨i0, hi, hz0, hz1, hz2⟩ := info_parts Try.infoI64
  have g1 : ¬ (k : Int) < 1 := by omega
  have g2 : ¬ (200 : Int) < k := by omega
  have g3 : ¬ x < 0 := by omega
  have g4 : ¬ 1125899906842623 < x := by omega
  go_enter Try.func5, Try.ntmps5
  go_wp2_with fail
  refine (shown_any _).mono ?_
  rintro e w0 ⟨rfl, hb0⟩
  have HB0 := Lib.hid hb0
  clear hb0
  go_wp2_with (at_make; refine wpList_make_full _ rfl _ _ 22 rfl w0.heap.size 2 i0 (.int .i64 0) 1 Try.underlying22 hi hz0 hz1 .i64 .i64 _ _ k rfl rfl rfl rfl (by rw [hz2]; omega) (by unfold maxLen; omega) (by simp) ?_; intro w1 hown1 hgrow1)
  have e1 : (madeCells (Value.int IntKind.i64 0).cells (k * 1)).toList = repTo x k 0 := by
    rw [show (Value.int IntKind.i64 0).cells = #[Value.int .i64 0] from rfl, toList_madeCells_one]; simp [repTo]
  rw [e1] at hown1
  have kO := Whole.made hown1
  have hB1 : Below w0.heap.size w0 w1 := (Below.refl _ w0).grown hgrow1 (Nat.le_refl _) (fun k e => by cases e)
  clear e1 hown1 hgrow1 hz0 hz1 hz2 hi
  go_loopw [9] (fun i wr => ∃ j : Nat, j ≤ k ∧ i = .int .i64 j ∧ Hid (Whole wr w0.heap.size 2 (repTo x k j)) ∧ Hid (Below w0.heap.size w0 wr)) (fun i _ => k - (intOf i).toNat)
  case atStart => exact ⟨0, Nat.zero_le _, rfl, kO, hB1⟩
  case round =>
    clear kO hB1
    obtain ⟨j, hj, rfl, ho, hb⟩ := hrel
    by_cases hlt : j < k
    · have hlt' : (j : Int) < (k : Int) := by omega
      obtain ⟨v, hv⟩ : ∃ v, wr.cell? ⟨w0.heap.size, j, none⟩ = some v := ⟨_, by rw [ho.out.cellAt, List.getElem?_eq_getElem (by rw [repTo_length _ _ _ hj]; exact hlt)]⟩
      have hf := ho.out.free j
      have H1 : Hid (Whole (wr.setCell ⟨w0.heap.size, j, none⟩ (.int .i64 x)) w0.heap.size 2 (repTo x k (j + 1))) := by
        have := ho.out.set j (.int .i64 x); rw [repTo_succ _ _ _ hlt] at this; exact this
      go_wp2
      go_roundw
      case rel => exact ⟨j + 1, by omega, by go_num, H1, hb.out.setCell (p := ⟨w0.heap.size, j, none⟩) (by simp) _⟩
      case measure => simp [intOf]; omega
    · have hjk : k = j := by omega
      subst hjk
      have hlt' : ¬ (k : Int) < (k : Int) := by omega
      have hN : Nums .i64 wr (.slice (some ⟨w0.heap.size, 0, none⟩) k k) (List.replicate k x) := by
        refine nums_lit (t := 2) ?_ (by simp) (by omega)
        have := ho.out
        simpa [repTo] using this
      have HN := Lib.hid hN
      clear hN ho hlt
      cases hm : mayB t k with
      | false =>
        have HM := Lib.hid hm
        clear hm
        go_wp2_with fail
        refine (share_bad1 _ k k t _ (by omega) HM.out).mono ?_
        rintro e w2 ⟨rfl, rfl⟩
        go_wp2_with fail
        refine (even_bad _ _ _ HM.out).mono ?_
        rintro e w3 ⟨rfl, rfl⟩
        go_wp2_with fail
        refine (same_none none none 0 0 _).mono ?_
        rintro e w' ⟨rfl, nn, rfl⟩
        go_wp2
        go_ret
        exact ⟨rfl, (HB0.out.trans (hb.out.mono HB0.out.size)).trans (below_dn _ _ _)⟩
      | true =>
        have hmb : 0 ≤ t ∧ t ≤ 1152921504606846975 := by simp [mayB] at hm; omega
        have hok : OkW (List.replicate k x) := fun z hz => by rw [List.eq_of_mem_replicate hz]; exact ⟨hx, hx2⟩
        have hsh := fun X a0 cap => share_good (ordS k) a0 cap t (List.replicate k x) X (by rw [List.length_replicate]; obtain ⟨m, rfl⟩ : ∃ m, k = m + 1 := ⟨k - 1, by omega⟩; exact order_at m (by omega))
        rw [List.length_replicate, share_rep t x k hmb.1 hx hk] at hsh
        have HSH := Lib.hid hsh
        have HM := Lib.hid hm
        have HMB := Lib.hid hmb
        have HOK := Lib.hid hok
        clear hsh hm hmb hok
        go_wp2_with fail
        refine (HSH.out _ _ _ HN.out HM.out HOK.out).mono ?_
        rintro e w2 ⟨⟨v, rfl, hv⟩, hb2⟩
        have HV := Lib.hid hv
        have HB2 := Lib.hid hb2
        clear hv hb2 HSH
        go_wp2_with fail
        refine (even_good t _ _ k _ HMB.out.1 HMB.out.2 (by omega) (by omega) rfl rfl).mono ?_
        rintro e w3 ⟨⟨v', rfl, hv'⟩, hb3⟩
        have HV2 : Hid (Nums .i64 w3 v (evenL t k)) := (HV.out.nums (by rw [evenL_length]; omega)).below hb3
        have HV' : Hid (Nums .i64 w3 v' (evenL t k)) := hv'.nums (by rw [evenL_length]; omega)
        have HB : Hid (Below w.heap.size w w3) := ((HB0.out.trans (hb.out.mono HB0.out.size)).trans (HB2.out.mono (Nat.le_trans HB0.out.size hb.out.size))).trans (hb3.mono (Nat.le_trans (Nat.le_trans HB0.out.size hb.out.size) HB2.out.size))
        clear HV hv' HB2 hb3
        go_wp2_with fail
        refine (same_true _ _ _ _ HV2.out HV'.out).mono ?_
        rintro e w' ⟨rfl, nn, rfl⟩
        go_wp2
        go_ret
        exact ⟨rfl, HB.out.trans (below_dn _ _ _)⟩
set_option maxHeartbeats 600000 in
theorem equal (t x n : Int) (w : World) :
    Calls Try.prog 5 #[.int .i64 t, .int .i64 x, .int .i64 n] w fun e w' => e = .returned (.bool true) ∧ Below w.heap.size w w' := by
  by_cases h1 : n < 1
  · go_enter Try.func5, Try.ntmps5
    go_wp2_with (go_at_call 6; refine (shown_any _).mono ?_; rintro e w1 ⟨rfl, hb1⟩)
    go_ret
    exact ⟨rfl, hb1⟩
  · by_cases h2 : 200 < n
    · go_enter Try.func5, Try.ntmps5
      go_wp2_with (go_at_call 6; refine (shown_any _).mono ?_; rintro e w1 ⟨rfl, hb1⟩)
      go_ret
      exact ⟨rfl, hb1⟩
    · by_cases h3 : x < 0
      · go_enter Try.func5, Try.ntmps5
        go_wp2_with (go_at_call 6; refine (shown_any _).mono ?_; rintro e w1 ⟨rfl, hb1⟩)
        go_ret
        exact ⟨rfl, hb1⟩
      · by_cases h4 : 1125899906842623 < x
        · go_enter Try.func5, Try.ntmps5
          go_wp2_with (go_at_call 6; refine (shown_any _).mono ?_; rintro e w1 ⟨rfl, hb1⟩)
          go_ret
          exact ⟨rfl, hb1⟩
        · obtain ⟨k, rfl⟩ := Int.eq_ofNat_of_zero_le (show 0 ≤ n by omega)
          exact equal_in t x k w (by omega) (by omega) (by omega) (by omega)
theorem walk (a0 : Int) (a1 : Int) (a2 : Int) (w0 : (Lit.int .i64 a0).wf = true) (w1 : (Lit.int .i64 a1).wf = true) (w2 : (Lit.int .i64 a2).wf = true) (w : World) :
    Calls Try.prog 5 #[.int .i64 a0, .int .i64 a1, .int .i64 a2] w fun e w' => e = .returned (.bool true) ∧ Below w.heap.size w w' := by
  exact equal a0 a1 a2 w

set_option maxRecDepth 100000 in
theorem lifted (os : Os) (started : os.Started) (H : Type) (enc : TypeId × Value → H) :
    ReturnsInHanded {} Try.checked os 5 .any (Rows.fixedEqualSpec.pre6 enc Try.prog Try.f5 Rows.fixedEqualRow.domain false) (Rows.fixedEqualSpec.post enc Try.prog Try.f5 false true false false) := by
  refine returnsInHanded_of_change (C := Try.checked) own started (by kernel_rfl) Try.func5
    (ChangeSpec.witness6 (enc := enc) (C := Try.checked) false ⟨#[], #[.int .i64 0, .int .i64 0, .int .i64 0], []⟩ 8 (by kernel_rfl) (by kernel_rfl) (by kernel_rfl) (by kernel_rfl)) ?_
  intro W base args ds gs before hval0 hW hcnd _
  have hval : ∀ (j : Nat) t v, Try.f5.params[j]? = some t → args[j]? = some v → Value.okWide Try.prog W .any base t v := hval0
  have hW' := hW
  obtain ⟨p, q, hA0, hV, rfl, hfz, hnd⟩ := hW
  have hA : DataW.TrodAll enc Try.prog W 0 (fun _ => true) true Try.f5.params.toList args.toList ds p := hA0
  rw [Try.params5] at hA hval
  obtain ⟨v0, vs0, d0, ds0, p0, q0, hargs, rfl, rfl, h0, r0⟩ := trodAll_cons hA
  obtain ⟨v1, vs1, d1, ds1, p1, q1, rfl, rfl, rfl, h1, r1⟩ := trodAll_cons r0
  obtain ⟨v2, vs2, d2, ds2, p2, q2, rfl, rfl, rfl, h2, r2⟩ := trodAll_cons r1
  obtain ⟨rfl, rfl, rfl⟩ := trodAll_nil r2
  obtain rfl : args = #[v0, v1, v2] := by cases args; simp_all
  obtain ⟨rfl, rfl⟩ := trodVars_none hV
  obtain ⟨a0, rfl, rfl, rfl, w0⟩ := open_int Try.underlying2 (hval 0 2 v0 rfl rfl) h0
  obtain ⟨a1, rfl, rfl, rfl, w1⟩ := open_int Try.underlying2 (hval 1 2 v1 rfl rfl) h1
  obtain ⟨a2, rfl, rfl, rfl, w2⟩ := open_int Try.underlying3 (hval 2 3 v2 rfl rfl) h2
  clear hA0 hval0
  simp only [List.append_nil] at hW'
  refine (walk a0 a1 a2 w0 w1 w2 W).mono fun e W' ⟨he, hg⟩ => ?_
  subst he
  exact ⟨_, rfl, _, _, _, [], [], [], hW', (trodAll_cons_mk (shut_bool Try.underlying4 _) trodAll_mk0), (trodAll_cons_mk (shut_int Try.underlying2 w0) (trodAll_cons_mk (shut_int Try.underlying2 w1) (trodAll_cons_mk (shut_int Try.underlying3 w2) trodAll_mk0))), rfl, hg.frame _, fun h => by cases h⟩

theorem over : Rows.fixedEqualRow.holds Try.pinned (OpenSpec.ofChange Rows.fixedEqualSpec) :=
  OpenClaim.holds_of_wide 5 Try.f5 rfl rfl rfl rfl rfl rfl rfl ⟨rfl, rfl, rfl, rfl, rfl⟩ rfl rfl rfl rfl rfl (by kernel_rfl) Try.func5 (by kernel_rfl)
    (of_decide_eq_true (by kernel_rfl)) (by unfold Func.isWrapper; first | (rw [if_pos (by decide +kernel)]; kernel_rfl) | (rw [if_neg (by decide +kernel)]; exact ⟨rfl, rfl⟩))
    (fun os started H enc _ => lifted os started H enc)

/-- ████ THE STATEMENT ████ -/
theorem proved : Rows.FixedEqualSaid :=
  over
#print axioms proved
end Go.Proofs.Ythbmdnofabnhnaa.fixedEqual
