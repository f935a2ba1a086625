/- A length that is shared out evenly is shared out as the document says: for every length and number. -/
import Derived.Test.YtlnnkkpgfgbikaaRows
import Derived.WalkKit
import Derived.ProofKit
import Derived.OpenShut
import Derived.Below
import Derived.Test.YtlnnkkpgfgbikaaShown
import Derived.ShutString
namespace Go.Proofs.Ytlnnkkpgfgbikaa.fixedEvens
open Go.ChangeShapes Go.WideShapes Go.ChangeAt Go.RowKit
open Go.ChangeMaps (open_string shut_string)
set_option linter.unusedVariables false      -- a walk need not use every 'w<i>' (that an integer argument fits its kind)

theorem own : ownKnob Try.prog.godebug = none := by kernel_rfl

set_option maxHeartbeats 600000 in
theorem evens (t n : Int) (w : World) :
    Calls Try.prog 5 #[.int .i64 t, .int .i64 n] w fun e w' => e = .returned (.bool true) ∧ Below w.heap.size w w' := by
  by_cases hbig : 500 < n ∧ n ≤ 10000
  · obtain ⟨h1, h2⟩ := hbig
    go_enter Try.func5, Try.ntmps5
    go_wp2_with (go_at_call 11; refine (shown_any _).mono ?_; rintro e w1 ⟨rfl, hb1⟩)
    go_ret
    exact ⟨rfl, hb1⟩
  · have hg : 500 < n → 10000 < n := fun h => by omega
    cases hm : mayB t n with
    | false =>
      have HM := Lib.hid hm
      by_cases h1 : 500 < n
      all_goals
        clear hm hbig
        try have hg' := hg h1
        clear hg
        go_enter Try.func5, Try.ntmps5
        go_wp2_with fail
        refine (shown_any _).mono ?_
        rintro e w1 ⟨rfl, hb1⟩
        go_wp2_with fail
        refine (even_bad _ _ _ HM.out).mono ?_
        rintro e w' ⟨rfl, rfl⟩
        go_wp2_with fail
        refine (refEven_bad _ _ _ HM.out).mono ?_
        rintro e w' ⟨rfl, rfl⟩
        go_wp2_with fail
        refine (same_none none 0 0 _).mono ?_
        rintro e w' ⟨rfl, nn, rfl⟩
        go_wp2
        go_ret
        exact ⟨rfl, hb1.trans (below_dn _ _ _)⟩
    | true =>
      have hb : 0 ≤ t ∧ t ≤ 1152921504606846975 ∧ 1 ≤ n ∧ n ≤ 10000 := by simpa [mayB] using hm
      have h1 : n ≤ 500 := by omega
      obtain ⟨t0, t1, n0, n1⟩ := hb
      obtain ⟨k, rfl⟩ := Int.eq_ofNat_of_zero_le (show 0 ≤ n by omega)
      clear hm hbig hg
      go_enter Try.func5, Try.ntmps5
      go_wp2_with fail
      refine (shown_any _).mono ?_
      rintro e w1 ⟨rfl, hb1⟩
      go_wp2_with fail
      refine (even_good t _ _ k _ t0 t1 (by omega) (by omega) rfl rfl).mono ?_
      rintro e w2 ⟨⟨v, rfl, hv⟩, hb2⟩
      go_wp2_with fail
      refine (refEven_good t _ _ k _ t0 t1 (by omega) (by omega) rfl rfl).mono ?_
      rintro e w3 ⟨⟨v', rfl, hv'⟩, hb3⟩
      have HV : Hid (Nums .i64 w3 v (evenL t k)) := (hv.nums (by rw [evenL_length]; omega)).below hb3
      have HV' : Hid (Nums .i64 w3 v' (evenL t k)) := hv'.nums (by rw [evenL_length]; omega)
      have HB : Hid (Below w.heap.size w w3) := (hb1.trans (hb2.mono hb1.size)).trans (hb3.mono (Nat.le_trans hb1.size hb2.size))
      clear hv hv' hb1 hb2 hb3
      go_wp2_with fail
      refine (same_true _ _ _ _ HV.out HV'.out).mono ?_
      rintro e w' ⟨rfl, nn, rfl⟩
      go_wp2
      go_ret
      exact ⟨rfl, HB.out.trans (below_dn _ _ _)⟩
theorem walk (a0 : Int) (a1 : Int) (w0 : (Lit.int .i64 a0).wf = true) (w1 : (Lit.int .i64 a1).wf = true) (w : World) :
    Calls Try.prog 5 #[.int .i64 a0, .int .i64 a1] w fun e w' => e = .returned (.bool true) ∧ Below w.heap.size w w' := by
  exact evens a0 a1 w

set_option maxRecDepth 100000 in
theorem lifted (os : Os) (started : os.Started) (H : Type) (enc : TypeId × Value → H) :
    ReturnsInHanded {} Try.checked os 5 .any (Rows.fixedEvensSpec.pre6 enc Try.prog Try.f5 Rows.fixedEvensRow.domain false) (Rows.fixedEvensSpec.post enc Try.prog Try.f5 false true false false) := by
  refine returnsInHanded_of_change (C := Try.checked) own started (by kernel_rfl) Try.func5
    (ChangeSpec.witness6 (enc := enc) (C := Try.checked) false ⟨#[], #[.int .i64 0, .int .i64 0], []⟩ 8 (by kernel_rfl) (by kernel_rfl) (by kernel_rfl) (by kernel_rfl)) ?_
  intro W base args ds gs before hval0 hW hcnd _
  have hval : ∀ (j : Nat) t v, Try.f5.params[j]? = some t → args[j]? = some v → Value.okWide Try.prog W .any base t v := hval0
  have hW' := hW
  obtain ⟨p, q, hA0, hV, rfl, hfz, hnd⟩ := hW
  have hA : DataW.TrodAll enc Try.prog W 0 (fun _ => true) true Try.f5.params.toList args.toList ds p := hA0
  rw [Try.params5] at hA hval
  obtain ⟨v0, vs0, d0, ds0, p0, q0, hargs, rfl, rfl, h0, r0⟩ := trodAll_cons hA
  obtain ⟨v1, vs1, d1, ds1, p1, q1, rfl, rfl, rfl, h1, r1⟩ := trodAll_cons r0
  obtain ⟨rfl, rfl, rfl⟩ := trodAll_nil r1
  obtain rfl : args = #[v0, v1] := by cases args; simp_all
  obtain ⟨rfl, rfl⟩ := trodVars_none hV
  obtain ⟨a0, rfl, rfl, rfl, w0⟩ := open_int Try.underlying2 (hval 0 2 v0 rfl rfl) h0
  obtain ⟨a1, rfl, rfl, rfl, w1⟩ := open_int Try.underlying3 (hval 1 3 v1 rfl rfl) h1
  clear hA0 hval0
  simp only [List.append_nil] at hW'
  refine (walk a0 a1 w0 w1 W).mono fun e W' ⟨he, hg⟩ => ?_
  subst he
  exact ⟨_, rfl, _, _, _, [], [], [], hW', (trodAll_cons_mk (shut_bool Try.underlying4 _) trodAll_mk0), (trodAll_cons_mk (shut_int Try.underlying2 w0) (trodAll_cons_mk (shut_int Try.underlying3 w1) trodAll_mk0)), rfl, hg.frame _, fun h => by cases h⟩

theorem over : Rows.fixedEvensRow.holds Try.pinned (OpenSpec.ofChange Rows.fixedEvensSpec) :=
  OpenClaim.holds_of_wide 5 Try.f5 rfl rfl rfl rfl rfl rfl rfl ⟨rfl, rfl, rfl, rfl, rfl⟩ rfl rfl rfl rfl rfl (by kernel_rfl) Try.func5 (by kernel_rfl)
    (of_decide_eq_true (by kernel_rfl)) (by unfold Func.isWrapper; first | (rw [if_pos (by decide +kernel)]; kernel_rfl) | (rw [if_neg (by decide +kernel)]; exact ⟨rfl, rfl⟩))
    (fun os started H enc _ => lifted os started H enc)

/-- ████ THE STATEMENT ████ -/
theorem proved : Rows.FixedEvensSaid :=
  over
#print axioms proved
end Go.Proofs.Ytlnnkkpgfgbikaa.fixedEvens
