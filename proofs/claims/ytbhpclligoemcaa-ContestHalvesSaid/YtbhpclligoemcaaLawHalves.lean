/- Half of a border by the program is the document's, and both halves of a width that is not below 0 are the width: for every width. -/
import Derived.Test.YtbhpclligoemcaaRows
import Derived.WalkKit
import Derived.ProofKit
import Derived.OpenShut
import Derived.Below
import Derived.Test.YtbhpclligoemcaaCRef
import Derived.Test.YtbhpclligoemcaaCOpen
import Derived.ShutString
namespace Go.Proofs.Ytbhpclligoemcaa.contestHalves
open Go.ChangeShapes Go.WideShapes Go.ChangeAt Go.RowKit
set_option linter.unusedVariables false

theorem own : ownKnob Try.prog.godebug = none := by kernel_rfl

set_option maxRecDepth 100000 in
set_option maxHeartbeats 2000000 in
theorem walk (a0 : Int) (w0 : (Lit.int .i64 a0).wf = true) (a1 : Bool) (W : World) :
    Calls Try.prog 5 #[.int .i64 a0, .bool a1] W fun e w' => e = .returned (.bool true) ∧ Below W.heap.size W w' := by
  obtain ⟨h1, h2⟩ := bounds_i64 w0
  have HS := Lib.hid (fun X => shown_any X)
  have HH := Lib.hid (fun f X => half_any a0 f h1 h2 X)
  have HR := Lib.hid (fun X => refHalf_any a0 a1 h1 h2 X)
  by_cases hw : a0 < 0
  · obtain ⟨v1, hv1⟩ : ∃ v1, halfI a0 a1 = v1 := ⟨_, rfl⟩
    have H1 := Lib.hid (fun X => hv1 ▸ HH.out a1 X)
    have R1 := Lib.hid (fun X => hv1 ▸ HR.out X)
    clear HH HR hv1 w0
    go_enter Try.func5, Try.ntmps5
    go_wp2_with (first
      | (go_at_call 11; refine (HS.out _).mono ?_; clear HS; rintro e w1 ⟨rfl, hb1⟩; have HB := Lib.hid hb1; clear hb1)
      | (go_at_call 22; refine (H1.out _).mono ?_; rintro e w' ⟨rfl, rfl⟩)
      | (go_at_call 23; refine (R1.out _).mono ?_; rintro e w' ⟨rfl, rfl⟩))
    go_ret
    exact ⟨by first | rfl | (simp; done), HB.out⟩
  · obtain ⟨v1, hv1⟩ : ∃ v1, halfI a0 a1 = v1 := ⟨_, rfl⟩
    have H1 := Lib.hid (fun X => hv1 ▸ HH.out a1 X)
    have R1 := Lib.hid (fun X => hv1 ▸ HR.out X)
    obtain ⟨t, ht⟩ : ∃ t, halfI a0 true = t := ⟨_, rfl⟩
    obtain ⟨u, hu⟩ : ∃ u, halfI a0 false = u := ⟨_, rfl⟩
    have HT := Lib.hid (fun X => ht ▸ HH.out true X)
    have HU := Lib.hid (fun X => hu ▸ HH.out false X)
    have hb := half_both a0 (by omega)
    have b1 := half_bd a0 true (by omega)
    have b2 := half_bd a0 false (by omega)
    rw [ht] at b1 hb
    rw [hu] at b2 hb
    have hw64 : IntKind.i64.wrap (t + u) = a0 := by rw [hb]; simp [IntKind.wrap, IntKind.bits, IntKind.signed]; omega
    have hsum : t + u = a0 := hb
    clear HH HR hv1 w0 ht hu hb
    go_enter Try.func5, Try.ntmps5
    go_wp2_with (first
      | (go_at_call 11; refine (HS.out _).mono ?_; clear HS; rintro e w1 ⟨rfl, hb1⟩; have HB := Lib.hid hb1; clear hb1)
      | (go_at_call 22; (first | (with_reducible refine (H1.out _).mono ?_) | (with_reducible refine (HT.out _).mono ?_) | (with_reducible refine (HU.out _).mono ?_)); rintro e w' ⟨rfl, rfl⟩)
      | (go_at_call 23; refine (R1.out _).mono ?_; rintro e w' ⟨rfl, rfl⟩))
    go_ret
    exact ⟨by first | rfl | (simp; done), HB.out⟩

set_option maxRecDepth 100000 in
theorem lifted (os : Os) (started : os.Started) (H : Type) (enc : TypeId × Value → H) :
    ReturnsInHanded {} Try.checked os 5 .any (Rows.contestHalvesSpec.pre6 enc Try.prog Try.f5 Rows.contestHalvesRow.domain false) (Rows.contestHalvesSpec.post enc Try.prog Try.f5 false true false false) := by
  refine returnsInHanded_of_change (C := Try.checked) own started (by kernel_rfl) Try.func5
    (ChangeSpec.witness6 (enc := enc) (C := Try.checked) false ⟨#[], #[.int .i64 0, .bool false], []⟩ 8 (by kernel_rfl) (by kernel_rfl) (by kernel_rfl) (by kernel_rfl)) ?_
  intro W base args ds gs before hval0 hW hcnd _
  have hval : ∀ (j : Nat) t v, Try.f5.params[j]? = some t → args[j]? = some v → Value.okWide Try.prog W .any base t v := hval0
  have hW' := hW
  obtain ⟨p, q, hA0, hV, rfl, hfz, hnd⟩ := hW
  have hA : DataW.TrodAll enc Try.prog W 0 (fun _ => true) true Try.f5.params.toList args.toList ds p := hA0
  rw [Try.params5] at hA hval
  obtain ⟨v0, vs0, d0, ds0, p0, q0, hargs, rfl, rfl, h0, r0⟩ := trodAll_cons hA
  obtain ⟨v1, vs1, d1, ds1, p1, q1, rfl, rfl, rfl, h1, r1⟩ := trodAll_cons r0
  obtain ⟨rfl, rfl, rfl⟩ := trodAll_nil r1
  obtain rfl : args = #[v0, v1] := by cases args; simp_all
  obtain ⟨rfl, rfl⟩ := trodVars_none hV
  obtain ⟨a0, rfl, rfl, rfl, w0⟩ := open_int Try.underlying2 (hval 0 2 v0 rfl rfl) h0
  obtain ⟨a1, rfl, rfl, rfl⟩ := open_bool Try.underlying4 (hval 1 4 v1 rfl rfl) h1
  clear hA0 hval0
  simp only [List.append_nil] at hW'
  refine (walk a0 w0 a1 W).mono fun e W' ⟨he, hg⟩ => ?_
  subst he
  exact ⟨_, rfl, _, _, _, [], [], [], hW', (trodAll_cons_mk (shut_bool Try.underlying4 _) trodAll_mk0), (trodAll_cons_mk (shut_int Try.underlying2 w0) (trodAll_cons_mk (shut_bool Try.underlying4 _) trodAll_mk0)), rfl, hg.frame _, fun h => by cases h⟩

theorem over : Rows.contestHalvesRow.holds Try.pinned (OpenSpec.ofChange Rows.contestHalvesSpec) :=
  OpenClaim.holds_of_wide 5 Try.f5 rfl rfl rfl rfl rfl rfl rfl ⟨rfl, rfl, rfl, rfl, rfl⟩ rfl rfl rfl rfl rfl (by kernel_rfl) Try.func5 (by kernel_rfl)
    (of_decide_eq_true (by kernel_rfl)) (by unfold Func.isWrapper; first | (rw [if_pos (by decide +kernel)]; kernel_rfl) | (rw [if_neg (by decide +kernel)]; exact ⟨rfl, rfl⟩))
    (fun os started H enc _ => lifted os started H enc)

/-- the statement -/
theorem proved : Rows.ContestHalvesSaid :=
  over
#print axioms proved
end Go.Proofs.Ytbhpclligoemcaa.contestHalves
