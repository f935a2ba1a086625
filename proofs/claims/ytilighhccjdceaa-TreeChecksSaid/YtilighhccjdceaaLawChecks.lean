/- The program's Check and the document's answer the same, for every page. -/
import Derived.Test.YtilighhccjdceaaRows
import Derived.WalkKit
import Derived.ProofKit
import Derived.OpenShut
import Derived.Below
import Derived.Test.YtilighhccjdceaaTRefChk
import Derived.Test.YtilighhccjdceaaTLaw
import Derived.Test.YtilighhccjdceaaTShown
import Derived.ShutString
namespace Go.Proofs.Ytilighhccjdceaa.treeChecks
open Go.ChangeShapes Go.WideShapes Go.ChangeAt Go.RowKit
set_option linter.unusedVariables false

theorem own : ownKnob Try.prog.godebug = none := by kernel_rfl
theorem laidOut : laidOutB Try.prog = true := by kernel_rfl

set_option maxRecDepth 100000 in
set_option maxHeartbeats 2000000 in
theorem checks_at (lv : Value) (ns ms : List Nd) (w : World) (a b : Int) (HP : Hid (PageAt w lv ns))
    (HC : Hid (∀ X v, PageAt X v ns → Calls Try.prog 9 #[v] X (CutPost ms X)))
    (HA : Hid (∀ X v, PageAt X v ms → Calls Try.prog 8 #[v] X fun e W' => e = .returned (.tuple #[.int .i64 a, .int .i64 b]) ∧ Below X.heap.size X W'))
    (HB : Hid (∀ X v, PageAt X v ms → Calls Try.prog 10 #[v] X fun e W' => e = .returned (.tuple #[.int .i64 a, .int .i64 b]) ∧ Below X.heap.size X W')) :
    Calls Try.prog 3 #[lv] w fun e w' => e = .returned (.bool true) ∧ Below w.heap.size w w' := by
  obtain ⟨q, cap, rfl⟩ := HP.out.form
  generalize ns.length = l0 at *
  go_enter Try.func3, Try.ntmps3
  go_wp2_with (go_at_call 7; refine (shown_any _).mono ?_; rintro e w1 ⟨rfl, hb1⟩; have HP1 := Lib.hid (HP.out.below hb1); have HB1 := Lib.hid hb1; clear hb1 HP)
  go_wp2_with (first
    | (go_at_call 9; refine (HC.out _ _ HP1.out).mono ?_; rintro e w2 ⟨q2, c2, rfl, hp2, hb2⟩; have HP2 := Lib.hid hp2; have HP3 := Lib.hid (HP1.out.below hb2); have HB2 := Lib.hid (HB1.out.trans (hb2.mono HB1.out.size)); clear hp2 hb2 HP1 HB1)
    | (go_at_call 8; refine (HA.out _ _ HP2.out).mono ?_; rintro e w3 ⟨rfl, hb3⟩; have HP4 := Lib.hid (HP3.out.below hb3); have HB3 := Lib.hid (HB2.out.trans (hb3.mono HB2.out.size)); clear hb3 HP2 HP3 HB2))
  go_wp2_with (first
    | (go_at_call 9; refine (HC.out _ _ HP4.out).mono ?_; rintro e w4 ⟨q4, c4, rfl, hp4, hb4⟩; have HP5 := Lib.hid hp4; have HB4 := Lib.hid (HB3.out.trans (hb4.mono HB3.out.size)); clear hp4 hb4 HP4 HB3)
    | (go_at_call 10; refine (HB.out _ _ HP5.out).mono ?_; rintro e w5 ⟨rfl, hb5⟩; have HB5 := Lib.hid (HB4.out.trans (hb5.mono HB4.out.size)); clear hb5 HP5 HB4))
  go_ret
  exact ⟨by simp, HB5.out⟩
theorem walk (w : World) (a0 : Option Addr) (len0 cap0 : Nat) (ns : List Nd) (h : PageAt w (.slice a0 len0 cap0) ns) :
    Calls Try.prog 3 #[.slice a0 len0 cap0] w fun e w' => e = .returned (.bool true) ∧ Below w.heap.size w w' := by
  have hK := fun n (hn : n ∈ cutP ns) => (cutP_both ns n hn).1
  exact checks_at _ ns (cutP ns) w (checkP (cutP ns)).1 (checkP (cutP ns)).2 (Lib.hid h) (Lib.hid fun X v hP => cut_post v ns X hP) (Lib.hid fun X v hP => check_any v _ X hP hK) (Lib.hid fun X v hP => refCheck_any v _ X hP hK)

set_option maxRecDepth 100000 in
theorem lifted (os : Os) (started : os.Started) (H : Type) (enc : TypeId × Value → H) :
    ReturnsInHanded {} Try.checked os 3 .any (Rows.treeChecksSpec.pre6 enc Try.prog Try.f3 Rows.treeChecksRow.domain false) (Rows.treeChecksSpec.post enc Try.prog Try.f3 false true false false) := by
  refine returnsInHanded_of_change (C := Try.checked) own started (by kernel_rfl) Try.func3
    (ChangeSpec.witness6 (enc := enc) (C := Try.checked) false ⟨#[], #[.slice none 0 0], []⟩ 8 (by kernel_rfl) (by kernel_rfl) (by kernel_rfl) (by kernel_rfl)) ?_
  intro W base args ds gs before hval0 hW hcnd _
  have hval : ∀ (j : Nat) t v, Try.f3.params[j]? = some t → args[j]? = some v → Value.okWide Try.prog W .any base t v := hval0
  have hW' := hW
  obtain ⟨p, q, hA0, hV, rfl, hfz, hnd⟩ := hW
  have hA : DataW.TrodAll enc Try.prog W 0 (fun _ => true) true Try.f3.params.toList args.toList ds p := hA0
  rw [Try.params3] at hA hval
  obtain ⟨v0, vs0, d0, ds0, p0, q0, hargs, rfl, rfl, h0, r0⟩ := trodAll_cons hA
  obtain ⟨rfl, rfl, rfl⟩ := trodAll_nil r0
  obtain rfl : args = #[v0] := by cases args; simp_all
  obtain ⟨rfl, rfl⟩ := trodVars_none hV
  obtain ⟨a0, len0, cap0, rfl⟩ := okWide_slice Try.underlying22 (hval 0 22 v0 rfl rfl)
  have k0 := h0
  have lt0 : ∀ x ∈ p0, x.block < W.heap.size := by obtain ⟨m, hm⟩ := k0; exact DataW.trod_lt m _ _ _ hm
  obtain ⟨z0, w0⟩ : ∃ ns, PageAt W (.slice a0 len0 cap0) ns := by
    obtain ⟨fuel, hf⟩ := h0
    obtain ⟨ns, hn, _⟩ := open_nodes (by simpa [Value.cells] using hf)
    exact ⟨ns, hn⟩
  clear hA0 hval0
  simp only [List.append_nil] at hW'
  refine (walk W a0 len0 cap0 z0 w0).mono fun e W' ⟨he, hg⟩ => ?_
  subst he
  exact ⟨_, rfl, _, _, _, [], _, [], hW', (trodAll_cons_mk (shut_bool Try.underlying4 _) trodAll_mk0), (trodAll_cons_mk (Below.trod laidOut (by kernel_rfl) (of_decide_eq_true (by kernel_rfl)) k0 hg lt0) trodAll_mk0), rfl, hg.frame _, fun h => by cases h⟩

theorem over : Rows.treeChecksRow.holds Try.pinned (OpenSpec.ofChange Rows.treeChecksSpec) :=
  OpenClaim.holds_of_wide 3 Try.f3 rfl rfl rfl rfl rfl rfl rfl ⟨rfl, rfl, rfl, rfl, rfl⟩ rfl rfl rfl rfl rfl (by kernel_rfl) Try.func3 (by kernel_rfl)
    (of_decide_eq_true (by kernel_rfl)) (by unfold Func.isWrapper; first | (rw [if_pos (by decide +kernel)]; kernel_rfl) | (rw [if_neg (by decide +kernel)]; exact ⟨rfl, rfl⟩))
    (fun os started H enc _ => lifted os started H enc)

/-- the statement -/
theorem proved : Rows.TreeChecksSaid :=
  over
#print axioms proved
end Go.Proofs.Ytilighhccjdceaa.treeChecks
