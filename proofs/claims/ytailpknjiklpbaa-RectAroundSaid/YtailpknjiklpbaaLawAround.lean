/- What is around some rectangles is what the document says: for every list, its first sixty. -/
import Derived.Test.YtailpknjiklpbaaRows
import Derived.WalkKit
import Derived.ProofKit
import Derived.OpenShut
import Derived.Below
import Derived.Test.YtailpknjiklpbaaROrd
import Derived.Test.YtailpknjiklpbaaROpenL
import Derived.Test.YtailpknjiklpbaaRRefAround
import Derived.ShutString
namespace Go.Proofs.Ytailpknjiklpbaa.rectAround
open Go.ChangeShapes Go.WideShapes Go.ChangeAt Go.RowKit
set_option linter.unusedVariables false

theorem own : ownKnob Try.prog.godebug = none := by kernel_rfl
theorem laidOut : laidOutB Try.prog = true := by kernel_rfl

set_option maxRecDepth 100000 in
set_option maxHeartbeats 1600000 in
theorem walk (w : World) (a0 : Option Addr) (len0 cap0 : Nat) (z0 : List R) (w0 : RectRow w a0 len0 cap0 z0) : Calls Try.prog 3 #[.slice a0 len0 cap0] w fun e w' => e = .returned (.bool true) ∧ Below w.heap.size w w' := by
  obtain ⟨sv, hI, hC⟩ := cut_any w0
  have C := Lib.hid hC
  have A := Lib.hid (fun X hX => around_any sv (z0.take 60) X hX)
  have D := Lib.hid (fun X hX => refAround_any sv (z0.take 60) X hX)
  obtain ⟨⟨⟨q0, q1, q2, q3⟩, qc⟩, hq⟩ : ∃ p, aroundR (z0.take 60) = p := ⟨_, rfl⟩
  rw [hq] at A D
  have I0 := Lib.hid hI
  clear hq w0 hC hI
  unfold retR at *
  dsimp only at *
  go_enter Try.func3, Try.ntmps3
  go_wp2_with fail
  refine (shown_any _).mono ?_
  rintro e w1 ⟨rfl, hb1⟩
  have I1 := Lib.hid (I0.out.below hb1)
  have HB := Lib.hid hb1
  have hs := HB.out.size
  clear hb1 I0
  go_wp2_with fail
  refine (C.out _).mono ?_
  rintro e w2 ⟨rfl, rfl⟩
  go_wp2_with fail
  refine (A.out _ I1.out).mono ?_
  rintro e w3 ⟨rfl, hb3⟩
  have I3 := Lib.hid (I1.out.below hb3)
  have HB3 := Lib.hid (HB.out.trans (hb3.mono hs))
  have hs3 := HB3.out.size
  clear hb3 HB hs I1
  go_wp2_with fail
  refine (C.out _).mono ?_
  rintro e w4 ⟨rfl, rfl⟩
  go_wp2_with fail
  refine (D.out _ (I3.out.below ((Below.refl _ w3).alloc (Nat.le_refl _) _))).mono ?_
  rintro e w5 ⟨rfl, hb5⟩
  have kq := (whole_new w3 [.int .i64 q0, .int .i64 q1, .int .i64 q2, .int .i64 q3] 25 _ rfl).below hb5 (by simp)
  have HB5 := Lib.hid ((HB3.out.alloc hs3 (.cells #[.int .i64 q0, .int .i64 q1, .int .i64 q2, .int .i64 q3] 25)).trans (hb5.mono (by simp <;> omega)))
  have hs5 := HB5.out.size
  have d0 := kq.cellAt 0
  have d1 := kq.cellAt 1
  have d2 := kq.cellAt 2
  have d3 := kq.cellAt 3
  have ld := kq.lt
  clear hb5 HB3 hs3 I3 A C D
  go_wp2
  all_goals (go_ret; exact ⟨by first | rfl | (simp; done), by first | exact HB5.out.alloc hs5 _ | exact HB5.out⟩)

set_option maxRecDepth 100000 in
theorem lifted (os : Os) (started : os.Started) (H : Type) (enc : TypeId × Value → H) :
    ReturnsInHanded {} Try.checked os 3 .any (Rows.rectAroundSpec.pre6 enc Try.prog Try.f3 Rows.rectAroundRow.domain false) (Rows.rectAroundSpec.post enc Try.prog Try.f3 false true false false) := by
  refine returnsInHanded_of_change (C := Try.checked) own started (by kernel_rfl) Try.func3
    (ChangeSpec.witness6 (enc := enc) (C := Try.checked) false ⟨#[], #[.slice none 0 0], []⟩ 8 (by kernel_rfl) (by kernel_rfl) (by kernel_rfl) (by kernel_rfl)) ?_
  intro W base args ds gs before hval0 hW hcnd _
  have hval : ∀ (j : Nat) t v, Try.f3.params[j]? = some t → args[j]? = some v → Value.okWide Try.prog W .any base t v := hval0
  have hW' := hW
  obtain ⟨p, q, hA0, hV, rfl, hfz, hnd⟩ := hW
  have hA : DataW.TrodAll enc Try.prog W 0 (fun _ => true) true Try.f3.params.toList args.toList ds p := hA0
  rw [Try.params3] at hA hval
  obtain ⟨v0, vs0, d0, ds0, p0, q0, hargs, rfl, rfl, h0, r0⟩ := trodAll_cons hA
  obtain ⟨rfl, rfl, rfl⟩ := trodAll_nil r0
  obtain rfl : args = #[v0] := by cases args; simp_all
  obtain ⟨rfl, rfl⟩ := trodVars_none hV
  obtain ⟨a0, len0, cap0, rfl⟩ := okWide_slice Try.underlying22 (hval 0 22 v0 rfl rfl)
  have k0 := h0
  have lt0 : ∀ x ∈ p0, x.block < W.heap.size := by obtain ⟨m, hm⟩ := k0; exact DataW.trod_lt m _ _ _ hm
  obtain ⟨z0, w0⟩ : ∃ zs, RectRow W a0 len0 cap0 zs := by
    obtain ⟨fuel, hf⟩ := h0
    exact open_rects (by simpa [Value.cells] using hf)
  clear hA0 hval0
  simp only [List.append_nil] at hW'
  refine (walk W a0 len0 cap0 z0 w0).mono fun e W' ⟨he, hg⟩ => ?_
  subst he
  exact ⟨_, rfl, _, _, _, [], _, [], hW', (trodAll_cons_mk (shut_bool Try.underlying4 _) trodAll_mk0), (trodAll_cons_mk (Below.trod laidOut (by kernel_rfl) (of_decide_eq_true (by kernel_rfl)) k0 hg lt0) trodAll_mk0), rfl, hg.frame _, fun h => by cases h⟩

theorem over : Rows.rectAroundRow.holds Try.pinned (OpenSpec.ofChange Rows.rectAroundSpec) :=
  OpenClaim.holds_of_wide 3 Try.f3 rfl rfl rfl rfl rfl rfl rfl ⟨rfl, rfl, rfl, rfl, rfl⟩ rfl rfl rfl rfl rfl (by kernel_rfl) Try.func3 (by kernel_rfl)
    (of_decide_eq_true (by kernel_rfl)) (by unfold Func.isWrapper; first | (rw [if_pos (by decide +kernel)]; kernel_rfl) | (rw [if_neg (by decide +kernel)]; exact ⟨rfl, rfl⟩))
    (fun os started H enc _ => lifted os started H enc)

/-- the statement -/
theorem proved : Rows.RectAroundSaid :=
  over
#print axioms proved
end Go.Proofs.Ytailpknjiklpbaa.rectAround
