/- Where runs of rows end: the program's answer is the document's, for every list of rows. -/
import Derived.Test.YtdljgdmodobjpaaRows
import Derived.WalkKit
import Derived.ProofKit
import Derived.OpenShut
import Derived.Below
import Derived.Test.YtdljgdmodobjpaaLLaw
import Derived.Test.YtdljgdmodobjpaaLEnds
import Derived.ShutString
namespace Go.Proofs.Ytdljgdmodobjpaa.lanesEnds
open Go.ChangeShapes Go.WideShapes Go.ChangeAt Go.RowKit
set_option linter.unusedVariables false

theorem own : ownKnob Try.prog.godebug = none := by kernel_rfl
theorem laidOut : laidOutB Try.prog = true := by kernel_rfl

theorem lanes_cut {W : World} {q : Option Addr} {l c : Nat} {E : List (Int × Int)} (h : LanesAt W (.slice q l c) E) (hl : E.length = l) (k : Nat) (hk : k ≤ l) : LanesAt W (.slice q k c) (E.take k) := by
  have hlk : (E.take k).length = k := by rw [List.length_take]; omega
  refine ⟨by have := h.1; omega, ?_⟩
  rcases h.2 with ⟨a, c', e, rfl⟩ | ⟨b, off, c', e, hc⟩
  · left
    injection e with e1 e2 e3
    subst e1 e3
    simp at hl
    exact ⟨q, c, by simp; omega, by simp⟩
  · right
    injection e with e1 e2 e3
    subst e1 e3
    refine ⟨b, off, c, by rw [hlk], fun i x hx => hc i x ?_⟩
    rw [List.getElem?_take] at hx
    by_cases hik : i < k
    · rw [if_pos hik] at hx; exact hx
    · rw [if_neg hik] at hx; cases hx
set_option maxRecDepth 100000 in
set_option maxHeartbeats 2000000 in
theorem ends_any (q : Option Addr) (l c m : Nat) (E : List (Int × Int)) (w : World) (hlc : l ≤ c) (hcm : c ≤ 9223372036854775807) (hmn : min (l : Int) 300 = (m : Int)) (hm : E.length = m) (hm2 : m ≤ 300) (hE : Hid (LanesAt w (.slice q m c) E)) :
    Calls Try.prog 5 #[.slice q l c] w fun e w' => e = .returned (.bool true) ∧ Below w.heap.size w w' := by
  have HM := Lib.hid hm
  have hml : m ≤ l := by omega
  clear hm
  go_enter Try.func5, Try.ntmps5
  go_wp2_with (go_at_call 10; refine (shown6_any _).mono ?_; rintro e w1 ⟨rfl, hb1⟩; have HE1 := Lib.hid (hE.out.below hb1); have HB1 := Lib.hid hb1; clear hb1 hE)
  go_wp2_with (go_at_call 21; refine (ends_at q m c E _ HE1.out HM.out (by omega)).mono ?_; rintro e w2 ⟨rfl, hk2, hb2⟩; have HI2 := Lib.hid (Ints.whole (t := 3) hk2 (by rw [endsW_len _ _ (by omega), HM.out]) (by omega)); have HE2 := Lib.hid (HE1.out.below hb2); have HB2 := Lib.hid (HB1.out.trans (hb2.mono HB1.out.size)); clear hb2 hk2 HE1 HB1)
  go_wp2_with (go_at_call 22; refine (refEnds_at q m c E _ HE2.out HM.out (by omega)).mono ?_; rintro e w3 ⟨rfl, hk3, hb3⟩; have HI3 := Lib.hid (Ints.whole (t := 3) hk3 (by rw [endsW_len _ _ (by omega), HM.out]) (by omega)); have HJ2 := Lib.hid (HI2.out.below hb3); have HB3 := Lib.hid (HB2.out.trans (hb3.mono HB2.out.size)); clear hb3 hk3 HI2 HE2 HB2)
  go_wp2_with (go_at_call 17; refine (ints_any _ _ _ _ _ HJ2.out HI3.out).mono ?_; rintro e w4 ⟨rfl, n4, rfl⟩; have HB4 := Lib.hid (HB3.out.trans ((below_dn w3.heap.size w3 n4).mono HB3.out.size)); clear HB3 HI3 HJ2)
  go_ret
  exact ⟨by simp, HB4.out⟩
theorem walk (w : World) (a0 : Option Addr) (len0 cap0 : Nat) (z0 : List (Int × Int)) (h : LanesAt w (.slice a0 len0 cap0) z0 ∧ z0.length = len0 ∧ len0 ≤ cap0 ∧ cap0 ≤ maxLen) :
    Calls Try.prog 5 #[.slice a0 len0 cap0] w fun e w' => e = .returned (.bool true) ∧ Below w.heap.size w w' := by
  obtain ⟨h1, h2, h3, h4⟩ := h
  unfold maxLen at h4
  by_cases hl : len0 ≤ 300
  · exact ends_any a0 len0 cap0 len0 z0 w h3 h4 (by omega) h2 hl (Lib.hid h1)
  · exact ends_any a0 len0 cap0 300 (z0.take 300) w h3 h4 (by omega) (by rw [List.length_take]; omega) (by omega) (Lib.hid (lanes_cut h1 h2 300 (by omega)))

set_option maxRecDepth 100000 in
theorem lifted (os : Os) (started : os.Started) (H : Type) (enc : TypeId × Value → H) :
    ReturnsInHanded {} Try.checked os 5 .any (Rows.lanesEndsSpec.pre6 enc Try.prog Try.f5 Rows.lanesEndsRow.domain false) (Rows.lanesEndsSpec.post enc Try.prog Try.f5 false true false false) := by
  refine returnsInHanded_of_change (C := Try.checked) own started (by kernel_rfl) Try.func5
    (ChangeSpec.witness6 (enc := enc) (C := Try.checked) false ⟨#[], #[.slice none 0 0], []⟩ 8 (by kernel_rfl) (by kernel_rfl) (by kernel_rfl) (by kernel_rfl)) ?_
  intro W base args ds gs before hval0 hW hcnd _
  have hval : ∀ (j : Nat) t v, Try.f5.params[j]? = some t → args[j]? = some v → Value.okWide Try.prog W .any base t v := hval0
  have hW' := hW
  obtain ⟨p, q, hA0, hV, rfl, hfz, hnd⟩ := hW
  have hA : DataW.TrodAll enc Try.prog W 0 (fun _ => true) true Try.f5.params.toList args.toList ds p := hA0
  rw [Try.params5] at hA hval
  obtain ⟨v0, vs0, d0, ds0, p0, q0, hargs, rfl, rfl, h0, r0⟩ := trodAll_cons hA
  obtain ⟨rfl, rfl, rfl⟩ := trodAll_nil r0
  obtain rfl : args = #[v0] := by cases args; simp_all
  obtain ⟨rfl, rfl⟩ := trodVars_none hV
  obtain ⟨a0, len0, cap0, rfl⟩ := okWide_slice Try.underlying25 (hval 0 25 v0 rfl rfl)
  have k0 := h0
  have lt0 : ∀ x ∈ p0, x.block < W.heap.size := by obtain ⟨m, hm⟩ := k0; exact DataW.trod_lt m _ _ _ hm
  obtain ⟨z0, w0⟩ : ∃ E, LanesAt W (.slice a0 len0 cap0) E ∧ E.length = len0 ∧ len0 ≤ cap0 ∧ cap0 ≤ maxLen := by
    obtain ⟨fuel, hf⟩ := h0
    exact open_lanes (by simpa [Value.cells] using hf)
  clear hA0 hval0
  simp only [List.append_nil] at hW'
  refine (walk W a0 len0 cap0 z0 w0).mono fun e W' ⟨he, hg⟩ => ?_
  subst he
  exact ⟨_, rfl, _, _, _, [], _, [], hW', (trodAll_cons_mk (shut_bool Try.underlying4 _) trodAll_mk0), (trodAll_cons_mk (Below.trod laidOut (by kernel_rfl) (of_decide_eq_true (by kernel_rfl)) k0 hg lt0) trodAll_mk0), rfl, hg.frame _, fun h => by cases h⟩

theorem over : Rows.lanesEndsRow.holds Try.pinned (OpenSpec.ofChange Rows.lanesEndsSpec) :=
  OpenClaim.holds_of_wide 5 Try.f5 rfl rfl rfl rfl rfl rfl rfl ⟨rfl, rfl, rfl, rfl, rfl⟩ rfl rfl rfl rfl rfl (by kernel_rfl) Try.func5 (by kernel_rfl)
    (of_decide_eq_true (by kernel_rfl)) (by unfold Func.isWrapper; first | (rw [if_pos (by decide +kernel)]; kernel_rfl) | (rw [if_neg (by decide +kernel)]; exact ⟨rfl, rfl⟩))
    (fun os started H enc _ => lifted os started H enc)

/-- the statement -/
theorem proved : Rows.LanesEndsSaid :=
  over
#print axioms proved
end Go.Proofs.Ytdljgdmodobjpaa.lanesEnds
