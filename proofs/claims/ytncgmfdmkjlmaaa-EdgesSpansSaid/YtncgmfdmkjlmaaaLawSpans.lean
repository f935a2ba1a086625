/- A span of bands in two parts, and a gap, is the span of all; all of them, and two gaps, are the extent. -/
import Derived.Test.YtncgmfdmkjlmaaaRows
import Derived.WalkKit
import Derived.ProofKit
import Derived.OpenShut
import Derived.Below
import Derived.Test.YtncgmfdmkjlmaaaELaw
import Derived.ShutString
namespace Go.Proofs.Ytncgmfdmkjlmaaa.edgesSpans
open Go.ChangeShapes Go.WideShapes Go.ChangeAt Go.RowKit
set_option linter.unusedVariables false

theorem own : ownKnob Try.prog.godebug = none := by kernel_rfl
theorem laidOut : laidOutB Try.prog = true := by kernel_rfl

theorem wf64 {z : Int} (h : (Lit.int .i64 z).wf = true) : -9223372036854775808 ≤ z ∧ z ≤ 9223372036854775807 := by
  have e1 : IntKind.i64.min = -9223372036854775808 := by decide
  have e2 : IntKind.i64.max = 9223372036854775807 := by decide
  simpa [Lit.wf, e1, e2] using h
set_option maxRecDepth 100000 in
set_option maxHeartbeats 4000000 in
theorem walk (W : World) (a0 : Option Addr) (len0 cap0 : Nat) (z0 : List Int) (w0 : Ints W (.slice a0 len0 cap0) z0 ∧ z0.length = len0 ∧ len0 ≤ cap0 ∧ cap0 ≤ maxLen) (a1 : Int) (w1 : (Lit.int .i64 a1).wf = true) (a2 : Int) (w2 : (Lit.int .i64 a2).wf = true) (a3 : Int) (w3 : (Lit.int .i64 a3).wf = true) :
    Calls Try.prog 7 #[.slice a0 len0 cap0, .int .i64 a1, .int .i64 a2, .int .i64 a3] W fun e w' => e = .returned (.bool true) ∧ Below W.heap.size W w' := by
  obtain ⟨h1, h2, h3, h4⟩ := w0
  unfold maxLen at h4
  obtain ⟨k1, k2⟩ := cut_low h1 h2
  have HC := Lib.hid (fun X => ecut_any a0 len0 cap0 X h3 (by omega))
  have hmk : min len0 100 ≤ 100 := by omega
  have hmc : min len0 100 ≤ cap0 := by omega
  generalize min len0 100 = m at *
  generalize z0.take 100 = bs at *
  have HL0 : Hid (LowE W a0 m cap0 bs W) := Lib.hid ⟨k1, Below.refl _ _⟩
  have HSH := Lib.hid (fun X => shown10_any X)
  have b2 := wf64 w2
  have b3 := wf64 w3
  clear h1 h2 h3 h4 k1 w1 w2 w3
  by_cases hbad : a2 < 1 ∨ a3 < 1 ∨ (m : Int) < a2 ∨ (m : Int) - a2 < a3
  · have hb : a2 < 1 ∨ (1 ≤ a2 ∧ a3 < 1) ∨ (1 ≤ a2 ∧ 1 ≤ a3 ∧ (m : Int) < a2) ∨ (1 ≤ a2 ∧ 1 ≤ a3 ∧ a2 ≤ m ∧ (m : Int) - a2 < a3) := by omega
    clear hbad k2
    rcases hb with q | ⟨q1, q⟩ | ⟨q1, q2, q⟩ | ⟨q1, q2, q3, q⟩
    all_goals
      go_enter Try.func7, Try.ntmps7
      go_wp2_with (first
        | (go_at_call 10; refine (HSH.out _).mono ?_; clear HSH; rintro e w1 ⟨rfl, hb1⟩; have HL1 := Lib.hid (HL0.out.next hb1); clear hb1 HL0)
        | (go_at_call 11; refine (HC.out _).mono ?_; clear HC; rintro e w1' ⟨rfl, rfl⟩))
      go_ret
      exact ⟨rfl, HL1.out.2⟩
  · have q1 : 1 ≤ a2 := by omega
    have q2 : 1 ≤ a3 := by omega
    have q3 : a2 ≤ m := by omega
    have q4 : a3 ≤ m - a2 := by omega
    have HSA := Lib.hid (fun X (h : LowE W a0 m cap0 bs X) => span_any a1 a0 m cap0 0 a2 bs X h.at k2 hmc (by omega) (by omega))
    have HSB := Lib.hid (fun X (h : LowE W a0 m cap0 bs X) => span_any a1 a0 m cap0 a2 a3 bs X h.at k2 hmc (by omega) (by omega))
    have HSC := Lib.hid (fun X (h : LowE W a0 m cap0 bs X) => span_any a1 a0 m cap0 0 (a2 + a3) bs X h.at k2 hmc (by omega) (by omega))
    have HSD := Lib.hid (fun X (h : LowE W a0 m cap0 bs X) => span_any a1 a0 m cap0 0 m bs X h.at k2 hmc (by omega) (by omega))
    have HEX := Lib.hid (fun X (h : LowE W a0 m cap0 bs X) => extent_any a1 a0 m cap0 bs X h.at k2 hmc)
    cases ho : okB a1 bs with
    | false =>
      have hv : ∀ fr n : Int, spanV a1 bs fr n = (0, 100) := fun fr n => by unfold spanV; rw [ho]; simp
      have hx : extV a1 bs = (0, 100) := by unfold extV; rw [ho]; rfl
      rw [hv] at HSA HSB HSC HSD
      rw [hx] at HEX
      clear hv hx ho hbad
      go_enter Try.func7, Try.ntmps7
      go_wp2_with (first
        | (go_at_call 10; refine (HSH.out _).mono ?_; clear HSH; rintro e w1 ⟨rfl, hb1⟩; have HL1 := Lib.hid (HL0.out.next hb1); clear hb1 HL0)
        | (go_at_call 11; refine (HC.out _).mono ?_; clear HC; rintro e w1' ⟨rfl, rfl⟩)
        | (go_at_call 14; refine (HSA.out _ HL1.out).mono ?_; clear HSA; rintro e w2 ⟨rfl, hb2⟩; have HL2 := Lib.hid (HL1.out.next hb2); clear hb2 HL1)
        | (go_at_call 14; refine (HSB.out _ HL2.out).mono ?_; clear HSB; rintro e w3 ⟨rfl, hb3⟩; have HL3 := Lib.hid (HL2.out.next hb3); clear hb3 HL2)
        | (go_at_call 14; refine (HSC.out _ HL3.out).mono ?_; clear HSC; rintro e w4 ⟨rfl, hb4⟩; have HL4 := Lib.hid (HL3.out.next hb4); clear hb4 HL3)
        | (go_at_call 14; refine (HSD.out _ HL4.out).mono ?_; clear HSD; rintro e w5 ⟨rfl, hb5⟩; have HL5 := Lib.hid (HL4.out.next hb5); clear hb5 HL4)
        | (go_at_call 13; refine (HEX.out _ HL5.out).mono ?_; clear HEX; rintro e w6 ⟨rfl, hb6⟩; have HL6 := Lib.hid (HL5.out.next hb6); clear hb6 HL5))
      go_ret
      exact ⟨rfl, HL6.out.2⟩
    | true =>
      have hok := okB_iff.1 ho
      have hv : ∀ fr n : Int, 0 ≤ fr → 0 ≤ n → fr + n ≤ m → spanV a1 bs fr n = (wideW a1 bs fr.toNat (fr.toNat + n.toNat), 0) := fun fr n c1 c2 c3 => by
        unfold spanV; rw [if_pos ⟨ho, by simp [liesB, k2]; omega⟩]
      have hx : extV a1 bs = (extW a1 bs, 0) := by unfold extV; rw [ho]; rfl
      obtain ⟨n, rfl⟩ := Int.eq_ofNat_of_zero_le (show 0 ≤ a2 by omega)
      obtain ⟨l, rfl⟩ := Int.eq_ofNat_of_zero_le (show 0 ≤ a3 by omega)
      rw [hv 0 n (by omega) (by omega) (by omega)] at HSA
      rw [hv n l (by omega) (by omega) (by omega)] at HSB
      rw [hv 0 ((n : Int) + l) (by omega) (by omega) (by omega)] at HSC
      rw [hv 0 m (by omega) (by omega) (by omega)] at HSD
      rw [hx] at HEX
      simp only [Int.toNat_zero, Int.toNat_natCast, Nat.zero_add] at HSA HSB HSC HSD HEX
      rw [show ((n : Int) + (l : Int)).toNat = n + l by omega] at HSC
      have g1 := hok.1.1
      have g2 := hok.1.2
      have p0 : preW a1 0 bs = 0 := by cases bs <;> rfl
      have t1 := wideW_bd hok (s := 0) (e := n) (by omega)
      have t2 := wideW_bd hok (s := n) (e := n + l) (by omega)
      have t3 := wideW_bd hok (s := 0) (e := n + l) (by omega)
      have t4 := wideW_bd hok (s := 0) (e := m) (by omega)
      have t5 := extW_bd hok
      have u1 : wideW a1 bs 0 (n + l) = wideW a1 bs 0 n + a1 + wideW a1 bs n (n + l) := by
        rw [wideW_lt (by omega), wideW_lt (by omega), wideW_lt (by omega)]; omega
      have u2 : extW a1 bs = wideW a1 bs 0 m + 2 * a1 := by
        unfold extW begW; rw [if_neg (by omega), wideW_lt (by omega), k2]; omega
      generalize wideW a1 bs 0 n = x1 at *
      generalize wideW a1 bs n (n + l) = x2 at *
      generalize wideW a1 bs 0 (n + l) = x3 at *
      generalize wideW a1 bs 0 m = x4 at *
      generalize extW a1 bs = x5 at *
      have v1 : (x3 == x1 + a1 + x2) = true := by simp [u1]
      have v2 : (x5 == x4 + 2 * a1) = true := by simp [u2]
      have HU1 := Lib.hid u1
      have HU2 := Lib.hid u2
      clear hv hx ho hok hbad u1 u2 p0 k2
      go_enter Try.func7, Try.ntmps7
      go_wp2_with (first
        | (go_at_call 10; refine (HSH.out _).mono ?_; clear HSH; rintro e w1 ⟨rfl, hb1⟩; have HL1 := Lib.hid (HL0.out.next hb1); clear hb1 HL0)
        | (go_at_call 11; refine (HC.out _).mono ?_; clear HC; rintro e w1' ⟨rfl, rfl⟩)
        | (go_at_call 14; refine (HSA.out _ HL1.out).mono ?_; clear HSA; rintro e w2 ⟨rfl, hb2⟩; have HL2 := Lib.hid (HL1.out.next hb2); clear hb2 HL1)
        | (go_at_call 14; refine (HSB.out _ HL2.out).mono ?_; clear HSB; rintro e w3 ⟨rfl, hb3⟩; have HL3 := Lib.hid (HL2.out.next hb3); clear hb3 HL2)
        | (go_at_call 14; refine (HSC.out _ HL3.out).mono ?_; clear HSC; rintro e w4 ⟨rfl, hb4⟩; have HL4 := Lib.hid (HL3.out.next hb4); clear hb4 HL3)
        | (go_at_call 14; refine (HSD.out _ HL4.out).mono ?_; clear HSD; rintro e w5 ⟨rfl, hb5⟩; have HL5 := Lib.hid (HL4.out.next hb5); clear hb5 HL4)
        | (go_at_call 13; refine (HEX.out _ HL5.out).mono ?_; clear HEX; rintro e w6 ⟨rfl, hb6⟩; have HL6 := Lib.hid (HL5.out.next hb6); clear hb6 HL5))
      go_ret
      exact ⟨by first | rfl | (simp; done) | (simp [HU1.out, HU2.out]; done) | (simp [HU1.out, HU2.out]; omega), HL6.out.2⟩

set_option maxRecDepth 100000 in
theorem lifted (os : Os) (started : os.Started) (H : Type) (enc : TypeId × Value → H) :
    ReturnsInHanded {} Try.checked os 7 .any (Rows.edgesSpansSpec.pre6 enc Try.prog Try.f7 Rows.edgesSpansRow.domain false) (Rows.edgesSpansSpec.post enc Try.prog Try.f7 false true false false) := by
  refine returnsInHanded_of_change (C := Try.checked) own started (by kernel_rfl) Try.func7
    (ChangeSpec.witness6 (enc := enc) (C := Try.checked) false ⟨#[], #[.slice none 0 0, .int .i64 0, .int .i64 0, .int .i64 0], []⟩ 8 (by kernel_rfl) (by kernel_rfl) (by kernel_rfl) (by kernel_rfl)) ?_
  intro W base args ds gs before hval0 hW hcnd _
  have hval : ∀ (j : Nat) t v, Try.f7.params[j]? = some t → args[j]? = some v → Value.okWide Try.prog W .any base t v := hval0
  have hW' := hW
  obtain ⟨p, q, hA0, hV, rfl, hfz, hnd⟩ := hW
  have hA : DataW.TrodAll enc Try.prog W 0 (fun _ => true) true Try.f7.params.toList args.toList ds p := hA0
  rw [Try.params7] at hA hval
  obtain ⟨v0, vs0, d0, ds0, p0, q0, hargs, rfl, rfl, h0, r0⟩ := trodAll_cons hA
  obtain ⟨v1, vs1, d1, ds1, p1, q1, rfl, rfl, rfl, h1, r1⟩ := trodAll_cons r0
  obtain ⟨v2, vs2, d2, ds2, p2, q2, rfl, rfl, rfl, h2, r2⟩ := trodAll_cons r1
  obtain ⟨v3, vs3, d3, ds3, p3, q3, rfl, rfl, rfl, h3, r3⟩ := trodAll_cons r2
  obtain ⟨rfl, rfl, rfl⟩ := trodAll_nil r3
  obtain rfl : args = #[v0, v1, v2, v3] := by cases args; simp_all
  obtain ⟨rfl, rfl⟩ := trodVars_none hV
  obtain ⟨a0, len0, cap0, rfl⟩ := okWide_slice Try.underlying22 (hval 0 22 v0 rfl rfl)
  have k0 := h0
  have lt0 : ∀ x ∈ p0, x.block < W.heap.size := by obtain ⟨m, hm⟩ := k0; exact DataW.trod_lt m _ _ _ hm
  obtain ⟨z0, w0⟩ : ∃ zs, Ints W (.slice a0 len0 cap0) zs ∧ zs.length = len0 ∧ len0 ≤ cap0 ∧ cap0 ≤ maxLen := by
    obtain ⟨fuel, hf⟩ := h0
    exact open_ints64 (by simpa [Value.cells] using hf)
  obtain ⟨a1, rfl, rfl, rfl, w1⟩ := open_int Try.underlying2 (hval 1 2 v1 rfl rfl) h1
  obtain ⟨a2, rfl, rfl, rfl, w2⟩ := open_int Try.underlying3 (hval 2 3 v2 rfl rfl) h2
  obtain ⟨a3, rfl, rfl, rfl, w3⟩ := open_int Try.underlying3 (hval 3 3 v3 rfl rfl) h3
  clear hA0 hval0
  simp only [List.append_nil] at hW'
  refine (walk W a0 len0 cap0 z0 w0 a1 w1 a2 w2 a3 w3).mono fun e W' ⟨he, hg⟩ => ?_
  subst he
  exact ⟨_, rfl, _, _, _, [], _, [], hW', (trodAll_cons_mk (shut_bool Try.underlying4 _) trodAll_mk0), (trodAll_cons_mk (Below.trod laidOut (by kernel_rfl) (of_decide_eq_true (by kernel_rfl)) k0 hg lt0) (trodAll_cons_mk (shut_int Try.underlying2 w1) (trodAll_cons_mk (shut_int Try.underlying3 w2) (trodAll_cons_mk (shut_int Try.underlying3 w3) trodAll_mk0)))), rfl, hg.frame _, fun h => by cases h⟩

theorem over : Rows.edgesSpansRow.holds Try.pinned (OpenSpec.ofChange Rows.edgesSpansSpec) :=
  OpenClaim.holds_of_wide 7 Try.f7 rfl rfl rfl rfl rfl rfl rfl ⟨rfl, rfl, rfl, rfl, rfl⟩ rfl rfl rfl rfl rfl (by kernel_rfl) Try.func7 (by kernel_rfl)
    (of_decide_eq_true (by kernel_rfl)) (by unfold Func.isWrapper; first | (rw [if_pos (by decide +kernel)]; kernel_rfl) | (rw [if_neg (by decide +kernel)]; exact ⟨rfl, rfl⟩))
    (fun os started H enc _ => lifted os started H enc)

/-- the statement -/
theorem proved : Rows.EdgesSpansSaid :=
  over
#print axioms proved
end Go.Proofs.Ytncgmfdmkjlmaaa.edgesSpans
