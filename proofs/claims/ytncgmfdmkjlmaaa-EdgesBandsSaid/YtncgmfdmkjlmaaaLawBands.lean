/- Which bands are right, where they begin, how far they reach. -/
import Derived.Test.YtncgmfdmkjlmaaaRows
import Derived.WalkKit
import Derived.ProofKit
import Derived.OpenShut
import Derived.Below
import Derived.Test.YtncgmfdmkjlmaaaELaw
import Derived.ShutString
namespace Go.Proofs.Ytncgmfdmkjlmaaa.edgesBands
open Go.ChangeShapes Go.WideShapes Go.ChangeAt Go.RowKit
set_option linter.unusedVariables false

theorem own : ownKnob Try.prog.godebug = none := by kernel_rfl
theorem laidOut : laidOutB Try.prog = true := by kernel_rfl

theorem wf64 {z : Int} (h : (Lit.int .i64 z).wf = true) : -9223372036854775808 ≤ z ∧ z ≤ 9223372036854775807 := by
  have e1 : IntKind.i64.min = -9223372036854775808 := by decide
  have e2 : IntKind.i64.max = 9223372036854775807 := by decide
  simpa [Lit.wf, e1, e2] using h
set_option maxRecDepth 100000 in
set_option maxHeartbeats 4000000 in
theorem walk (W : World) (a0 : Option Addr) (len0 cap0 : Nat) (z0 : List Int) (w0 : Ints W (.slice a0 len0 cap0) z0 ∧ z0.length = len0 ∧ len0 ≤ cap0 ∧ cap0 ≤ maxLen) (a1 : Int) (w1 : (Lit.int .i64 a1).wf = true) (a2 : Int) (w2 : (Lit.int .i64 a2).wf = true) (a3 : Int) (w3 : (Lit.int .i64 a3).wf = true) :
    Calls Try.prog 3 #[.slice a0 len0 cap0, .int .i64 a1, .int .i64 a2, .int .i64 a3] W fun e w' => e = .returned (.bool true) ∧ Below W.heap.size W w' := by
  obtain ⟨h1, h2, h3, h4⟩ := w0
  unfold maxLen at h4
  obtain ⟨k1, k2⟩ := cut_low h1 h2
  have HC := Lib.hid (fun X => ecut_any a0 len0 cap0 X h3 (by omega))
  have hmk : min len0 100 ≤ 100 := by omega
  have hmc : min len0 100 ≤ cap0 := by omega
  generalize min len0 100 = m at *
  generalize z0.take 100 = bs at *
  have HL0 : Hid (LowE W a0 m cap0 bs W) := Lib.hid ⟨k1, Below.refl _ _⟩
  have HSH := Lib.hid (fun X => shown10_any X)
  have b2 := wf64 w2
  have b3 := wf64 w3
  have HSP := Lib.hid (fun X (h : LowE W a0 m cap0 bs X) => span_any a1 a0 m cap0 a2 a3 bs X h.at k2 hmc (by omega) (by omega))
  have HEX := Lib.hid (fun X (h : LowE W a0 m cap0 bs X) => extent_any a1 a0 m cap0 bs X h.at k2 hmc)
  have HRR := Lib.hid (fun X (h : LowE W a0 m cap0 bs X) => refRight_any a1 a0 m cap0 bs X h.at k2)
  have HRI := Lib.hid (fun X (h : LowE W a0 m cap0 bs X) => eright_any a1 a0 m cap0 bs X h.at.ints k2)
  have HB : Hid (∀ X, LowE W a0 m cap0 bs X → okB a1 bs = false → _) := Lib.hid (fun X h ho => begin_bad a1 a0 m cap0 bs X h.at.ints k2 ho)
  have HG : Hid (∀ X, LowE W a0 m cap0 bs X → okB a1 bs = true → _) := Lib.hid (fun X h ho => begin_good a1 a0 m cap0 bs X h.at k2 (okB_iff.1 ho))
  clear h1 h2 h3 h4 k1 w1 w2 w3
  cases ho : okB a1 bs with
  | false =>
    have HB' := Lib.hid (fun X h => HB.out X h ho)
    have hx : extV a1 bs = (0, 100) := by unfold extV; rw [ho]; rfl
    have hv : spanV a1 bs a2 a3 = (0, 100) := by unfold spanV; rw [ho]; simp
    rw [hx] at HEX
    rw [hv] at HSP
    rw [ho] at HRR HRI
    clear HB HG ho hx hv k2
    go_enter Try.func3, Try.ntmps3
    go_wp2_with (first
      | (go_at_call 10; refine (HSH.out _).mono ?_; clear HSH; rintro e w1 ⟨rfl, hb1⟩; have HL1 := Lib.hid (HL0.out.next hb1); clear hb1 HL0)
      | (go_at_call 11; refine (HC.out _).mono ?_; clear HC; rintro e w1' ⟨rfl, rfl⟩)
      | (go_at_call 12; refine (HB'.out _ HL1.out).mono ?_; clear HB'; rintro e w2 ⟨rfl, hb2⟩; have HL2 := Lib.hid (HL1.out.next hb2); clear hb2 HL1)
      | (go_at_call 13; refine (HEX.out _ HL2.out).mono ?_; clear HEX; rintro e w3 ⟨rfl, hb3⟩; have HL3 := Lib.hid (HL2.out.next hb3); clear hb3 HL2)
      | (go_at_call 14; refine (HSP.out _ HL3.out).mono ?_; clear HSP; rintro e w4 ⟨rfl, hb4⟩; have HL4 := Lib.hid (HL3.out.next hb4); clear hb4 HL3)
      | (go_at_call 15; refine (HRR.out _ HL4.out).mono ?_; clear HRR; rintro e w5 ⟨rfl, n, hn⟩; have HL5 := Lib.hid (HL4.out.next (hn ▸ below_dn _ w4 n)); clear hn HL4)
      | (go_at_call 16; refine (HRI.out _ HL5.out).mono ?_; clear HRI; rintro e w6 ⟨rfl, hb6⟩; have HL6 := Lib.hid (HL5.out.next hb6); clear hb6 HL5))
    go_ret
    exact ⟨rfl, HL6.out.2⟩
  | true =>
    have HG' := Lib.hid (fun X h => HG.out X h ho)
    have hok := okB_iff.1 ho
    have hx : extV a1 bs = (extW a1 bs, 0) := by unfold extV; rw [ho]; rfl
    have HRB := Lib.hid (fun X (h : LowE W a0 m cap0 bs X) => refBegins_any a1 a0 m cap0 bs X h.at k2 hok)
    have HRE := Lib.hid (fun X (h : LowE W a0 m cap0 bs X) => refExtent_any a1 a0 m cap0 bs X h.at k2 hok)
    have HSA := Lib.hid (fun X x y hx hy => same_any x y (begsW a1 bs m) (begsW a1 bs m) X hx hy)
    simp only [decide_true] at HSA
    rw [hx] at HEX
    dsimp only at HEX
    rw [ho] at HRR HRI
    have hlen := begsW_len a1 bs m
    have HBL := Lib.hid hlen
    generalize extW a1 bs = x5 at HEX HRE
    generalize begsW a1 bs m = zs at *
    by_cases hbad : a2 < 0 ∨ (m : Int) < a2 ∨ a3 < 0 ∨ (m : Int) - a2 < a3
    · have hv : spanV a1 bs a2 a3 = (0, 100) := by
        unfold spanV; rw [if_neg]
        rintro ⟨_, h⟩
        simp [liesB, k2] at h; omega
      rw [hv] at HSP
      have hb : a2 < 0 ∨ (0 ≤ a2 ∧ (m : Int) < a2) ∨ (0 ≤ a2 ∧ a2 ≤ m ∧ a3 < 0) ∨ (0 ≤ a2 ∧ a2 ≤ m ∧ 0 ≤ a3 ∧ (m : Int) - a2 < a3) := by omega
      clear hbad k2 HB HG ho hx hok hv hlen
      rcases hb with q | ⟨q1, q⟩ | ⟨q1, q2, q⟩ | ⟨q1, q2, q3, q⟩
      all_goals
        go_enter Try.func3, Try.ntmps3
        go_wp2_with (first
          | (go_at_call 10; refine (HSH.out _).mono ?_; clear HSH; rintro e w1 ⟨rfl, hb1⟩; have HL1 := Lib.hid (HL0.out.next hb1); clear hb1 HL0)
          | (go_at_call 11; refine (HC.out _).mono ?_; clear HC; rintro e w1' ⟨rfl, rfl⟩)
          | (go_at_call 12; refine (HG'.out _ HL1.out).mono ?_; clear HG'; rintro e w2 ⟨⟨b, rfl, hb0, hwh⟩, hb2⟩; have HL2 := Lib.hid (HL1.out.next hb2); have HW2 := Lib.hid hwh; clear hb2 HL1 hwh)
          | (go_at_call 13; refine (HEX.out _ HL2.out).mono ?_; clear HEX; rintro e w3 ⟨rfl, hb3⟩; have HL3 := Lib.hid (HL2.out.next hb3); have HW3 := Lib.hid (HW2.out.below hb3 HW2.out.lt); clear hb3 HL2 HW2)
          | (go_at_call 14; refine (HSP.out _ HL3.out).mono ?_; clear HSP; rintro e w4 ⟨rfl, hb4⟩; have HL4 := Lib.hid (HL3.out.next hb4); have HW4 := Lib.hid (HW3.out.below hb4 HW3.out.lt); clear hb4 HL3 HW3)
          | (go_at_call 15; refine (HRR.out _ HL4.out).mono ?_; clear HRR; rintro e w5 ⟨rfl, n, hn⟩; have HL5 := Lib.hid (HL4.out.next (hn ▸ below_dn _ w4 n)); have HW5 := Lib.hid (HW4.out.below (hn ▸ below_dn _ w4 n) HW4.out.lt); clear hn HL4 HW4)
          | (go_at_call 16; refine (HRI.out _ HL5.out).mono ?_; clear HRI; rintro e w6 ⟨rfl, hb6⟩; have HL6 := Lib.hid (HL5.out.next hb6); have HW6 := Lib.hid (HW5.out.below hb6 HW5.out.lt); clear hb6 HL5 HW5)
          | (go_at_call 18; refine (HRB.out _ HL6.out).mono ?_; clear HRB; rintro e w7 ⟨v, rfl, hv7, hb7⟩; have HL7 := Lib.hid (HL6.out.next hb7); have HW7 := Lib.hid (HW6.out.below hb7 HW6.out.lt); have HV7 := Lib.hid (own_numsE hv7 (by omega)); clear hb7 HL6 HW6 hv7)
          | (go_at_call 17; refine (HSA.out _ _ _ (whole_nums HW7.out HBL.out (by omega)) HV7.out).mono ?_; clear HSA; rintro e w8 ⟨rfl, n8, hn8⟩; have HL8 := Lib.hid (HL7.out.next (hn8 ▸ below_dn _ w7 n8)); clear hn8 HL7 HW7 HV7)
          | (go_at_call 19; refine (HRE.out _ HL8.out).mono ?_; clear HRE; rintro e w9 ⟨rfl, rfl⟩))
        go_ret
        exact ⟨rfl, HL8.out.2⟩
    · have q1 : 0 ≤ a2 := by omega
      have q2 : a2 ≤ m := by omega
      have q3 : 0 ≤ a3 := by omega
      have q4 : a3 ≤ (m : Int) - a2 := by omega
      have hv : spanV a1 bs a2 a3 = (wideW a1 bs a2.toNat (a2.toNat + a3.toNat), 0) := by
        unfold spanV; rw [if_pos ⟨ho, by simp [liesB, k2]; omega⟩]
      rw [hv] at HSP
      obtain ⟨fr, rfl⟩ := Int.eq_ofNat_of_zero_le q1
      obtain ⟨l, rfl⟩ := Int.eq_ofNat_of_zero_le q3
      have HRS := Lib.hid (fun X (h : LowE W a0 m cap0 bs X) => refSpan_any a1 a0 m cap0 fr l bs X h.at k2 hok (by omega))
      simp only [Int.toNat_natCast] at HSP
      generalize wideW a1 bs fr (fr + l) = x2 at HSP HRS
      clear hbad k2 HB HG ho hx hok hv hlen
      go_enter Try.func3, Try.ntmps3
      go_wp2_with (first
        | (go_at_call 10; refine (HSH.out _).mono ?_; clear HSH; rintro e w1 ⟨rfl, hb1⟩; have HL1 := Lib.hid (HL0.out.next hb1); clear hb1 HL0)
        | (go_at_call 11; refine (HC.out _).mono ?_; clear HC; rintro e w1' ⟨rfl, rfl⟩)
        | (go_at_call 12; refine (HG'.out _ HL1.out).mono ?_; clear HG'; rintro e w2 ⟨⟨b, rfl, hb0, hwh⟩, hb2⟩; have HL2 := Lib.hid (HL1.out.next hb2); have HW2 := Lib.hid hwh; clear hb2 HL1 hwh)
        | (go_at_call 13; refine (HEX.out _ HL2.out).mono ?_; clear HEX; rintro e w3 ⟨rfl, hb3⟩; have HL3 := Lib.hid (HL2.out.next hb3); have HW3 := Lib.hid (HW2.out.below hb3 HW2.out.lt); clear hb3 HL2 HW2)
        | (go_at_call 14; refine (HSP.out _ HL3.out).mono ?_; clear HSP; rintro e w4 ⟨rfl, hb4⟩; have HL4 := Lib.hid (HL3.out.next hb4); have HW4 := Lib.hid (HW3.out.below hb4 HW3.out.lt); clear hb4 HL3 HW3)
        | (go_at_call 15; refine (HRR.out _ HL4.out).mono ?_; clear HRR; rintro e w5 ⟨rfl, n, hn⟩; have HL5 := Lib.hid (HL4.out.next (hn ▸ below_dn _ w4 n)); have HW5 := Lib.hid (HW4.out.below (hn ▸ below_dn _ w4 n) HW4.out.lt); clear hn HL4 HW4)
        | (go_at_call 16; refine (HRI.out _ HL5.out).mono ?_; clear HRI; rintro e w6 ⟨rfl, hb6⟩; have HL6 := Lib.hid (HL5.out.next hb6); have HW6 := Lib.hid (HW5.out.below hb6 HW5.out.lt); clear hb6 HL5 HW5)
        | (go_at_call 18; refine (HRB.out _ HL6.out).mono ?_; clear HRB; rintro e w7 ⟨v, rfl, hv7, hb7⟩; have HL7 := Lib.hid (HL6.out.next hb7); have HW7 := Lib.hid (HW6.out.below hb7 HW6.out.lt); have HV7 := Lib.hid (own_numsE hv7 (by omega)); clear hb7 HL6 HW6 hv7)
        | (go_at_call 17; refine (HSA.out _ _ _ (whole_nums HW7.out HBL.out (by omega)) HV7.out).mono ?_; clear HSA; rintro e w8 ⟨rfl, n8, hn8⟩; have HL8 := Lib.hid (HL7.out.next (hn8 ▸ below_dn _ w7 n8)); clear hn8 HL7 HW7 HV7)
        | (go_at_call 19; refine (HRE.out _ HL8.out).mono ?_; clear HRE; rintro e w9 ⟨rfl, rfl⟩)
        | (go_at_call 20; refine (HRS.out _ HL8.out).mono ?_; clear HRS; rintro e w10 ⟨rfl, rfl⟩))
      go_ret
      exact ⟨rfl, HL8.out.2⟩

set_option maxRecDepth 100000 in
theorem lifted (os : Os) (started : os.Started) (H : Type) (enc : TypeId × Value → H) :
    ReturnsInHanded {} Try.checked os 3 .any (Rows.edgesBandsSpec.pre6 enc Try.prog Try.f3 Rows.edgesBandsRow.domain false) (Rows.edgesBandsSpec.post enc Try.prog Try.f3 false true false false) := by
  refine returnsInHanded_of_change (C := Try.checked) own started (by kernel_rfl) Try.func3
    (ChangeSpec.witness6 (enc := enc) (C := Try.checked) false ⟨#[], #[.slice none 0 0, .int .i64 0, .int .i64 0, .int .i64 0], []⟩ 8 (by kernel_rfl) (by kernel_rfl) (by kernel_rfl) (by kernel_rfl)) ?_
  intro W base args ds gs before hval0 hW hcnd _
  have hval : ∀ (j : Nat) t v, Try.f3.params[j]? = some t → args[j]? = some v → Value.okWide Try.prog W .any base t v := hval0
  have hW' := hW
  obtain ⟨p, q, hA0, hV, rfl, hfz, hnd⟩ := hW
  have hA : DataW.TrodAll enc Try.prog W 0 (fun _ => true) true Try.f3.params.toList args.toList ds p := hA0
  rw [Try.params3] at hA hval
  obtain ⟨v0, vs0, d0, ds0, p0, q0, hargs, rfl, rfl, h0, r0⟩ := trodAll_cons hA
  obtain ⟨v1, vs1, d1, ds1, p1, q1, rfl, rfl, rfl, h1, r1⟩ := trodAll_cons r0
  obtain ⟨v2, vs2, d2, ds2, p2, q2, rfl, rfl, rfl, h2, r2⟩ := trodAll_cons r1
  obtain ⟨v3, vs3, d3, ds3, p3, q3, rfl, rfl, rfl, h3, r3⟩ := trodAll_cons r2
  obtain ⟨rfl, rfl, rfl⟩ := trodAll_nil r3
  obtain rfl : args = #[v0, v1, v2, v3] := by cases args; simp_all
  obtain ⟨rfl, rfl⟩ := trodVars_none hV
  obtain ⟨a0, len0, cap0, rfl⟩ := okWide_slice Try.underlying22 (hval 0 22 v0 rfl rfl)
  have k0 := h0
  have lt0 : ∀ x ∈ p0, x.block < W.heap.size := by obtain ⟨m, hm⟩ := k0; exact DataW.trod_lt m _ _ _ hm
  obtain ⟨z0, w0⟩ : ∃ zs, Ints W (.slice a0 len0 cap0) zs ∧ zs.length = len0 ∧ len0 ≤ cap0 ∧ cap0 ≤ maxLen := by
    obtain ⟨fuel, hf⟩ := h0
    exact open_ints64 (by simpa [Value.cells] using hf)
  obtain ⟨a1, rfl, rfl, rfl, w1⟩ := open_int Try.underlying2 (hval 1 2 v1 rfl rfl) h1
  obtain ⟨a2, rfl, rfl, rfl, w2⟩ := open_int Try.underlying3 (hval 2 3 v2 rfl rfl) h2
  obtain ⟨a3, rfl, rfl, rfl, w3⟩ := open_int Try.underlying3 (hval 3 3 v3 rfl rfl) h3
  clear hA0 hval0
  simp only [List.append_nil] at hW'
  refine (walk W a0 len0 cap0 z0 w0 a1 w1 a2 w2 a3 w3).mono fun e W' ⟨he, hg⟩ => ?_
  subst he
  exact ⟨_, rfl, _, _, _, [], _, [], hW', (trodAll_cons_mk (shut_bool Try.underlying4 _) trodAll_mk0), (trodAll_cons_mk (Below.trod laidOut (by kernel_rfl) (of_decide_eq_true (by kernel_rfl)) k0 hg lt0) (trodAll_cons_mk (shut_int Try.underlying2 w1) (trodAll_cons_mk (shut_int Try.underlying3 w2) (trodAll_cons_mk (shut_int Try.underlying3 w3) trodAll_mk0)))), rfl, hg.frame _, fun h => by cases h⟩

theorem over : Rows.edgesBandsRow.holds Try.pinned (OpenSpec.ofChange Rows.edgesBandsSpec) :=
  OpenClaim.holds_of_wide 3 Try.f3 rfl rfl rfl rfl rfl rfl rfl ⟨rfl, rfl, rfl, rfl, rfl⟩ rfl rfl rfl rfl rfl (by kernel_rfl) Try.func3 (by kernel_rfl)
    (of_decide_eq_true (by kernel_rfl)) (by unfold Func.isWrapper; first | (rw [if_pos (by decide +kernel)]; kernel_rfl) | (rw [if_neg (by decide +kernel)]; exact ⟨rfl, rfl⟩))
    (fun os started H enc _ => lifted os started H enc)

/-- the statement -/
theorem proved : Rows.EdgesBandsSaid :=
  over
#print axioms proved
end Go.Proofs.Ytncgmfdmkjlmaaa.edgesBands
