/- What needs make of bands is what the document says, for any bands (the first forty), needs (the first hundred), any gap. -/
import Derived.Test.YtmljndggblfeiaaRows
import Derived.WalkKit
import Derived.ProofKit
import Derived.OpenShut
import Derived.Below
import Derived.Test.YtmljndggblfeiaaSpLaw
import Derived.Test.YtmljndggblfeiaaSpRefE
import Derived.ShutString
namespace Go.Proofs.Ytmljndggblfeiaa.spreadNeeds
open Go.ChangeShapes Go.WideShapes Go.ChangeAt Go.RowKit
set_option linter.unusedVariables false

theorem own : ownKnob Try.prog.godebug = none := by kernel_rfl
theorem laidOut : laidOutB Try.prog = true := by kernel_rfl

open Go.Shelf
set_option maxRecDepth 100000 in
set_option maxHeartbeats 8000000 in
theorem walk (w : World) (a0 : Option Addr) (len0 cap0 : Nat) (z0 : List Ba) (w0 : BandArg w a0 len0 cap0 z0) (a1 : Option Addr) (len1 cap1 : Nat) (z1 : List Ne) (w1 : NeedArg w a1 len1 cap1 z1) (gap : Int) (h2 : (Lit.int .i64 gap).wf = true) :
    Calls Try.prog 3 #[.slice a0 len0 cap0, .slice a1 len1 cap1, .int .i64 gap] w fun e w' => e = .returned (.bool true) ∧ Below w.heap.size w w' := by
  obtain ⟨hz, hzl, hz1, hz2, hzw, hzs⟩ := RowArg.take Ba.cells_len (by omega) w0 40
  obtain ⟨hn, hnl, hn1, hn2, hnw, hns⟩ := RowArg.take Ne.cells_len (by omega) w1 100
  have HC := Lib.hid (fun X => cut_s a0 a1 len0 cap0 len1 cap1 X hz1 hz2 hn1 hn2 hzs hns)
  have HS := Lib.hid (fun X => shown14_any X)
  have hml : min len0 40 ≤ 40 := by omega
  have hml2 : min len1 100 ≤ 100 := by omega
  generalize min len0 40 = m at *
  generalize min len1 100 = m' at *
  generalize z0.take 40 = bs at *
  generalize z1.take 100 = ns at *
  have HZ := Lib.hid (fun X (hX : Below w.heap.size w X) => hz.below hX)
  have HN := Lib.hid (fun X (hX : Below w.heap.size w X) => hn.below hX)
  have HZL := Lib.hid hzl
  have HNL := Lib.hid hnl
  have HND := Lib.hid (fun X (hX : Below w.heap.size w X) p k c ls (hb : RowsK Ne.cells 9 X (.slice p k c) ls) => needsF_any a0 p m cap0 k c bs ls gap X (hz.below hX) hb)
  have HG0 := Lib.hid h2
  clear w0 w1 hzw hnw hz1 hn1 hzs hns hz hn hzl hnl hz2 hn2 h2
  go_enter Try.func3, Try.ntmps3
  go_wp2_with fail
  refine (HS.out _).mono ?_
  rintro e wa ⟨rfl, ba⟩
  have BA := Lib.hid ba
  clear ba HS
  go_wp2_with fail
  refine (HC.out _).mono ?_
  rintro e wb ⟨rfl, bb⟩
  have BB := Lib.hid (BA.out.trans (bb.mono BA.out.size))
  clear bb BA HC
  go_wp2_with fail
  refine (HND.out _ BB.out _ _ _ ns (HN.out _ BB.out)).mono ?_
  rintro e wd (⟨hrp, G, rfl, hG, hbs, bd⟩ | ⟨hrp, rfl, bd⟩)
  · have BD := Lib.hid (BB.out.trans (bd.mono BB.out.size))
    have HSL : Hid ((spreadP bs ns gap).length = m) := Lib.hid (by rw [spreadP_len]; exact HZL.out)
    have HBS := Lib.hid hbs
    have HRP := Lib.hid hrp
    clear bd BB hbs hG hrp HND
    go_wp2_with fail
    refine (refNeeds_any _ _ _ _ _ _ bs ns gap _ (HZ.out _ BD.out) (HN.out _ BD.out)).mono ?_
    rintro e we (⟨hrq, ⟨v, rfl, hv⟩, be⟩ | ⟨hrq, rfl, be⟩)
    rotate_left
    · rw [HRP.out] at hrq; cases hrq
    have BE := Lib.hid (BD.out.trans (be.mono BD.out.size))
    obtain ⟨pv, cv, rfl⟩ := hv.slice
    have HV := Lib.hid hv
    have HW := Lib.hid ((HBS.out.below be HBS.out.lt).rows HSL.out m (by omega))
    clear be hv hrq
    go_wp2_with fail
    refine (ksame_any _ _ _ _ HW.out HV.out).mono ?_
    rintro e wf ⟨rfl, bf⟩
    have BF := Lib.hid (BE.out.trans (bf.mono BE.out.size))
    clear bf
    go_wp2
    go_ret
    exact ⟨rfl, BF.out⟩
  · have BD := Lib.hid (BB.out.trans (bd.mono BB.out.size))
    have HRP := Lib.hid hrp
    clear bd BB hrp HND
    go_wp2_with fail
    refine (refNeeds_any _ _ _ _ _ _ bs ns gap _ (HZ.out _ BD.out) (HN.out _ BD.out)).mono ?_
    rintro e we (⟨hrq, _, be⟩ | ⟨hrq, rfl, be⟩)
    · rw [HRP.out] at hrq; cases hrq
    have BE := Lib.hid (BD.out.trans (be.mono BD.out.size))
    clear be hrq
    go_wp2_with fail
    refine (ksame_any _ _ [] _ ⟨by simp, .inl ⟨none, 0, rfl, rfl⟩⟩ ⟨by simp, .inl ⟨none, 0, rfl, rfl⟩⟩).mono ?_
    rintro e wf ⟨rfl, bf⟩
    have BF := Lib.hid (BE.out.trans (bf.mono BE.out.size))
    clear bf
    go_wp2
    go_ret
    exact ⟨rfl, BF.out⟩

set_option maxRecDepth 100000 in
theorem lifted (os : Os) (started : os.Started) (H : Type) (enc : TypeId × Value → H) :
    ReturnsInHanded {} Try.checked os 3 .any (Rows.spreadNeedsSpec.pre6 enc Try.prog Try.f3 Rows.spreadNeedsRow.domain false) (Rows.spreadNeedsSpec.post enc Try.prog Try.f3 false true false false) := by
  refine returnsInHanded_of_change (C := Try.checked) own started (by kernel_rfl) Try.func3
    (ChangeSpec.witness6 (enc := enc) (C := Try.checked) false ⟨#[], #[.slice none 0 0, .slice none 0 0, .int .i64 0], []⟩ 8 (by kernel_rfl) (by kernel_rfl) (by kernel_rfl) (by kernel_rfl)) ?_
  intro W base args ds gs before hval0 hW hcnd _
  have hval : ∀ (j : Nat) t v, Try.f3.params[j]? = some t → args[j]? = some v → Value.okWide Try.prog W .any base t v := hval0
  have hW' := hW
  obtain ⟨p, q, hA0, hV, rfl, hfz, hnd⟩ := hW
  have hA : DataW.TrodAll enc Try.prog W 0 (fun _ => true) true Try.f3.params.toList args.toList ds p := hA0
  rw [Try.params3] at hA hval
  obtain ⟨v0, vs0, d0, ds0, p0, q0, hargs, rfl, rfl, h0, r0⟩ := trodAll_cons hA
  obtain ⟨v1, vs1, d1, ds1, p1, q1, rfl, rfl, rfl, h1, r1⟩ := trodAll_cons r0
  obtain ⟨v2, vs2, d2, ds2, p2, q2, rfl, rfl, rfl, h2, r2⟩ := trodAll_cons r1
  obtain ⟨rfl, rfl, rfl⟩ := trodAll_nil r2
  obtain rfl : args = #[v0, v1, v2] := by cases args; simp_all
  obtain ⟨rfl, rfl⟩ := trodVars_none hV
  obtain ⟨a0, len0, cap0, rfl⟩ := okWide_slice Try.underlying22 (hval 0 22 v0 rfl rfl)
  have k0 := h0
  have lt0 : ∀ x ∈ p0, x.block < W.heap.size := by obtain ⟨m, hm⟩ := k0; exact DataW.trod_lt m _ _ _ hm
  obtain ⟨z0, w0⟩ : ∃ zs, BandArg W a0 len0 cap0 zs := by
    obtain ⟨fuel, hf⟩ := h0
    exact open_bands (by simpa [Value.cells] using hf)
  obtain ⟨a1, len1, cap1, rfl⟩ := okWide_slice Try.underlying23 (hval 1 23 v1 rfl rfl)
  have k1 := h1
  have lt1 : ∀ x ∈ p1, x.block < W.heap.size := by obtain ⟨m, hm⟩ := k1; exact DataW.trod_lt m _ _ _ hm
  obtain ⟨z1, w1⟩ : ∃ zs, NeedArg W a1 len1 cap1 zs := by
    obtain ⟨fuel, hf⟩ := h1
    exact open_needs (by simpa [Value.cells] using hf)
  obtain ⟨a2, rfl, rfl, rfl, w2⟩ := open_int Try.underlying2 (hval 2 2 v2 rfl rfl) h2
  clear hA0 hval0
  simp only [List.append_nil] at hW'
  refine (walk W a0 len0 cap0 z0 w0 a1 len1 cap1 z1 w1 a2 w2).mono fun e W' ⟨he, hg⟩ => ?_
  subst he
  exact ⟨_, rfl, _, _, _, [], _, [], hW', (trodAll_cons_mk (shut_bool Try.underlying4 _) trodAll_mk0), (trodAll_cons_mk (Below.trod laidOut (by kernel_rfl) (of_decide_eq_true (by kernel_rfl)) k0 hg lt0) (trodAll_cons_mk (Below.trod laidOut (by kernel_rfl) (of_decide_eq_true (by kernel_rfl)) k1 hg lt1) (trodAll_cons_mk (shut_int Try.underlying2 w2) trodAll_mk0))), rfl, hg.frame _, fun h => by cases h⟩

theorem over : Rows.spreadNeedsRow.holds Try.pinned (OpenSpec.ofChange Rows.spreadNeedsSpec) :=
  OpenClaim.holds_of_wide 3 Try.f3 rfl rfl rfl rfl rfl rfl rfl ⟨rfl, rfl, rfl, rfl, rfl⟩ rfl rfl rfl rfl rfl (by kernel_rfl) Try.func3 (by kernel_rfl)
    (of_decide_eq_true (by kernel_rfl)) (by unfold Func.isWrapper; first | (rw [if_pos (by decide +kernel)]; kernel_rfl) | (rw [if_neg (by decide +kernel)]; exact ⟨rfl, rfl⟩))
    (fun os started H enc _ => lifted os started H enc)

/-- the statement -/
theorem proved : Rows.SpreadNeedsSaid :=
  over
#print axioms proved
end Go.Proofs.Ytmljndggblfeiaa.spreadNeeds
