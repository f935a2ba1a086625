/- What was spread once stays when it is spread again, for any sizes (the first forty), needs (the first hundred), any gap. -/
import Derived.Test.YtejbngjeleiacaaRows
import Derived.WalkKit
import Derived.ProofKit
import Derived.OpenShut
import Derived.Below
import Derived.Test.YtejbngjeleiacaaSpLaw
import Derived.Test.YtejbngjeleiacaaKLaw
import Derived.ShutString
namespace Go.Proofs.Ytejbngjeleiacaa.spreadTwice
open Go.ChangeShapes Go.WideShapes Go.ChangeAt Go.RowKit
set_option linter.unusedVariables false

theorem own : ownKnob Try.prog.godebug = none := by kernel_rfl
theorem laidOut : laidOutB Try.prog = true := by kernel_rfl

open Go.Shelf
set_option maxRecDepth 100000 in
set_option maxHeartbeats 8000000 in
theorem walk (w : World) (a0 : Option Addr) (len0 cap0 : Nat) (z0 : List Sz) (w0 : SizeArg w a0 len0 cap0 z0) (a1 : Option Addr) (len1 cap1 : Nat) (z1 : List Ne) (w1 : NeedArg w a1 len1 cap1 z1) (gap : Int) (h2 : (Lit.int .i64 gap).wf = true) :
    Calls Try.prog 7 #[.slice a0 len0 cap0, .slice a1 len1 cap1, .int .i64 gap] w fun e w' => e = .returned (.bool true) ∧ Below w.heap.size w w' := by
  obtain ⟨hz, hzl, hz1, hz2, hzw, hzs⟩ := RowArg.take Sz.cells_len (by omega) w0 40
  obtain ⟨hn, hnl, hn1, hn2, hnw, hns⟩ := RowArg.take Ne.cells_len (by omega) w1 100
  have HC := Lib.hid (fun X => cut_k a0 a1 len0 cap0 len1 cap1 X hz1 hz2 hn1 hn2 hzs hns)
  have HS := Lib.hid (fun X => shown14_any X)
  have hml : min len0 40 ≤ 40 := by omega
  have hml2 : min len1 100 ≤ 100 := by omega
  generalize min len0 40 = m at *
  generalize min len1 100 = m' at *
  generalize z0.take 40 = zs at *
  generalize z1.take 100 = ns at *
  have HZ := Lib.hid (fun X (hX : Below w.heap.size w X) => hz.below hX)
  have HN := Lib.hid (fun X (hX : Below w.heap.size w X) => hn.below hX)
  have HZL := Lib.hid hzl
  have HNL := Lib.hid hnl
  have HB1 := Lib.hid (fun X (hX : Below w.heap.size w X) => bandsK_any a0 a1 m cap0 m' cap1 zs ns X (hz.below hX) (hn.below hX))
  have HND := Lib.hid (fun X (hX : Below w.heap.size w X) p c bs (hb : RowsK Ba.cells 4 X (.slice p m c) bs) => needsF_any p a1 m c m' cap1 bs ns gap X hb (hn.below hX))
  clear w0 w1 hzw hnw hz1 hn1 hzs hns hz hn hzl hnl hz2 hn2 h2
  go_enter Try.func7, Try.ntmps7
  go_wp2_with fail
  refine (HS.out _).mono ?_
  rintro e wa ⟨rfl, ba⟩
  have BA := Lib.hid ba
  clear ba HS
  go_wp2_with fail
  refine (HC.out _).mono ?_
  rintro e wb ⟨rfl, bb⟩
  have BB := Lib.hid (BA.out.trans (bb.mono BA.out.size))
  clear bb BA HC
  cases hr : rightK zs ns with
  | false =>
    rw [ansB_bad hr, errB_bad hr] at HB1
    simp only [List.length_nil] at HB1
    clear hr
    go_wp2_with fail
    refine (HB1.out _ BB.out).mono ?_
    rintro e wc ⟨pa, ka, rfl, hra, bc⟩
    have BC := Lib.hid (BB.out.trans (bc.mono BB.out.size))
    clear bc HB1 hra BB
    go_wp2
    go_ret
    exact ⟨rfl, BC.out⟩
  | true =>
    have hlen : (bandsB zs ns).length = m := by rw [bandsB_len]; exact HZL.out
    rw [ansB_ok hr, errB_ok hr, hlen] at HB1
    have HLEN := Lib.hid hlen
    clear hr hlen
    generalize bandsB zs ns = bs at HB1 HLEN
    go_wp2_with fail
    refine (HB1.out _ BB.out).mono ?_
    rintro e wc ⟨pa, ka, rfl, hra, bc⟩
    have BC := Lib.hid (BB.out.trans (bc.mono BB.out.size))
    have RA := Lib.hid hra
    clear bc HB1 hra BB
    go_wp2_with fail
    refine (HND.out _ BC.out _ _ bs RA.out).mono ?_
    rintro e wd (⟨hrp, G, rfl, hG, hbs, bd⟩ | ⟨hrp, rfl, bd⟩)
    · have BD := Lib.hid (BC.out.trans (bd.mono BC.out.size))
      have HSL : Hid ((spreadP bs ns gap).length = m) := Lib.hid (by rw [spreadP_len]; exact HLEN.out)
      have RD := Lib.hid (hbs.rows HSL.out m (by omega))
      have HR2 := Lib.hid (spreadP_right hrp)
      have HT2 := Lib.hid (spreadP_twice hrp)
      clear bd BC RA hbs hG hrp
      generalize spreadP bs ns gap = bs2 at *
      go_wp2_with fail
      refine (HND.out _ BD.out _ _ bs2 RD.out).mono ?_
      rintro e we (⟨hrp, G2, rfl, hG2, hbs2, be⟩ | ⟨hrp, _⟩)
      rotate_left
      · rw [HR2.out] at hrp; cases hrp
      rw [HT2.out] at hbs2
      have BE := Lib.hid (BD.out.trans (be.mono BD.out.size))
      have HSM := Lib.hid (ksame_any _ _ bs2 we (RD.out.below be) (hbs2.rows HSL.out m (by omega)))
      clear be BD RD hbs2 hG2 hrp HR2 HT2 HND
      go_wp2_with fail
      refine HSM.out.mono ?_
      rintro e wf ⟨rfl, bf⟩
      have BF := Lib.hid (BE.out.trans (bf.mono BE.out.size))
      clear bf BE HSM
      go_wp2
      go_ret
      exact ⟨rfl, BF.out⟩
    · have BD := Lib.hid (BC.out.trans (bd.mono BC.out.size))
      clear bd BC RA hrp HND
      by_cases g1 : gap < 0
      · have g1d : decide (gap < 0) = true := decide_eq_true g1
        go_wp2
        go_ret
        exact ⟨rfl, BD.out⟩
      · have g1d : decide (gap < 0) = false := decide_eq_false g1
        by_cases g2 : 1073741824 < gap
        · have g2d : decide (1073741824 < gap) = true := decide_eq_true g2
          go_wp2
          go_ret
          exact ⟨rfl, BD.out⟩
        · have g2d : decide (1073741824 < gap) = false := decide_eq_false g2
          go_wp2
          go_ret
          exact ⟨rfl, BD.out⟩

set_option maxRecDepth 100000 in
theorem lifted (os : Os) (started : os.Started) (H : Type) (enc : TypeId × Value → H) :
    ReturnsInHanded {} Try.checked os 7 .any (Rows.spreadTwiceSpec.pre6 enc Try.prog Try.f7 Rows.spreadTwiceRow.domain false) (Rows.spreadTwiceSpec.post enc Try.prog Try.f7 false true false false) := by
  refine returnsInHanded_of_change (C := Try.checked) own started (by kernel_rfl) Try.func7
    (ChangeSpec.witness6 (enc := enc) (C := Try.checked) false ⟨#[], #[.slice none 0 0, .slice none 0 0, .int .i64 0], []⟩ 8 (by kernel_rfl) (by kernel_rfl) (by kernel_rfl) (by kernel_rfl)) ?_
  intro W base args ds gs before hval0 hW hcnd _
  have hval : ∀ (j : Nat) t v, Try.f7.params[j]? = some t → args[j]? = some v → Value.okWide Try.prog W .any base t v := hval0
  have hW' := hW
  obtain ⟨p, q, hA0, hV, rfl, hfz, hnd⟩ := hW
  have hA : DataW.TrodAll enc Try.prog W 0 (fun _ => true) true Try.f7.params.toList args.toList ds p := hA0
  rw [Try.params7] at hA hval
  obtain ⟨v0, vs0, d0, ds0, p0, q0, hargs, rfl, rfl, h0, r0⟩ := trodAll_cons hA
  obtain ⟨v1, vs1, d1, ds1, p1, q1, rfl, rfl, rfl, h1, r1⟩ := trodAll_cons r0
  obtain ⟨v2, vs2, d2, ds2, p2, q2, rfl, rfl, rfl, h2, r2⟩ := trodAll_cons r1
  obtain ⟨rfl, rfl, rfl⟩ := trodAll_nil r2
  obtain rfl : args = #[v0, v1, v2] := by cases args; simp_all
  obtain ⟨rfl, rfl⟩ := trodVars_none hV
  obtain ⟨a0, len0, cap0, rfl⟩ := okWide_slice Try.underlying45 (hval 0 45 v0 rfl rfl)
  have k0 := h0
  have lt0 : ∀ x ∈ p0, x.block < W.heap.size := by obtain ⟨m, hm⟩ := k0; exact DataW.trod_lt m _ _ _ hm
  obtain ⟨z0, w0⟩ : ∃ zs, SizeArg W a0 len0 cap0 zs := by
    obtain ⟨fuel, hf⟩ := h0
    exact open_sizes (by simpa [Value.cells] using hf)
  obtain ⟨a1, len1, cap1, rfl⟩ := okWide_slice Try.underlying23 (hval 1 23 v1 rfl rfl)
  have k1 := h1
  have lt1 : ∀ x ∈ p1, x.block < W.heap.size := by obtain ⟨m, hm⟩ := k1; exact DataW.trod_lt m _ _ _ hm
  obtain ⟨z1, w1⟩ : ∃ zs, NeedArg W a1 len1 cap1 zs := by
    obtain ⟨fuel, hf⟩ := h1
    exact open_needs (by simpa [Value.cells] using hf)
  obtain ⟨a2, rfl, rfl, rfl, w2⟩ := open_int Try.underlying2 (hval 2 2 v2 rfl rfl) h2
  clear hA0 hval0
  simp only [List.append_nil] at hW'
  refine (walk W a0 len0 cap0 z0 w0 a1 len1 cap1 z1 w1 a2 w2).mono fun e W' ⟨he, hg⟩ => ?_
  subst he
  exact ⟨_, rfl, _, _, _, [], _, [], hW', (trodAll_cons_mk (shut_bool Try.underlying4 _) trodAll_mk0), (trodAll_cons_mk (Below.trod laidOut (by kernel_rfl) (of_decide_eq_true (by kernel_rfl)) k0 hg lt0) (trodAll_cons_mk (Below.trod laidOut (by kernel_rfl) (of_decide_eq_true (by kernel_rfl)) k1 hg lt1) (trodAll_cons_mk (shut_int Try.underlying2 w2) trodAll_mk0))), rfl, hg.frame _, fun h => by cases h⟩

theorem over : Rows.spreadTwiceRow.holds Try.pinned (OpenSpec.ofChange Rows.spreadTwiceSpec) :=
  OpenClaim.holds_of_wide 7 Try.f7 rfl rfl rfl rfl rfl rfl rfl ⟨rfl, rfl, rfl, rfl, rfl⟩ rfl rfl rfl rfl rfl (by kernel_rfl) Try.func7 (by kernel_rfl)
    (of_decide_eq_true (by kernel_rfl)) (by unfold Func.isWrapper; first | (rw [if_pos (by decide +kernel)]; kernel_rfl) | (rw [if_neg (by decide +kernel)]; exact ⟨rfl, rfl⟩))
    (fun os started H enc _ => lifted os started H enc)

/-- the statement -/
theorem proved : Rows.SpreadTwiceSaid :=
  over
#print axioms proved
end Go.Proofs.Ytejbngjeleiacaa.spreadTwice
