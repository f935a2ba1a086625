/- More needs let no column need less at least, for any sizes (the first forty), needs (the first hundred), and any number of them. -/
import Derived.Test.YtmfllaanobafkaaRows
import Derived.WalkKit
import Derived.ProofKit
import Derived.OpenShut
import Derived.Below
import Derived.Test.YtmfllaanobafkaaKLaw
import Derived.ShutString
namespace Go.Proofs.Ytmfllaanobafkaa.columnsMore
open Go.ChangeShapes Go.WideShapes Go.ChangeAt Go.RowKit
set_option linter.unusedVariables false

theorem own : ownKnob Try.prog.godebug = none := by kernel_rfl
theorem laidOut : laidOutB Try.prog = true := by kernel_rfl

open Go.Shelf
theorem bands_at (zs : List Sz) (ns : List Ne) (i : Nat) (h : i < zs.length) : ∃ s, zs[i]? = some s ∧ (bandsB zs ns)[i]? = some (bandB s ns i) := by
  refine ⟨zs[i], List.getElem?_eq_getElem h, ?_⟩
  simp [bandsB, List.getElem?_mapIdx, List.getElem?_eq_getElem h]
set_option maxRecDepth 100000 in
set_option maxHeartbeats 8000000 in
theorem walk (w : World) (a0 : Option Addr) (len0 cap0 : Nat) (z0 : List Sz) (w0 : SizeArg w a0 len0 cap0 z0) (a1 : Option Addr) (len1 cap1 : Nat) (z1 : List Ne) (w1 : NeedArg w a1 len1 cap1 z1) (a2 : Int) (w2 : (Lit.int .i64 a2).wf = true) :
    Calls Try.prog 6 #[.slice a0 len0 cap0, .slice a1 len1 cap1, .int .i64 a2] w fun e w' => e = .returned (.bool true) ∧ Below w.heap.size w w' := by
  obtain ⟨hz, hzl, hz1, hz2, hzw, hzs⟩ := RowArg.take Sz.cells_len (by omega) w0 40
  obtain ⟨hn, hnl, hn1, hn2, hnw, hns⟩ := RowArg.take Ne.cells_len (by omega) w1 100
  have HC := Lib.hid (fun X => cut_k a0 a1 len0 cap0 len1 cap1 X hz1 hz2 hn1 hn2 hzs hns)
  have HS := Lib.hid (fun X => shown13_any X)
  have hmc : min len1 100 ≤ cap1 := by omega
  have hml : min len0 40 ≤ 40 := by omega
  have hml2 : min len1 100 ≤ 100 := by omega
  generalize min len0 40 = m at *
  generalize min len1 100 = m' at *
  generalize z0.take 40 = zs at *
  generalize z1.take 100 = ns at *
  clear w0 w1 hzw hnw hz1 hn1 hzs
  have hi : -9223372036854775808 ≤ a2 ∧ a2 ≤ 9223372036854775807 := bounds_i64 w2
  clear w2
  by_cases h1 : a2 < 0 ∨ (m' : Int) < a2
  · clear hz hn hzl hnl hns
    rcases (show a2 < 0 ∨ (¬ a2 < 0 ∧ (m' : Int) < a2) by omega) with h2 | ⟨h2, h3⟩
    all_goals
      clear h1
      go_enter Try.func6, Try.ntmps6
      go_wp2_with fail
      refine (HS.out _).mono ?_
      rintro e wa ⟨rfl, ba⟩
      have BA := Lib.hid ba
      clear ba HS
      go_wp2_with fail
      refine (HC.out _).mono ?_
      rintro e wb ⟨rfl, bb⟩
      have BB := Lib.hid (BA.out.trans (bb.mono BA.out.size))
      clear bb BA HC
      go_wp2
      go_ret
      exact ⟨rfl, BB.out⟩
  obtain ⟨k, rfl⟩ : ∃ k : Nat, a2 = (k : Int) := ⟨a2.toNat, by omega⟩
  have hk : k ≤ m' := by omega
  have hkc : k ≤ cap1 := by omega
  clear h1 hi
  have d1 : decide ((k : Int) < 0) = false := by simp
  have d2 : decide ((m' : Int) < (k : Int)) = false := by simp; omega
  have d3 : decide ((k : Int) > (m' : Int)) = false := by simp; omega
  have HB1 := Lib.hid (fun X (hX : Below w.heap.size w X) => bandsK_any a0 a1 m cap0 k cap1 zs (ns.take k) X (hz.below hX) ((hn.take k hk).below hX))
  have HB2 := Lib.hid (fun X (hX : Below w.heap.size w X) => bandsK_any a0 a1 m cap0 m' cap1 zs ns X (hz.below hX) (hn.below hX))
  have hcs : (a1 = none ∧ m' = 0 ∧ k = 0 ∧ cap1 = 0) ∨ ∃ g off mm, a1 = some ⟨g, off, mm⟩ := by
    rcases hns with ⟨h1, _, h3⟩ | h
    · exact .inl ⟨h1, by omega, by omega, h3⟩
    · exact .inr h
  clear hns
  have HZL := Lib.hid hzl
  clear hz hn hnl hzl
  cases hr : rightK zs ns with
  | false =>
    rw [ansB_bad hr, errB_bad hr] at HB2
    obtain ⟨er, her⟩ : ∃ er, errB zs (ns.take k) = er := ⟨_, rfl⟩
    obtain ⟨n1, hn1⟩ : ∃ n1, (ansB zs (ns.take k)).length = n1 := ⟨_, rfl⟩
    rw [her, hn1] at HB1
    clear her hn1 hr
    rcases hcs with ⟨rfl, rfl, rfl, rfl⟩ | ⟨g, off, mm, rfl⟩
    all_goals
      go_enter Try.func6, Try.ntmps6
      go_wp2_with fail
      refine (HS.out _).mono ?_
      rintro e wa ⟨rfl, ba⟩
      have BA := Lib.hid ba
      clear ba HS
      go_wp2_with fail
      refine (HC.out _).mono ?_
      rintro e wb ⟨rfl, bb⟩
      have BB := Lib.hid (BA.out.trans (bb.mono BA.out.size))
      clear bb BA HC
      go_wp2_with fail
      refine (HB1.out _ BB.out).mono ?_
      rintro e wc ⟨pa, ka, rfl, hra, bc⟩
      have BC := Lib.hid (BB.out.trans (bc.mono BB.out.size))
      clear bc BB HB1 hra
      go_wp2_with fail
      refine (HB2.out _ BC.out).mono ?_
      rintro e wd ⟨pb, kb, rfl, hrb, bd⟩
      have BD := Lib.hid (BC.out.trans (bd.mono BC.out.size))
      clear bd BC HB2 hrb
      go_wp2
      go_ret
      exact ⟨rfl, BD.out⟩
  | true =>
    have hr2 : rightK zs (ns.take k) = true := rightK_sub zs ns _ (fun x hx => List.mem_of_mem_take hx) hr
    rw [ansB_ok hr, errB_ok hr, bandsB_len, HZL.out] at HB2
    rw [ansB_ok hr2, errB_ok hr2, bandsB_len, HZL.out] at HB1
    clear hr hr2
    obtain ⟨n1, hn1⟩ : ∃ n1, ns.take k = n1 := ⟨_, rfl⟩
    have HSP : Hid (∃ r, ns = n1 ++ r) := Lib.hid ⟨ns.drop k, by rw [← hn1, List.take_append_drop]⟩
    rw [hn1] at HB1
    clear hn1
    rcases hcs with ⟨rfl, rfl, rfl, rfl⟩ | ⟨g, off, mm, rfl⟩
    all_goals
      go_enter Try.func6, Try.ntmps6
      go_wp2_with fail
      refine (HS.out _).mono ?_
      rintro e wa ⟨rfl, ba⟩
      have BA := Lib.hid ba
      clear ba HS
      go_wp2_with fail
      refine (HC.out _).mono ?_
      rintro e wb ⟨rfl, bb⟩
      have BB := Lib.hid (BA.out.trans (bb.mono BA.out.size))
      clear bb BA HC
      go_wp2_with fail
      refine (HB1.out _ BB.out).mono ?_
      rintro e wc ⟨pa, ka, rfl, hra, bc⟩
      have BC := Lib.hid (BB.out.trans (bc.mono BB.out.size))
      have RA := Lib.hid hra
      clear bc BB HB1 hra
      go_wp2_with fail
      refine (HB2.out _ BC.out).mono ?_
      rintro e wd ⟨pb, kb, rfl, hrb, bd⟩
      have BD := Lib.hid (BC.out.trans (bd.mono BC.out.size))
      have RB := Lib.hid hrb
      have RA2 := Lib.hid (RA.out.below bd)
      clear bd BC HB2 hrb RA
      go_wp2
      go_loopw [12] (fun s12 X => ∃ i : Nat, i ≤ m ∧ s12 = .int .i64 (i : Int) ∧ Hid (Below wd.heap.size wd X)) (fun s12 _ => m - (intOf s12).toNat)
      case atStart => exact ⟨0, Nat.zero_le _, rfl, Lib.hid (Below.refl _ _)⟩
      case round =>
        obtain ⟨i, hi, rfl, HB⟩ := hrel
        by_cases hlt : i < m
        · obtain ⟨s, hs, hq1⟩ := bands_at zs n1 i (by rw [HZL.out]; exact hlt)
          obtain ⟨s', hs', hq2⟩ := bands_at zs ns i (by rw [HZL.out]; exact hlt)
          obtain rfl : s = s' := by rw [hs] at hs'; exact Option.some.inj hs'
          obtain ⟨g1, o1, rfl, l1, ha⟩ := (RA2.out.below HB.out).at i _ hq1
          obtain ⟨g2, o2, rfl, l2, hb⟩ := (RB.out.below HB.out).at i _ hq2
          have hm : (bandB s n1 i).mn ≤ (bandB s ns i).mn ∧ (bandB s n1 i).sh ≤ (bandB s ns i).sh := by
            obtain ⟨r, hr⟩ := HSP.out
            rw [hr]; exact bandB_more s i n1 r
          generalize bandB s n1 i = b1 at ha hm
          generalize bandB s ns i = b2 at hb hm
          have x0 : wr.cell? ⟨g1, o1 + i * 4, none⟩ = some (.int .i64 b1.mn) := ha 0 _ rfl
          have x2 : wr.cell? ⟨g1, o1 + i * 4 + 2, none⟩ = some (.int .i64 b1.sh) := ha 2 _ rfl
          have y0 : wr.cell? ⟨g2, o2 + i * 4, none⟩ = some (.int .i64 b2.mn) := hb 0 _ rfl
          have y2 : wr.cell? ⟨g2, o2 + i * 4 + 2, none⟩ = some (.int .i64 b2.sh) := hb 2 _ rfl
          generalize b1.mn = u1 at *
          generalize b1.sh = u2 at *
          generalize b2.mn = v1 at *
          generalize b2.sh = v2 at *
          have d1 : decide (u1 > v1) = false := by simp; omega
          have d2 : decide (u2 > v2) = false := by simp; omega
          have d3 : decide (v1 < u1) = false := by simp; omega
          have d4 : decide (v2 < u2) = false := by simp; omega
          have hm1 := hm.1
          have hm2 := hm.2
          clear hs hs' hq1 hq2 ha hb hm
          go_wp2
          go_quiet (fail)
          go_wp2
          go_roundw
          case rel => exact ⟨i + 1, by omega, by go_num, Lib.hid (HB.out.trans (below_dn _ _ _))⟩
          case measure => simp [intOf]; omega
        · go_wp2
          go_ret
          exact ⟨rfl, BD.out.trans (HB.out.mono BD.out.size)⟩

set_option maxRecDepth 100000 in
theorem lifted (os : Os) (started : os.Started) (H : Type) (enc : TypeId × Value → H) :
    ReturnsInHanded {} Try.checked os 6 .any (Rows.columnsMoreSpec.pre6 enc Try.prog Try.f6 Rows.columnsMoreRow.domain false) (Rows.columnsMoreSpec.post enc Try.prog Try.f6 false true false false) := by
  refine returnsInHanded_of_change (C := Try.checked) own started (by kernel_rfl) Try.func6
    (ChangeSpec.witness6 (enc := enc) (C := Try.checked) false ⟨#[], #[.slice none 0 0, .slice none 0 0, .int .i64 0], []⟩ 8 (by kernel_rfl) (by kernel_rfl) (by kernel_rfl) (by kernel_rfl)) ?_
  intro W base args ds gs before hval0 hW hcnd _
  have hval : ∀ (j : Nat) t v, Try.f6.params[j]? = some t → args[j]? = some v → Value.okWide Try.prog W .any base t v := hval0
  have hW' := hW
  obtain ⟨p, q, hA0, hV, rfl, hfz, hnd⟩ := hW
  have hA : DataW.TrodAll enc Try.prog W 0 (fun _ => true) true Try.f6.params.toList args.toList ds p := hA0
  rw [Try.params6] at hA hval
  obtain ⟨v0, vs0, d0, ds0, p0, q0, hargs, rfl, rfl, h0, r0⟩ := trodAll_cons hA
  obtain ⟨v1, vs1, d1, ds1, p1, q1, rfl, rfl, rfl, h1, r1⟩ := trodAll_cons r0
  obtain ⟨v2, vs2, d2, ds2, p2, q2, rfl, rfl, rfl, h2, r2⟩ := trodAll_cons r1
  obtain ⟨rfl, rfl, rfl⟩ := trodAll_nil r2
  obtain rfl : args = #[v0, v1, v2] := by cases args; simp_all
  obtain ⟨rfl, rfl⟩ := trodVars_none hV
  obtain ⟨a0, len0, cap0, rfl⟩ := okWide_slice Try.underlying22 (hval 0 22 v0 rfl rfl)
  have k0 := h0
  have lt0 : ∀ x ∈ p0, x.block < W.heap.size := by obtain ⟨m, hm⟩ := k0; exact DataW.trod_lt m _ _ _ hm
  obtain ⟨z0, w0⟩ : ∃ zs, SizeArg W a0 len0 cap0 zs := by
    obtain ⟨fuel, hf⟩ := h0
    exact open_sizes (by simpa [Value.cells] using hf)
  obtain ⟨a1, len1, cap1, rfl⟩ := okWide_slice Try.underlying23 (hval 1 23 v1 rfl rfl)
  have k1 := h1
  have lt1 : ∀ x ∈ p1, x.block < W.heap.size := by obtain ⟨m, hm⟩ := k1; exact DataW.trod_lt m _ _ _ hm
  obtain ⟨z1, w1⟩ : ∃ zs, NeedArg W a1 len1 cap1 zs := by
    obtain ⟨fuel, hf⟩ := h1
    exact open_needs (by simpa [Value.cells] using hf)
  obtain ⟨a2, rfl, rfl, rfl, w2⟩ := open_int Try.underlying3 (hval 2 3 v2 rfl rfl) h2
  clear hA0 hval0
  simp only [List.append_nil] at hW'
  refine (walk W a0 len0 cap0 z0 w0 a1 len1 cap1 z1 w1 a2 w2).mono fun e W' ⟨he, hg⟩ => ?_
  subst he
  exact ⟨_, rfl, _, _, _, [], _, [], hW', (trodAll_cons_mk (shut_bool Try.underlying4 _) trodAll_mk0), (trodAll_cons_mk (Below.trod laidOut (by kernel_rfl) (of_decide_eq_true (by kernel_rfl)) k0 hg lt0) (trodAll_cons_mk (Below.trod laidOut (by kernel_rfl) (of_decide_eq_true (by kernel_rfl)) k1 hg lt1) (trodAll_cons_mk (shut_int Try.underlying3 w2) trodAll_mk0))), rfl, hg.frame _, fun h => by cases h⟩

theorem over : Rows.columnsMoreRow.holds Try.pinned (OpenSpec.ofChange Rows.columnsMoreSpec) :=
  OpenClaim.holds_of_wide 6 Try.f6 rfl rfl rfl rfl rfl rfl rfl ⟨rfl, rfl, rfl, rfl, rfl⟩ rfl rfl rfl rfl rfl (by kernel_rfl) Try.func6 (by kernel_rfl)
    (of_decide_eq_true (by kernel_rfl)) (by unfold Func.isWrapper; first | (rw [if_pos (by decide +kernel)]; kernel_rfl) | (rw [if_neg (by decide +kernel)]; exact ⟨rfl, rfl⟩))
    (fun os started H enc _ => lifted os started H enc)

/-- the statement -/
theorem proved : Rows.ColumnsMoreSaid :=
  over
#print axioms proved
end Go.Proofs.Ytmfllaanobafkaa.columnsMore
