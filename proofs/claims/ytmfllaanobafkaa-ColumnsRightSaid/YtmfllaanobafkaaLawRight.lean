/- Bands are right ones, as many as there are columns, and each is at least what its cells need, for any sizes (the first forty), needs (the first hundred). -/
import Derived.Test.YtmfllaanobafkaaRows
import Derived.WalkKit
import Derived.ProofKit
import Derived.OpenShut
import Derived.Below
import Derived.Test.YtmfllaanobafkaaKRB
import Derived.ShutString
namespace Go.Proofs.Ytmfllaanobafkaa.columnsRight
open Go.ChangeShapes Go.WideShapes Go.ChangeAt Go.RowKit
set_option linter.unusedVariables false

theorem own : ownKnob Try.prog.godebug = none := by kernel_rfl
theorem laidOut : laidOutB Try.prog = true := by kernel_rfl

open Go.Shelf
set_option maxRecDepth 100000 in
set_option maxHeartbeats 8000000 in
theorem walk (w : World) (a0 : Option Addr) (len0 cap0 : Nat) (z0 : List Sz) (w0 : SizeArg w a0 len0 cap0 z0) (a1 : Option Addr) (len1 cap1 : Nat) (z1 : List Ne) (w1 : NeedArg w a1 len1 cap1 z1) :
    Calls Try.prog 4 #[.slice a0 len0 cap0, .slice a1 len1 cap1] w fun e w' => e = .returned (.bool true) ∧ Below w.heap.size w w' := by
  obtain ⟨hz, hzl, hz1, hz2, hzw, hzs⟩ := RowArg.take Sz.cells_len (by omega) w0 40
  obtain ⟨hn, hnl, hn1, hn2, hnw, hns⟩ := RowArg.take Ne.cells_len (by omega) w1 100
  have HC := Lib.hid (fun X => cut_k a0 a1 len0 cap0 len1 cap1 X hz1 hz2 hn1 hn2 hzs hns)
  have HS := Lib.hid (fun X => shown13_any X)
  have hml : min len0 40 ≤ 40 := by omega
  have hml2 : min len1 100 ≤ 100 := by omega
  generalize min len0 40 = m at *
  generalize min len1 100 = m' at *
  generalize z0.take 40 = zs at *
  generalize z1.take 100 = ns at *
  have HZ := Lib.hid (fun X (hX : Below w.heap.size w X) => hz.below hX)
  have HN := Lib.hid (fun X (hX : Below w.heap.size w X) => hn.below hX)
  have HZL := Lib.hid hzl
  have HNL := Lib.hid hnl
  clear w0 w1 hzw hnw hz1 hn1 hzs hns hz hn hzl hnl hz2 hn2
  go_enter Try.func4, Try.ntmps4
  go_wp2_with fail
  refine (HS.out _).mono ?_
  rintro e wa ⟨rfl, ba⟩
  have BA := Lib.hid ba
  clear ba HS
  go_wp2_with fail
  refine (HC.out _).mono ?_
  rintro e wb ⟨rfl, bb⟩
  have BB := Lib.hid (BA.out.trans (bb.mono BA.out.size))
  clear bb BA HC
  have HB1 := Lib.hid (fun X (hX : Below w.heap.size w X) => bandsK_any a0 a1 m cap0 m' cap1 zs ns X (HZ.out _ hX) (HN.out _ hX))
  cases hr : rightK zs ns with
  | false =>
    rw [ansB_bad hr, errB_bad hr] at HB1
    simp only [List.length_nil] at HB1
    clear hr
    go_wp2_with fail
    refine (HB1.out _ BB.out).mono ?_
    rintro e wc ⟨pa, ka, rfl, hra, bc⟩
    have BC := Lib.hid (BB.out.trans (bc.mono BB.out.size))
    clear bc HB1 hra BB
    go_wp2
    go_ret
    exact ⟨rfl, BC.out⟩
  | true =>
    have hlen : (bandsB zs ns).length = m := by rw [bandsB_len]; exact HZL.out
    rw [ansB_ok hr, errB_ok hr, hlen] at HB1
    have hok : (decide ((bandsB zs ns).length ≤ 10000) && (bandsB zs ns).all baB) = true := by
      rw [hlen, Bool.and_eq_true]
      exact ⟨by simp; omega, List.all_eq_true.2 (bandsB_ok zs ns hr)⟩
    have HRB := Lib.hid (fun X sv h => hok ▸ rightBands_any sv (bandsB zs ns) X h)
    have HRT := Lib.hid hr
    clear hr hlen hok
    go_wp2_with fail
    refine (HB1.out _ BB.out).mono ?_
    rintro e wc ⟨pa, ka, rfl, hra, bc⟩
    have BC := Lib.hid (BB.out.trans (bc.mono BB.out.size))
    have RA := Lib.hid hra
    clear bc HB1 hra BB
    go_wp2_with fail
    refine (HRB.out _ _ RA.out).mono ?_
    rintro e wd ⟨rfl, bd⟩
    have BD := Lib.hid (BC.out.trans (bd.mono BC.out.size))
    have RB := Lib.hid (RA.out.below bd)
    clear bd BC RA HRB
    go_wp2
    go_loopw [8] (fun s8 X => ∃ i : Nat, i ≤ m' ∧ s8 = .int .i64 (i : Int) ∧ Hid (Below wd.heap.size wd X)) (fun s8 _ => m' - (intOf s8).toNat)
    case atStart => exact ⟨0, Nat.zero_le _, rfl, Lib.hid (Below.refl _ _)⟩
    case round =>
      obtain ⟨i, hi, rfl, HX⟩ := hrel
      by_cases hlt : i < m'
      · obtain ⟨s, hs⟩ : ∃ s, ns[i]? = some s := ⟨_, List.getElem?_eq_getElem (by rw [HNL.out]; exact hlt)⟩
        have HWX := Lib.hid (BD.out.trans (HX.out.mono BD.out.size))
        obtain ⟨g1, o1, rfl, l1, ha⟩ := (HN.out _ HWX.out).at i s hs
        have hsm : s ∈ ns := List.mem_of_getElem? hs
        have hnb := (neB_iff _ s).1 (((rightK_iff zs ns).1 HRT.out).2.2 s hsm)
        rw [HZL.out] at hnb
        have HHAS := Lib.hid (fun (z : Sz) (c : Nat) (h1 : s.cs = 1) (h2 : s.co = c) => bandB_has z c ns s hsm h1 h2)
        obtain ⟨nd, ro, co, rs, cs, mn, mx, ⟨wk, wn⟩⟩ := s
        dsimp only at hnb
        have x0 : wr.cell? ⟨g1, o1 + i * 9, none⟩ = some (.int .i64 nd) := ha 0 _ rfl
        have x1 : wr.cell? ⟨g1, o1 + i * 9 + 1, none⟩ = some (.int .i64 ro) := ha 1 _ rfl
        have x2 : wr.cell? ⟨g1, o1 + i * 9 + 2, none⟩ = some (.int .i64 co) := ha 2 _ rfl
        have x3 : wr.cell? ⟨g1, o1 + i * 9 + 3, none⟩ = some (.int .i64 rs) := ha 3 _ rfl
        have x4 : wr.cell? ⟨g1, o1 + i * 9 + 4, none⟩ = some (.int .i64 cs) := ha 4 _ rfl
        have x5 : wr.cell? ⟨g1, o1 + i * 9 + 5, none⟩ = some (.int .i64 mn) := ha 5 _ rfl
        have x6 : wr.cell? ⟨g1, o1 + i * 9 + 6, none⟩ = some (.int .i64 mx) := ha 6 _ rfl
        clear hs ha hsm
        by_cases hc : cs = 1
        · subst hc
          obtain ⟨j, rfl⟩ : ∃ j : Nat, co = (j : Int) := ⟨co.toNat, by omega⟩
          have hj : j < m := by omega
          obtain ⟨z, hzj⟩ : ∃ z, zs[j]? = some z := ⟨_, List.getElem?_eq_getElem (by rw [HZL.out]; exact hj)⟩
          have hbj : (bandsB zs ns)[j]? = some (bandB z ns j) := by simp [bandsB, List.getElem?_mapIdx, hzj]
          obtain ⟨g2, o2, rfl, l2, hb⟩ := (RB.out.below HX.out).at j _ hbj
          have hh := HHAS.out z j rfl rfl
          dsimp only at hh
          generalize bandB z ns j = b at hb hh
          obtain ⟨bn, bx, bs, bt⟩ := b
          have y0 : wr.cell? ⟨g2, o2 + j * 4, none⟩ = some (.int .i64 bn) := hb 0 _ rfl
          have y1 : wr.cell? ⟨g2, o2 + j * 4 + 1, none⟩ = some (.int .i64 bx) := hb 1 _ rfl
          have y3 : wr.cell? ⟨g2, o2 + j * 4 + 3, none⟩ = some (.int .i64 bt) := hb 3 _ rfl
          dsimp only at hh
          have d1 : decide (bn < mn) = false := by simp; omega
          have hd1 : ¬ bn < mn := by omega
          have hh2 := hh.2
          clear hzj hbj hb hnb HHAS hh
          by_cases hbt : bt < 0
          · have hd2 : ¬ bx < mx := by have := hh2 hbt; omega
            have d2 : decide (bx < mx) = false := by simpa using hd2
            have d3 : decide (bt < 0) = true := by simpa using hbt
            clear hh2
            go_wp2
            go_quiet (fail)
            go_wp2
            go_roundw
            case rel => exact ⟨i + 1, by omega, by go_num, Lib.hid ((HX.out.alloc HX.out.size _).trans (below_dn _ _ _))⟩
            case measure => simp [intOf]; omega
          · have d3 : decide (bt < 0) = false := by simpa using hbt
            clear hh2
            go_wp2
            go_quiet (fail)
            go_wp2
            go_roundw
            case rel => exact ⟨i + 1, by omega, by go_num, Lib.hid ((HX.out.alloc HX.out.size _).trans (below_dn _ _ _))⟩
            case measure => simp [intOf]; omega
        · have hc' : (cs == 1) = false := by simpa using hc
          clear HHAS hnb
          go_wp2
          go_quiet (fail)
          go_wp2
          go_roundw
          case rel => exact ⟨i + 1, by omega, by go_num, Lib.hid ((HX.out.alloc HX.out.size _).trans (below_dn _ _ _))⟩
          case measure => simp [intOf]; omega
      · go_wp2
        go_ret
        exact ⟨rfl, BD.out.trans (HX.out.mono BD.out.size)⟩

set_option maxRecDepth 100000 in
theorem lifted (os : Os) (started : os.Started) (H : Type) (enc : TypeId × Value → H) :
    ReturnsInHanded {} Try.checked os 4 .any (Rows.columnsRightSpec.pre6 enc Try.prog Try.f4 Rows.columnsRightRow.domain false) (Rows.columnsRightSpec.post enc Try.prog Try.f4 false true false false) := by
  refine returnsInHanded_of_change (C := Try.checked) own started (by kernel_rfl) Try.func4
    (ChangeSpec.witness6 (enc := enc) (C := Try.checked) false ⟨#[], #[.slice none 0 0, .slice none 0 0], []⟩ 8 (by kernel_rfl) (by kernel_rfl) (by kernel_rfl) (by kernel_rfl)) ?_
  intro W base args ds gs before hval0 hW hcnd _
  have hval : ∀ (j : Nat) t v, Try.f4.params[j]? = some t → args[j]? = some v → Value.okWide Try.prog W .any base t v := hval0
  have hW' := hW
  obtain ⟨p, q, hA0, hV, rfl, hfz, hnd⟩ := hW
  have hA : DataW.TrodAll enc Try.prog W 0 (fun _ => true) true Try.f4.params.toList args.toList ds p := hA0
  rw [Try.params4] at hA hval
  obtain ⟨v0, vs0, d0, ds0, p0, q0, hargs, rfl, rfl, h0, r0⟩ := trodAll_cons hA
  obtain ⟨v1, vs1, d1, ds1, p1, q1, rfl, rfl, rfl, h1, r1⟩ := trodAll_cons r0
  obtain ⟨rfl, rfl, rfl⟩ := trodAll_nil r1
  obtain rfl : args = #[v0, v1] := by cases args; simp_all
  obtain ⟨rfl, rfl⟩ := trodVars_none hV
  obtain ⟨a0, len0, cap0, rfl⟩ := okWide_slice Try.underlying22 (hval 0 22 v0 rfl rfl)
  have k0 := h0
  have lt0 : ∀ x ∈ p0, x.block < W.heap.size := by obtain ⟨m, hm⟩ := k0; exact DataW.trod_lt m _ _ _ hm
  obtain ⟨z0, w0⟩ : ∃ zs, SizeArg W a0 len0 cap0 zs := by
    obtain ⟨fuel, hf⟩ := h0
    exact open_sizes (by simpa [Value.cells] using hf)
  obtain ⟨a1, len1, cap1, rfl⟩ := okWide_slice Try.underlying23 (hval 1 23 v1 rfl rfl)
  have k1 := h1
  have lt1 : ∀ x ∈ p1, x.block < W.heap.size := by obtain ⟨m, hm⟩ := k1; exact DataW.trod_lt m _ _ _ hm
  obtain ⟨z1, w1⟩ : ∃ zs, NeedArg W a1 len1 cap1 zs := by
    obtain ⟨fuel, hf⟩ := h1
    exact open_needs (by simpa [Value.cells] using hf)
  clear hA0 hval0
  simp only [List.append_nil] at hW'
  refine (walk W a0 len0 cap0 z0 w0 a1 len1 cap1 z1 w1).mono fun e W' ⟨he, hg⟩ => ?_
  subst he
  exact ⟨_, rfl, _, _, _, [], _, [], hW', (trodAll_cons_mk (shut_bool Try.underlying4 _) trodAll_mk0), (trodAll_cons_mk (Below.trod laidOut (by kernel_rfl) (of_decide_eq_true (by kernel_rfl)) k0 hg lt0) (trodAll_cons_mk (Below.trod laidOut (by kernel_rfl) (of_decide_eq_true (by kernel_rfl)) k1 hg lt1) trodAll_mk0)), rfl, hg.frame _, fun h => by cases h⟩

theorem over : Rows.columnsRightRow.holds Try.pinned (OpenSpec.ofChange Rows.columnsRightSpec) :=
  OpenClaim.holds_of_wide 4 Try.f4 rfl rfl rfl rfl rfl rfl rfl ⟨rfl, rfl, rfl, rfl, rfl⟩ rfl rfl rfl rfl rfl (by kernel_rfl) Try.func4 (by kernel_rfl)
    (of_decide_eq_true (by kernel_rfl)) (by unfold Func.isWrapper; first | (rw [if_pos (by decide +kernel)]; kernel_rfl) | (rw [if_neg (by decide +kernel)]; exact ⟨rfl, rfl⟩))
    (fun os started H enc _ => lifted os started H enc)

/-- the statement -/
theorem proved : Rows.ColumnsRightSaid :=
  over
#print axioms proved
end Go.Proofs.Ytmfllaanobafkaa.columnsRight
