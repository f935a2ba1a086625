/- No column needs less than it did, shares and wanted lengths stay, for any bands (the first forty), needs (the first hundred), any gap. -/
import Derived.Test.YtejbngjeleiacaaRows
import Derived.WalkKit
import Derived.ProofKit
import Derived.OpenShut
import Derived.Below
import Derived.Test.YtejbngjeleiacaaSpLaw
import Derived.ShutString
namespace Go.Proofs.Ytejbngjeleiacaa.spreadKeeps
open Go.ChangeShapes Go.WideShapes Go.ChangeAt Go.RowKit
set_option linter.unusedVariables false

theorem own : ownKnob Try.prog.godebug = none := by kernel_rfl
theorem laidOut : laidOutB Try.prog = true := by kernel_rfl

open Go.Shelf
set_option maxRecDepth 100000 in
set_option maxHeartbeats 8000000 in
theorem walk (w : World) (a0 : Option Addr) (len0 cap0 : Nat) (z0 : List Ba) (w0 : BandArg w a0 len0 cap0 z0) (a1 : Option Addr) (len1 cap1 : Nat) (z1 : List Ne) (w1 : NeedArg w a1 len1 cap1 z1) (gap : Int) (h2 : (Lit.int .i64 gap).wf = true) :
    Calls Try.prog 6 #[.slice a0 len0 cap0, .slice a1 len1 cap1, .int .i64 gap] w fun e w' => e = .returned (.bool true) ∧ Below w.heap.size w w' := by
  obtain ⟨hz, hzl, hz1, hz2, hzw, hzs⟩ := RowArg.take Ba.cells_len (by omega) w0 40
  obtain ⟨hn, hnl, hn1, hn2, hnw, hns⟩ := RowArg.take Ne.cells_len (by omega) w1 100
  have HC := Lib.hid (fun X => cut_s a0 a1 len0 cap0 len1 cap1 X hz1 hz2 hn1 hn2 hzs hns)
  have HS := Lib.hid (fun X => shown14_any X)
  have hml : min len0 40 ≤ 40 := by omega
  have hml2 : min len1 100 ≤ 100 := by omega
  generalize min len0 40 = m at *
  generalize min len1 100 = m' at *
  generalize z0.take 40 = bs at *
  generalize z1.take 100 = ns at *
  have HZ := Lib.hid (fun X (hX : Below w.heap.size w X) => hz.below hX)
  have HN := Lib.hid (fun X (hX : Below w.heap.size w X) => hn.below hX)
  have HZL := Lib.hid hzl
  have HNL := Lib.hid hnl
  have HND := Lib.hid (fun X (hX : Below w.heap.size w X) p k c ls (hb : RowsK Ne.cells 9 X (.slice p k c) ls) => needsF_any a0 p m cap0 k c bs ls gap X (hz.below hX) hb)
  have HG0 := Lib.hid h2
  clear w0 w1 hzw hnw hz1 hn1 hzs hns hz hn hzl hnl hz2 hn2 h2
  go_enter Try.func6, Try.ntmps6
  go_wp2_with fail
  refine (HS.out _).mono ?_
  rintro e wa ⟨rfl, ba⟩
  have BA := Lib.hid ba
  clear ba HS
  go_wp2_with fail
  refine (HC.out _).mono ?_
  rintro e wb ⟨rfl, bb⟩
  have BB := Lib.hid (BA.out.trans (bb.mono BA.out.size))
  clear bb BA HC
  go_wp2_with fail
  refine (HND.out _ BB.out _ _ _ ns (HN.out _ BB.out)).mono ?_
  rintro e wd (⟨hrp, G, rfl, hG, hbs, bd⟩ | ⟨hrp, rfl, bd⟩)
  rotate_left
  · have BD := Lib.hid (BB.out.trans (bd.mono BB.out.size))
    clear bd BB hrp HND
    go_wp2
    go_ret
    exact ⟨rfl, BD.out⟩
  have BD := Lib.hid (BB.out.trans (bd.mono BB.out.size))
  have HSL : Hid ((spreadP bs ns gap).length = m) := Lib.hid (by rw [spreadP_len]; exact HZL.out)
  have HBS := Lib.hid hbs
  have HRP := Lib.hid hrp
  clear bd BB hbs hG hrp HND
  have HGT := Lib.hid (fun i b (hb : bs[i]? = some b) => spreadP_get HRP.out i b hb)
  generalize spreadP bs ns gap = T at *
  go_wp2
  go_loopw [10] (fun s10 X => ∃ i : Nat, i ≤ m ∧ s10 = .int .i64 (i : Int) ∧ Hid (Below wd.heap.size wd X)) (fun s10 _ => m - (intOf s10).toNat)
  case atStart => exact ⟨0, Nat.zero_le _, rfl, Lib.hid (Below.refl _ _)⟩
  case round =>
    obtain ⟨i, hi, rfl, HX⟩ := hrel
    by_cases hlt : i < m
    · obtain ⟨b, hb⟩ : ∃ b, bs[i]? = some b := ⟨_, List.getElem?_eq_getElem (by rw [HZL.out]; exact hlt)⟩
      obtain ⟨b', hb', g1, g2, g3, g4⟩ := HGT.out i b hb
      have HWX := Lib.hid (BD.out.trans (HX.out.mono BD.out.size))
      obtain ⟨g, o, rfl, lg, hc⟩ := (HZ.out _ HWX.out).at i b hb
      have hBX := HBS.out.below HX.out HBS.out.lt
      have lG := hBX.lt
      obtain ⟨bn, bx, bsh, bt⟩ := b
      obtain ⟨cn, cx, csh, ct⟩ := b'
      dsimp only at g1 g2 g3 g4
      subst g3 g4
      have x0 : wr.cell? ⟨g, o + i * 4, none⟩ = some (.int .i64 bn) := hc 0 _ rfl
      have x1 : wr.cell? ⟨g, o + i * 4 + 1, none⟩ = some (.int .i64 bx) := hc 1 _ rfl
      have x2 : wr.cell? ⟨g, o + i * 4 + 2, none⟩ = some (.int .i64 csh) := hc 2 _ rfl
      have x3 : wr.cell? ⟨g, o + i * 4 + 3, none⟩ = some (.int .i64 ct) := hc 3 _ rfl
      have y0 : wr.cell? ⟨G, i * 4, none⟩ = some (.int .i64 cn) := hBX.cell i _ hb' 0 (by omega)
      have y1 : wr.cell? ⟨G, i * 4 + 1, none⟩ = some (.int .i64 cx) := hBX.cell i _ hb' 1 (by omega)
      have y2 : wr.cell? ⟨G, i * 4 + 2, none⟩ = some (.int .i64 csh) := hBX.cell i _ hb' 2 (by omega)
      have y3 : wr.cell? ⟨G, i * 4 + 3, none⟩ = some (.int .i64 ct) := hBX.cell i _ hb' 3 (by omega)
      have d1 : decide (cn < bn) = false := by simp; omega
      have d2 : decide (cx < bx) = false := by simp; omega
      have d3 : (csh == csh) = true := by simp
      have d4 : (ct == ct) = true := by simp
      have e3 : (csh != csh) = false := by simp
      have e4 : (ct != ct) = false := by simp
      clear hb hb' hc hBX g1 g2
      go_wp2
      go_quiet (fail)
      go_wp2
      go_roundw
      case rel => exact ⟨i + 1, by omega, by go_num, Lib.hid (HX.out.trans (below_dn _ _ _))⟩
      case measure => simp [intOf]; omega
    · go_wp2
      go_ret
      exact ⟨by simp, BD.out.trans (HX.out.mono BD.out.size)⟩

set_option maxRecDepth 100000 in
theorem lifted (os : Os) (started : os.Started) (H : Type) (enc : TypeId × Value → H) :
    ReturnsInHanded {} Try.checked os 6 .any (Rows.spreadKeepsSpec.pre6 enc Try.prog Try.f6 Rows.spreadKeepsRow.domain false) (Rows.spreadKeepsSpec.post enc Try.prog Try.f6 false true false false) := by
  refine returnsInHanded_of_change (C := Try.checked) own started (by kernel_rfl) Try.func6
    (ChangeSpec.witness6 (enc := enc) (C := Try.checked) false ⟨#[], #[.slice none 0 0, .slice none 0 0, .int .i64 0], []⟩ 8 (by kernel_rfl) (by kernel_rfl) (by kernel_rfl) (by kernel_rfl)) ?_
  intro W base args ds gs before hval0 hW hcnd _
  have hval : ∀ (j : Nat) t v, Try.f6.params[j]? = some t → args[j]? = some v → Value.okWide Try.prog W .any base t v := hval0
  have hW' := hW
  obtain ⟨p, q, hA0, hV, rfl, hfz, hnd⟩ := hW
  have hA : DataW.TrodAll enc Try.prog W 0 (fun _ => true) true Try.f6.params.toList args.toList ds p := hA0
  rw [Try.params6] at hA hval
  obtain ⟨v0, vs0, d0, ds0, p0, q0, hargs, rfl, rfl, h0, r0⟩ := trodAll_cons hA
  obtain ⟨v1, vs1, d1, ds1, p1, q1, rfl, rfl, rfl, h1, r1⟩ := trodAll_cons r0
  obtain ⟨v2, vs2, d2, ds2, p2, q2, rfl, rfl, rfl, h2, r2⟩ := trodAll_cons r1
  obtain ⟨rfl, rfl, rfl⟩ := trodAll_nil r2
  obtain rfl : args = #[v0, v1, v2] := by cases args; simp_all
  obtain ⟨rfl, rfl⟩ := trodVars_none hV
  obtain ⟨a0, len0, cap0, rfl⟩ := okWide_slice Try.underlying22 (hval 0 22 v0 rfl rfl)
  have k0 := h0
  have lt0 : ∀ x ∈ p0, x.block < W.heap.size := by obtain ⟨m, hm⟩ := k0; exact DataW.trod_lt m _ _ _ hm
  obtain ⟨z0, w0⟩ : ∃ zs, BandArg W a0 len0 cap0 zs := by
    obtain ⟨fuel, hf⟩ := h0
    exact open_bands (by simpa [Value.cells] using hf)
  obtain ⟨a1, len1, cap1, rfl⟩ := okWide_slice Try.underlying23 (hval 1 23 v1 rfl rfl)
  have k1 := h1
  have lt1 : ∀ x ∈ p1, x.block < W.heap.size := by obtain ⟨m, hm⟩ := k1; exact DataW.trod_lt m _ _ _ hm
  obtain ⟨z1, w1⟩ : ∃ zs, NeedArg W a1 len1 cap1 zs := by
    obtain ⟨fuel, hf⟩ := h1
    exact open_needs (by simpa [Value.cells] using hf)
  obtain ⟨a2, rfl, rfl, rfl, w2⟩ := open_int Try.underlying2 (hval 2 2 v2 rfl rfl) h2
  clear hA0 hval0
  simp only [List.append_nil] at hW'
  refine (walk W a0 len0 cap0 z0 w0 a1 len1 cap1 z1 w1 a2 w2).mono fun e W' ⟨he, hg⟩ => ?_
  subst he
  exact ⟨_, rfl, _, _, _, [], _, [], hW', (trodAll_cons_mk (shut_bool Try.underlying4 _) trodAll_mk0), (trodAll_cons_mk (Below.trod laidOut (by kernel_rfl) (of_decide_eq_true (by kernel_rfl)) k0 hg lt0) (trodAll_cons_mk (Below.trod laidOut (by kernel_rfl) (of_decide_eq_true (by kernel_rfl)) k1 hg lt1) (trodAll_cons_mk (shut_int Try.underlying2 w2) trodAll_mk0))), rfl, hg.frame _, fun h => by cases h⟩

theorem over : Rows.spreadKeepsRow.holds Try.pinned (OpenSpec.ofChange Rows.spreadKeepsSpec) :=
  OpenClaim.holds_of_wide 6 Try.f6 rfl rfl rfl rfl rfl rfl rfl ⟨rfl, rfl, rfl, rfl, rfl⟩ rfl rfl rfl rfl rfl (by kernel_rfl) Try.func6 (by kernel_rfl)
    (of_decide_eq_true (by kernel_rfl)) (by unfold Func.isWrapper; first | (rw [if_pos (by decide +kernel)]; kernel_rfl) | (rw [if_neg (by decide +kernel)]; exact ⟨rfl, rfl⟩))
    (fun os started H enc _ => lifted os started H enc)

/-- the statement -/
theorem proved : Rows.SpreadKeepsSaid :=
  over
#print axioms proved
end Go.Proofs.Ytejbngjeleiacaa.spreadKeeps
