/- All columns of a cell, and the gaps between them, are at least what the cell needs, for any bands (the first forty), needs (the first hundred), any gap. -/
import Derived.Test.YtejbngjeleiacaaRows
import Derived.WalkKit
import Derived.ProofKit
import Derived.OpenShut
import Derived.Below
import Derived.Test.YtejbngjeleiacaaSpLaw
import Derived.ShutString
namespace Go.Proofs.Ytejbngjeleiacaa.spreadEnough
open Go.ChangeShapes Go.WideShapes Go.ChangeAt Go.RowKit
set_option linter.unusedVariables false

theorem own : ownKnob Try.prog.godebug = none := by kernel_rfl
theorem laidOut : laidOutB Try.prog = true := by kernel_rfl

open Go.Shelf
theorem seg_step (l : List Int) (c k j : Nat) (hc : c + k ≤ l.length) (hj : j < k) : sumZ ((seg l c k).take (j + 1)) = sumZ ((seg l c k).take j) + l[c + j]?.getD 0 := by
  have hl := seg_len l c k hc
  rw [List.take_add_one, sumZ_append, seg_get l c k j hj, List.getElem?_eq_getElem (by omega : c + j < l.length)]
  simp [sumZ_cons, sumZ]
theorem seg_bd (l : List Int) (c k j : Nat) (h : OkW l) (hk : k ≤ 100) : 0 ≤ sumZ ((seg l c k).take j) ∧ sumZ ((seg l c k).take j) ≤ 112589990684262300 := by
  have h1 : OkW ((seg l c k).take j) := fun z hz => seg_ok l c k h z (List.mem_of_mem_take hz)
  have h2 := sumZ_bd _ h1
  have h3 : ((seg l c k).take j).length ≤ 100 := by simp [seg]; omega
  refine ⟨h2.1, ?_⟩
  have : (((seg l c k).take j).length : Int) * 1125899906842623 ≤ 100 * 1125899906842623 := Int.mul_le_mul_of_nonneg_right (by omega) (by omega)
  omega
set_option maxRecDepth 100000 in
set_option maxHeartbeats 8000000 in
theorem walk (w : World) (a0 : Option Addr) (len0 cap0 : Nat) (z0 : List Ba) (w0 : BandArg w a0 len0 cap0 z0) (a1 : Option Addr) (len1 cap1 : Nat) (z1 : List Ne) (w1 : NeedArg w a1 len1 cap1 z1) (gap : Int) (h2 : (Lit.int .i64 gap).wf = true) :
    Calls Try.prog 5 #[.slice a0 len0 cap0, .slice a1 len1 cap1, .int .i64 gap] w fun e w' => e = .returned (.bool true) ∧ Below w.heap.size w w' := by
  obtain ⟨hz, hzl, hz1, hz2, hzw, hzs⟩ := RowArg.take Ba.cells_len (by omega) w0 40
  obtain ⟨hn, hnl, hn1, hn2, hnw, hns⟩ := RowArg.take Ne.cells_len (by omega) w1 100
  have HC := Lib.hid (fun X => cut_s a0 a1 len0 cap0 len1 cap1 X hz1 hz2 hn1 hn2 hzs hns)
  have HS := Lib.hid (fun X => shown14_any X)
  have hml : min len0 40 ≤ 40 := by omega
  have hml2 : min len1 100 ≤ 100 := by omega
  generalize min len0 40 = m at *
  generalize min len1 100 = m' at *
  generalize z0.take 40 = bs at *
  generalize z1.take 100 = ns at *
  have HZ := Lib.hid (fun X (hX : Below w.heap.size w X) => hz.below hX)
  have HN := Lib.hid (fun X (hX : Below w.heap.size w X) => hn.below hX)
  have HZL := Lib.hid hzl
  have HNL := Lib.hid hnl
  have HND := Lib.hid (fun X (hX : Below w.heap.size w X) p k c ls (hb : RowsK Ne.cells 9 X (.slice p k c) ls) => needsF_any a0 p m cap0 k c bs ls gap X (hz.below hX) hb)
  have HG0 := Lib.hid h2
  clear w0 w1 hzw hnw hz1 hn1 hzs hns hz hn hzl hnl hz2 hn2 h2
  go_enter Try.func5, Try.ntmps5
  go_wp2_with fail
  refine (HS.out _).mono ?_
  rintro e wa ⟨rfl, ba⟩
  have BA := Lib.hid ba
  clear ba HS
  go_wp2_with fail
  refine (HC.out _).mono ?_
  rintro e wb ⟨rfl, bb⟩
  have BB := Lib.hid (BA.out.trans (bb.mono BA.out.size))
  clear bb BA HC
  go_wp2_with fail
  refine (HND.out _ BB.out _ _ _ ns (HN.out _ BB.out)).mono ?_
  rintro e wd (⟨hrp, G, rfl, hG, hbs, bd⟩ | ⟨hrp, rfl, bd⟩)
  rotate_left
  · have BD := Lib.hid (BB.out.trans (bd.mono BB.out.size))
    clear bd BB hrp HND
    go_wp2
    go_ret
    exact ⟨rfl, BD.out⟩
  have BD := Lib.hid (BB.out.trans (bd.mono BB.out.size))
  have HSL : Hid ((spreadP bs ns gap).length = m) := Lib.hid (by rw [spreadP_len]; exact HZL.out)
  have HBS := Lib.hid hbs
  have HRP := Lib.hid hrp
  clear bd BB hbs hG hrp HND
  have hrp := HRP.out
  have hri := (rightP_iff _ _ _).1 hrp
  have HHAS := Lib.hid (fun s (hs : s ∈ ns) (h2 : 2 ≤ s.cs) => spreadP_has hrp s hs h2)
  have HNE := Lib.hid (fun s (hs : s ∈ ns) => NdOk.of (gap := gap) (hri.2.2.2.2.2 s hs) hri.2.2.1 hri.2.2.2.1 (by have := HZL.out; omega))
  have hw := spread_wd hrp
  have e0 : wdOf (spreadP bs ns gap) = meetsP gap (wdOf bs) (turnL bs.length ns) := wdOf_in bs _ rfl hw
  rw [← e0] at hw
  have HOL := Lib.hid (show OkW ((spreadP bs ns gap).map (·.mn)) from hw.lk)
  have HOH := Lib.hid (show OkW ((spreadP bs ns gap).map (·.mx)) from hw.hk)
  have hall : (decide ((spreadP bs ns gap).length ≤ 10000) && (spreadP bs ns gap).all baB) = true := by
    rw [Bool.and_eq_true]
    exact ⟨by rw [HSL.out]; simp; omega, List.all_eq_true.2 (spreadP_ok hrp)⟩
  have HRB := Lib.hid (fun X sv h => hall ▸ rightBands_any sv (spreadP bs ns gap) X h)
  have HGP : Hid (0 ≤ gap ∧ gap ≤ 1073741824) := Lib.hid ⟨hri.2.2.1, hri.2.2.2.1⟩
  have HBL : Hid (bs.length = m) := HZL
  rw [HBL.out] at HNE
  clear hrp hri hw e0 hall
  have HLM : Hid (((spreadP bs ns gap).map (·.mn)).length = m ∧ ((spreadP bs ns gap).map (·.mx)).length = m) := Lib.hid (by simp [HSL.out])
  generalize spreadP bs ns gap = T at *
  go_wp2
  go_loopw [10] (fun s10 X => ∃ i : Nat, i ≤ m' ∧ s10 = .int .i64 (i : Int) ∧ Hid (Below wd.heap.size wd X)) (fun s10 _ => m' - (intOf s10).toNat)
  case atStart => exact ⟨0, Nat.zero_le _, rfl, Lib.hid (Below.refl _ _)⟩
  case round =>
    obtain ⟨i, hi, rfl, HX⟩ := hrel
    obtain ⟨V, hV⟩ : ∃ V, V = wr := ⟨_, rfl⟩
    subst hV
    by_cases hlt : i < m'
    · obtain ⟨s, hs⟩ : ∃ s, ns[i]? = some s := ⟨_, List.getElem?_eq_getElem (by rw [HNL.out]; exact hlt)⟩
      have hsm := List.mem_of_getElem? hs
      have hnd := HNE.out s hsm
      have HHS := Lib.hid (HHAS.out s hsm)
      have HWX := Lib.hid (BD.out.trans (HX.out.mono BD.out.size))
      obtain ⟨b, off, rfl, lb, hc⟩ := (HN.out _ HWX.out).at i s hs
      obtain ⟨nd, ro, co, rs, cs, mn, mx, ⟨wk, wn⟩⟩ := s
      have q0 : V.cell? ⟨b, off + i * 9, none⟩ = some (.int .i64 nd) := hc 0 _ rfl
      have q1 : V.cell? ⟨b, off + i * 9 + 1, none⟩ = some (.int .i64 ro) := hc 1 _ rfl
      have q2 : V.cell? ⟨b, off + i * 9 + 2, none⟩ = some (.int .i64 co) := hc 2 _ rfl
      have q3 : V.cell? ⟨b, off + i * 9 + 3, none⟩ = some (.int .i64 rs) := hc 3 _ rfl
      have q4 : V.cell? ⟨b, off + i * 9 + 4, none⟩ = some (.int .i64 cs) := hc 4 _ rfl
      have q5 : V.cell? ⟨b, off + i * 9 + 5, none⟩ = some (.int .i64 mn) := hc 5 _ rfl
      have q6 : V.cell? ⟨b, off + i * 9 + 6, none⟩ = some (.int .i64 mx) := hc 6 _ rfl
      have HXP := Lib.hid (HX.out.alloc HX.out.size (.cells #[.int .i64 nd, .int .i64 ro, .int .i64 co, .int .i64 rs, .int .i64 cs] 37))
      by_cases h2 : cs < 2
      · have d2 : decide (cs < 2) = true := decide_eq_true h2
        clear hs hsm hc HHS hnd HWX
        go_wp2
        go_roundw
        case rel => exact ⟨i + 1, by omega, by go_num, HXP⟩
        case measure => simp [intOf]; omega
      · have d2 : decide (cs < 2) = false := decide_eq_false h2
        obtain ⟨c, rfl⟩ : ∃ c : Nat, co = (c : Int) := ⟨co.toNat, by have := hnd.c0; dsimp only at this; omega⟩
        obtain ⟨k, rfl⟩ : ∃ k : Nat, cs = (k : Int) := ⟨cs.toNat, by omega⟩
        have hcm : c + k ≤ m := by have := hnd.cm; simpa using this
        have hk2 : k ≤ 100 := by omega
        have hgk : 0 ≤ gap * ((k : Int) - 1) ∧ gap * ((k : Int) - 1) ≤ 107374182400 := by
          have hg := HGP.out
          refine ⟨Int.mul_nonneg hg.1 (by omega), ?_⟩
          have : gap * ((k : Int) - 1) ≤ 1073741824 * 100 := Int.mul_le_mul hg.2 (by omega) (by omega) (by omega)
          omega
        have hhs := HHS.out (by show (2 : Int) ≤ (k : Int); omega)
        simp only [Int.toNat_natCast] at hhs
        have HHF := Lib.hid hhs
        obtain ⟨ga, hga⟩ : ∃ ga, ga = gap * ((k : Int) - 1) := ⟨_, rfl⟩
        rw [← hga] at HHF hgk
        have r1 : IntKind.i64.wrap ((k : Int) - 1) = (k : Int) - 1 := by rw [IntKind.wrap_i64]; omega
        have r2 : IntKind.i64.wrap (gap * ((k : Int) - 1)) = ga := by rw [IntKind.wrap_i64, ← hga]; omega
        have KP : Hid (Whole (V.alloc (.cells #[.int .i64 nd, .int .i64 ro, .int .i64 (c : Int), .int .i64 rs, .int .i64 (k : Int)] 37)) V.heap.size 37 [.int .i64 nd, .int .i64 ro, .int .i64 (c : Int), .int .i64 rs, .int .i64 (k : Int)]) := Lib.hid (whole_new V [.int .i64 nd, .int .i64 ro, .int .i64 (c : Int), .int .i64 rs, .int .i64 (k : Int)] _ _ rfl)
        have HGA := Lib.hid hga
        have HQN := Lib.hid (fun X (hX : Below w.heap.size w X) => (HN.out X hX).at i _ hs)
        clear hs hsm hc HHS hnd hga hhs HWX
        go_wp2
        obtain ⟨W1, hW1⟩ : ∃ W1, V.alloc (.cells #[.int .i64 nd, .int .i64 ro, .int .i64 (c : Int), .int .i64 rs, .int .i64 (k : Int)] 37) = W1 := ⟨_, rfl⟩
        rw [hW1] at KP HXP ⊢
        have HV1 : Hid (Below V.heap.size V W1) := Lib.hid (by rw [← hW1]; exact (Below.refl _ V).alloc (Nat.le_refl _) _)
        have LL : Hid (V.heap.size < W1.heap.size ∧ b < V.heap.size) := Lib.hid ⟨KP.out.lt, lb⟩
        clear hW1 q0 q1 q2 q3 q4 q5 q6
        obtain ⟨bp, hbp⟩ : ∃ bp, bp = V.heap.size := ⟨_, rfl⟩
        rw [← hbp] at KP LL HV1 ⊢
        have HBP := Lib.hid hbp
        clear hbp
        obtain ⟨lo, hlo⟩ : ∃ l, l = T.map (·.mn) := ⟨_, rfl⟩
        obtain ⟨hh, hhh⟩ : ∃ l, l = T.map (·.mx) := ⟨_, rfl⟩
        have HTB := Lib.hid (fun (j : Nat) (b : Ba) (hb : T[j]? = some b) => (⟨by rw [hlo]; exact map_getD T _ j b hb, by rw [hhh]; exact map_getD T _ j b hb⟩ : lo[j]?.getD 0 = b.mn ∧ hh[j]?.getD 0 = b.mx))
        rw [← hlo, ← hhh] at HHF
        have HLL : Hid (lo.length = m ∧ hh.length = m ∧ OkW lo ∧ OkW hh) := Lib.hid (by rw [hlo, hhh]; exact ⟨HLM.out.1, HLM.out.2, HOL.out, HOH.out⟩)
        have HAL : Hid ((seg lo c k).take k = seg lo c k ∧ (seg hh c k).take k = seg hh c k) := Lib.hid ⟨List.take_of_length_le (by rw [seg_len lo c k (by rw [HLL.out.1]; exact hcm)]; exact Nat.le_refl _), List.take_of_length_le (by rw [seg_len hh c k (by rw [HLL.out.2.1]; exact hcm)]; exact Nat.le_refl _)⟩
        clear hlo hhh HHAS HNE
        go_loopw [12, 13, 14] (fun s12 s13 s14 X => ∃ j : Nat, j ≤ k ∧ s12 = .int .i64 (ga + sumZ ((seg lo c k).take j)) ∧ s13 = .int .i64 (ga + sumZ ((seg hh c k).take j)) ∧ s14 = .int .i64 ((c + j : Nat) : Int) ∧ Hid (Below W1.heap.size W1 X)) (fun _ _ s14 _ => c + k - (intOf s14).toNat)
        case atStart => exact ⟨0, Nat.zero_le _, by simp [sumZ], by simp [sumZ], rfl, Lib.hid (Below.refl _ _)⟩
        case round =>
          obtain ⟨j, hj, rfl, rfl, rfl, HY⟩ := hrel
          have KPX := KP.out.below HY.out KP.out.lt
          have o2 := KPX.cellAt 2
          have o4 := KPX.cellAt 4
          have lpx := KPX.lt
          simp only [List.getElem?_cons_zero, List.getElem?_cons_succ] at o2 o4
          have HWY := Lib.hid (HXP.out.trans (HY.out.mono HXP.out.size))
          have r3 : IntKind.i64.wrap ((c : Int) + (k : Int)) = ((c + k : Nat) : Int) := by rw [IntKind.wrap_i64]; omega
          have bl := seg_bd lo c k j HLL.out.2.2.1 hk2
          have bh := seg_bd hh c k j HLL.out.2.2.2 hk2
          clear KPX
          by_cases hjk : j < k
          · obtain ⟨t, ht⟩ : ∃ t, T[c + j]? = some t := ⟨_, List.getElem?_eq_getElem (by rw [HSL.out]; omega)⟩
            have e1 := seg_step lo c k j (by rw [HLL.out.1]; exact hcm) hjk
            have e2 := seg_step hh c k j (by rw [HLL.out.2.1]; exact hcm) hjk
            rw [(HTB.out _ t ht).1] at e1
            rw [(HTB.out _ t ht).2] at e2
            have bl2 := seg_bd lo c k (j + 1) HLL.out.2.2.1 hk2
            have bh2 := seg_bd hh c k (j + 1) HLL.out.2.2.2 hk2
            rw [e1] at bl2
            rw [e2] at bh2
            have hBX := HBS.out.below HWY.out HBS.out.lt
            have lG := hBX.lt
            obtain ⟨tn, tx, ts, tw⟩ := t
            dsimp only at e1 e2 bl2 bh2
            have y0 : wr.cell? ⟨G, (c + j) * 4, none⟩ = some (.int .i64 tn) := hBX.cell _ _ ht 0 (by omega)
            have y1 : wr.cell? ⟨G, (c + j) * 4 + 1, none⟩ = some (.int .i64 tx) := hBX.cell _ _ ht 1 (by omega)
            have S1 := Lib.hid e1
            have S2 := Lib.hid e2
            obtain ⟨va, hva⟩ : ∃ v, v = sumZ ((seg lo c k).take j) := ⟨_, rfl⟩
            obtain ⟨vb, hvb⟩ : ∃ v, v = sumZ ((seg hh c k).take j) := ⟨_, rfl⟩
            rw [← hva] at S1 bl bl2 ⊢
            rw [← hvb] at S2 bh bh2 ⊢
            obtain ⟨cj, hcj⟩ : ∃ q, q = c + j := ⟨_, rfl⟩
            rw [← hcj] at y0 y1 ⊢
            have f1 : ((cj : Nat) : Int) < ((c + k : Nat) : Int) := by omega
            have f2 : cj < c + k := by omega
            have f3 : (cj : Int) < (m : Int) := by omega
            have f4 : cj < m := by omega
            have w1 : IntKind.i64.wrap (ga + va + tn) = ga + (va + tn) := by rw [IntKind.wrap_i64]; omega
            have w2 : IntKind.i64.wrap (ga + vb + tx) = ga + (vb + tx) := by rw [IntKind.wrap_i64]; omega
            have w3 : IntKind.i64.wrap ((cj : Int) + 1) = (cj : Int) + 1 := by rw [IntKind.wrap_i64]; omega
            have HCJ := Lib.hid hcj
            clear e1 e2 bl bh bl2 bh2 ht hBX hva hvb hcj
            go_wp2
            go_roundw
            case rel => exact ⟨j + 1, by omega, by rw [S1.out], by rw [S2.out], by have := HCJ.out; congr 1; omega, Lib.hid HY.out⟩
            case measure => have := HCJ.out; simp [intOf]; omega
          · obtain rfl : k = j := by omega
            rw [HAL.out.1, HAL.out.2]
            obtain ⟨b', off', e', lb', hc'⟩ := HQN.out wr (BD.out.trans (HWY.out.mono BD.out.size))
            simp only [Option.some.injEq, Addr.mk.injEq] at e'
            obtain ⟨rfl, rfl, -⟩ := e'
            have q5 : wr.cell? ⟨b, off + i * 9 + 5, none⟩ = some (.int .i64 mn) := hc' 5 _ rfl
            have q6 : wr.cell? ⟨b, off + i * 9 + 6, none⟩ = some (.int .i64 mx) := hc' 6 _ rfl
            have hf := HHF.out
            obtain ⟨va, hva⟩ : ∃ v, v = sumZ (seg lo c k) := ⟨_, rfl⟩
            obtain ⟨vb, hvb⟩ : ∃ v, v = sumZ (seg hh c k) := ⟨_, rfl⟩
            rw [← hva, ← hvb] at hf
            rw [← hva, ← hvb]
            try dsimp only at hf
            have g1 : decide (ga + va < mn) = false := by simp; omega
            have g2 : decide (ga + vb < mx) = false := by simp; omega
            have f1 : ¬ (((c + k : Nat) : Int) < ((c + k : Nat) : Int)) := by omega
            have HWI : Hid (Below wd.heap.size wd wr) := HWY
            clear hf hva hvb hc' bl bh HQN
            go_wp2
            go_roundw
            case rel => exact ⟨i + 1, by omega, by go_num, HWI⟩
            case measure => simp [intOf]; omega
    · go_wp2_with fail
      refine (HRB.out _ _ ((HBS.out.below HX.out HBS.out.lt).rows HSL.out m (by omega))).mono ?_
      rintro e wf ⟨rfl, bf⟩
      have BF := Lib.hid ((BD.out.trans (HX.out.mono BD.out.size)).trans (bf.mono (by have := BD.out.size; have := HX.out.size; omega)))
      clear bf HRB
      go_wp2
      go_ret
      exact ⟨rfl, BF.out⟩

set_option maxRecDepth 100000 in
theorem lifted (os : Os) (started : os.Started) (H : Type) (enc : TypeId × Value → H) :
    ReturnsInHanded {} Try.checked os 5 .any (Rows.spreadEnoughSpec.pre6 enc Try.prog Try.f5 Rows.spreadEnoughRow.domain false) (Rows.spreadEnoughSpec.post enc Try.prog Try.f5 false true false false) := by
  refine returnsInHanded_of_change (C := Try.checked) own started (by kernel_rfl) Try.func5
    (ChangeSpec.witness6 (enc := enc) (C := Try.checked) false ⟨#[], #[.slice none 0 0, .slice none 0 0, .int .i64 0], []⟩ 8 (by kernel_rfl) (by kernel_rfl) (by kernel_rfl) (by kernel_rfl)) ?_
  intro W base args ds gs before hval0 hW hcnd _
  have hval : ∀ (j : Nat) t v, Try.f5.params[j]? = some t → args[j]? = some v → Value.okWide Try.prog W .any base t v := hval0
  have hW' := hW
  obtain ⟨p, q, hA0, hV, rfl, hfz, hnd⟩ := hW
  have hA : DataW.TrodAll enc Try.prog W 0 (fun _ => true) true Try.f5.params.toList args.toList ds p := hA0
  rw [Try.params5] at hA hval
  obtain ⟨v0, vs0, d0, ds0, p0, q0, hargs, rfl, rfl, h0, r0⟩ := trodAll_cons hA
  obtain ⟨v1, vs1, d1, ds1, p1, q1, rfl, rfl, rfl, h1, r1⟩ := trodAll_cons r0
  obtain ⟨v2, vs2, d2, ds2, p2, q2, rfl, rfl, rfl, h2, r2⟩ := trodAll_cons r1
  obtain ⟨rfl, rfl, rfl⟩ := trodAll_nil r2
  obtain rfl : args = #[v0, v1, v2] := by cases args; simp_all
  obtain ⟨rfl, rfl⟩ := trodVars_none hV
  obtain ⟨a0, len0, cap0, rfl⟩ := okWide_slice Try.underlying22 (hval 0 22 v0 rfl rfl)
  have k0 := h0
  have lt0 : ∀ x ∈ p0, x.block < W.heap.size := by obtain ⟨m, hm⟩ := k0; exact DataW.trod_lt m _ _ _ hm
  obtain ⟨z0, w0⟩ : ∃ zs, BandArg W a0 len0 cap0 zs := by
    obtain ⟨fuel, hf⟩ := h0
    exact open_bands (by simpa [Value.cells] using hf)
  obtain ⟨a1, len1, cap1, rfl⟩ := okWide_slice Try.underlying23 (hval 1 23 v1 rfl rfl)
  have k1 := h1
  have lt1 : ∀ x ∈ p1, x.block < W.heap.size := by obtain ⟨m, hm⟩ := k1; exact DataW.trod_lt m _ _ _ hm
  obtain ⟨z1, w1⟩ : ∃ zs, NeedArg W a1 len1 cap1 zs := by
    obtain ⟨fuel, hf⟩ := h1
    exact open_needs (by simpa [Value.cells] using hf)
  obtain ⟨a2, rfl, rfl, rfl, w2⟩ := open_int Try.underlying2 (hval 2 2 v2 rfl rfl) h2
  clear hA0 hval0
  simp only [List.append_nil] at hW'
  refine (walk W a0 len0 cap0 z0 w0 a1 len1 cap1 z1 w1 a2 w2).mono fun e W' ⟨he, hg⟩ => ?_
  subst he
  exact ⟨_, rfl, _, _, _, [], _, [], hW', (trodAll_cons_mk (shut_bool Try.underlying4 _) trodAll_mk0), (trodAll_cons_mk (Below.trod laidOut (by kernel_rfl) (of_decide_eq_true (by kernel_rfl)) k0 hg lt0) (trodAll_cons_mk (Below.trod laidOut (by kernel_rfl) (of_decide_eq_true (by kernel_rfl)) k1 hg lt1) (trodAll_cons_mk (shut_int Try.underlying2 w2) trodAll_mk0))), rfl, hg.frame _, fun h => by cases h⟩

theorem over : Rows.spreadEnoughRow.holds Try.pinned (OpenSpec.ofChange Rows.spreadEnoughSpec) :=
  OpenClaim.holds_of_wide 5 Try.f5 rfl rfl rfl rfl rfl rfl rfl ⟨rfl, rfl, rfl, rfl, rfl⟩ rfl rfl rfl rfl rfl (by kernel_rfl) Try.func5 (by kernel_rfl)
    (of_decide_eq_true (by kernel_rfl)) (by unfold Func.isWrapper; first | (rw [if_pos (by decide +kernel)]; kernel_rfl) | (rw [if_neg (by decide +kernel)]; exact ⟨rfl, rfl⟩))
    (fun os started H enc _ => lifted os started H enc)

/-- the statement -/
theorem proved : Rows.SpreadEnoughSaid :=
  over
#print axioms proved
end Go.Proofs.Ytejbngjeleiacaa.spreadEnough
