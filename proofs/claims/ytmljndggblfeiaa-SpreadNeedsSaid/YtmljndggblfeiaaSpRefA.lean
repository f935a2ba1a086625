/- The document's answers Part, RightBands and Right of layers 13 and 14. Written by mk_SpRefA.py. -/
import Derived.Test.YtmljndggblfeiaaSpOver
import Derived.Test.YtmljndggblfeiaaKApp
import Derived.Test.YtmljndggblfeiaaKRef
namespace Go.Proofs.Ytmljndggblfeiaa
open Go.RowKit Go.Shelf
set_option linter.unusedVariables false
set_option linter.unusedSimpArgs false
attribute [local go_sem] Oper.semAt_some

set_option maxRecDepth 100000 in
set_option maxHeartbeats 1000000 in
theorem refPart_any14 (n gap c : Int) (W : World) (n1 : -9223372036854775808 ≤ n) (n2 : n ≤ 9223372036854775807) (g1 : -9223372036854775808 ≤ gap) (g2 : gap ≤ 9223372036854775807) (c1 : -9223372036854775808 ≤ c) (c2 : c ≤ 9223372036854775807) :
    Calls Try.prog 41 #[.int .i64 n, .int .i64 gap, .int .i64 c] W fun e W' => e = .returned (.int .i64 (partP n gap c)) ∧ W = W' := by
  by_cases hc : c < 1
  · have HE : Hid (partP n gap c = n) := Lib.hid (by unfold partP; rw [if_pos hc])
    go_enter Try.func41, Try.ntmps41
    go_wp2
    go_ret
    exact ⟨by rw [HE.out]; rfl, rfl⟩
  · have HE : Hid (partP n gap c = max 0 (sat (n - sat (gap * (c - 1))))) := Lib.hid (by unfold partP; rw [if_neg hc])
    have hwr : IntKind.i64.wrap (c - 1) = c - 1 := by rw [IntKind.wrap_i64]; omega
    have HM := Lib.hid (refMul_any gap (c - 1) W g1 g2 (by omega) (by omega))
    obtain ⟨q, hq⟩ : ∃ q, q = sat (gap * (c - 1)) := ⟨_, rfl⟩
    rw [← hq] at HM HE
    have HS := Lib.hid (refSub_any n q W n1 n2 (by rw [hq]; exact sat_lo _) (by rw [hq]; exact sat_hi _))
    obtain ⟨u, hu⟩ : ∃ u, u = sat (n - q) := ⟨_, rfl⟩
    rw [← hu] at HS HE
    obtain ⟨r, hr⟩ : ∃ r, r = max 0 u := ⟨_, rfl⟩
    rw [← hr] at HE
    have HRR := Lib.hid hr
    clear hq hu hr
    go_enter Try.func41, Try.ntmps41
    go_wp2_with fail
    refine HM.out.mono ?_
    rintro e w1 ⟨rfl, rfl⟩
    clear HM
    go_wp2_with fail
    refine HS.out.mono ?_
    rintro e w1 ⟨rfl, rfl⟩
    clear HS
    go_wp2
    all_goals go_ret
    all_goals exact ⟨by rw [HE.out, HRR.out]; first | rfl | (congr 2; omega), rfl⟩

set_option maxRecDepth 100000 in
set_option maxHeartbeats 4000000 in
theorem refRightBands_any (p : Option Addr) (m c : Nat) (bs : List Ba) (W : World) (hb : RowsK Ba.cells 4 W (.slice p m c) bs) :
    Calls Try.prog 37 #[.slice p m c] W fun e X => e = .returned (.bool (decide (m ≤ 10000) && bs.all baB)) ∧ Below W.heap.size W X := by
  have hl := hb.len
  have hm1 : m ≤ 9223372036854775807 := by have := hb.1; omega
  by_cases hm : 10000 < m
  · have hr : Hid (decide (m ≤ 10000) = false) := Lib.hid (decide_eq_false (by omega))
    clear hb hl
    go_enter Try.func37, Try.ntmps37
    go_wp2
    go_ret
    exact ⟨by rw [hr.out]; rfl, Below.refl _ _⟩
  have HR : Hid (decide (m ≤ 10000) = true) := Lib.hid (decide_eq_true (by omega))
  have HAT := Lib.hid (fun X (hX : Below W.heap.size W X) k s h => (hb.below hX).at k s h)
  have HL := Lib.hid hl
  clear hb hl
  go_enter Try.func37, Try.ntmps37
  go_wp2
  go_loopw [3] (fun s3 X => ∃ i : Nat, i ≤ m ∧ s3 = .int .i64 (i : Int) ∧ Hid ((bs.take i).all baB = true) ∧ Hid (Below W.heap.size W X)) (fun s3 _ => m - (intOf s3).toNat)
  case atStart => exact ⟨0, Nat.zero_le _, rfl, Lib.hid (by simp), Lib.hid (Below.refl _ _)⟩
  case round =>
    obtain ⟨i, hi, rfl, HAL, HX⟩ := hrel
    by_cases hlt : i < m
    · obtain ⟨s, hs⟩ : ∃ s, bs[i]? = some s := ⟨_, List.getElem?_eq_getElem (by rw [HL.out]; exact hlt)⟩
      obtain ⟨b, off, rfl, lb, hc⟩ := HAT.out _ HX.out i s hs
      have HST := Lib.hid (fun h => all_step baB bs i s hs h HAL.out)
      have HMI := Lib.hid (fun h => all_miss baB bs i s hs h)
      obtain ⟨mn, mx, sh, wt⟩ := s
      have q0 : wr.cell? ⟨b, off + i * 4, none⟩ = some (.int .i64 mn) := hc 0 _ rfl
      have q1 : wr.cell? ⟨b, off + i * 4 + 1, none⟩ = some (.int .i64 mx) := hc 1 _ rfl
      have q2 : wr.cell? ⟨b, off + i * 4 + 2, none⟩ = some (.int .i64 sh) := hc 2 _ rfl
      have q3 : wr.cell? ⟨b, off + i * 4 + 3, none⟩ = some (.int .i64 wt) := hc 3 _ rfl
      clear hs hc
      by_cases h0 : mn < 0
      · have HF : Hid (bs.all baB = false) := Lib.hid (HMI.out (by unfold baB; exact decide_eq_false (by dsimp only; omega)))
        have d0 : decide (mn < 0) = true := decide_eq_true h0
        clear HMI HST HAL
        go_wp2
        go_ret
        exact ⟨by rw [HF.out]; simp, HX.out.alloc HX.out.size _⟩
      · skip
        by_cases h1 : mx < mn
        · have HF : Hid (bs.all baB = false) := Lib.hid (HMI.out (by unfold baB; exact decide_eq_false (by dsimp only; omega)))
          have d0 : decide (mn < 0) = false := decide_eq_false h0
          have d1 : decide (mx < mn) = true := decide_eq_true h1
          clear HMI HST HAL
          go_wp2
          go_ret
          exact ⟨by rw [HF.out]; simp, HX.out.alloc HX.out.size _⟩
        · skip
          by_cases h2 : 1125899906842623 < mx
          · have HF : Hid (bs.all baB = false) := Lib.hid (HMI.out (by unfold baB; exact decide_eq_false (by dsimp only; omega)))
            have d0 : decide (mn < 0) = false := decide_eq_false h0
            have d1 : decide (mx < mn) = false := decide_eq_false h1
            have d2 : decide (1125899906842623 < mx) = true := decide_eq_true h2
            clear HMI HST HAL
            go_wp2
            go_ret
            exact ⟨by rw [HF.out]; simp, HX.out.alloc HX.out.size _⟩
          · skip
            by_cases h3 : sh < -1
            · have HF : Hid (bs.all baB = false) := Lib.hid (HMI.out (by unfold baB; exact decide_eq_false (by dsimp only; omega)))
              have d0 : decide (mn < 0) = false := decide_eq_false h0
              have d1 : decide (mx < mn) = false := decide_eq_false h1
              have d2 : decide (1125899906842623 < mx) = false := decide_eq_false h2
              have d3 : decide (sh < -1) = true := decide_eq_true h3
              clear HMI HST HAL
              go_wp2
              go_ret
              exact ⟨by rw [HF.out]; simp, HX.out.alloc HX.out.size _⟩
            · skip
              by_cases h4 : 10000000 < sh
              · have HF : Hid (bs.all baB = false) := Lib.hid (HMI.out (by unfold baB; exact decide_eq_false (by dsimp only; omega)))
                have d0 : decide (mn < 0) = false := decide_eq_false h0
                have d1 : decide (mx < mn) = false := decide_eq_false h1
                have d2 : decide (1125899906842623 < mx) = false := decide_eq_false h2
                have d3 : decide (sh < -1) = false := decide_eq_false h3
                have d4 : decide (10000000 < sh) = true := decide_eq_true h4
                clear HMI HST HAL
                go_wp2
                go_ret
                exact ⟨by rw [HF.out]; simp, HX.out.alloc HX.out.size _⟩
              · skip
                by_cases h5 : wt < -1
                · have HF : Hid (bs.all baB = false) := Lib.hid (HMI.out (by unfold baB; exact decide_eq_false (by dsimp only; omega)))
                  have d0 : decide (mn < 0) = false := decide_eq_false h0
                  have d1 : decide (mx < mn) = false := decide_eq_false h1
                  have d2 : decide (1125899906842623 < mx) = false := decide_eq_false h2
                  have d3 : decide (sh < -1) = false := decide_eq_false h3
                  have d4 : decide (10000000 < sh) = false := decide_eq_false h4
                  have d5 : decide (wt < -1) = true := decide_eq_true h5
                  clear HMI HST HAL
                  go_wp2
                  go_ret
                  exact ⟨by rw [HF.out]; simp, HX.out.alloc HX.out.size _⟩
                · skip
                  by_cases h6 : 1073741824 < wt
                  · have HF : Hid (bs.all baB = false) := Lib.hid (HMI.out (by unfold baB; exact decide_eq_false (by dsimp only; omega)))
                    have d0 : decide (mn < 0) = false := decide_eq_false h0
                    have d1 : decide (mx < mn) = false := decide_eq_false h1
                    have d2 : decide (1125899906842623 < mx) = false := decide_eq_false h2
                    have d3 : decide (sh < -1) = false := decide_eq_false h3
                    have d4 : decide (10000000 < sh) = false := decide_eq_false h4
                    have d5 : decide (wt < -1) = false := decide_eq_false h5
                    have d6 : decide (1073741824 < wt) = true := decide_eq_true h6
                    clear HMI HST HAL
                    go_wp2
                    go_ret
                    exact ⟨by rw [HF.out]; simp, HX.out.alloc HX.out.size _⟩
                  · skip
                    by_cases hs0 : 0 ≤ sh
                    · by_cases hw0 : 0 ≤ wt
                      · have HF : Hid (bs.all baB = false) := Lib.hid (HMI.out (by unfold baB; exact decide_eq_false (by dsimp only; omega)))
                        have d0 : decide (mn < 0) = false := decide_eq_false h0
                        have d1 : decide (mx < mn) = false := decide_eq_false h1
                        have d2 : decide (1125899906842623 < mx) = false := decide_eq_false h2
                        have d3 : decide (sh < -1) = false := decide_eq_false h3
                        have d4 : decide (10000000 < sh) = false := decide_eq_false h4
                        have d5 : decide (wt < -1) = false := decide_eq_false h5
                        have d6 : decide (1073741824 < wt) = false := decide_eq_false h6
                        have e1 : decide (0 ≤ sh) = true := decide_eq_true hs0
                        have e2 : decide (0 ≤ wt) = true := decide_eq_true hw0
                        clear HMI HST HAL
                        go_wp2
                        go_ret
                        exact ⟨by rw [HF.out]; simp, HX.out.alloc HX.out.size _⟩
                      · have HT := Lib.hid (HST.out (by unfold baB; exact decide_eq_true (by dsimp only; omega)))
                        have d0 : decide (mn < 0) = false := decide_eq_false h0
                        have d1 : decide (mx < mn) = false := decide_eq_false h1
                        have d2 : decide (1125899906842623 < mx) = false := decide_eq_false h2
                        have d3 : decide (sh < -1) = false := decide_eq_false h3
                        have d4 : decide (10000000 < sh) = false := decide_eq_false h4
                        have d5 : decide (wt < -1) = false := decide_eq_false h5
                        have d6 : decide (1073741824 < wt) = false := decide_eq_false h6
                        have e1 : decide (0 ≤ sh) = true := decide_eq_true hs0
                        have e2 : decide (0 ≤ wt) = false := decide_eq_false hw0
                        clear HMI HST HAL
                        go_wp2
                        go_roundw
                        case rel => exact ⟨i + 1, by omega, by go_num, HT, Lib.hid (HX.out.alloc HX.out.size _)⟩
                        case measure => simp [intOf]; omega
                    · have HT := Lib.hid (HST.out (by unfold baB; exact decide_eq_true (by dsimp only; omega)))
                      have d0 : decide (mn < 0) = false := decide_eq_false h0
                      have d1 : decide (mx < mn) = false := decide_eq_false h1
                      have d2 : decide (1125899906842623 < mx) = false := decide_eq_false h2
                      have d3 : decide (sh < -1) = false := decide_eq_false h3
                      have d4 : decide (10000000 < sh) = false := decide_eq_false h4
                      have d5 : decide (wt < -1) = false := decide_eq_false h5
                      have d6 : decide (1073741824 < wt) = false := decide_eq_false h6
                      have e1 : decide (0 ≤ sh) = false := decide_eq_false hs0
                      clear HMI HST HAL
                      go_wp2
                      go_roundw
                      case rel => exact ⟨i + 1, by omega, by go_num, HT, Lib.hid (HX.out.alloc HX.out.size _)⟩
                      case measure => simp [intOf]; omega
    · have e : Hid (bs.take i = bs) := Lib.hid (List.take_of_length_le (by have := HL.out; omega))
      have HALL : Hid (bs.all baB = true) := Lib.hid (by rw [← e.out]; exact HAL.out)
      go_wp2
      go_ret
      exact ⟨by rw [HR.out, HALL.out]; rfl, HX.out⟩
set_option maxRecDepth 100000 in
set_option maxHeartbeats 1000000 in
theorem refAuto_any (m : Nat) (hm : m ≤ 10000) (W : World) :
    Calls Try.prog 39 #[.int .i64 m] W fun e X => ∃ p, e = .returned (.slice p m m) ∧ RowsK Sz.cells 2 X (.slice p m m) (List.replicate m ⟨0, 0⟩) ∧ Below W.heap.size W X := by
  have hmk := make_sizes m hm W
  obtain ⟨zc, hzc⟩ : ∃ zc, ((List.replicate m (⟨0, 0⟩ : Sz)).flatMap Sz.cells).toArray = zc := ⟨_, rfl⟩
  rw [hzc] at hmk
  have HZC := Lib.hid hzc
  clear hzc
  go_enter Try.func39, Try.ntmps39
  go_wp2
  go_ret
  refine ⟨_, rfl, ?_, (Below.refl _ W).alloc (Nat.le_refl _) _⟩
  rw [← HZC.out]
  exact RowsK.whole (zs := List.replicate m (⟨0, 0⟩ : Sz)) Sz.cells_len (whole_new W ((List.replicate m (⟨0, 0⟩ : Sz)).flatMap Sz.cells) 35 _ rfl) (m := m) List.length_replicate m (by omega)
set_option maxRecDepth 100000 in
set_option maxHeartbeats 2000000 in
theorem refRight14_any (p q : Option Addr) (m c m' c' : Nat) (bs : List Ba) (ns : List Ne) (gap : Int) (W : World) (hb : RowsK Ba.cells 4 W (.slice p m c) bs) (hn : RowsK Ne.cells 9 W (.slice q m' c') ns) :
    Calls Try.prog 22 #[.slice p m c, .slice q m' c', .int .i64 gap] W fun e X => e = .returned (.bool (rightP bs ns gap)) ∧ Below W.heap.size W X := by
  have hbl := hb.len
  have hnl := hn.len
  have HRB := Lib.hid (refRightBands_any p m c bs W hb)
  have HKR := Lib.hid (fun X (hX : Below W.heap.size W X) p0 (hz : RowsK Sz.cells 2 X (.slice p0 m m) (List.replicate m ⟨0, 0⟩)) => refRight_any p0 q m m m' c' (List.replicate m ⟨0, 0⟩) ns X hz (hn.below hX))
  have HE : Hid (rightP bs ns gap = ((decide (m ≤ 10000) && bs.all baB) && (decide (0 ≤ gap) && (decide (gap ≤ 1073741824) && (decide (m ≤ 100) && (decide (m' ≤ 1000) && rightK (List.replicate m ⟨0, 0⟩) ns)))))) := Lib.hid (by
    unfold rightP
    rw [hbl, hnl]
    by_cases h : m ≤ 100
    · rw [decide_eq_true (show m ≤ 10000 by omega), decide_eq_true h]
      cases decide (0 ≤ gap) <;> cases decide (gap ≤ 1073741824) <;> cases decide (m' ≤ 1000) <;> cases bs.all baB <;> cases rightK (List.replicate m ⟨0, 0⟩) ns <;> rfl
    · rw [decide_eq_false h]
      cases decide (0 ≤ gap) <;> cases decide (gap ≤ 1073741824) <;> simp)
  have HNM : Hid (m' ≤ 9223372036854775807 ∧ m ≤ 9223372036854775807) := Lib.hid (by have := hn.1; have := hb.1; omega)
  generalize (decide (m ≤ 10000) && bs.all baB) = b1 at HE HRB
  generalize rightK (List.replicate m ⟨0, 0⟩) ns = b2 at HE HKR
  clear hb hn hbl hnl
  have hnm := HNM.out
  go_enter Try.func22, Try.ntmps22
  go_wp2_with fail
  refine HRB.out.mono ?_
  rintro e w1 ⟨rfl, hb1⟩
  have B1 := Lib.hid hb1
  clear hb1 HRB
  cases b1 with
  | false =>
    go_wp2
    go_ret
    exact ⟨by rw [HE.out]; rfl, B1.out⟩
  | true =>
    by_cases g0 : gap < 0
    · have d0 : decide (gap < 0) = true := decide_eq_true g0
      have HF : Hid (decide (0 ≤ gap) = false) := Lib.hid (decide_eq_false (by omega))
      go_wp2
      go_ret
      exact ⟨by rw [HE.out, HF.out]; rfl, B1.out⟩
    have d0 : decide (gap < 0) = false := decide_eq_false g0
    have F0 : Hid (decide (0 ≤ gap) = true) := Lib.hid (decide_eq_true (by omega))
    by_cases g1 : 1073741824 < gap
    · have d1 : decide (1073741824 < gap) = true := decide_eq_true g1
      have HF : Hid (decide (gap ≤ 1073741824) = false) := Lib.hid (decide_eq_false (by omega))
      go_wp2
      go_ret
      exact ⟨by rw [HE.out, F0.out, HF.out]; rfl, B1.out⟩
    have d1 : decide (1073741824 < gap) = false := decide_eq_false g1
    have F1 : Hid (decide (gap ≤ 1073741824) = true) := Lib.hid (decide_eq_true (by omega))
    by_cases g2 : (100 : Int) < (m : Int)
    · have d2 : decide ((100 : Int) < (m : Int)) = true := decide_eq_true g2
      have HF : Hid (decide (m ≤ 100) = false) := Lib.hid (decide_eq_false (by omega))
      go_wp2
      go_ret
      exact ⟨by rw [HE.out, F0.out, F1.out, HF.out]; rfl, B1.out⟩
    have d2 : decide ((100 : Int) < (m : Int)) = false := decide_eq_false g2
    have F2 : Hid (decide (m ≤ 100) = true) := Lib.hid (decide_eq_true (by omega))
    by_cases g3 : (1000 : Int) < (m' : Int)
    · have d3 : decide ((1000 : Int) < (m' : Int)) = true := decide_eq_true g3
      have HF : Hid (decide (m' ≤ 1000) = false) := Lib.hid (decide_eq_false (by omega))
      go_wp2
      go_ret
      exact ⟨by rw [HE.out, F0.out, F1.out, F2.out, HF.out]; rfl, B1.out⟩
    have d3 : decide ((1000 : Int) < (m' : Int)) = false := decide_eq_false g3
    have F3 : Hid (decide (m' ≤ 1000) = true) := Lib.hid (decide_eq_true (by omega))
    have HAU := Lib.hid (refAuto_any m (by omega) w1)
    clear g0 g1 g2 g3
    go_wp2_with fail
    refine HAU.out.mono ?_
    rintro e w2 ⟨p2, rfl, hz2, hb2⟩
    have B2 := Lib.hid (B1.out.trans (hb2.mono B1.out.size))
    have HK2 := Lib.hid (HKR.out _ B2.out _ hz2)
    clear hb2 hz2 HAU HKR B1
    go_wp2_with fail
    refine HK2.out.mono ?_
    rintro e w3 ⟨rfl, hb3⟩
    have B3 := Lib.hid (B2.out.trans (hb3.mono B2.out.size))
    clear hb3 HK2 B2
    go_wp2
    go_ret
    exact ⟨by rw [HE.out, F0.out, F1.out, F2.out, F3.out]; simp, B3.out⟩
end Go.Proofs.Ytmljndggblfeiaa
