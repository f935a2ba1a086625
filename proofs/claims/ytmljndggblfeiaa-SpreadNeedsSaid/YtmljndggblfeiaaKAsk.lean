/- Contracts of columns.rightNeed, of the closures that Right and chosen go by, and of columns.asked and settled. -/
/- Contracts of columns.asked, settled, ofOneColumn, and of Right's closure. -/
import Derived.Test.YtmljndggblfeiaaKSize
import Derived.Laws.ResultCell
namespace Go.Proofs.Ytmljndggblfeiaa
open Go.RowKit Go.Shelf
set_option linter.unusedVariables false
set_option linter.unusedSimpArgs false

set_option maxRecDepth 100000 in
set_option maxHeartbeats 2000000 in
theorem need_any (m : Nat) (hm : m ≤ 10000) (s : Ne) (W : World) :
    Calls Try.prog 52 #[s.val, .int .i64 (m : Int)] W fun e W' => e = .returned (.bool (neB m s)) ∧ Below W.heap.size W W' := by
  obtain ⟨nd, ro, co, rs, cs, mn, mx, ⟨wk, wn⟩⟩ := s
  obtain ⟨M, hM⟩ : ∃ M : Int, (m : Int) = M := ⟨_, rfl⟩
  have hM1 : 0 ≤ M := by omega
  have hM2 : M ≤ 10000 := by omega
  rw [hM]
  clear hM
  unfold Ne.val
  dsimp only
  have H1 := Lib.hid (fun sv X hI => within_any_k 1 M sv [cs] X hI)
  have H2 := Lib.hid (fun sv X hI => within_any_k 0 (M - cs) sv [co] X hI)
  have H3 := Lib.hid (fun sv X hI => within_any 0 1125899906842623 sv [mn, mx] X hI)
  have H4 := Lib.hid (fun X => comp_any ⟨wk, wn⟩ X)
  rw [within_one] at H1 H2
  rw [within_two] at H3
  obtain ⟨b, hb⟩ : ∃ b, neB M ⟨nd, ro, co, rs, cs, mn, mx, ⟨wk, wn⟩⟩ = b := ⟨_, rfl⟩
  rw [hb]
  unfold neB at hb
  dsimp only at hb
  unfold Sz.val at H4
  dsimp only at H4
  obtain ⟨q1, h1⟩ : ∃ q, (decide (1 ≤ cs) && decide (cs ≤ M)) = q := ⟨_, rfl⟩
  obtain ⟨q2, h2⟩ : ∃ q, (decide (0 ≤ co) && decide (co ≤ M - cs)) = q := ⟨_, rfl⟩
  obtain ⟨q3, h3⟩ : ∃ q, (decide (0 ≤ mn) && decide (mn ≤ 1125899906842623) && (decide (0 ≤ mx) && decide (mx ≤ 1125899906842623))) = q := ⟨_, rfl⟩
  obtain ⟨q4, h4⟩ : ∃ q, szB ⟨wk, wn⟩ = q := ⟨_, rfl⟩
  rw [h1] at H1 hb
  rw [h2] at H2 hb
  rw [h3] at H3 hb
  rw [h4] at H4 hb
  have HB := Lib.hid hb
  clear hb h2 h3 h4
  cases q1 with
  | false =>
    clear H2 H3 H4 h1
    go_enter Try.func52, Try.ntmps52
    go_wp2_with fail
    refine (H1.out _ _ (Ints.whole (t := 3) (whole_new _ _ _ _ (by simp)) rfl (by simp))).mono ?_
    rintro e w1 ⟨rfl, hb1⟩
    have HB1 := Lib.hid ((((Below.refl _ W).alloc (Nat.le_refl _) _).alloc (by simp) _).trans (hb1.mono (by simp <;> omega)))
    clear hb1
    go_wp2
    go_ret
    exact ⟨by rw [← HB.out]; rfl, HB1.out⟩
  | true =>
    have hc1 : 1 ≤ cs ∧ cs ≤ M := by simpa using h1
    obtain ⟨hc1, hc2⟩ := hc1
    clear h1
    cases q2 with
    | false =>
      clear H3 H4
      go_enter Try.func52, Try.ntmps52
      go_wp2_with fail
      refine (H1.out _ _ (Ints.whole (t := 3) (whole_new _ _ _ _ (by simp)) rfl (by simp))).mono ?_
      rintro e w1 ⟨rfl, hb1⟩
      have kr := Whole.below (g := W.heap.size) (t := 37) (xs := _) ((whole_new W _ _ _ rfl).alloc _) hb1 (by simp <;> omega)
      have c2 := kr.cellAt 2
      have c4 := kr.cellAt 4
      have l1 := kr.lt
      have HB1 := Lib.hid ((((Below.refl _ W).alloc (Nat.le_refl _) _).alloc (by simp) _).trans (hb1.mono (by simp <;> omega)))
      clear hb1 kr
      go_wp2_with fail
      refine (H2.out _ _ (Ints.whole (t := 3) (whole_new _ _ _ _ (by simp)) rfl (by simp))).mono ?_
      rintro e w2 ⟨rfl, hb2⟩
      have HB2 := Lib.hid ((HB1.out.alloc HB1.out.size _).trans (hb2.mono (by have := HB1.out.size; simp <;> omega)))
      clear hb2 HB1
      go_wp2
      go_ret
      exact ⟨by rw [← HB.out]; rfl, HB2.out⟩
    | true =>
      cases q3 with
      | false =>
        clear H4
        go_enter Try.func52, Try.ntmps52
        go_wp2_with fail
        refine (H1.out _ _ (Ints.whole (t := 3) (whole_new _ _ _ _ (by simp)) rfl (by simp))).mono ?_
        rintro e w1 ⟨rfl, hb1⟩
        have kr := Whole.below (g := W.heap.size) (t := 37) (xs := _) ((whole_new W _ _ _ rfl).alloc _) hb1 (by simp <;> omega)
        have c2 := kr.cellAt 2
        have c4 := kr.cellAt 4
        have l1 := kr.lt
        have KR := Lib.hid kr
        have HB1 := Lib.hid ((((Below.refl _ W).alloc (Nat.le_refl _) _).alloc (by simp) _).trans (hb1.mono (by simp <;> omega)))
        clear hb1 kr
        go_wp2_with fail
        refine (H2.out _ _ (Ints.whole (t := 3) (whole_new _ _ _ _ (by simp)) rfl (by simp))).mono ?_
        rintro e w2 ⟨rfl, hb2⟩
        have kr := Whole.below (KR.out.alloc _) hb2 (by simp <;> omega)
        clear c2 c4 l1 KR
        have c5 := kr.cellAt 5
        have c6 := kr.cellAt 6
        have l1 := kr.lt
        have HB2 := Lib.hid ((HB1.out.alloc HB1.out.size _).trans (hb2.mono (by have := HB1.out.size; simp <;> omega)))
        clear hb2 HB1 kr
        go_wp2_with fail
        refine (H3.out _ _ (Ints.whole (t := 2) (whole_new _ _ _ _ (by simp)) rfl (by simp))).mono ?_
        rintro e w3 ⟨rfl, hb3⟩
        have HB3 := Lib.hid ((HB2.out.alloc HB2.out.size _).trans (hb3.mono (by have := HB2.out.size; simp <;> omega)))
        clear hb3 HB2
        go_wp2
        go_ret
        exact ⟨by rw [← HB.out]; rfl, HB3.out⟩
      | true =>
        by_cases hmn : mn ≤ mx
        · have HQ : Hid (b = q4) := Lib.hid (by rw [← HB.out]; simp [hmn])
          clear HB
          go_enter Try.func52, Try.ntmps52
          go_wp2_with fail
          refine (H1.out _ _ (Ints.whole (t := 3) (whole_new _ _ _ _ (by simp)) rfl (by simp))).mono ?_
          rintro e w1 ⟨rfl, hb1⟩
          have kr := Whole.below (g := W.heap.size) (t := 37) (xs := _) ((whole_new W _ _ _ rfl).alloc _) hb1 (by simp <;> omega)
          have c2 := kr.cellAt 2
          have c4 := kr.cellAt 4
          have l1 := kr.lt
          have KR := Lib.hid kr
          have HB1 := Lib.hid ((((Below.refl _ W).alloc (Nat.le_refl _) _).alloc (by simp) _).trans (hb1.mono (by simp <;> omega)))
          clear hb1 kr
          go_wp2_with fail
          refine (H2.out _ _ (Ints.whole (t := 3) (whole_new _ _ _ _ (by simp)) rfl (by simp))).mono ?_
          rintro e w2 ⟨rfl, hb2⟩
          have kr := Whole.below (KR.out.alloc _) hb2 (by simp <;> omega)
          clear c2 c4 l1 KR
          have c5 := kr.cellAt 5
          have c6 := kr.cellAt 6
          have l1 := kr.lt
          have KR := Lib.hid kr
          have HB2 := Lib.hid ((HB1.out.alloc HB1.out.size _).trans (hb2.mono (by have := HB1.out.size; simp <;> omega)))
          clear hb2 HB1 kr
          go_wp2_with fail
          refine (H3.out _ _ (Ints.whole (t := 2) (whole_new _ _ _ _ (by simp)) rfl (by simp))).mono ?_
          rintro e w3 ⟨rfl, hb3⟩
          have kr := Whole.below (KR.out.alloc _) hb3 (by simp <;> omega)
          clear c5 c6 l1 KR
          have c5 := kr.cellAt 5
          have c6 := kr.cellAt 6
          have c7 := kr.cellAt 7
          have c8 := kr.cellAt 8
          have l1 := kr.lt
          have HB3 := Lib.hid ((HB2.out.alloc HB2.out.size _).trans (hb3.mono (by have := HB2.out.size; simp <;> omega)))
          clear hb3 HB2 kr
          go_wp2_with fail
          refine (H4.out _).mono ?_
          rintro e w4 ⟨rfl, hb4⟩
          have HB4 := Lib.hid (HB3.out.trans (hb4.mono HB3.out.size))
          clear hb4 HB3
          go_wp2
          go_ret
          exact ⟨by rw [HQ.out]; rfl, HB4.out⟩
        · have HQ : Hid (b = false) := Lib.hid (by rw [← HB.out]; simp [hmn])
          clear HB H4
          go_enter Try.func52, Try.ntmps52
          go_wp2_with fail
          refine (H1.out _ _ (Ints.whole (t := 3) (whole_new _ _ _ _ (by simp)) rfl (by simp))).mono ?_
          rintro e w1 ⟨rfl, hb1⟩
          have kr := Whole.below (g := W.heap.size) (t := 37) (xs := _) ((whole_new W _ _ _ rfl).alloc _) hb1 (by simp <;> omega)
          have c2 := kr.cellAt 2
          have c4 := kr.cellAt 4
          have l1 := kr.lt
          have KR := Lib.hid kr
          have HB1 := Lib.hid ((((Below.refl _ W).alloc (Nat.le_refl _) _).alloc (by simp) _).trans (hb1.mono (by simp <;> omega)))
          clear hb1 kr
          go_wp2_with fail
          refine (H2.out _ _ (Ints.whole (t := 3) (whole_new _ _ _ _ (by simp)) rfl (by simp))).mono ?_
          rintro e w2 ⟨rfl, hb2⟩
          have kr := Whole.below (KR.out.alloc _) hb2 (by simp <;> omega)
          clear c2 c4 l1 KR
          have c5 := kr.cellAt 5
          have c6 := kr.cellAt 6
          have l1 := kr.lt
          have KR := Lib.hid kr
          have HB2 := Lib.hid ((HB1.out.alloc HB1.out.size _).trans (hb2.mono (by have := HB1.out.size; simp <;> omega)))
          clear hb2 HB1 kr
          go_wp2_with fail
          refine (H3.out _ _ (Ints.whole (t := 2) (whole_new _ _ _ _ (by simp)) rfl (by simp))).mono ?_
          rintro e w3 ⟨rfl, hb3⟩
          have kr := Whole.below (KR.out.alloc _) hb3 (by simp <;> omega)
          clear c5 c6 l1 KR
          have c5 := kr.cellAt 5
          have c6 := kr.cellAt 6
          have l1 := kr.lt
          have HB3 := Lib.hid ((HB2.out.alloc HB2.out.size _).trans (hb3.mono (by have := HB2.out.size; simp <;> omega)))
          clear hb3 HB2 kr
          go_wp2
          go_ret
          exact ⟨by rw [HQ.out]; rfl, HB3.out⟩
end Go.Proofs.Ytmljndggblfeiaa

namespace Go.Proofs.Ytmljndggblfeiaa
open Go.RowKit Go.Shelf
set_option linter.unusedVariables false
set_option linter.unusedSimpArgs false

theorem results_baK {fn : Func} {W : World} {g n : Nat} {x y u v : Value} {tmps : Array Value} (hf : fn.results = #[.cell n 39]) (ht : tmps.getD n undef = .pointer (some ⟨g, 0, none⟩)) (h : Whole W g 39 [x, y, u, v]) :
    (results fn tmps).run Try.prog W = .ok (.agg #[x, y, u, v]) W :=
  results_cell_row hf tmps W g 39 #[x, y, u, v] (0, 0) _ ht h Try.underlying39 rfl (by kernel_rfl)
set_option maxHeartbeats 400000 in
theorem wrong_any (m : Nat) (hm : m ≤ 10000) (g : Nat) (p : Option Addr) (c : Nat) (s : Ne) (W : World) (hg : W.cell? ⟨g, 0, none⟩ = some (.slice p m c)) :
    Calls Try.prog 51 #[s.val, .pointer (some ⟨g, 0, none⟩)] W fun e W' => e = .returned (.bool (!neB m s)) ∧ Below W.heap.size W W' := by
  have HN := Lib.hid (fun X => need_any m hm s X)
  obtain ⟨b, hb⟩ : ∃ b, neB m s = b := ⟨_, rfl⟩
  rw [hb] at HN ⊢
  clear hb
  obtain ⟨nd, ro, co, rs, cs, mn, mx, ⟨wk, wn⟩⟩ := s
  unfold Ne.val at *
  dsimp only at *
  have lg := cell_lt hg
  go_enter Try.func51, Try.ntmps51
  go_wp2_with fail
  refine (HN.out _).mono ?_
  rintro e w' ⟨rfl, hb1⟩
  have HB := Lib.hid hb1
  clear hb1
  go_wp2
  go_ret
  exact ⟨by first | rfl | (simp; done), ((Below.refl _ _).alloc (Nat.le_refl _) _).trans (HB.out.mono (by simp))⟩
theorem chosen_any (f : Nat) (bd : Array Value) (p : Option Addr) (m c : Nat) (w : World) : Calls Try.prog 53 #[.func (.func f) #[] bd, .slice p m c] w fun e w' => e = .returned (.func (.func 73) #[] #[.pointer (some ⟨w.heap.size + 1, 0, none⟩), .pointer (some ⟨w.heap.size, 0, none⟩)]) ∧
      w' = (w.alloc (.cells #[.func (.func f) #[] bd] 66)).alloc (.cells #[.slice p m c] 23) := by
  go_enter Try.func53, Try.ntmps53
  go_wp2
  go_ret
  exact ⟨rfl, rfl⟩
end Go.Proofs.Ytmljndggblfeiaa
