/- The contract of contest.Winner for every list of sides; what the laws' shown answers. -/
import Derived.Test.YtmcgieameodkbaaCWinner
namespace Go.Proofs.Ytmcgieameodkbaa
open Go.RowKit Go.Shelf Go.Sort
set_option linter.unusedVariables false
set_option linter.unusedSimpArgs false

theorem winner_any (p : Option Addr) (m c : Nat) (zs : List Si) (w : World) (hz : Sides w (.slice p m c) zs) (hm : zs.length = m) (hc : m ≤ c) (hcx : c ≤ 9223372036854775807) (hh : ∀ x ∈ zs, x.hue) :
    Calls Try.prog 16 #[.slice p m c] w fun e W' => e = .returned (.tuple #[(winR zs).1.val, .int .i64 (winR zs).2]) ∧ Below w.heap.size w W' := by
  cases zs with
  | nil =>
    obtain rfl : 0 = m := by simpa using hm
    exact winner_none p c w
  | cons s r =>
    cases hb : (s :: r).all rightS with
    | false =>
      have e : winR (s :: r) = (Si.zero, 110) := by simp only [winR, hb]; rfl
      rw [e]
      exact winner_bad p m c (s :: r) w hz hm (by simp at hm; omega) hb
    | true =>
      have e : winR (s :: r) = (winF s r, 0) := by simp only [winR, hb]; rfl
      rw [e]
      obtain ⟨b, off, rfl, _, _⟩ := hz.at 0 s rfl
      exact winner_main b off m c s r w hz hm hc hcx hb hh
def shTwo : Si := ⟨3, 2, 0, 0, 0, 0⟩
def shOne : Si := ⟨2, 1, 0, 0, 0, 0⟩
def shNone : Si := ⟨1, 0, 0, 5, 0, 0⟩
theorem sh_one : winR [shTwo, shOne, shNone] = (shNone, 0) := by decide +kernel
theorem sh_two : winR [shOne, shTwo] = (shTwo, 0) := by decide +kernel
theorem sides_three {W : World} {g t : Nat} {a b c : Si} (h : Whole W g t (a.cells ++ b.cells ++ c.cells)) : Sides W (.slice (some ⟨g, 0, none⟩) 3 3) [a, b, c] :=
  Sides.whole (t := t) (by simpa using h) rfl (by omega)
set_option maxRecDepth 100000 in
set_option maxHeartbeats 4000000 in
theorem shown_any (w : World) : Calls Try.prog 11 #[] w fun e w' => e = .returned (.bool true) ∧ Below w.heap.size w w' := by
  have H1 := Lib.hid (fun (g t : Nat) X (h : Whole X g t (shTwo.cells ++ shOne.cells ++ shNone.cells)) => sh_one ▸ winner_any (some ⟨g, 0, none⟩) 3 3 [shTwo, shOne, shNone] X (sides_three h) rfl (by omega) (by omega) (by
    intro x hx
    simp at hx
    rcases hx with rfl | rfl | rfl <;> simp [Si.hue, shTwo, shOne, shNone]))
  have H2 := Lib.hid (fun (g t : Nat) X (h : Whole X g t (shOne.cells ++ shTwo.cells)) => sh_two ▸ winner_any (some ⟨g, 0, none⟩) 2 2 [shOne, shTwo] X (sides_two h) rfl (by omega) (by omega) (by
    intro x hx
    simp at hx
    rcases hx with rfl | rfl <;> simp [Si.hue, shTwo, shOne, shNone]))
  have H3 := Lib.hid (fun X => winner_none none 0 X)
  have H4 := Lib.hid (fun X => half_any 3 true (by omega) (by omega) X)
  rw [show halfI 3 true = 2 by decide] at H4
  simp only [Si.cells, shTwo, shOne, shNone, List.cons_append, List.nil_append, Si.val, Si.zero] at H1 H2 H3
  obtain ⟨g, hg⟩ : ∃ g, w.heap.size = g := ⟨_, rfl⟩
  have K1 := Lib.hid (whole_new w [.int .i64 3, .int .i64 2, .int .u32 0, .int .i64 0, .int .i64 0, .int .i64 0] 26 g hg.symm)
  have K2 := Lib.hid (whole_new (w.alloc (.cells #[.int .i64 3, .int .i64 2, .int .u32 0, .int .i64 0, .int .i64 0, .int .i64 0] 26)) [.int .i64 2, .int .i64 1, .int .u32 0, .int .i64 0, .int .i64 0, .int .i64 0] 26 (g + 1) (by simp [hg]))
  have K3 := Lib.hid (whole_new ((w.alloc (.cells #[.int .i64 3, .int .i64 2, .int .u32 0, .int .i64 0, .int .i64 0, .int .i64 0] 26)).alloc (.cells #[.int .i64 2, .int .i64 1, .int .u32 0, .int .i64 0, .int .i64 0, .int .i64 0] 26)) [.int .i64 1, .int .i64 0, .int .u32 0, .int .i64 5, .int .i64 0, .int .i64 0] 26 (g + 1 + 1) (by simp [hg]))
  have HB0 : Hid (Below w.heap.size w (((w.alloc (.cells #[.int .i64 3, .int .i64 2, .int .u32 0, .int .i64 0, .int .i64 0, .int .i64 0] 26)).alloc (.cells #[.int .i64 2, .int .i64 1, .int .u32 0, .int .i64 0, .int .i64 0, .int .i64 0] 26)).alloc (.cells #[.int .i64 1, .int .i64 0, .int .u32 0, .int .i64 5, .int .i64 0, .int .i64 0] 26))) := Lib.hid ((((Below.refl _ w).alloc (Nat.le_refl _) _).alloc (by simp) _).alloc (by simp; omega) _)
  have HG := Lib.hid hg
  clear hg
  go_enter Try.func11, Try.ntmps11
  go_wp2_with fail
  refine (H1.out _ _ _ (whole_new _ _ _ _ (by simp))).mono ?_
  rintro e w1 ⟨rfl, hb1⟩
  rw [HG.out]
  have HB1 := Lib.hid ((HB0.out.alloc HB0.out.size _).trans (hb1.mono (by simp <;> omega)))
  have k1 := Lib.hid ((((K1.out.alloc (.cells #[.int .i64 2, .int .i64 1, .int .u32 0, .int .i64 0, .int .i64 0, .int .i64 0] 26)).alloc (.cells #[.int .i64 1, .int .i64 0, .int .u32 0, .int .i64 5, .int .i64 0, .int .i64 0] 26)).alloc _).below hb1 (by simp <;> have := HG.out <;> omega))
  have k2 := Lib.hid (((K2.out.alloc (.cells #[.int .i64 1, .int .i64 0, .int .u32 0, .int .i64 5, .int .i64 0, .int .i64 0] 26)).alloc _).below hb1 (by simp <;> have := HG.out <;> omega))
  have k3 := Lib.hid ((K3.out.alloc _).below hb1 (by simp <;> have := HG.out <;> omega))
  clear hb1 K1 K2 K3 HB0
  obtain ⟨g4, hg4⟩ : ∃ g4, w1.heap.size = g4 := ⟨_, rfl⟩
  have K4 := Lib.hid (whole_new w1 [.int .i64 1, .int .i64 0, .int .u32 0, .int .i64 5, .int .i64 0, .int .i64 0] 26 g4 hg4.symm)
  have HG4 := Lib.hid hg4
  clear hg4
  have a0 := k1.out.cellAt 0
  have a1 := k1.out.cellAt 1
  have a2 := k1.out.cellAt 2
  have a3 := k1.out.cellAt 3
  have a4 := k1.out.cellAt 4
  have a5 := k1.out.cellAt 5
  have al := k1.out.lt
  simp only [List.getElem?_cons_zero, List.getElem?_cons_succ] at a0 a1 a2 a3 a4 a5
  have b0 := k2.out.cellAt 0
  have b1 := k2.out.cellAt 1
  have b2 := k2.out.cellAt 2
  have b3 := k2.out.cellAt 3
  have b4 := k2.out.cellAt 4
  have b5 := k2.out.cellAt 5
  have bl := k2.out.lt
  simp only [List.getElem?_cons_zero, List.getElem?_cons_succ] at b0 b1 b2 b3 b4 b5
  go_wp2_with fail
  refine (H2.out _ _ _ (whole_new _ _ _ _ (by simp))).mono ?_
  rintro e w2 ⟨rfl, hb2⟩
  rw [HG4.out]
  have HB2 := Lib.hid (((HB1.out.alloc HB1.out.size _).alloc (by have := HB1.out.size; simp; omega) _).trans (hb2.mono (by have := HB1.out.size; simp; omega)))
  have l4 := HG4.out
  have q1 := Lib.hid (((k1.out.alloc (.cells #[.int .i64 1, .int .i64 0, .int .u32 0, .int .i64 5, .int .i64 0, .int .i64 0] 26)).alloc _).below hb2 (by have := k1.out.lt; simp; omega))
  have q3 := Lib.hid (((k3.out.alloc (.cells #[.int .i64 1, .int .i64 0, .int .u32 0, .int .i64 5, .int .i64 0, .int .i64 0] 26)).alloc _).below hb2 (by have := k3.out.lt; simp; omega))
  have q4 := Lib.hid ((K4.out.alloc _).below hb2 (by simp <;> omega))
  clear hb2 a0 a1 a2 a3 a4 a5 al b0 b1 b2 b3 b4 b5 bl HB1 K4 k1 k2 k3 l4
  obtain ⟨g6, hg6⟩ : ∃ g6, w2.heap.size = g6 := ⟨_, rfl⟩
  have K6 := Lib.hid (whole_new w2 [.int .i64 3, .int .i64 2, .int .u32 0, .int .i64 0, .int .i64 0, .int .i64 0] 26 g6 hg6.symm)
  have HG6 := Lib.hid hg6
  clear hg6
  go_wp2_with fail
  refine (H3.out _).mono ?_
  rintro e w3 ⟨rfl, hb3⟩
  rw [HG6.out]
  have l6 := HG6.out
  have HB3 := Lib.hid ((HB2.out.alloc HB2.out.size _).trans (hb3.mono (by have := HB2.out.size; simp; omega)))
  have p1 := Lib.hid ((q1.out.alloc (.cells #[.int .i64 3, .int .i64 2, .int .u32 0, .int .i64 0, .int .i64 0, .int .i64 0] 26)).below hb3 (by have := q1.out.lt; simp; omega))
  have p3 := Lib.hid ((q3.out.alloc (.cells #[.int .i64 3, .int .i64 2, .int .u32 0, .int .i64 0, .int .i64 0, .int .i64 0] 26)).below hb3 (by have := q3.out.lt; simp; omega))
  have p4 := Lib.hid ((q4.out.alloc (.cells #[.int .i64 3, .int .i64 2, .int .u32 0, .int .i64 0, .int .i64 0, .int .i64 0] 26)).below hb3 (by have := q4.out.lt; simp; omega))
  have p6 := Lib.hid (K6.out.below hb3 (by simp <;> omega))
  clear hb3 q1 q3 q4 K6 HB2 l6
  have a0 := p1.out.cellAt 0
  have a1 := p1.out.cellAt 1
  have a2 := p1.out.cellAt 2
  have a3 := p1.out.cellAt 3
  have a4 := p1.out.cellAt 4
  have a5 := p1.out.cellAt 5
  have al := p1.out.lt
  simp only [List.getElem?_cons_zero, List.getElem?_cons_succ] at a0 a1 a2 a3 a4 a5
  have b0 := p3.out.cellAt 0
  have b1 := p3.out.cellAt 1
  have b2 := p3.out.cellAt 2
  have b3 := p3.out.cellAt 3
  have b4 := p3.out.cellAt 4
  have b5 := p3.out.cellAt 5
  have bl := p3.out.lt
  simp only [List.getElem?_cons_zero, List.getElem?_cons_succ] at b0 b1 b2 b3 b4 b5
  have c0 := p4.out.cellAt 0
  have c1 := p4.out.cellAt 1
  have c2 := p4.out.cellAt 2
  have c3 := p4.out.cellAt 3
  have c4 := p4.out.cellAt 4
  have c5 := p4.out.cellAt 5
  have cl := p4.out.lt
  simp only [List.getElem?_cons_zero, List.getElem?_cons_succ] at c0 c1 c2 c3 c4 c5
  have d0 := p6.out.cellAt 0
  have d1 := p6.out.cellAt 1
  have d2 := p6.out.cellAt 2
  have d3 := p6.out.cellAt 3
  have d4 := p6.out.cellAt 4
  have d5 := p6.out.cellAt 5
  have dl := p6.out.lt
  simp only [List.getElem?_cons_zero, List.getElem?_cons_succ] at d0 d1 d2 d3 d4 d5
  go_wp2_with (go_at_call 22; refine (H4.out _).mono ?_; rintro e w' ⟨rfl, rfl⟩)
  go_ret
  exact ⟨by first | rfl | (simp; done), HB3.out.alloc HB3.out.size _⟩
end Go.Proofs.Ytmcgieameodkbaa
