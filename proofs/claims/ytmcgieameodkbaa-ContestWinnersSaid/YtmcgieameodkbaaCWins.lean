/- Whether one side wins against another: the contract of contest.Wins. -/
import Derived.Test.YtmcgieameodkbaaCOrder
namespace Go.Proofs.Ytmcgieameodkbaa
open Go.RowKit Go.Shelf Go.Sort
set_option linter.unusedVariables false
set_option linter.unusedSimpArgs false

/-- the colour is a colour -/
def Si.hue (s : Si) : Prop := 0 ≤ s.co ∧ s.co ≤ 4294967295
def winsR (a b : Si) : Bool × Int := if rightS a && rightS b then (decide (cmpS a b < 0), 0) else (false, 110)
theorem winsR_bad {a b : Si} (h : (rightS a && rightS b) = false) : winsR a b = (false, 110) := by unfold winsR; rw [h]; rfl
theorem winsR_good {a b : Si} (h : (rightS a && rightS b) = true) : winsR a b = (decide (cmpS a b < 0), 0) := by unfold winsR; rw [h]; rfl
theorem sides_two {W : World} {g t : Nat} {a b : Si} (h : Whole W g t (a.cells ++ b.cells)) : Sides W (.slice (some ⟨g, 0, none⟩) 2 2) [a, b] :=
  Sides.whole (t := t) (by simpa using h) rfl (by omega)
theorem all_two (a b : Si) : [a, b].all rightS = (rightS a && rightS b) := by simp
set_option maxRecDepth 100000 in
set_option maxHeartbeats 2000000 in
theorem wins_any (a b : Si) (ha : a.hue) (hb : b.hue) (W : World) :
    Calls Try.prog 12 #[a.val, b.val] W fun e W' => e = .returned (.tuple #[.bool (winsR a b).1, .int .i64 (winsR a b).2]) ∧ Below W.heap.size W W' := by
  cases hr : rightS a && rightS b with
  | false =>
    rw [winsR_bad hr]
    have HA := Lib.hid (fun sv X hI => hr ▸ all_two a b ▸ allRight_any sv [a, b] X hI)
    have HS := Lib.hid (fun (X : World) (g t : Nat) h => sides_two (W := X) (g := g) (t := t) (a := a) (b := b) h)
    clear hr ha hb
    obtain ⟨st, wd, co, bb, ro, cl⟩ := a
    obtain ⟨st', wd', co', bb', ro', cl'⟩ := b
    simp only [Si.cells, List.cons_append, List.nil_append] at HS
    unfold Si.val
    dsimp only
    go_enter Try.func12, Try.ntmps12
    go_wp2_with fail
    refine (HA.out _ _ (HS.out _ _ _ (whole_new _ _ _ _ (by simp)))).mono ?_
    rintro e w1 ⟨rfl, hb1⟩
    have HB := Lib.hid hb1
    clear hb1
    go_wp2
    go_ret2
    exact ⟨rfl, ((((Below.refl _ _).alloc (Nat.le_refl _) _).alloc (by simp) _).alloc (by simp <;> omega) _).trans (HB.out.mono (by simp <;> omega))⟩
  | true =>
    rw [winsR_good hr]
    have hra : rightS a = true := by revert hr; cases rightS a <;> simp
    have hrb : rightS b = true := by revert hr; cases rightS b <;> simp
    have HO := Lib.hid (fun X => order_any a b ⟨hra, ha⟩ ⟨hrb, hb⟩ X)
    have HA := Lib.hid (fun sv X hI => hr ▸ all_two a b ▸ allRight_any sv [a, b] X hI)
    have HS := Lib.hid (fun (X : World) (g t : Nat) h => sides_two (W := X) (g := g) (t := t) (a := a) (b := b) h)
    clear hr ha hb hra hrb
    generalize cmpS a b = c at *
    obtain ⟨st, wd, co, bb, ro, cl⟩ := a
    obtain ⟨st', wd', co', bb', ro', cl'⟩ := b
    simp only [Si.cells, List.cons_append, List.nil_append] at HS
    unfold Si.val at *
    dsimp only at *
    go_enter Try.func12, Try.ntmps12
    go_wp2_with fail
    refine (HA.out _ _ (HS.out _ _ _ (whole_new _ _ _ _ (by simp)))).mono ?_
    rintro e w1 ⟨rfl, hb1⟩
    have ka := Whole.below (g := W.heap.size) (t := 26) (xs := _) (((whole_new W _ _ _ rfl).alloc _).alloc _) hb1 (by simp <;> omega)
    have kb := Whole.below (g := W.heap.size + 1) (t := 26) (xs := _) ((whole_new (W.alloc _) _ _ _ (by simp)).alloc _) hb1 (by simp <;> omega)
    have HB := Lib.hid (((((Below.refl _ _).alloc (Nat.le_refl _) _).alloc (by simp) _).alloc (by simp <;> omega) _).trans (hb1.mono (by simp <;> omega)))
    clear hb1
    have a0 := ka.cellAt 0
    have a1 := ka.cellAt 1
    have a2 := ka.cellAt 2
    have a3 := ka.cellAt 3
    have a4 := ka.cellAt 4
    have a5 := ka.cellAt 5
    have la := ka.lt
    have b0 := kb.cellAt 0
    have b1 := kb.cellAt 1
    have b2 := kb.cellAt 2
    have b3 := kb.cellAt 3
    have b4 := kb.cellAt 4
    have b5 := kb.cellAt 5
    have lb := kb.lt
    clear ka kb
    go_wp2_with fail
    refine (HO.out _).mono ?_
    rintro e w2 ⟨rfl, hb2⟩
    have HB2 := Lib.hid (HB.out.trans (hb2.lo.mono HB.out.size))
    clear hb2 a0 a1 a2 a3 a4 a5 b0 b1 b2 b3 b4 b5 la lb
    by_cases hc : c < 0
    all_goals
      go_wp2
      go_ret2
      exact ⟨by first | rfl | (simp [hc]; done) | (simp; omega), HB2.out⟩
end Go.Proofs.Ytmcgieameodkbaa
