/- The winner and what is sorted, in plain data: the winner is the first, and wins against all others. -/
import Derived.Test.YtmcgieameodkbaaCTurn
namespace Go.Proofs.Ytmcgieameodkbaa
open Go.RowKit Go.Shelf Go.Sort Go.Lib
set_option linter.unusedVariables false
set_option linter.unusedSimpArgs false

theorem sort_head {s : Si} {r ds : List Si} (h : IsSort (s :: r) ds) : ds[0]? = some (winF s r) := by
  obtain ⟨hp, ho⟩ := h
  cases ds with
  | nil => exact absurd hp.length_eq (by simp)
  | cons d ds =>
    have h1 : ∀ x ∈ d :: ds, ¬ cmpS x d < 0 := fun x hx => by
      rcases List.mem_cons.1 hx with rfl | hx
      · exact cmpS_irr _
      · exact (List.pairwise_cons.1 ho).1 x hx
    have e : d = winF s r := cmpS_anti (winF_best s r d (hp.mem_iff.1 List.mem_cons_self)) (h1 _ (hp.mem_iff.2 (winF_mem s r)))
    rw [e]; rfl
theorem sort_next {zs ds : List Si} (h : IsSort zs ds) {i : Nat} {a b : Si} (ha : ds[i]? = some a) (hb : ds[i + 1]? = some b) : ¬ cmpS b a < 0 := by
  obtain ⟨h1, e1⟩ := List.getElem?_eq_some_iff.1 ha
  obtain ⟨h2, e2⟩ := List.getElem?_eq_some_iff.1 hb
  have := List.pairwise_iff_getElem.1 h.2 i (i + 1) h1 h2 (by omega)
  rw [e1, e2] at this; exact this
theorem winR_none {zs : List Si} (h : zs.all rightS = false) : winR zs = (Si.zero, 110) := by
  cases zs with
  | nil => rfl
  | cons s r => simp only [winR, h]; rfl
theorem winR_some {s : Si} {r : List Si} (h : (s :: r).all rightS = true) : winR (s :: r) = (winF s r, 0) := by simp only [winR, h]; rfl
/-- Wins of right sides -/
theorem winsR_fit {a b : Si} (ha : rightS a = true) (hb : rightS b = true) : winsR a b = (decide (cmpS a b < 0), 0) := winsR_good (by rw [ha, hb]; rfl)
theorem win_against {s : Si} {r : List Si} {x : Si} (hx : x ∈ s :: r) (hne : x ≠ winF s r) : cmpS (winF s r) x < 0 := by
  rcases cmpS_total hne with h | h
  · exact absurd h (winF_best s r x hx)
  · exact h
end Go.Proofs.Ytmcgieameodkbaa
