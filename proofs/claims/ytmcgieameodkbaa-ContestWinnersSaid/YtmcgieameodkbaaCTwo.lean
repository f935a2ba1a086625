/- What Wins answers of two and of three sides, in plain data. -/
import Derived.Test.YtmcgieameodkbaaCShown
import Derived.Test.YtmcgieameodkbaaCCmp
namespace Go.Proofs.Ytmcgieameodkbaa
open Go.RowKit Go.Shelf Go.Sort
set_option linter.unusedVariables false

theorem two_facts (a b c : Si) : (winsR a b).2 = (winsR b a).2 ∧ ((winsR a b).2 = 0 ∨ (winsR a b).2 = 110) ∧ ((winsR b c).2 = 0 ∨ (winsR b c).2 = 110) ∧ ((winsR a c).2 = 0 ∨ (winsR a c).2 = 110) ∧
    ((winsR a b).2 = 0 → ¬ ((winsR a b).1 = true ∧ (winsR b a).1 = true) ∧ ((winsR a b).1 || (winsR b a).1) = !decide (a = b)) ∧
    ((winsR a b).2 = 0 → (winsR b c).2 = 0 → (winsR a c).2 = 0 → (winsR a b).1 = true → (winsR b c).1 = true → (winsR a c).1 = true) := by
  have e2 : ∀ a b, (winsR a b).2 = 0 ∨ (winsR a b).2 = 110 := fun a b => by unfold winsR; split <;> simp
  have e0 : ∀ a b, (winsR a b).2 = 0 → (winsR a b).1 = decide (cmpS a b < 0) := fun a b h => by unfold winsR at h ⊢; split <;> simp_all
  have es : (winsR a b).2 = (winsR b a).2 := by unfold winsR; rw [Bool.and_comm]; split <;> rfl
  refine ⟨es, e2 _ _, e2 _ _, e2 _ _, fun h => ?_, fun h1 h2 h3 => ?_⟩
  · rw [e0 a b h, e0 b a (es ▸ h)]
    constructor
    · simp only [decide_eq_true_eq]
      exact fun k => cmpS_asym k.1 k.2
    · by_cases hab : a = b
      · subst hab
        have := cmpS_irr a
        simp [this]
      · rcases cmpS_total hab with k | k <;> simp [k, hab]
  · rw [e0 a b h1, e0 b c h2, e0 a c h3]
    simp only [decide_eq_true_eq]
    exact cmpS_trans
theorem drawn_facts (a b : Si) : ((winsR a b).2 = 0 ∨ (winsR a b).2 = 110) ∧ ((winsR a b).2 = 0 → 2 ≤ a.st → (b.st = 1 → (winsR a b).1 = false) ∧ (b.st = 0 → (winsR a b).1 = true) ∧ (b.st ≠ 0 → b.st ≠ 1 → a.wd ≠ b.wd → (winsR a b).1 = decide (b.wd < a.wd))) := by
  constructor
  · unfold winsR; split <;> simp
  · intro h hs
    have e0 : (winsR a b).1 = decide (cmpS a b < 0) := by unfold winsR at h ⊢; split <;> simp_all
    rw [e0]
    have hc : clsI a.st = 1 := by unfold clsI; rw [if_neg (by omega), if_neg (by omega)]
    unfold cmpS rankL
    refine ⟨fun hb => ?_, fun hb => ?_, fun h0 h1 hw => ?_⟩
    · rw [show clsI b.st = 0 by rw [hb]; rfl, hc]
      simp only [decide_eq_false_iff_not, cmpL_cons]; omega
    · rw [show clsI b.st = 2 by rw [hb]; rfl, hc]
      simp only [decide_eq_true_eq, cmpL_cons]; omega
    · rw [show clsI b.st = 1 by unfold clsI; rw [if_neg h1, if_neg h0], hc]
      refine decide_eq_decide.2 ?_
      rw [cmpL_cons, cmpL_cons]
      constructor
      · rintro (h | ⟨_, h | ⟨h, _⟩⟩) <;> omega
      · intro h; exact .inr ⟨rfl, .inl (by omega)⟩
end Go.Proofs.Ytmcgieameodkbaa
