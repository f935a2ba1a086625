/- Where a cell lies: plain functions on the list that says from which row on each column is free. Nothing of the program. -/
import Derived.Test.YtcgnldcdcbnofaaMem
namespace Go.Proofs.Ytcgnldcdcbnofaa
set_option linter.unusedVariables false

/-- is a column free in a row? -/
def freeB (t : List Nat) (row c : Nat) : Bool := match t[c]? with
  | none => true
  | some z => decide (z ≤ row)
theorem freeB_out {t : List Nat} {row c : Nat} (h : t.length ≤ c) : freeB t row c = true := by
  unfold freeB; rw [List.getElem?_eq_none h]
theorem freeB_lt {t : List Nat} {row c : Nat} (h : freeB t row c = false) : c < t.length := by
  cases Nat.lt_or_ge c t.length with
  | inl h' => exact h'
  | inr h' => rw [freeB_out h'] at h; cases h
theorem freeB_at {t : List Nat} {row c z : Nat} (h : t[c]? = some z) : freeB t row c = decide (z ≤ row) := by unfold freeB; rw [h]
def skipN (t : List Nat) (row : Nat) : Nat → Nat → Nat
  | 0, c => c
  | f + 1, c => if freeB t row c = true then c else skipN t row f (c + 1)
/-- the first free column, from one on -/
def firstF (t : List Nat) (row c : Nat) : Nat := skipN t row (t.length - c) c
def wideN (t : List Nat) (row c : Nat) : Nat → Nat → Nat
  | 0, k => k
  | r + 1, k => if freeB t row (c + k) = true then wideN t row c r (k + 1) else k
/-- how many columns are free there -/
def wideF (t : List Nat) (row c most : Nat) : Nat := wideN t row c most 0
theorem skipN_spec (t : List Nat) (row : Nat) : ∀ f c, t.length ≤ c + f → c ≤ skipN t row f c ∧ (∀ j, c ≤ j → j < skipN t row f c → freeB t row j = false) ∧ freeB t row (skipN t row f c) = true
  | 0, c, h => ⟨Nat.le_refl _, fun j h1 h2 => by simp only [skipN] at h2; omega, freeB_out (by simpa [skipN] using h)⟩
  | f + 1, c, h => by
    unfold skipN
    by_cases hf : freeB t row c = true
    · rw [if_pos hf]
      exact ⟨Nat.le_refl _, fun j h1 h2 => by omega, hf⟩
    · rw [if_neg hf]
      obtain ⟨h1, h2, h3⟩ := skipN_spec t row f (c + 1) (by omega)
      refine ⟨by omega, fun j hj hl => ?_, h3⟩
      by_cases e : j = c
      · subst e; simpa using hf
      · exact h2 j (by omega) hl
theorem firstF_spec (t : List Nat) (row c : Nat) : c ≤ firstF t row c ∧ (∀ j, c ≤ j → j < firstF t row c → freeB t row j = false) ∧ freeB t row (firstF t row c) = true :=
  skipN_spec t row _ c (by omega)
theorem firstF_eq {t : List Nat} {row c d : Nat} (h1 : c ≤ d) (h2 : ∀ j, c ≤ j → j < d → freeB t row j = false) (h3 : freeB t row d = true) : firstF t row c = d := by
  obtain ⟨g1, g2, g3⟩ := firstF_spec t row c
  rcases Nat.lt_trichotomy (firstF t row c) d with h | h | h
  · rw [h2 _ g1 h] at g3; cases g3
  · exact h
  · rw [g2 _ h1 h] at h3; cases h3
theorem firstF_step {t : List Nat} {row c : Nat} (h : freeB t row c = false) : firstF t row c = firstF t row (c + 1) := by
  obtain ⟨g1, g2, g3⟩ := firstF_spec t row (c + 1)
  refine firstF_eq (by omega) (fun j h1 h2 => ?_) g3
  by_cases e : j = c
  · subst e; exact h
  · exact g2 j (by omega) h2
theorem firstF_le (t : List Nat) (row c : Nat) (h : c ≤ t.length) : firstF t row c ≤ t.length := by
  obtain ⟨g1, g2, g3⟩ := firstF_spec t row c
  rcases Nat.lt_or_ge t.length (firstF t row c) with h' | h'
  · have := g2 _ h h'; rw [freeB_out (Nat.le_refl _)] at this; cases this
  · exact h'
theorem wideN_spec (t : List Nat) (row c : Nat) : ∀ r k, (∀ j, j < k → freeB t row (c + j) = true) →
    k ≤ wideN t row c r k ∧ wideN t row c r k ≤ k + r ∧ (∀ j, j < wideN t row c r k → freeB t row (c + j) = true) ∧ (wideN t row c r k = k + r ∨ freeB t row (c + wideN t row c r k) = false)
  | 0, k, h => ⟨Nat.le_refl _, Nat.le_refl _, h, .inl rfl⟩
  | r + 1, k, h => by
    unfold wideN
    by_cases hf : freeB t row (c + k) = true
    · rw [if_pos hf]
      obtain ⟨h1, h2, h3, h4⟩ := wideN_spec t row c r (k + 1) (fun j hj => by
        by_cases e : j = k
        · subst e; exact hf
        · exact h j (by omega))
      exact ⟨by omega, by omega, h3, by rcases h4 with h4 | h4; exact .inl (by omega); exact .inr h4⟩
    · rw [if_neg hf]
      exact ⟨Nat.le_refl _, by omega, h, .inr (by simpa using hf)⟩
theorem wideF_spec (t : List Nat) (row c most : Nat) : wideF t row c most ≤ most ∧ (∀ j, j < wideF t row c most → freeB t row (c + j) = true) ∧ (wideF t row c most = most ∨ freeB t row (c + wideF t row c most) = false) := by
  obtain ⟨_, h2, h3, h4⟩ := wideN_spec t row c most 0 (fun j h => by omega)
  unfold wideF
  exact ⟨by omega, h3, by rcases h4 with h4 | h4; exact .inl (by omega); exact .inr h4⟩
theorem wideF_eq {t : List Nat} {row c most d : Nat} (h1 : d ≤ most) (h2 : ∀ j, j < d → freeB t row (c + j) = true) (h3 : d = most ∨ freeB t row (c + d) = false) : wideF t row c most = d := by
  obtain ⟨g1, g2, g3⟩ := wideF_spec t row c most
  rcases Nat.lt_trichotomy (wideF t row c most) d with h | h | h
  · rcases g3 with g3 | g3
    · omega
    · rw [h2 _ h] at g3; cases g3
  · exact h
  · rcases h3 with h3 | h3
    · omega
    · rw [g2 _ h] at h3; cases h3
theorem wideF_pos {t : List Nat} {row c most : Nat} (h : 1 ≤ most) (hf : freeB t row c = true) : 1 ≤ wideF t row c most := by
  obtain ⟨g1, g2, g3⟩ := wideF_spec t row c most
  rcases Nat.lt_or_ge (wideF t row c most) 1 with h' | h'
  · have e : wideF t row c most = 0 := by omega
    rw [e] at g3
    rcases g3 with g3 | g3
    · omega
    · rw [Nat.add_zero, hf] at g3; cases g3
  · exact h'
/-- k columns from c on are taken up to row e -/
def takeN (t : List Nat) (c e : Nat) : Nat → List Nat
  | 0 => t
  | k + 1 => (if c + k = (takeN t c e k).length then takeN t c e k ++ [0] else takeN t c e k).set (c + k) e
theorem takeN_len (t : List Nat) (c e : Nat) (h : c ≤ t.length) : ∀ k, (takeN t c e k).length = max t.length (c + k)
  | 0 => by simp only [takeN]; omega
  | k + 1 => by
    have ih := takeN_len t c e h k
    unfold takeN
    split
    · simp only [List.length_set, List.length_append, List.length_cons, List.length_nil]; omega
    · simp only [List.length_set]; omega
theorem takeN_get (t : List Nat) (c e : Nat) (h : c ≤ t.length) : ∀ k j, (takeN t c e k)[j]? = if c ≤ j ∧ j < c + k then some e else t[j]?
  | 0, j => by rw [if_neg (by omega)]; rfl
  | k + 1, j => by
    have ih := takeN_get t c e h k j
    have hl := takeN_len t c e h k
    unfold takeN
    by_cases ej : j = c + k
    · subst ej
      have e1 : (if c ≤ c + k ∧ c + k < c + (k + 1) then some e else t[c + k]?) = some e := if_pos ⟨by omega, by omega⟩
      rw [e1, List.getElem?_set_self]
      split
      · simp only [List.length_append, List.length_cons, List.length_nil]; omega
      · omega
    · rw [List.getElem?_set_ne (fun e => ej e.symm)]
      have hi : (if c + k = (takeN t c e k).length then takeN t c e k ++ [0] else takeN t c e k)[j]? = (takeN t c e k)[j]? := by
        split
        · rename_i hq
          rcases Nat.lt_or_ge j (takeN t c e k).length with h' | h'
          · rw [List.getElem?_append_left h']
          · rw [List.getElem?_eq_none h', List.getElem?_eq_none (by simp; omega)]
        · rfl
      rw [hi, ih]
      by_cases h1 : c ≤ j ∧ j < c + k
      · rw [if_pos h1, if_pos (by omega)]
      · rw [if_neg h1, if_neg (by omega)]
end Go.Proofs.Ytcgnldcdcbnofaa
