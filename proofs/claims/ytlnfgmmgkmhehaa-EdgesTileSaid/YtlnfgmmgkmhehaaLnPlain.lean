/- Words in lines, in plain data: how wide some words are, what a line is, and the lines of a text. -/
import Derived.Test.YtlnfgmmgkmhehaaSBase
namespace Go.Proofs.Ytlnfgmmgkmhehaa
open Go.RowKit Go.Shelf
set_option linter.unusedVariables false

/-- the first words, each with a blank -/
def preW (b : Int) : Nat → List Int → Int
  | 0, _ => 0
  | _ + 1, [] => 0
  | k + 1, x :: r => x + b + preW b k r
theorem preW_nil (b : Int) (k : Nat) : preW b k [] = 0 := by cases k <;> rfl
theorem preW_succ (b : Int) : ∀ (k : Nat) (ws : List Int) (x : Int), ws[k]? = some x → preW b (k + 1) ws = preW b k ws + x + b
  | 0, y :: r, x, h => by simp at h; subst h; simp [preW]
  | k + 1, y :: r, x, h => by
    have := preW_succ b k r x (by simpa using h)
    rw [preW, this, preW]; omega
  | _, [], x, h => by simp at h
theorem preW_drop (b : Int) : ∀ (s k : Nat) (ws : List Int), s ≤ ws.length → preW b k (ws.drop s) = preW b (s + k) ws - preW b s ws
  | 0, k, ws, _ => by simp [preW]
  | s + 1, k, [], h => by simp at h
  | s + 1, k, y :: r, h => by
    have := preW_drop b s k r (by simpa using h)
    rw [List.drop_succ_cons, this, show s + 1 + k = (s + k) + 1 by omega, preW, preW]; omega
theorem preW_take (b : Int) : ∀ (k m : Nat) (ws : List Int), k ≤ m → preW b k (ws.take m) = preW b k ws
  | 0, m, ws, _ => rfl
  | k + 1, 0, ws, h => by omega
  | k + 1, m + 1, [], h => by simp
  | k + 1, m + 1, y :: r, h => by rw [List.take_succ_cons, preW, preW, preW_take b k m r (by omega)]
/-- words and a blank that may be -/
def okW (b : Int) (ws : List Int) : Prop := (0 ≤ b ∧ b ≤ 1073741824) ∧ ws.length ≤ 10000 ∧ ∀ x ∈ ws, 0 ≤ x ∧ x ≤ 1073741824
theorem preW_bd {b : Int} {ws : List Int} (h : okW b ws) : ∀ k, k ≤ ws.length → 0 ≤ preW b k ws ∧ preW b k ws ≤ 2147483648 * (k : Int) := by
  intro k
  induction k with
  | zero => intro _; simp [preW]
  | succ k ih =>
    intro hk
    have h1 := ih (by omega)
    obtain ⟨x, hx⟩ : ∃ x, ws[k]? = some x := ⟨_, List.getElem?_eq_getElem (by omega)⟩
    have h2 := h.2.2 x (List.mem_iff_getElem?.2 ⟨k, hx⟩)
    have h3 := h.1
    rw [preW_succ b k ws x hx]
    omega
theorem preW_mono {b : Int} {ws : List Int} (h : okW b ws) : ∀ d k, k + d ≤ ws.length → preW b k ws ≤ preW b (k + d) ws := by
  intro d
  induction d with
  | zero => intro k _; exact Int.le_refl _
  | succ d ih =>
    intro k hk
    have h1 := ih k (by omega)
    obtain ⟨x, hx⟩ : ∃ x, ws[k + d]? = some x := ⟨_, List.getElem?_eq_getElem (by omega)⟩
    have h2 := h.2.2 x (List.mem_iff_getElem?.2 ⟨k + d, hx⟩)
    have h3 := h.1
    rw [show k + (d + 1) = (k + d) + 1 by omega, preW_succ b (k + d) ws x hx]
    omega
theorem preW_le {b : Int} {ws : List Int} (h : okW b ws) {k m : Nat} (hkm : k ≤ m) (hm : m ≤ ws.length) : preW b k ws ≤ preW b m ws := by
  have := preW_mono h (m - k) k (by omega)
  rwa [show k + (m - k) = m by omega] at this
/-- how wide the words from one up to another are -/
def wideW (b : Int) (ws : List Int) (s e : Nat) : Int := if s < e then preW b e ws - preW b s ws - b else 0
theorem wideW_lt {b : Int} {ws : List Int} {s e : Nat} (h : s < e) : wideW b ws s e = preW b e ws - preW b s ws - b := by simp [wideW, h]
theorem wideW_self (b : Int) (ws : List Int) (s : Nat) : wideW b ws s s = 0 := by simp [wideW]
theorem wideW_one {b : Int} {ws : List Int} {s : Nat} {x : Int} (h : ws[s]? = some x) : wideW b ws s (s + 1) = x := by rw [wideW_lt (by omega), preW_succ b s ws x h]; omega
theorem wideW_succ {b : Int} {ws : List Int} {s e : Nat} {x : Int} (hse : s < e) (h : ws[e]? = some x) : wideW b ws s (e + 1) = wideW b ws s e + b + x := by
  rw [wideW_lt (by omega), wideW_lt hse, preW_succ b e ws x h]; omega
theorem wideW_take {b : Int} {ws : List Int} {s e m : Nat} (h : e ≤ m) : wideW b (ws.take m) s e = wideW b ws s e := by
  by_cases hse : s < e
  · rw [wideW_lt hse, wideW_lt hse, preW_take b e m ws h, preW_take b s m ws (by omega)]
  · simp [wideW, hse]
theorem wideW_bd {b : Int} {ws : List Int} (h : okW b ws) {s e : Nat} (he : e ≤ ws.length) : 0 ≤ wideW b ws s e ∧ wideW b ws s e ≤ 21474836480000 := by
  by_cases hse : s < e
  · rw [wideW_lt hse]
    have h1 := preW_bd h e he
    have h2 := preW_bd h s (by omega)
    have h3 := h.1
    have h4 := preW_mono h (e - (s + 1)) (s + 1) (by omega)
    rw [show s + 1 + (e - (s + 1)) = e by omega] at h4
    obtain ⟨x, hx⟩ : ∃ x, ws[s]? = some x := ⟨_, List.getElem?_eq_getElem (by omega)⟩
    have h5 := h.2.2 x (List.mem_iff_getElem?.2 ⟨s, hx⟩)
    rw [preW_succ b s ws x hx] at h4
    have h6 := h.2.1
    omega
  · simp [wideW, hse]
/-- what the iterator over widths tells of k words, the first of which is s -/
theorem wideW_drop {b : Int} {ws : List Int} {s k : Nat} (hs : s ≤ ws.length) (hk : 0 < k) : preW b k (ws.drop s) - b = wideW b ws s (s + k) := by
  rw [wideW_lt (by omega), preW_drop b s k ws hs]
/-- a line: as many words as fit, but one at least -/
def IsLine (b width : Int) (ws : List Int) (s e : Nat) : Prop := s < e ∧ e ≤ ws.length ∧ (∀ m, s + 1 < m → m ≤ e → wideW b ws s m ≤ width) ∧ (e < ws.length → width < wideW b ws s (e + 1))
theorem IsLine.same {b width : Int} {ws : List Int} {s e e' : Nat} (h : IsLine b width ws s e) (k : IsLine b width ws s e') : e = e' := by
  obtain ⟨h1, h2, h3, h4⟩ := h
  obtain ⟨k1, k2, k3, k4⟩ := k
  rcases Nat.lt_trichotomy e e' with hl | hl | hl
  · have := k3 (e + 1) (by omega) (by omega)
    have := h4 (by omega)
    omega
  · exact hl
  · have := h3 (e' + 1) (by omega) (by omega)
    have := k4 (by omega)
    omega
/-- lines, one after the other -/
def Broke (F : Nat → Nat → Prop) : Nat → List (Nat × Nat) → Nat → Prop
  | s, [], e => s = e
  | s, x :: r, e => x.1 = s ∧ F x.1 x.2 ∧ Broke F x.2 r e
theorem Broke.snoc {F : Nat → Nat → Prop} : ∀ {s : Nat} {L : List (Nat × Nat)} {m e : Nat}, Broke F s L m → F m e → Broke F s (L ++ [(m, e)]) e
  | s, [], m, e, h, k => by
    have h : s = m := h
    subst h; exact ⟨rfl, k, rfl⟩
  | s, x :: r, m, e, h, k => ⟨h.1, h.2.1, Broke.snoc h.2.2 k⟩
theorem Broke.same {b width : Int} {ws : List Int} : ∀ {L L' : List (Nat × Nat)} {s : Nat}, Broke (IsLine b width ws) s L ws.length → Broke (IsLine b width ws) s L' ws.length → L = L'
  | [], [], _, _, _ => rfl
  | [], y :: r', s, h, k => by
    have h : s = ws.length := h
    have h1 := k.1
    have h2 := k.2.1.1
    have h3 := k.2.1.2.1
    omega
  | x :: r, [], s, h, k => by
    have k : s = ws.length := k
    have h1 := h.1
    have h2 := h.2.1.1
    have h3 := h.2.1.2.1
    omega
  | (x1, x2) :: r, (y1, y2) :: r', s, h, k => by
    obtain ⟨h1, h2, h3⟩ := h
    obtain ⟨k1, k2, k3⟩ := k
    dsimp only at h1 k1 h2 k2 h3 k3
    subst h1 k1
    have := h2.same k2
    subst this
    rw [Broke.same h3 k3]
theorem Broke.len {b width : Int} {ws : List Int} : ∀ {L : List (Nat × Nat)} {s e : Nat}, Broke (IsLine b width ws) s L e → s + L.length ≤ e
  | [], s, e, h => by have h : s = e := h; subst h; simp
  | (x1, x2) :: r, s, e, h => by
    have h1 : x1 = s := h.1
    have h2 : x1 < x2 := h.2.1.1
    have h3 := Broke.len h.2.2
    simp only [List.length_cons]
    omega
theorem Broke.some {b width : Int} {ws : List Int} {L : List (Nat × Nat)} (h : Broke (IsLine b width ws) 0 L ws.length) : (0 < L.length) ↔ (0 < ws.length) := by
  cases L with
  | nil => have h : 0 = ws.length := h; simp; exact List.length_eq_zero_iff.1 h.symm
  | cons x r =>
    have h1 := h.2.1.1
    have h2 := h.2.1.2.1
    constructor
    · intro _; omega
    · intro _; simp
theorem Broke.least {b width : Int} {ws : List Int} : ∀ {L : List (Nat × Nat)} {s : Nat}, Broke (IsLine b width ws) s L ws.length → L.length ≤ ws.length - s := fun h => by have := h.len; omega
/-- a greater width yields no more lines -/
theorem Broke.fewer {b c d : Int} {ws : List Int} (hw : okW b ws) (hcd : c ≤ d) : ∀ {L' L : List (Nat × Nat)} {s s' : Nat}, s ≤ s' → Broke (IsLine b c ws) s L ws.length → Broke (IsLine b d ws) s' L' ws.length → L'.length ≤ L.length
  | [], _, _, _, _, _, _ => by simp
  | (y1, y2) :: r', L, s, s', hs, h, k => by
    obtain ⟨k1, ⟨k2, k3, k4, k5⟩, k6⟩ := k
    dsimp only at k1 k2 k3 k4 k5 k6
    subst k1
    cases L with
    | nil =>
      have h : s = ws.length := h
      omega
    | cons x r =>
      obtain ⟨x1, x2⟩ := x
      obtain ⟨h1, ⟨h2, h3, h4, h5⟩, h6⟩ := h
      dsimp only at h1 h2 h3 h4 h5 h6
      subst h1
      have hx : x2 ≤ y2 := by
        apply Classical.byContradiction
        intro hn
        have e1 := k5 (by omega)
        have e2 := h4 (y2 + 1) (by omega) (by omega)
        rw [wideW_lt (by omega)] at e1 e2
        have e3 := preW_le hw hs (by omega)
        omega
      have := Broke.fewer hw hcd hx h6 k6
      simp only [List.length_cons]
      omega
/-- at the width of all words there is one line, if there are words -/
theorem Broke.most {b : Int} {ws : List Int} (hw : okW b ws) {L : List (Nat × Nat)} (h : Broke (IsLine b (wideW b ws 0 ws.length) ws) 0 L ws.length) : L.length = min ws.length 1 := by
  cases L with
  | nil => have h : 0 = ws.length := h; simp [← h]
  | cons x r =>
    obtain ⟨x1, x2⟩ := x
    obtain ⟨h1, ⟨h2, h3, h4, h5⟩, h6⟩ := h
    dsimp only at h1 h2 h3 h4 h5 h6
    subst h1
    have hx : x2 = ws.length := by
      apply Classical.byContradiction
      intro hn
      have e1 := h5 (by omega)
      rw [wideW_lt (by omega), wideW_lt (by omega)] at e1
      have := preW_le hw (show x2 + 1 ≤ ws.length by omega) (Nat.le_refl _)
      omega
    subst hx
    have := h6.least
    have hr : r.length = 0 := by omega
    simp only [List.length_cons, hr]
    omega
theorem wideW_le_all {b : Int} {ws : List Int} (hw : okW b ws) {s : Nat} {x : Int} (h : ws[s]? = some x) : x ≤ wideW b ws 0 ws.length := by
  have hs : s < ws.length := (List.getElem?_eq_some_iff.1 h).1
  rw [wideW_lt (by omega)]
  have h1 := preW_succ b s ws x h
  have h2 := preW_le hw (show s + 1 ≤ ws.length by omega) (Nat.le_refl _)
  have h3 := preW_bd hw s (by omega)
  have h0 : preW b 0 ws = 0 := rfl
  omega
/-- the widest word -/
def leastW (ws : List Int) : Int := ws.foldl max 0
theorem leastW_snoc (ws : List Int) (x : Int) : leastW (ws ++ [x]) = max (leastW ws) x := by simp [leastW]
theorem foldl_max_le (ws : List Int) (m a : Int) (h : a ≤ m) (hw : ∀ x ∈ ws, x ≤ m) : ws.foldl max a ≤ m := by
  induction ws generalizing a with
  | nil => exact h
  | cons x r ih => exact ih _ (by have := hw x (by simp); omega) (fun y hy => hw y (by simp [hy]))
theorem foldl_max_ge (ws : List Int) (a : Int) : a ≤ ws.foldl max a := by
  induction ws generalizing a with
  | nil => exact Int.le_refl _
  | cons x r ih => have := ih (max a x); simp only [List.foldl_cons]; omega
theorem leastW_bd {b : Int} {ws : List Int} (hw : okW b ws) : 0 ≤ leastW ws ∧ leastW ws ≤ wideW b ws 0 ws.length ∧ leastW ws ≤ 1073741824 :=
  ⟨foldl_max_ge ws 0, foldl_max_le ws _ 0 (wideW_bd hw (Nat.le_refl _)).1 (fun x hx => by obtain ⟨s, hs⟩ := List.mem_iff_getElem?.1 hx; exact wideW_le_all hw hs), foldl_max_le ws _ 0 (by omega) (fun x hx => (hw.2.2 x hx).2)⟩
theorem leastW_take (ws : List Int) (k : Nat) (x : Int) (h : ws[k]? = some x) : leastW (ws.take (k + 1)) = max (leastW (ws.take k)) x := by
  have hk : k < ws.length := (List.getElem?_eq_some_iff.1 h).1
  rw [List.take_succ_eq_append_getElem hk, leastW_snoc, (List.getElem?_eq_some_iff.1 h).2]
end Go.Proofs.Ytlnfgmmgkmhehaa
