/- What the document's own way of asking whether some rectangles tile one comes to: the same as tilesB. Plain. -/
import Derived.Test.YtjdnhpbifblneaaRCover
import Derived.Test.YtjdnhpbifblneaaRMeet
namespace Go.Proofs.Ytjdnhpbifblneaa
set_option linter.unusedVariables false

/-- has a rectangle no points? -/
def emptyB (q : R) : Bool := q.w == 0 || q.h == 0
/-- has it this point? -/
def hasB (q : R) (a b : Int) : Bool := decide (q.x ≤ a ∧ a < q.x + q.w ∧ q.y ≤ b ∧ b < q.y + q.h)
def docX (r : R) (l : List R) : List Int := r.x :: (l.filter fun q => !emptyB q).flatMap edgX
def docY (r : R) (l : List R) : List Int := r.y :: (l.filter fun q => !emptyB q).flatMap edgY
/-- all lie within, no two meet, and each place where some begin or end is in one -/
def TilesDoc (r : R) (l : List R) : Prop :=
  (∀ q ∈ l, emptyB q = false → meetP r q = q) ∧ l.Pairwise (fun p q => emptyB q = false → emptyB (meetP p q) = true) ∧
    ∀ x ∈ docX r l, ∀ y ∈ docY r l, hasB r x y = true → ∃ q ∈ l, hasB q x y = true
theorem pt (q : R) (a b : Int) : ix q a * iy q b = if hasB q a b = true then 1 else 0 := by
  unfold ix iy hasB
  by_cases h1 : q.x ≤ a ∧ a < q.x + q.w <;> by_cases h2 : q.y ≤ b ∧ b < q.y + q.h
  · rw [if_pos h1, if_pos h2, if_pos (by simp; omega)]; rfl
  · rw [if_pos h1, if_neg h2, if_neg (by simp; omega)]; rfl
  · rw [if_neg h1, if_pos h2, if_neg (by simp; omega)]; rfl
  · rw [if_neg h1, if_neg h2, if_neg (by simp; omega)]; rfl
theorem cov_cons (q : R) (l : List R) (a b : Int) : cov (q :: l) a b = (if hasB q a b = true then 1 else 0) + cov l a b := by
  unfold cov; rw [List.map_cons, List.sum_cons, pt]
theorem cov_nonneg (l : List R) (a b : Int) : 0 ≤ cov l a b := by
  induction l with
  | nil => exact Int.le_refl 0
  | cons q l ih => rw [cov_cons]; split <;> omega
theorem cov_pos (l : List R) (a b : Int) : 1 ≤ cov l a b ↔ ∃ q ∈ l, hasB q a b = true := by
  induction l with
  | nil => simp [cov]
  | cons q l ih =>
    have h0 := cov_nonneg l a b
    rw [cov_cons]
    by_cases h : hasB q a b = true
    · rw [if_pos h]; exact ⟨fun _ => ⟨q, List.mem_cons_self .., h⟩, fun _ => by omega⟩
    · rw [if_neg h, Int.zero_add, ih]
      constructor
      · rintro ⟨p, hp, hh⟩; exact ⟨p, List.mem_cons_of_mem _ hp, hh⟩
      · rintro ⟨p, hp, hh⟩
        rcases List.mem_cons.1 hp with rfl | hp
        · exact absurd hh h
        · exact ⟨p, hp, hh⟩
theorem cov_one (r : R) (a b : Int) : cov [r] a b = if hasB r a b = true then 1 else 0 := by
  rw [cov_cons]; simp [cov]
/-- at most one of them has a point, if no two have one of the same -/
theorem cov_le (l : List R) (a b : Int) (h : l.Pairwise fun p q => ¬(hasB p a b = true ∧ hasB q a b = true)) : cov l a b ≤ 1 := by
  induction l with
  | nil => simp [cov]
  | cons q l ih =>
    obtain ⟨h1, h2⟩ := List.pairwise_cons.1 h
    rw [cov_cons]
    by_cases hq : hasB q a b = true
    · rw [if_pos hq]
      have : ¬ 1 ≤ cov l a b := fun k => by
        obtain ⟨p, hp, hh⟩ := (cov_pos l a b).1 k
        exact h1 p hp ⟨hq, hh⟩
      omega
    · rw [if_neg hq]; have := ih h2; omega
theorem cov_apart (l : List R) (h : ∀ a b, cov l a b ≤ 1) : l.Pairwise fun p q => ∀ a b, ¬(hasB p a b = true ∧ hasB q a b = true) := by
  induction l with
  | nil => exact List.Pairwise.nil
  | cons q l ih =>
    refine List.pairwise_cons.2 ⟨fun p hp a b hh => ?_, ih fun a b => ?_⟩
    · have h1 := (cov_pos l a b).2 ⟨p, hp, hh.2⟩
      have h2 := h a b
      rw [cov_cons, if_pos hh.1] at h2; omega
    · have h2 := h a b
      rw [cov_cons] at h2
      split at h2 <;> omega
theorem emptyB_iff (q : R) : emptyB q = true ↔ q.w = 0 ∨ q.h = 0 := by simp [emptyB]
theorem emptyB_not (q : R) : emptyB q = false ↔ q.w ≠ 0 ∧ q.h ≠ 0 := by simp [emptyB]
theorem meet_empty (p q : R) : emptyB (meetP p q) = true ↔ ∀ a b, ¬(hasB p a b = true ∧ hasB q a b = true) := by
  rw [emptyB_iff]
  unfold meetP hasB
  simp only [decide_eq_true_eq]
  split
  · rename_i h
    refine ⟨fun _ a b hh => by omega, fun _ => .inl rfl⟩
  · rename_i h
    refine ⟨fun hh => by dsimp only at hh; omega, fun hh => absurd ?_ (hh (max p.x q.x) (max p.y q.y))⟩
    omega
theorem meet_within (r q : R) (hq : 0 ≤ q.w ∧ 0 ≤ q.h) (he : emptyB q = false) : meetP r q = q ↔ r.x ≤ q.x ∧ q.x + q.w ≤ r.x + r.w ∧ r.y ≤ q.y ∧ q.y + q.h ≤ r.y + r.h := by
  have hn := (emptyB_not q).1 he
  obtain ⟨x, y, w, h⟩ := q
  dsimp only at *
  unfold meetP
  dsimp only
  split
  · refine ⟨fun k => ?_, fun k => ?_⟩
    · rw [R.mk.injEq] at k; omega
    · omega
  · rw [R.mk.injEq]; omega
/-- the last of some places that is not beyond one -/
theorem last_le (l : List Int) (z a : Int) (hz : z ≤ a) : ∃ m ∈ z :: l, m ≤ a ∧ ∀ k ∈ z :: l, k ≤ a → k ≤ m := by
  induction l generalizing z with
  | nil => exact ⟨z, by simp, hz, fun k hk _ => by have : k = z := by simpa using hk
                                                   omega⟩
  | cons y l ih =>
    by_cases hy : y ≤ a
    · obtain ⟨m, hm, hma, hmx⟩ := ih (max z y) (by omega)
      refine ⟨m, ?_, hma, fun k hk hka => ?_⟩
      · rcases List.mem_cons.1 hm with rfl | hm
        · by_cases hzy : z ≤ y
          · rw [Int.max_eq_right hzy]; simp
          · rw [Int.max_eq_left (by omega)]; simp
        · simp [hm]
      · have h0 := hmx (max z y) (List.mem_cons_self ..) (by omega)
        rcases List.mem_cons.1 hk with rfl | hk
        · omega
        · rcases List.mem_cons.1 hk with rfl | hk
          · omega
          · exact hmx k (List.mem_cons_of_mem _ hk) hka
    · obtain ⟨m, hm, hma, hmx⟩ := ih z hz
      refine ⟨m, ?_, hma, fun k hk hka => ?_⟩
      · rcases List.mem_cons.1 hm with rfl | hm <;> simp [*]
      · rcases List.mem_cons.1 hk with rfl | hk
        · exact hmx k (List.mem_cons_self ..) hka
        · rcases List.mem_cons.1 hk with rfl | hk
          · omega
          · exact hmx k (List.mem_cons_of_mem _ hk) hka
theorem tiles_doc (r : R) (l : List R) (hl : l.length ≤ 400) (hr : rightB r = true) (hls : ∀ q ∈ l, rightB q = true) : tilesB r l = true ↔ TilesDoc r l := by
  have pos : ∀ q, rightB q = true → 0 ≤ q.w ∧ 0 ≤ q.h := fun q hq => ⟨((rightB_iff q).1 hq).2.2.1.1, ((rightB_iff q).1 hq).2.2.2.1⟩
  rw [tiles_cov r l hl hr hls]
  constructor
  · intro h
    have h1 : ∀ q ∈ l, ∀ a b, hasB q a b = true → hasB r a b = true := fun q hq a b hh => by
      have := (cov_pos l a b).2 ⟨q, hq, hh⟩
      rw [h, cov_one] at this
      by_cases k : hasB r a b = true
      · exact k
      · rw [if_neg k] at this; omega
    refine ⟨fun q hq he => ?_, ?_, fun x _ y _ hxy => ?_⟩
    · have hn := (emptyB_not q).1 he
      have hp := pos q (hls q hq)
      refine (meet_within r q hp he).2 ?_
      have a1 := h1 q hq q.x q.y (by unfold hasB; simp; omega)
      have a2 := h1 q hq (q.x + q.w - 1) (q.y + q.h - 1) (by unfold hasB; simp; omega)
      unfold hasB at a1 a2
      simp at a1 a2
      omega
    · have hp := cov_apart l (fun a b => by rw [h, cov_one]; split <;> omega)
      exact hp.imp (fun {p q} hh (_ : emptyB q = false) => (meet_empty p q).2 hh)
    · refine (cov_pos l x y).1 ?_
      rw [h, cov_one, if_pos hxy]; exact Int.le_refl 1
  · rintro ⟨h1, h2, h3⟩ a b
    have hin : ∀ q ∈ l, hasB q a b = true → hasB r a b = true := fun q hq hh => by
      have he : emptyB q = false := by
        rw [emptyB_not]; unfold hasB at hh; simp at hh; omega
      have := (meet_within r q (pos q (hls q hq)) he).1 (h1 q hq he)
      unfold hasB at *; simp at *; omega
    have hle : cov l a b ≤ 1 := cov_le l a b (h2.imp fun {p q} k hh => by
      have he : emptyB q = false := by
        rw [emptyB_not]; have := hh.2; unfold hasB at this; simp at this; omega
      exact (meet_empty p q).1 (k he) a b hh)
    rw [cov_one]
    by_cases hra : hasB r a b = true
    · rw [if_pos hra]
      have h0 : 1 ≤ cov l a b := by
        have hrr := hra
        unfold hasB at hrr; simp at hrr
        obtain ⟨x, hx, hxa, hxm⟩ := last_le ((l.filter fun q => !emptyB q).flatMap edgX) r.x a (by omega)
        obtain ⟨y, hy, hyb, hym⟩ := last_le ((l.filter fun q => !emptyB q).flatMap edgY) r.y b (by omega)
        have x0 := hxm r.x (List.mem_cons_self ..) (by omega)
        have y0 := hym r.y (List.mem_cons_self ..) (by omega)
        obtain ⟨q, hq, hh⟩ := h3 x hx y hy (by unfold hasB; simp; omega)
        have hh' := hh
        unfold hasB at hh'; simp at hh'
        have he : emptyB q = false := by rw [emptyB_not]; omega
        have mf : q ∈ l.filter fun q => !emptyB q := List.mem_filter.2 ⟨hq, by simp [he]⟩
        have ex := hxm (q.x + q.w) (List.mem_cons_of_mem _ (List.mem_flatMap.2 ⟨q, mf, by simp [edgX]⟩))
        have ey := hym (q.y + q.h) (List.mem_cons_of_mem _ (List.mem_flatMap.2 ⟨q, mf, by simp [edgY]⟩))
        refine (cov_pos l a b).2 ⟨q, hq, ?_⟩
        unfold hasB; simp
        by_cases e1 : q.x + q.w ≤ a
        · have := ex e1; omega
        · by_cases e2 : q.y + q.h ≤ b
          · have := ey e2; omega
          · omega
      omega
    · rw [if_neg hra]
      have h0 := cov_nonneg l a b
      have : ¬ 1 ≤ cov l a b := fun k => by
        obtain ⟨q, hq, hh⟩ := (cov_pos l a b).1 k
        exact hra (hin q hq hh)
      omega
end Go.Proofs.Ytjdnhpbifblneaa
