/- Grids of bands: they tile what they make; with one less, or one twice, they don't. Plain. -/
import Derived.Test.YtjdnhpbifblneaaRDoc
namespace Go.Proofs.Ytjdnhpbifblneaa
set_option linter.unusedVariables false

def rowR (x y h : Int) : List Int → List R
  | [] => []
  | n :: ns => ⟨x, y, n, h⟩ :: rowR (x + n) y h ns
def gridR (x y : Int) (along : List Int) : List Int → List R
  | [] => []
  | h :: hs => rowR x y h along ++ gridR x (y + h) along hs
theorem cov_append (l m : List R) (a b : Int) : cov (l ++ m) a b = cov l a b + cov m a b := by
  unfold cov; rw [List.map_append, List.sum_append]
theorem sum_nonneg (l : List Int) (h : ∀ n ∈ l, 0 ≤ n) : 0 ≤ l.sum := by
  induction l with
  | nil => exact Int.le_refl 0
  | cons n l ih =>
    rw [List.sum_cons]
    have := h n (List.mem_cons_self ..)
    have := ih fun k hk => h k (List.mem_cons_of_mem _ hk)
    omega
theorem cov_row (x y h : Int) (ns : List Int) (hn : ∀ n ∈ ns, 0 ≤ n) (a b : Int) : cov (rowR x y h ns) a b = cov [⟨x, y, ns.sum, h⟩] a b := by
  induction ns generalizing x with
  | nil =>
    rw [cov_one, if_neg (by unfold hasB; simp; omega)]; rfl
  | cons n ns ih =>
    have h0 := hn n (List.mem_cons_self ..)
    have hr : ∀ k ∈ ns, 0 ≤ k := fun k hk => hn k (List.mem_cons_of_mem _ hk)
    have hs := sum_nonneg ns hr
    rw [rowR, cov_cons, ih (x + n) hr, cov_one, cov_one, List.sum_cons]
    unfold hasB
    simp only [decide_eq_true_eq]
    (repeat' split) <;> omega
theorem cov_grid (x y : Int) (along hs : List Int) (ha : ∀ n ∈ along, 0 ≤ n) (hh : ∀ n ∈ hs, 0 ≤ n) (a b : Int) : cov (gridR x y along hs) a b = cov [⟨x, y, along.sum, hs.sum⟩] a b := by
  induction hs generalizing y with
  | nil =>
    rw [cov_one, if_neg (by unfold hasB; simp <;> omega)]; rfl
  | cons n ns ih =>
    have h0 := hh n (List.mem_cons_self ..)
    have hr : ∀ k ∈ ns, 0 ≤ k := fun k hk => hh k (List.mem_cons_of_mem _ hk)
    have hs := sum_nonneg ns hr
    rw [gridR, cov_append, cov_row x y n along ha, ih (y + n) hr, cov_one, cov_one, cov_one, List.sum_cons]
    unfold hasB
    simp only [decide_eq_true_eq]
    (repeat' split) <;> omega
theorem row_len (x y h : Int) (ns : List Int) : (rowR x y h ns).length = ns.length := by
  induction ns generalizing x with
  | nil => rfl
  | cons n ns ih => rw [rowR, List.length_cons, ih, List.length_cons]
theorem grid_len (x y : Int) (along hs : List Int) : (gridR x y along hs).length = along.length * hs.length := by
  induction hs generalizing y with
  | nil => rfl
  | cons n ns ih => rw [gridR, List.length_append, row_len, ih, List.length_cons, Nat.mul_succ]; omega
/-- the bounds of all that lie in a row, in a grid -/
theorem row_in (x y h : Int) (ns : List Int) (hn : ∀ n ∈ ns, 1 ≤ n) : ∀ q ∈ rowR x y h ns, x ≤ q.x ∧ 1 ≤ q.w ∧ q.x + q.w ≤ x + ns.sum ∧ q.y = y ∧ q.h = h := by
  induction ns generalizing x with
  | nil => intro q hq; cases hq
  | cons n ns ih =>
    have h0 := hn n (List.mem_cons_self ..)
    have hr : ∀ k ∈ ns, 1 ≤ k := fun k hk => hn k (List.mem_cons_of_mem _ hk)
    have hs := sum_nonneg ns (fun k hk => by have := hr k hk; omega)
    intro q hq
    rw [List.sum_cons]
    rcases List.mem_cons.1 hq with rfl | hq
    · dsimp only; omega
    · have := ih (x + n) hr q hq; omega
theorem grid_in (x y : Int) (along hs : List Int) (ha : ∀ n ∈ along, 1 ≤ n) (hh : ∀ n ∈ hs, 1 ≤ n) : ∀ q ∈ gridR x y along hs, x ≤ q.x ∧ 1 ≤ q.w ∧ q.x + q.w ≤ x + along.sum ∧ y ≤ q.y ∧ 1 ≤ q.h ∧ q.y + q.h ≤ y + hs.sum := by
  induction hs generalizing y with
  | nil => intro q hq; cases hq
  | cons n ns ih =>
    have h0 := hh n (List.mem_cons_self ..)
    have hr : ∀ k ∈ ns, 1 ≤ k := fun k hk => hh k (List.mem_cons_of_mem _ hk)
    have hs := sum_nonneg ns (fun k hk => by have := hr k hk; omega)
    intro q hq
    rw [List.sum_cons]
    rcases List.mem_append.1 hq with hq | hq
    · have := row_in x y n along ha q hq; omega
    · have := ih (y + n) hr q hq; omega
/-- a grid tiles what it makes -/
theorem grid_tiles (x y : Int) (along hs : List Int) (ha : ∀ n ∈ along, 1 ≤ n) (hh : ∀ n ∈ hs, 1 ≤ n) (hl : along.length * hs.length ≤ 400) (hr : rightB ⟨x, y, along.sum, hs.sum⟩ = true) (hls : ∀ q ∈ gridR x y along hs, rightB q = true) :
    tilesB ⟨x, y, along.sum, hs.sum⟩ (gridR x y along hs) = true :=
  (tiles_cov _ _ (by rw [grid_len]; exact hl) hr hls).2 fun a b => cov_grid x y along hs (fun n hn => by have := ha n hn; omega) (fun n hn => by have := hh n hn; omega) a b
/-- with one less, or one twice, nothing is tiled any more -/
theorem tiles_less (r : R) (l : List R) (k : Nat) (hk : k < l.length) (hl : l.length ≤ 400) (hr : rightB r = true) (hls : ∀ q ∈ l, rightB q = true) (ht : tilesB r l = true) (hn : 1 ≤ l[k].w ∧ 1 ≤ l[k].h) : tilesB r (l.take k ++ l.drop (k + 1)) = false := by
  have e : l = l.take k ++ l[k] :: l.drop (k + 1) := by rw [← List.drop_eq_getElem_cons hk, List.take_append_drop]
  have hm : ∀ q ∈ l.take k ++ l.drop (k + 1), q ∈ l := fun q hq => by
    rcases List.mem_append.1 hq with h | h
    · exact List.mem_of_mem_take h
    · exact List.mem_of_mem_drop h
  rw [Bool.eq_false_iff]
  intro h
  have h1 := (tiles_cov r l hl hr hls).1 ht l[k].x l[k].y
  have h2 := (tiles_cov r _ (by rw [List.length_append, List.length_take, List.length_drop]; omega) hr (fun q hq => hls q (hm q hq))).1 h l[k].x l[k].y
  rw [cov_append] at h2
  have h3 : cov l l[k].x l[k].y = cov (l.take k) l[k].x l[k].y + (1 + cov (l.drop (k + 1)) l[k].x l[k].y) := by
    have := congrArg (fun m => cov m l[k].x l[k].y) e
    rw [this, cov_append, cov_cons, if_pos (by unfold hasB; simp; omega)]
  omega
theorem tiles_more (r : R) (l : List R) (k : Nat) (hk : k < l.length) (hl : l.length < 400) (hr : rightB r = true) (hls : ∀ q ∈ l, rightB q = true) (ht : tilesB r l = true) (hn : 1 ≤ l[k].w ∧ 1 ≤ l[k].h) : tilesB r (l ++ [l[k]]) = false := by
  rw [Bool.eq_false_iff]
  intro h
  have h1 := (tiles_cov r l (by omega) hr hls).1 ht l[k].x l[k].y
  have h2 := (tiles_cov r _ (by rw [List.length_append, List.length_singleton]; omega) hr (fun q hq => by
    rcases List.mem_append.1 hq with h | h
    · exact hls q h
    · rw [show q = l[k] by simpa using h]; exact hls _ (List.getElem_mem hk))).1 h l[k].x l[k].y
  rw [cov_append, cov_one l[k], if_pos (by unfold hasB; simp; omega)] at h2
  omega
end Go.Proofs.Ytjdnhpbifblneaa
