/- The winner among sides, in plain data; the order of sides. Nothing of memory. -/
/- Slices at variable bounds, of elements of any size. Nothing of the program. -/
import Derived.Test.YtceippgkmoijdaaCRiv
import Derived.Test.YtceippgkmoijdaaCBase
import Derived.WalkKit
import Derived.BigRegion
import Derived.RegionTactic
import Derived.Deep.Strs
namespace Go.Proofs.Ytceippgkmoijdaa
open Go.RowKit Go.Shelf Go.Sort
set_option linter.unusedVariables false
set_option linter.unusedSimpArgs false

theorem cmpI_self (x : Int) : cmpI x x = 0 := by unfold cmpI; simp
theorem cmpI_zero {x y : Int} : cmpI x y = 0 ↔ x = y := by unfold cmpI; split <;> (try split) <;> omega
theorem cmpI_neg {x y : Int} : cmpI x y < 0 ↔ x < y := by unfold cmpI; split <;> (try split) <;> omega
theorem cmpL_self (xs : List Int) : cmpL xs xs = 0 := by
  induction xs with
  | nil => rfl
  | cons a l ih => simp [cmpL, cmpI_self, ih]
theorem cmpL_zero {xs ys : List Int} (h : xs.length = ys.length) : cmpL xs ys = 0 ↔ xs = ys := by
  induction xs generalizing ys with
  | nil => cases ys with
    | nil => simp [cmpL]
    | cons b m => simp at h
  | cons a l ih =>
    cases ys with
    | nil => simp at h
    | cons b m =>
      by_cases hc : cmpI a b = 0
      · have e := cmpI_zero.1 hc
        subst e
        rw [show cmpL (a :: l) (a :: m) = cmpL l m by simp [cmpL, cmpI_self], ih (by simpa using h)]
        simp
      · rw [show cmpL (a :: l) (b :: m) = cmpI a b by simp [cmpL, hc]]
        constructor
        · intro k; exact absurd k hc
        · intro k; injection k with k1 k2; exact cmpI_zero.2 k1
/-- one row of numbers comes ahead of another -/
theorem cmpL_cons (a b : Int) (l m : List Int) : cmpL (a :: l) (b :: m) < 0 ↔ a < b ∨ (a = b ∧ cmpL l m < 0) := by
  by_cases hc : cmpI a b = 0
  · have e := cmpI_zero.1 hc
    subst e
    rw [show cmpL (a :: l) (a :: m) = cmpL l m by simp [cmpL, cmpI_self]]; simp
  · rw [show cmpL (a :: l) (b :: m) = cmpI a b by simp [cmpL, hc], cmpI_neg]
    have : a ≠ b := fun e => hc (cmpI_zero.2 e)
    constructor
    · intro k; exact .inl k
    · rintro (k | ⟨k, _⟩)
      · exact k
      · exact absurd k this
theorem cmpL_trans {xs ys zs : List Int} (h1 : xs.length = ys.length) (h2 : ys.length = zs.length) : cmpL xs ys < 0 → cmpL ys zs < 0 → cmpL xs zs < 0 := by
  induction xs generalizing ys zs with
  | nil => cases ys with
    | nil => intro h; simp [cmpL] at h
    | cons b m => simp at h1
  | cons a l ih =>
    cases ys with
    | nil => simp at h1
    | cons b m =>
      cases zs with
      | nil => simp at h2
      | cons c n =>
        rw [cmpL_cons, cmpL_cons, cmpL_cons]
        rintro (h | ⟨rfl, h⟩) (k | ⟨rfl, k⟩)
        · exact .inl (by omega)
        · exact .inl h
        · exact .inl k
        · exact .inr ⟨rfl, ih (by simpa using h1) (by simpa using h2) h k⟩
theorem cmpL_total {xs ys : List Int} (h1 : xs.length = ys.length) (hne : xs ≠ ys) : cmpL xs ys < 0 ∨ cmpL ys xs < 0 := by
  induction xs generalizing ys with
  | nil => cases ys with
    | nil => exact absurd rfl hne
    | cons b m => simp at h1
  | cons a l ih =>
    cases ys with
    | nil => simp at h1
    | cons b m =>
      rw [cmpL_cons, cmpL_cons]
      rcases Int.lt_trichotomy a b with k | rfl | k
      · exact .inl (.inl k)
      · rcases ih (ys := m) (by simpa using h1) (fun e => hne (by rw [e])) with k | k
        · exact .inl (.inr ⟨rfl, k⟩)
        · exact .inr (.inr ⟨rfl, k⟩)
      · exact .inr (.inl k)
theorem rankL_len (s : Si) : (rankL s).length = 7 := rfl
theorem rank_inj {a b : Si} (h : rankL a = rankL b) : a = b := by
  obtain ⟨a0, a1, a2, a3, a4, a5⟩ := a
  obtain ⟨b0, b1, b2, b3, b4, b5⟩ := b
  simp only [rankL, List.cons.injEq, and_true] at h
  obtain ⟨_, h1, h2, h3, h4, h5, h6⟩ := h
  have h1' : a1 = b1 := by omega
  subst h1' h2 h3 h4 h5 h6; rfl
theorem cmpS_irr (a : Si) : ¬ cmpS a a < 0 := by unfold cmpS; rw [cmpL_self]; omega
theorem cmpS_trans {a b c : Si} (h : cmpS a b < 0) (k : cmpS b c < 0) : cmpS a c < 0 := cmpL_trans (xs := rankL a) (ys := rankL b) (zs := rankL c) rfl rfl h k
theorem cmpS_total {a b : Si} (h : a ≠ b) : cmpS a b < 0 ∨ cmpS b a < 0 := cmpL_total (xs := rankL a) (ys := rankL b) rfl fun e => h (rank_inj e)
theorem cmpS_asym {a b : Si} (h : cmpS a b < 0) : ¬ cmpS b a < 0 := fun k => cmpS_irr a (cmpS_trans h k)
theorem cmpS_same {a b : Si} (h : rankL a = rankL b) : ¬ cmpS a b < 0 := by rw [rank_inj h]; exact cmpS_irr b
/-- not behind is transitive -/
theorem cmpS_le {a b c : Si} (h : ¬ cmpS b a < 0) (k : ¬ cmpS c b < 0) : ¬ cmpS c a < 0 := by
  intro hc
  by_cases e : a = b
  · subst e; exact k hc
  · rcases cmpS_total e with h1 | h1
    · exact k (cmpS_trans hc h1)
    · exact h h1
theorem cmpS_anti {a b : Si} (h : ¬ cmpS a b < 0) (k : ¬ cmpS b a < 0) : a = b := by
  by_cases e : a = b
  · exact e
  · rcases cmpS_total e with h1 | h1
    · exact absurd h1 h
    · exact absurd h1 k

/-- the best of one side and some others -/
def winF (b : Si) (zs : List Si) : Si := zs.foldl (fun b s => if cmpS s b < 0 then s else b) b
theorem winF_cons (b s : Si) (zs : List Si) : winF b (s :: zs) = winF (if cmpS s b < 0 then s else b) zs := rfl
theorem winF_skip (b : Si) (zs : List Si) (k : Nat) (hk : k ≤ zs.length) (h : ∀ j s, j < k → zs[j]? = some s → ¬ cmpS s b < 0) : winF b zs = winF b (zs.drop k) := by
  induction k generalizing zs with
  | zero => rfl
  | succ k ih =>
    cases zs with
    | nil => simp at hk
    | cons s zs =>
      have h0 := h 0 s (by omega) rfl
      rw [winF_cons, if_neg h0, List.drop_succ_cons]
      exact ih zs (by simpa using hk) (fun j s' hj hs => h (j + 1) s' (by omega) (by simpa using hs))
theorem rivF_mem {top : Si} {zs : List Si} {j k : Nat} {s : Si} (hj : j < k) (hs : zs[j]? = some s) (hne : rankL s ≠ rankL top) : (j, s) ∈ rivF top zs k := by
  induction k with
  | zero => omega
  | succ k ih =>
    unfold rivF
    rw [List.mem_append]
    by_cases e : j = k
    · subst e; right; simp [hs, hne]
    · exact .inl (ih (by omega))
theorem riv_none {top : Si} {zs : List Si} {k : Nat} (h : ∀ x ∈ rivF top zs k, ¬ cmpS x.2 top < 0) : ∀ j s, j < k → zs[j]? = some s → ¬ cmpS s top < 0 := by
  intro j s hj hs
  by_cases e : rankL s = rankL top
  · exact cmpS_same e
  · exact (show ¬ cmpS (j, s).2 top < 0 from h (j, s) (rivF_mem hj hs e))
theorem win_goto {b s : Si} {zs : List Si} {k : Nat} (hs : zs[k]? = some s) (h : ∀ x ∈ rivF b zs k, ¬ cmpS x.2 b < 0) (hl : cmpS s b < 0) : winF b zs = winF s (zs.drop (k + 1)) := by
  obtain ⟨hk, he⟩ := List.getElem?_eq_some_iff.1 hs
  rw [winF_skip b zs k (by omega) (riv_none h), List.drop_eq_getElem_cons hk, he, winF_cons, if_pos hl]
theorem win_done {b : Si} {zs : List Si} (h : ∀ x ∈ rivF b zs zs.length, ¬ cmpS x.2 b < 0) : winF b zs = b := by
  rw [winF_skip b zs zs.length (Nat.le_refl _) (riv_none h), List.drop_length]; rfl
def Si.zero : Si := ⟨0, 0, 0, 0, 0, 0⟩
/-- the winner, and whether there is one -/
def winR : List Si → Si × Int
  | [] => (Si.zero, 110)
  | s :: r => if (s :: r).all rightS then (winF s r, 0) else (Si.zero, 110)
theorem winF_mem (b : Si) (zs : List Si) : winF b zs ∈ b :: zs := by
  induction zs generalizing b with
  | nil => exact List.mem_cons_self
  | cons s zs ih =>
    rw [winF_cons]
    by_cases hl : cmpS s b < 0
    · rw [if_pos hl]
      exact List.mem_cons_of_mem _ (ih s)
    · rw [if_neg hl]
      rcases List.mem_cons.1 (ih b) with e | e
      · rw [e]; exact List.mem_cons_self
      · exact List.mem_cons_of_mem _ (List.mem_cons_of_mem _ e)
/-- nobody wins against the best -/
theorem winF_best (b : Si) (zs : List Si) : ∀ s ∈ b :: zs, ¬ cmpS s (winF b zs) < 0 := by
  induction zs generalizing b with
  | nil => intro s hs; obtain rfl : s = b := by simpa using hs
           exact cmpS_irr s
  | cons a zs ih =>
    intro s hs
    rw [winF_cons]
    have h0 := ih (if cmpS a b < 0 then a else b) _ List.mem_cons_self
    by_cases hl : cmpS a b < 0
    · rw [if_pos hl] at h0 ⊢
      rcases List.mem_cons.1 hs with rfl | hs
      · exact cmpS_le h0 (cmpS_asym hl)
      · rcases List.mem_cons.1 hs with rfl | hs
        · exact h0
        · have := ih a s (List.mem_cons_of_mem _ hs); exact this
    · rw [if_neg hl] at h0 ⊢
      rcases List.mem_cons.1 hs with rfl | hs
      · exact h0
      · rcases List.mem_cons.1 hs with rfl | hs
        · exact cmpS_le h0 hl
        · have := ih b s (List.mem_cons_of_mem _ hs); exact this
end Go.Proofs.Ytceippgkmoijdaa

namespace Go.Proofs.Ytceippgkmoijdaa
open Go.RowKit Go.Deep
set_option linter.unusedVariables false
set_option linter.unusedSimpArgs false

theorem exec_sliceZ_l {P : Program} {w : World} {a : Act} {o : Oper} (z : Nat) (t : TypeId) (x lo : Operand) (ho : o.op = .slice t x (some lo) none none) (e : TypeId) (ht : P.underlying t = some (.slice e)) (hs : (sizeOf e).run P w = .ok z w)
    (p : Option Addr) (m c fr : Nat) (hx : a.eval x = .slice p m c) (hl : a.eval lo = .int .i64 fr) (h1 : fr ≤ m) :
    (execOp a.eval o).run P w = .ok (.value (.slice (if c = fr then p else p.map (·.add (fr * z))) (m - fr) (c - fr))) w := by
  have he : P.elem t = e := by simp [Program.elem, ht]
  have ht' : P.underlying t = some (.slice (P.elem t)) := by rw [he]; exact ht
  unfold execOp
  simp only [ho, hx, Option.map_some, Option.map_none, hl]
  simp [run_sliceAt_slice (P := P) w t _ _ _ _ ht', run_slice_l (P := P) w t p m c ht' .i64 (fr : Int) (by omega) (by omega), he, hs, sliced, Result.andThen]
theorem exec_sliceZ_h {P : Program} {w : World} {a : Act} {o : Oper} (z : Nat) (t : TypeId) (x hi : Operand) (ho : o.op = .slice t x none (some hi) none) (e : TypeId) (ht : P.underlying t = some (.slice e)) (hs : (sizeOf e).run P w = .ok z w)
    (p : Option Addr) (m c to : Nat) (hx : a.eval x = .slice p m c) (hh : a.eval hi = .int .i64 to) (h2 : to ≤ c) :
    (execOp a.eval o).run P w = .ok (.value (.slice p to c)) w := by
  have he : P.elem t = e := by simp [Program.elem, ht]
  have ht' : P.underlying t = some (.slice (P.elem t)) := by rw [he]; exact ht
  unfold execOp
  simp only [ho, hx, Option.map_some, Option.map_none, hh]
  simp [run_sliceAt_slice (P := P) w t _ _ _ _ ht', run_slice_h (P := P) w t p m c ht' .i64 (to : Int) (by omega) (by omega), he, hs, sliced, Result.andThen]
  intro _; cases p <;> simp [go_sem]
end Go.Proofs.Ytceippgkmoijdaa
