/- The plain grid of the law: n rows of m cells of one slot each. -/
import Derived.Test.YtihpaicbdfgfbaaGEmpty
import Derived.Test.YtihpaicbdfgfbaaGMake
import Derived.Test.YtihpaicbdfgfbaaGCut
namespace Go.Proofs.Ytihpaicbdfgfbaa
open Go.RowKit Go.Shelf Go.Maps
set_option linter.unusedVariables false

def oneC (i j : Nat) : Sp := ⟨100 * (i : Int) + (j : Int), 1, 1⟩
def rowG (i k c : Nat) : List Sp := (List.range' k c).map (oneC i)
def rowsG (m k r : Nat) : List (List Sp) := (List.range' k r).map fun i => rowG i 0 m
def plJ (m j : Nat) : Pl := ⟨100 * ((j / m : Nat) : Int) + ((j % m : Nat) : Int), j / m, j % m, 1, 1⟩
structure St (m i k : Nat) (s : LS) : Prop where
  get : ∀ j, s.t[j]? = if j < k then some (i + 1) else if i = 0 then none else if j < m then some i else none
  from_ : fromP s i = k
  last : s.last.r ≤ i
  ps : s.ps = (List.range (i * m + k)).map (plJ m)
theorem idx_div (i m k : Nat) (h : k < m) : (i * m + k) / m = i ∧ (i * m + k) % m = k := by
  constructor
  · rw [Nat.mul_comm, Nat.mul_add_div (by omega), Nat.div_eq_of_lt h, Nat.add_zero]
  · rw [Nat.mul_comm, Nat.mul_add_mod, Nat.mod_eq_of_lt h]
theorem St.len {m i k : Nat} {s : LS} (h : St m i k s) (hk : k ≤ m) : s.t.length ≤ m := by
  have := h.get m
  rw [if_neg (by omega)] at this
  have h2 : s.t[m]? = none := by
    rw [this]; split
    · rfl
    · rw [if_neg (by omega)]
  exact List.getElem?_eq_none_iff.1 h2
theorem St.lenk {m i k : Nat} {s : LS} (h : St m i k s) : k ≤ s.t.length := by
  rcases Nat.lt_or_ge s.t.length k with h' | h'
  · have := h.get s.t.length
    rw [List.getElem?_eq_none (Nat.le_refl _), if_pos h'] at this; cases this
  · exact h'
theorem St.step {n m i k : Nat} {s : LS} (h : St m i k s) (hi : i < n) (hk : k < m) (hm : m ≤ 50) :
    St m i (k + 1) (stepP (List.replicate n (n : Int)) s (i, oneC i k)) ∧ ¬ 10000 < (stepP (List.replicate n (n : Int)) s (i, oneC i k)).t.length := by
  have hfree : freeB s.t i k = true := by
    have := h.get k
    rw [if_neg (by omega)] at this
    by_cases hz : i = 0
    · rw [if_pos hz] at this
      exact freeB_out (List.getElem?_eq_none_iff.1 this)
    · rw [if_neg hz, if_pos hk] at this
      rw [freeB_at this]; simp
  have e1 : firstF s.t i k = k := firstF_eq (Nat.le_refl _) (fun j h1 h2 => by omega) hfree
  have e2 : wideF s.t i k 1 = 1 := wideF_eq (Nat.le_refl _) (fun j hj => by have hz : j = 0 := (by omega); subst hz; exact hfree) (.inl rfl)
  have e3 : endP (List.replicate n (n : Int)) i = n := by unfold endP; rw [List.getElem?_replicate, if_pos hi]; simp
  obtain ⟨d1, d2⟩ := idx_div i m k hk
  have hp : placeP (List.replicate n (n : Int)) s (i, oneC i k) = plJ m (i * m + k) := by
    unfold placeP
    dsimp only
    rw [h.from_, e1, e3]
    have e4 : (oneC i k).c.toNat = 1 := rfl
    rw [e4, e2]
    have e5 : highF (oneC i k).r (n - i) = 1 := by
      show highF 1 (n - i) = 1
      unfold highF
      rw [if_neg (by decide)]
      have : (1 : Int).toNat = 1 := rfl
      rw [this]; omega
    rw [e5]
    unfold plJ
    rw [d1, d2]
    rfl
  have hget : ∀ j, (stepP (List.replicate n (n : Int)) s (i, oneC i k)).t[j]? = if j < k + 1 then some (i + 1) else if i = 0 then none else if j < m then some i else none := by
    intro j
    unfold stepP
    rw [hp]
    show (takeN s.t (plJ m (i * m + k)).c (i + (plJ m (i * m + k)).h) (plJ m (i * m + k)).w)[j]? = _
    have q1 : (plJ m (i * m + k)).c = k := d2
    rw [q1, takeN_get _ _ _ h.lenk]
    show (if k ≤ j ∧ j < k + 1 then some (i + 1) else s.t[j]?) = _
    by_cases hj : j = k
    · subst hj; rw [if_pos (show j ≤ j ∧ j < j + 1 by omega), if_pos (show j < j + 1 by omega)]
    · rw [if_neg (show ¬ (k ≤ j ∧ j < k + 1) by omega), h.get j]
      by_cases hjk : j < k
      · rw [if_pos hjk, if_pos (show j < k + 1 by omega)]
      · rw [if_neg hjk, if_neg (show ¬ j < k + 1 by omega)]
  have hS : St m i (k + 1) (stepP (List.replicate n (n : Int)) s (i, oneC i k)) := by
    refine ⟨hget, ?_, ?_, ?_⟩
    · unfold stepP
      rw [hp]
      show (if i = (plJ m (i * m + k)).r then (plJ m (i * m + k)).c + (plJ m (i * m + k)).w else 0) = k + 1
      have q0 : (plJ m (i * m + k)).r = i := d1
      have q1 : (plJ m (i * m + k)).c = k := d2
      rw [q0, if_pos rfl, q1]
      rfl
    · unfold stepP
      rw [hp]
      show (i * m + k) / m ≤ i
      rw [d1]; exact Nat.le_refl _
    · unfold stepP
      rw [hp]
      show s.ps ++ [plJ m (i * m + k)] = _
      rw [h.ps, show i * m + (k + 1) = i * m + k + 1 by omega, List.range_succ, List.map_append]
      rfl
  exact ⟨hS, by have := hS.len (by omega); omega⟩
theorem row_run {n m i : Nat} (hi : i < n) (hm : m ≤ 50) : ∀ (c k : Nat) (s : LS), k + c = m → St m i k s → ∃ s', runP (List.replicate n (n : Int)) ((rowG i k c).map fun x => (i, x)) s = some s' ∧ St m i m s'
  | 0, k, s, hk, h => ⟨s, rfl, by rw [show m = k by omega] at h ⊢; exact h⟩
  | c + 1, k, s, hk, h => by
    obtain ⟨h1, h2⟩ := h.step hi (by omega) hm
    obtain ⟨s', g1, g2⟩ := row_run hi hm c (k + 1) _ (by omega) h1
    refine ⟨s', ?_, g2⟩
    unfold rowG at g1 ⊢
    rw [List.range'_succ, List.map_cons, List.map_cons]
    simp only [runP]
    rw [if_neg h2]
    exact g1
theorem rows_run {n m : Nat} (hm : m ≤ 50) : ∀ (r i : Nat) (s : LS), i + r = n → St m i 0 s → ∃ s', runP (List.replicate n (n : Int)) (cellsF i (rowsG m i r)) s = some s' ∧ St m n 0 s'
  | 0, i, s, hi, h => ⟨s, rfl, by rw [show n = i by omega]; exact h⟩
  | r + 1, i, s, hi, h => by
    obtain ⟨s1, g1, g2⟩ := row_run (n := n) (i := i) (by omega) hm m 0 s (by omega) h
    have h2 : St m (i + 1) 0 s1 := by
      refine ⟨fun j => ?_, ?_, by have := g2.last; omega, ?_⟩
      · have := g2.get j
        rw [this]
        by_cases hj : j < m
        · simp [hj]
        · simp [hj]
      · unfold fromP
        rw [if_neg (show ¬ i + 1 = s1.last.r by have := g2.last; omega)]
      · rw [g2.ps, show i * m + m = (i + 1) * m + 0 by rw [Nat.succ_mul]; rfl]
    obtain ⟨s2, g3, g4⟩ := rows_run (n := n) hm r (i + 1) s1 (by omega) h2
    refine ⟨s2, ?_, g4⟩
    unfold rowsG at g3 ⊢
    rw [List.range'_succ, List.map_cons]
    simp only [cellsF]
    rw [runP_append, g1]
    exact g3
theorem plan_run (n m : Nat) (hm : m ≤ 50) : ∃ s, layP (rowsG m 0 n) (List.replicate n (n : Int)) = some s ∧ s.ps = (List.range (n * m)).map (plJ m) ∧ s.t.length = (if n = 0 then 0 else m) := by
  obtain ⟨s, h1, h2⟩ := rows_run (n := n) hm n 0 LS.zero (by omega) ⟨fun j => by simp [LS.zero], by simp [fromP, LS.zero], by simp [LS.zero], by simp [LS.zero]⟩
  refine ⟨s, h1, by rw [h2.ps, Nat.add_zero], ?_⟩
  by_cases hn : n = 0
  · rw [if_pos hn]
    have := h2.get 0
    rw [if_neg (by omega), if_pos hn] at this
    have := List.getElem?_eq_none_iff.1 this
    omega
  · rw [if_neg hn]
    have hle := h2.len (by omega)
    rcases Nat.lt_or_ge s.t.length m with h' | h'
    · have := h2.get s.t.length
      rw [List.getElem?_eq_none (Nat.le_refl _), if_neg (by omega), if_neg hn, if_pos h'] at this; cases this
    · omega
theorem one_slot (a : Int) (r c : Nat) : slotsL ⟨a, r, c, 1, 1⟩ = [(r, c)] := by simp [slotsL, rowsS, rowS]
theorem ent_one : ∀ (l : List Nat) (m k : Nat), (entL k ((l.map (plJ m)).map Pl.z)).map Prod.fst = l.map fun j => (j / m, j % m)
  | [], _, _ => rfl
  | j :: l, m, k => by
    simp only [List.map_cons, entL]
    have : (plJ m j).z.pl = ⟨100 * ((j / m : Nat) : Int) + ((j % m : Nat) : Int), j / m, j % m, 1, 1⟩ := by
      simp only [plJ, Pl.z, Pz.pl, Int.toNat_natCast]
    rw [this, one_slot, List.map_append, ent_one l m (k + 1)]
    rfl
theorem plan_own (n m : Nat) (hn : n ≤ 50) (hm : m ≤ 50) : OwnQ n (if n = 0 then 0 else m) (((List.range (n * m)).map (plJ m)).map Pl.z) ∧ emptyL n (if n = 0 then 0 else m) (((List.range (n * m)).map (plJ m)).map Pl.z) = [] := by
  refine ⟨⟨fun p hp => ?_, ?_⟩, ?_⟩
  · rw [List.map_map] at hp
    obtain ⟨j, hj, rfl⟩ := List.mem_map.1 hp
    have hj' := List.mem_range.1 hj
    have hm0 : 0 < m := by rcases Nat.eq_zero_or_pos m with h | h; · subst h; simp at hj'
                           · exact h
    have hn0 : n ≠ 0 := by rintro rfl; simp at hj'
    rw [if_neg hn0]
    have h1 : j / m < n := (Nat.div_lt_iff_lt_mul hm0).2 hj'
    have h2 := Nat.mod_lt j hm0
    have e1 : ((j / m : Nat) : Int) < n := by exact_mod_cast h1
    have e2 : ((j % m : Nat) : Int) < m := by exact_mod_cast h2
    have e3 : 0 ≤ ((j / m : Nat) : Int) := Int.natCast_nonneg _
    have e4 : 0 ≤ ((j % m : Nat) : Int) := Int.natCast_nonneg _
    show (liesB ((j / m : Nat) : Int) ((1 : Nat) : Int) n && liesB ((j % m : Nat) : Int) ((1 : Nat) : Int) m) = true
    generalize ((j / m : Nat) : Int) = q1 at *
    generalize ((j % m : Nat) : Int) = q2 at *
    unfold liesB
    simp only [Bool.and_eq_true, decide_eq_true_eq]
    refine ⟨⟨⟨?_, ?_⟩, ?_⟩, ⟨?_, ?_⟩, ?_⟩ <;> omega
  · rw [ent_one]
    unfold List.Nodup
    rw [List.pairwise_map]
    refine List.nodup_range.imp fun {a b} hab e => hab ?_
    injection e with e1 e2
    rw [← Nat.div_add_mod a m, ← Nat.div_add_mod b m, e1, e2]
  · unfold emptyL
    rw [List.filter_eq_nil_iff]
    rintro ⟨a, b⟩ hs hf
    have hab := slots_mem.1 hs
    dsimp only at hab
    by_cases hn0 : n = 0
    · omega
    · rw [if_neg hn0] at hab
      have hmem : (a, b) ∈ (List.range (n * m)).map fun j => (j / m, j % m) := by
        obtain ⟨d1, d2⟩ := idx_div a m b (by omega)
        refine List.mem_map.2 ⟨a * m + b, List.mem_range.2 ?_, by rw [d1, d2]⟩
        have h1 : a + 1 ≤ n := by omega
        have h2 := Nat.mul_le_mul_right m h1
        rw [Nat.succ_mul] at h2
        omega
      rw [← ent_one _ m 0] at hmem
      obtain ⟨e, he, hee⟩ := List.mem_map.1 hmem
      unfold freeSl at hf
      have : ((entL 0 (((List.range (n * m)).map (plJ m)).map Pl.z)).reverse.any fun e => e.1 == (a, b)) = true := List.any_eq_true.2 ⟨e, List.mem_reverse.2 he, by simp [hee]⟩
      rw [this] at hf; cases hf
end Go.Proofs.Ytihpaicbdfgfbaa
