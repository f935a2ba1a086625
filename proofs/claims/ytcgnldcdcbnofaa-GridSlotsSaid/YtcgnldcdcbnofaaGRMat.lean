/- Who has which slot, as rows of numbers. -/
import Derived.Test.YtcgnldcdcbnofaaGRSm
namespace Go.Proofs.Ytcgnldcdcbnofaa
open Go.RowKit Go.Shelf
set_option linter.unusedVariables false
set_option linter.unusedSimpArgs false

def rowM (ms : List ((Nat × Nat) × Nat)) (cols r : Nat) : List Int := (List.range cols).map fun c => ownA ms (r, c)
def matM (ms : List ((Nat × Nat) × Nat)) (rows cols : Nat) : List (List Int) := (List.range rows).map (rowM ms cols)
theorem matM_len (ms : List ((Nat × Nat) × Nat)) (rows cols : Nat) : (matM ms rows cols).length = rows := by simp [matM]
theorem rowM_len (ms : List ((Nat × Nat) × Nat)) (cols r : Nat) : (rowM ms cols r).length = cols := by simp [rowM]
theorem matM_get (ms : List ((Nat × Nat) × Nat)) (rows cols r : Nat) (hr : r < rows) : (matM ms rows cols)[r]? = some (rowM ms cols r) := by simp [matM, hr]
theorem rowM_get (ms : List ((Nat × Nat) × Nat)) (cols r c : Nat) (hc : c < cols) : (rowM ms cols r)[c]? = some (ownA ms (r, c)) := by simp [rowM, hc]
theorem matM_nil (rows cols : Nat) : matM [] rows cols = List.replicate rows (List.replicate cols (-1)) := by
  have h : ∀ r, rowM [] cols r = List.replicate cols (-1) := fun r => by simp [rowM, ownA, List.map_const']
  unfold matM
  rw [show rowM [] cols = fun _ => List.replicate cols (-1) from funext h]
  simp [List.map_const']
theorem ownA_cons (ms : List ((Nat × Nat) × Nat)) (s s' : Nat × Nat) (i : Nat) : ownA ((s, i) :: ms) s' = if s = s' then (i : Int) else ownA ms s' := by
  unfold ownA
  by_cases h : s = s'
  · subst h; simp
  · rw [List.find?_cons_of_neg (by simpa using h), if_neg h]
theorem matM_set (ms : List ((Nat × Nat) × Nat)) (rows cols r c i : Nat) : (matM ms rows cols).set r ((rowM ms cols r).set c (i : Int)) = matM (((r, c), i) :: ms) rows cols := by
  apply List.ext_getElem?
  intro j
  by_cases hj : j < rows
  · rw [matM_get _ _ _ _ hj]
    by_cases hr : r = j
    · subst hr
      rw [List.getElem?_set_self (by rw [matM_len]; exact hj)]
      congr 1
      apply List.ext_getElem?
      intro d
      by_cases hd : d < cols
      · rw [rowM_get _ _ _ _ hd, ownA_cons]
        by_cases hc : c = d
        · subst hc
          rw [List.getElem?_set_self (by rw [rowM_len]; exact hd), if_pos rfl]
        · rw [List.getElem?_set_ne hc, rowM_get _ _ _ _ hd, if_neg (fun e => hc (by injection e))]
      · rw [List.getElem?_eq_none (by rw [List.length_set, rowM_len]; omega), List.getElem?_eq_none (by rw [rowM_len]; omega)]
    · rw [List.getElem?_set_ne hr, matM_get _ _ _ _ hj]
      congr 1
      unfold rowM
      apply List.map_congr_left
      intro d _
      rw [ownA_cons, if_neg (fun e => hr (by injection e))]
  · rw [List.getElem?_eq_none (by rw [List.length_set, matM_len]; omega), List.getElem?_eq_none (by rw [matM_len]; omega)]
theorem ownA_hit (ms : List ((Nat × Nat) × Nat)) (s : Nat × Nat) : 0 ≤ ownA ms s ↔ (ms.any fun e => e.1 == s) = true := by
  unfold ownA
  cases h : ms.find? (fun e => e.1 == s) with
  | none =>
    have h1 : (ms.any fun e => e.1 == s) = false := by
      rw [List.any_eq_false]
      exact fun e he => List.find?_eq_none.1 h e he
    rw [h1]
    simp
  | some e =>
    have h1 : (ms.any fun e => e.1 == s) = true := List.any_eq_true.2 ⟨e, List.mem_of_find?_eq_some h, by have := List.find?_some h; simpa using this⟩
    rw [h1]
    simp
/-- what is taken so far: all of the places ahead, and of place i the slots pre -/
def tookM (L : List Pz) (i : Nat) (pre : List (Nat × Nat)) : List ((Nat × Nat) × Nat) := (pre.map fun s => (s, i)).reverse ++ (entL 0 (L.take i)).reverse
theorem tookM_snoc (L : List Pz) (i : Nat) (pre : List (Nat × Nat)) (s : Nat × Nat) : tookM L i (pre ++ [s]) = (s, i) :: tookM L i pre := by simp [tookM]
theorem tookM_next (L : List Pz) (i : Nat) (p : Pz) (hp : L[i]? = some p) : tookM L i (slotsL p.pl) = tookM L (i + 1) [] := by
  unfold tookM
  have h1 : L.take (i + 1) = L.take i ++ [p] := by rw [List.take_add_one, hp]; rfl
  have hlt := (List.getElem?_eq_some_iff.1 hp).1
  have h2 : (L.take i).length = i := by rw [List.length_take]; omega
  rw [h1, entL_snoc, List.reverse_append, h2]
  simp
theorem nodup_more {ms : List ((Nat × Nat) × Nat)} {s : Nat × Nat} {i : Nat} (h : (ms.map Prod.fst).Nodup) (hs : (ms.any fun e => e.1 == s) = false) : ((((s, i) :: ms).map Prod.fst)).Nodup := by
  rw [List.map_cons, List.nodup_cons]
  refine ⟨fun hm => ?_, h⟩
  obtain ⟨e, he, h1⟩ := List.mem_map.1 hm
  have := List.any_eq_false.1 hs e he
  simp [h1] at this
/-- the slots of a place ahead of one of its slots -/
def aheadL (r c w a k : Nat) : List (Nat × Nat) := slotsL ⟨0, r, c, a, w⟩ ++ (List.range' 0 k).map fun b => (r + a, c + b)
theorem ahead_zero (r c w a : Nat) : aheadL r c w a 0 = slotsL ⟨0, r, c, a, w⟩ := by simp [aheadL]
theorem ahead_next (r c w a k : Nat) : aheadL r c w a (k + 1) = aheadL r c w a k ++ [(r + a, c + k)] := by
  unfold aheadL
  rw [List.range'_concat]
  simp
theorem ahead_row (r c w a : Nat) : aheadL r c w a w = aheadL r c w (a + 1) 0 := by
  rw [ahead_zero]
  unfold aheadL slotsL rowsS
  rw [List.range'_concat]
  simp [rowS]
theorem slots_all (n : Int) (r c h w : Nat) : slotsL ⟨n, r, c, h, w⟩ = slotsL ⟨0, r, c, h, w⟩ := rfl
theorem ahead_split (r c w : Nat) : ∀ (d a k : Nat), k < w → ∃ rest, slotsL ⟨0, r, c, a + 1 + d, w⟩ = aheadL r c w a k ++ (r + a, c + k) :: rest
  | 0, a, k, hk => by
    obtain ⟨e, he⟩ : ∃ e, w = k + 1 + e := ⟨w - (k + 1), by omega⟩
    have h1 : slotsL ⟨0, r, c, a + 1, w⟩ = aheadL r c w a w := by rw [ahead_row, ahead_zero]
    have h2 : ∀ e, ∃ rest, aheadL r c w a (k + 1 + e) = aheadL r c w a k ++ (r + a, c + k) :: rest := by
      intro e
      induction e with
      | zero => exact ⟨[], ahead_next r c w a k⟩
      | succ e ih =>
        obtain ⟨rest, hr⟩ := ih
        exact ⟨rest ++ [(r + a, c + (k + 1 + e))], by rw [show k + 1 + (e + 1) = (k + 1 + e) + 1 by omega, ahead_next, hr]; simp⟩
    obtain ⟨rest, hr⟩ := h2 e
    exact ⟨rest, by rw [Nat.add_zero, h1, ← hr, ← he]⟩
  | d + 1, a, k, hk => by
    obtain ⟨rest, hr⟩ := ahead_split r c w d a k hk
    have h1 : slotsL ⟨0, r, c, a + 1 + (d + 1), w⟩ = aheadL r c w (a + 1 + d) w := by rw [ahead_row, ahead_zero]; rfl
    refine ⟨rest ++ (List.range' 0 w).map fun b => (r + (a + 1 + d), c + b), ?_⟩
    rw [h1]
    unfold aheadL
    rw [hr]
    unfold aheadL
    simp
end Go.Proofs.Ytcgnldcdcbnofaa
