/- Where a cell's place lies in the list of places. Nothing of the program's code. -/
import Derived.Test.YtgmgkkljoeahhaaGApart
import Derived.Test.YtgmgkkljoeahhaaGSlots
import Derived.Test.YtgmgkkljoeahhaaGCutW
import Derived.Test.YtgmgkkljoeahhaaGShown
namespace Go.Proofs.Ytgmgkkljoeahhaa
open Go.RowKit Go.Shelf
set_option linter.unusedVariables false

theorem run_more {ends : List Int} : ∀ (l : List (Nat × Sp)) (s s' : LS), runP ends l s = some s' → ∃ more, s'.ps = s.ps ++ more
  | [], s, s', h => by cases h; exact ⟨[], by simp⟩
  | x :: l, s, s', h => by
    simp only [runP] at h
    split at h
    · cases h
    · obtain ⟨more, hm⟩ := run_more l _ s' h
      exact ⟨placeP ends s x :: more, by rw [hm]; show (s.ps ++ [placeP ends s x]) ++ more = _; simp⟩
theorem run_at {ends : List Int} {A B : List (Nat × Sp)} {x : Nat × Sp} {s : LS} (h : runP ends (A ++ x :: B) LS.zero = some s) :
    ∃ s1, runP ends A LS.zero = some s1 ∧ Okay s1 ∧ s1.ps.length = A.length ∧ s.ps[A.length]? = some (placeP ends s1 x) := by
  rw [runP_append] at h
  cases h1 : runP ends A LS.zero with
  | none => rw [h1] at h; cases h
  | some s1 =>
    rw [h1] at h
    simp only [Option.bind_some, runP] at h
    split at h
    · cases h
    · obtain ⟨more, hm⟩ := run_more B _ s h
      obtain ⟨h2, h3⟩ := runP_okay ends A LS.zero s1 Okay.zero h1
      have h4 : s1.ps.length = A.length := by rw [h3]; show 0 + _ = _; omega
      refine ⟨s1, rfl, h2, h4, ?_⟩
      rw [hm]
      show ((s1.ps ++ [placeP ends s1 x]) ++ more)[A.length]? = _
      rw [List.append_assoc, List.getElem?_append_right (by omega), h4]
      simp
theorem cellsF_at : ∀ (rows : List (List Sp)) (b i : Nat) (row : List Sp), rows[i]? = some row → cellsF b rows = cellsF b (rows.take i) ++ (row.map fun x => (b + i, x)) ++ cellsF (b + i + 1) (rows.drop (i + 1))
  | [], b, i, row, h => by simp at h
  | r :: rows, b, 0, row, h => by
    simp at h; subst h
    simp [cellsF]
  | r :: rows, b, i + 1, row, h => by
    simp at h
    have := cellsF_at rows (b + 1) i row h
    simp only [List.take_succ_cons, List.drop_succ_cons, cellsF, this, List.append_assoc]
    rw [show b + 1 + i = b + (i + 1) by omega]
theorem cells_next (rows : List (List Sp)) (i : Nat) (row : List Sp) (h : rows[i]? = some row) : (cellsF 0 (rows.take (i + 1))).length = (cellsF 0 (rows.take i)).length + row.length := by
  have h1 : (rows.take (i + 1))[i]? = some row := by rw [List.getElem?_take_of_lt (by omega)]; exact h
  have := cellsF_at (rows.take (i + 1)) 0 i row h1
  rw [this, List.take_take, List.drop_take]
  rw [show min i (i + 1) = i by omega, show i + 1 - (i + 1) = 0 by omega]
  simp [cellsF]
theorem own_at {rows : List (List Sp)} {ends : List Int} {s : LS} (hQ : RightQ rows ends) (hs : layP rows ends = some s) {i j : Nat} {row : List Sp} {x : Sp} (hi : rows[i]? = some row) (hj : row[j]? = some x) :
    ∃ p, s.ps[(cellsF 0 (rows.take i)).length + j]? = some p ∧ Of ends (i, x) p ∧ (0 < j → ∃ q, s.ps[(cellsF 0 (rows.take i)).length + j - 1]? = some q ∧ q.c + q.w ≤ p.c) := by
  have hlt := (List.getElem?_eq_some_iff.1 hi).1
  have hjl := (List.getElem?_eq_some_iff.1 hj).1
  have hrow : row = row.take j ++ x :: row.drop (j + 1) := by
    have h1 : row.drop j = x :: row.drop (j + 1) := by rw [List.drop_eq_getElem_cons hjl, (List.getElem?_eq_some_iff.1 hj).2]
    rw [← h1, List.take_append_drop]
  have hc := cellsF_at rows 0 i row hi
  have hcells : cellsF 0 rows = (cellsF 0 (rows.take i) ++ (row.take j).map fun x => (i, x)) ++ (i, x) :: ((row.drop (j + 1)).map (fun x => (i, x)) ++ cellsF (0 + i + 1) (rows.drop (i + 1))) := by
    rw [hc]
    conv => lhs; rw [hrow]
    simp
  unfold layP at hs
  rw [hcells] at hs
  obtain ⟨s1, h1, h2, h3, h4⟩ := run_at hs
  have hlen : (cellsF 0 (rows.take i) ++ (row.take j).map fun x => (i, x)).length = (cellsF 0 (rows.take i)).length + j := by rw [List.length_append, List.length_map, List.length_take]; omega
  rw [hlen] at h3 h4
  have hok : okC x = true := hQ.cells (i, x) (by rw [hcells]; simp)
  have he : i + 1 ≤ endP ends i := by
    have hl : i < ends.length := by rw [hQ.len]; exact hlt
    have := hQ.ends i _ (List.getElem?_eq_getElem hl)
    unfold okE at this
    rw [within_one] at this
    unfold endP
    rw [List.getElem?_eq_getElem hl]
    simp at this ⊢
    omega
  refine ⟨_, h4, place_of hok he, fun hj0 => ?_⟩
  obtain ⟨y, hy⟩ : ∃ y, row[j - 1]? = some y := ⟨_, List.getElem?_eq_getElem (by omega)⟩
  have htk : row.take j = row.take (j - 1) ++ [y] := by
    have := List.take_add_one (l := row) (i := j - 1)
    rw [show j - 1 + 1 = j by omega] at this
    rw [this, hy]; rfl
  rw [htk, List.map_append, ← List.append_assoc] at h1
  obtain ⟨s0, g1, g2, g3, g4⟩ := run_at (B := []) h1
  have hl0 : (cellsF 0 (rows.take i) ++ (row.take (j - 1)).map fun x => (i, x)).length = (cellsF 0 (rows.take i)).length + j - 1 := by rw [List.length_append, List.length_map, List.length_take]; omega
  rw [hl0] at g4
  have hst : s1 = stepP ends s0 (i, y) := by
    simp only [List.map_cons, List.map_nil] at h1
    rw [runP_snoc _ _ _ _ _ g1] at h1
    split at h1
    · cases h1
    · cases h1; rfl
  have hps : s.ps[(cellsF 0 (rows.take i)).length + j - 1]? = s1.ps[(cellsF 0 (rows.take i)).length + j - 1]? := by
    rw [runP_append] at hs
    have hrun : runP ends (cellsF 0 (rows.take i) ++ (row.take j).map fun x => (i, x)) LS.zero = some s1 := by rw [htk, List.map_append, ← List.append_assoc]; exact h1
    rw [hrun] at hs
    obtain ⟨more, hm⟩ := run_more _ _ s hs
    rw [hm, List.getElem?_append_left (by omega)]
  refine ⟨_, hps.trans g4, ?_⟩
  have hfrom : fromP s1 i = (placeP ends s0 (i, y)).c + (placeP ends s0 (i, y)).w := by
    rw [hst]
    unfold fromP stepP
    dsimp only
    exact if_pos rfl
  rw [← hfrom]
  exact (firstF_spec s1.t i (fromP s1 i)).1
theorem end_ok {rows : List (List Sp)} {ends : List Int} (hQ : RightQ rows ends) {i : Nat} (hi : i < rows.length) : i + 1 ≤ endP ends i ∧ endP ends i ≤ rows.length ∧ ends[i]? = some ((endP ends i : Nat) : Int) := by
  have hl : i < ends.length := by rw [hQ.len]; exact hi
  have := hQ.ends i _ (List.getElem?_eq_getElem hl)
  unfold okE at this
  rw [within_one] at this
  unfold endP
  rw [List.getElem?_eq_getElem hl]
  simp at this ⊢
  omega
theorem lies_all {rows : List (List Sp)} {ends : List Int} {s : LS} (hQ : RightQ rows ends) (hs : layP rows ends = some s) (p : Pl) (hp : p ∈ s.ps) : p.r + p.h ≤ rows.length ∧ 1 ≤ p.h ∧ 1 ≤ p.w := by
  obtain ⟨k, hk⟩ := List.mem_iff_getElem?.1 hp
  have hkl := (List.getElem?_eq_some_iff.1 hk).1
  have h2 := (runP_okay ends _ LS.zero s Okay.zero hs).2
  have h3 : LS.zero.ps.length = 0 := rfl
  have hkc : k < (cellsF 0 rows).length := by omega
  have hsp : cellsF 0 rows = (cellsF 0 rows).take k ++ (cellsF 0 rows)[k] :: (cellsF 0 rows).drop (k + 1) := by
    rw [← List.drop_eq_getElem_cons hkc, List.take_append_drop]
  have hx : (cellsF 0 rows)[k] ∈ cellsF 0 rows := List.getElem_mem hkc
  obtain ⟨x, hxe⟩ : ∃ x, (cellsF 0 rows)[k] = x := ⟨_, rfl⟩
  rw [hxe] at hsp hx
  unfold layP at hs
  rw [hsp] at hs
  obtain ⟨s1, g1, g2, g3, g4⟩ := run_at hs
  rw [List.length_take, show min k (cellsF 0 rows).length = k by omega, hk] at g4
  injection g4 with g4
  have hr := cellsF_row 0 rows x hx
  obtain ⟨e1, e2, _⟩ := end_ok hQ (show x.1 < rows.length by omega)
  have ho := place_of (ends := ends) (s := s1) (x := x) (hQ.cells x hx) e1
  rw [← g4] at ho
  have := ho.end_
  exact ⟨by omega, ho.h1, ho.w1⟩
theorem own_all {rows : List (List Sp)} {ends : List Int} {s : LS} (hQ : RightQ rows ends) (hs : layP rows ends = some s) : OwnQ rows.length s.t.length (s.ps.map Pl.z) := by
  have hf := run_fit _ _ _ Okay.zero (Fit7.zero ends) hs
  refine ⟨fun p hp => ?_, hf.own⟩
  obtain ⟨q, hq, rfl⟩ := List.mem_map.1 hp
  obtain ⟨h1, h2, h3⟩ := lies_all hQ hs q hq
  have h4 := hf.wide q hq
  unfold placeB liesB Pl.z
  simp only [Bool.and_eq_true, decide_eq_true_eq]
  refine ⟨⟨⟨?_, ?_⟩, ?_⟩, ⟨?_, ?_⟩, ?_⟩ <;> omega
end Go.Proofs.Ytgmgkkljoeahhaa
