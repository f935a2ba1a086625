/- Chains, chains with one kid more, fans: pages without styles, and what Check says of them, as plain data. -/
import Derived.Test.YtecnapecmioamaaTPure
namespace Go.Proofs.Ytecnapecmioamaa
open Go.RowKit Go.Shelf
set_option linter.unusedVariables false

/-- n nodes without styles, with kids ksf -/
def zeroPg (n : Nat) (kvf : Nat → Value) (ksf : Nat → List Int) : List Nd := (List.range n).map fun (i : Nat) => ndKids (kvf i) (ksf i)
theorem zero_len (n : Nat) (kvf : Nat → Value) (ksf : Nat → List Int) : (zeroPg n kvf ksf).length = n := by simp [zeroPg]
theorem zero_get (n : Nat) (kvf : Nat → Value) (ksf : Nat → List Int) (i : Nat) (h : i < n) : (zeroPg n kvf ksf)[i]? = some (ndKids (kvf i) (ksf i)) := by simp [zeroPg, h]
theorem zero_mem {n : Nat} {kvf : Nat → Value} {ksf : Nat → List Int} {nd : Nd} (h : nd ∈ zeroPg n kvf ksf) : ∃ i, i < n ∧ nd = ndKids (kvf i) (ksf i) := by
  simp only [zeroPg, List.mem_map, List.mem_range] at h
  obtain ⟨i, hi, rfl⟩ := h
  exact ⟨i, hi, rfl⟩
theorem zero_wrong (n : Nat) (kvf : Nat → Value) (ksf : Nat → List Int) : (zeroPg n kvf ksf).any wrongN = false := by
  rw [List.any_eq_false]
  intro nd h
  obtain ⟨i, _, rfl⟩ := zero_mem h
  simp only [Bool.not_eq_true]
  rfl
theorem zero_kf (n : Nat) (kvf : Nat → Value) (ksf : Nat → List Int) (i : Nat) (h : i < n) : kfOf (zeroPg n kvf ksf) (i : Int) = ksf i := by
  unfold kfOf
  rw [show ((i : Int)).toNat = i by omega, zero_get _ _ _ _ h]; rfl
theorem zero_kids (n : Nat) (kvf : Nat → Value) (ksf : Nat → List Int) : kidsOf (zeroPg n kvf ksf) = (List.range n).flatMap ksf := by
  unfold kidsOf zeroPg
  rw [List.flatMap_map]; rfl
theorem zero_link {n : Nat} {kvf : Nat → Value} {ksf : Nat → List Int} (h : ∀ i, i < n → ∀ z ∈ ksf i, 1 ≤ z ∧ z < (n : Int)) : ∀ nd ∈ zeroPg n kvf ksf, ∀ z ∈ nd.ks, 1 ≤ z ∧ z < (n : Int) := fun nd hn z hz => by
  obtain ⟨i, hi, rfl⟩ := zero_mem hn
  exact h i hi z hz
theorem no_unlinked {ns : List Nd} {m : Nat} (h : ∀ nd ∈ ns, ∀ z ∈ nd.ks, 1 ≤ z ∧ z < (m : Int)) : ns.any (unlinkedN m) = false := by
  rw [List.any_eq_false]
  intro n hn
  unfold unlinkedN
  rw [Bool.not_eq_true, List.any_eq_false]
  intro z hz
  have := h n hn z hz
  rw [outB_in (by omega) (by omega)]; simp
/-- a chain of N; where ex is some (f, t): with t as one kid more of f -/
def loopK (N : Nat) (ex : Option (Nat × Nat)) (i : Nat) : List Int :=
  (if i + 1 < N then [((i + 1 : Nat) : Int)] else []) ++ (match ex with | some (f, t) => if i = f then [(t : Int)] else [] | none => [])
theorem loop_count (N : Nat) (ex : Option (Nat × Nat)) (j : Nat) : ∀ n, ((List.range n).flatMap (loopK N ex)).count (j : Int) = (if 1 ≤ j ∧ j ≤ n ∧ j < N then 1 else 0) + (match ex with | some (f, t) => if f < n ∧ j = t then 1 else 0 | none => 0) := by
  intro n
  induction n with
  | zero => cases ex <;> simp <;> omega
  | succ n ih =>
    rw [List.range_succ, List.flatMap_append, List.count_append, ih]
    simp only [List.flatMap_cons, List.flatMap_nil, List.append_nil, loopK, List.count_append]
    have e1 : (if n + 1 < N then [((n + 1 : Nat) : Int)] else []).count (j : Int) = if j = n + 1 ∧ n + 1 < N then 1 else 0 := by
      by_cases h : n + 1 < N
      · rw [if_pos h]
        by_cases hj : j = n + 1
        · subst hj; simp [h]
        · rw [if_neg (by omega)]; exact List.count_eq_zero_of_not_mem (by simp; omega)
      · rw [if_neg h, if_neg (by omega)]; rfl
    rw [e1]
    cases ex with
    | none =>
      dsimp only
      rw [List.count_nil]
      split <;> split <;> split <;> omega
    | some p =>
      obtain ⟨f, t⟩ := p
      dsimp only
      have e2 : (if n = f then [(t : Int)] else []).count (j : Int) = if n = f ∧ j = t then 1 else 0 := by
        by_cases h : n = f
        · rw [if_pos h]
          by_cases hj : j = t
          · subst hj; simp [h]
          · rw [if_neg (by omega)]; exact List.count_eq_zero_of_not_mem (by simp; omega)
        · rw [if_neg h, if_neg (by omega)]; rfl
      rw [e2]
      have key : ∀ a b c d e g : Nat, a + b + (c + d) = e + g ↔ (a + c) + (b + d) = e + g := by intros; omega
      rw [key]
      congr 1
      · split <;> split <;> split <;> omega
      · split <;> split <;> split <;> omega
theorem loop_in {N : Nat} {ex : Option (Nat × Nat)} (hex : ∀ f t, ex = some (f, t) → 1 ≤ t ∧ t < N) : ∀ i, i < N → ∀ z ∈ loopK N ex i, 1 ≤ z ∧ z < (N : Int) := fun i hi z hz => by
  unfold loopK at hz
  rcases List.mem_append.1 hz with h | h
  · split at h
    · simp at h; omega
    · cases h
  · cases ex with
    | none => cases h
    | some p =>
      obtain ⟨f, t⟩ := p
      have := hex f t rfl
      dsimp only at h
      split at h
      · simp at h; omega
      · cases h
theorem loop_depths {N : Nat} (hN : 1 ≤ N) {ex : Option (Nat × Nat)} (hex : ∀ f t, ex = some (f, t) → 1 ≤ t ∧ t < N) (kvf : Nat → Value) : depthsP (zeroPg N kvf (loopK N ex)) = (List.range N).map (fun i => ((i + 1 : Nat) : Int)) := by
  unfold depthsP
  rw [zero_len]
  have hl := zero_link (kvf := kvf) (loop_in hex)
  rw [chain_walk hN (kids_in hl) (fun i hi => by
    rw [zero_kf _ _ _ _ (by omega)]
    unfold loopK
    rw [if_pos hi]
    exact ⟨_, rfl⟩), depL_all]
theorem tms_loop {N : Nat} {ex : Option (Nat × Nat)} (hex : ∀ f t, ex = some (f, t) → 1 ≤ t ∧ t < N) (kvf : Nat → Value) (j : Nat) (hj : j < N) : (tms N (kidsOf (zeroPg N kvf (loopK N ex))))[j]?.getD 0 = 1 + (match ex with | some (f, t) => if f < N ∧ j = t then 1 else 0 | none => 0) := by
  have hl := zero_link (kvf := kvf) (loop_in hex)
  rw [tms_get N _ (fun z hz => by
    unfold kidsOf at hz
    obtain ⟨n', hn', hz'⟩ := List.mem_flatMap.1 hz
    have := hl n' hn' z hz'
    omega) j hj, zero_kids, loop_count]
  cases ex with
  | none =>
    dsimp only
    by_cases h : j = 0
    · subst h; simp
    · rw [if_neg h, if_pos (by omega)]; rfl
  | some p =>
    obtain ⟨f, t⟩ := p
    have := hex f t rfl
    dsimp only
    by_cases h : j = 0
    · have hne : ¬ (f < N ∧ 0 = t) := by omega
      subst h; simp [hne]
    · rw [if_neg h, if_pos (by omega)]
      by_cases h2 : f < N ∧ j = t
      · rw [if_pos h2, if_pos h2]; rfl
      · rw [if_neg h2, if_neg h2]; rfl
theorem chain_check {N : Nat} (h1 : 1 ≤ N) (h2 : N ≤ 65536) (kvf : Nat → Value) : checkP (zeroPg N kvf (loopK N none)) = if 64 < N then (64, 42) else (0, 0) := by
  have hex : ∀ f t, (none : Option (Nat × Nat)) = some (f, t) → 1 ≤ t ∧ t < N := fun f t h => by cases h
  have hl := zero_link (kvf := kvf) (loop_in hex)
  have e2 := idxI_none _ _ (zero_wrong N kvf (loopK N none))
  have e3 := idxI_none _ _ (no_unlinked hl)
  have hd := loop_depths h1 hex kvf
  have e4 : strayP (zeroPg N kvf (loopK N none)) = -1 := by
    unfold strayP
    refine idxI_none _ _ ?_
    rw [List.any_eq_false]
    intro x hx
    obtain ⟨j, hj⟩ := List.mem_iff_getElem?.1 hx
    rw [zero_len, hd] at hj
    obtain ⟨hlt, he⟩ := List.getElem?_eq_some_iff.1 hj
    have hjN : j < N := by simp [tms_len] at hlt; exact hlt
    have ht := tms_loop hex kvf j hjN
    rw [List.getElem?_eq_getElem (by rw [tms_len]; exact hjN)] at ht
    simp at ht
    rw [← he]
    simp [strayB, ht]
    omega
  unfold checkP
  rw [zero_len, if_neg (by omega), e2, e3, e4, hd]
  by_cases h : 64 < N
  · have e5 : idxI deepB ((List.range N).map (fun i => ((i + 1 : Nat) : Int))) = 64 := by
      refine idxI_hit deepB _ 64 65 ?_ (by simp [h]) (by decide)
      rw [List.any_eq_false]
      intro z hz
      rw [← List.map_take] at hz
      obtain ⟨i, hi, rfl⟩ := List.mem_map.1 hz
      have : i < 64 := by
        rw [List.take_range] at hi
        simp at hi; omega
      simp [deepB]; omega
    rw [e5, if_pos h]; rfl
  · have e5 : idxI deepB ((List.range N).map (fun i => ((i + 1 : Nat) : Int))) = -1 := by
      refine idxI_none _ _ ?_
      rw [List.any_eq_false]
      intro z hz
      obtain ⟨i, hi, rfl⟩ := List.mem_map.1 hz
      simp at hi
      simp [deepB]; omega
    rw [e5, if_neg h]; rfl
/-- a kid more that is the root -/
theorem loop_check0 {N f : Nat} (h1 : 1 ≤ N) (h2 : N ≤ 65536) (hf : f < N) (kvf : Nat → Value) : checkP (zeroPg N kvf (loopK N (some (f, 0)))) = ((f : Int), 40) := by
  have e2 := idxI_none _ _ (zero_wrong N kvf (loopK N (some (f, 0))))
  have e3 : idxI (unlinkedN N) (zeroPg N kvf (loopK N (some (f, 0)))) = (f : Int) := by
    refine idxI_hit _ _ f _ ?_ (zero_get _ _ _ _ hf) ?_
    · rw [List.any_eq_false]
      intro nd hn
      obtain ⟨i, hi⟩ := List.mem_iff_getElem?.1 hn
      have hif : i < f := by have := (List.getElem?_eq_some_iff.1 hi).1; simp at this; omega
      rw [List.getElem?_take_of_lt hif, zero_get _ _ _ _ (by omega)] at hi
      injection hi with hi
      subst hi
      unfold unlinkedN ndKids loopK
      dsimp only
      rw [if_pos (by omega), if_neg (by omega)]
      simp [outB]; omega
    · unfold unlinkedN ndKids loopK
      dsimp only
      rw [List.any_append]
      simp [outB]
  unfold checkP
  rw [zero_len, if_neg (by omega), e2, e3, if_neg (by omega), if_pos (by omega)]
theorem loop_check {N f t : Nat} (h1 : 1 ≤ N) (h2 : N ≤ 65536) (hf : f < N) (ht : 1 ≤ t) (htN : t < N) (kvf : Nat → Value) : checkP (zeroPg N kvf (loopK N (some (f, t)))) = ((t : Int), 41) := by
  have hex : ∀ f' t', some (f, t) = some (f', t') → 1 ≤ t' ∧ t' < N := fun f' t' h => by injection h with h; injection h with h h'; omega
  have hl := zero_link (kvf := kvf) (loop_in hex)
  have e2 := idxI_none _ _ (zero_wrong N kvf (loopK N (some (f, t))))
  have e3 := idxI_none _ _ (no_unlinked hl)
  have hd := loop_depths h1 hex kvf
  have hget : ∀ j, j < N → ((tms N (kidsOf (zeroPg N kvf (loopK N (some (f, t)))))).zip ((List.range N).map (fun i => ((i + 1 : Nat) : Int))))[j]? = some (1 + (if f < N ∧ j = t then 1 else 0), ((j + 1 : Nat) : Int)) := fun j hj => by
    have hq := tms_loop hex kvf j hj
    rw [List.getElem?_eq_getElem (by rw [tms_len]; exact hj)] at hq
    simp only [Option.getD_some] at hq
    rw [List.getElem?_eq_getElem (by simp [tms_len]; exact hj), List.getElem_zip, hq]; simp
  have e4 : strayP (zeroPg N kvf (loopK N (some (f, t)))) = (t : Int) := by
    unfold strayP
    rw [zero_len, hd]
    refine idxI_hit _ _ t _ ?_ (hget t htN) (by simp [strayB, hf])
    rw [List.any_eq_false]
    intro x hx
    obtain ⟨j, hj⟩ := List.mem_iff_getElem?.1 hx
    have hjt : j < t := by have := (List.getElem?_eq_some_iff.1 hj).1; simp at this; omega
    rw [List.getElem?_take_of_lt hjt, hget j (by omega)] at hj
    injection hj with hj
    subst hj
    rw [if_neg (by omega)]
    simp [strayB]; omega
  unfold checkP
  rw [zero_len, if_neg (by omega), e2, e3, e4, if_neg (by omega), if_neg (by omega), if_pos (by omega)]
end Go.Proofs.Ytecnapecmioamaa
