/- Pages whose nodes are met in the order of their places: chains and fans: what Check says of them, as plain data. -/
import Derived.Test.YtgaclepoipaecaaTShown
namespace Go.Proofs.Ytgaclepoipaecaa
open Go.RowKit Go.Shelf
set_option linter.unusedVariables false

theorem nextD_all {vis : List Int} : ∀ {st : List (List Int)}, (∀ ks ∈ st, ∀ z ∈ ks, vis.contains z = true) → nextD vis st = none
  | [], _ => rfl
  | ks :: st, h => by rw [nextD_pop (h ks (by simp))]; exact nextD_all (fun k hk => h k (by simp [hk]))
/-- the first k places, with depths d -/
def inOrder (d : Nat → Nat) (k : Nat) : List (Int × Nat) := (List.range k).map fun (i : Nat) => ((i : Int), d i)
theorem inOrder_succ (d : Nat → Nat) (k : Nat) : inOrder d (k + 1) = inOrder d k ++ [((k : Int), d k)] := by simp [inOrder, List.range_succ]
theorem inOrder_len (d : Nat → Nat) (k : Nat) : (inOrder d k).length = k := by simp [inOrder]
theorem vis_has {kf : Int → List Int} {d : Nat → Nat} {k : Nat} {vis : List Int} {st : List (List Int)} (h : Runs kf (inOrder d k) vis st) (z : Int) : vis.contains z = true ↔ 0 ≤ z ∧ z < k := by
  rw [h.vis]
  simp only [List.contains_iff_mem, List.mem_reverse, inOrder, List.map_map, List.mem_map, List.mem_range, Function.comp]
  constructor
  · rintro ⟨a, ha, rfl⟩; omega
  · intro hz; exact ⟨z.toNat, by omega, by omega⟩
theorem runs_done {kf : Int → List Int} {m : Nat} (hm : 1 ≤ m) (hk : KidsIn m kf) {d : Nat → Nat} {vis : List Int} {st : List (List Int)} (h : Runs kf (inOrder d m) vis st) : walkL m kf = inOrder d m :=
  (runs_end h (nextD_all fun ks hks z hz => (vis_has h z).2 ((h.good hm hk).rng ks hks z hz)) m (by rw [inOrder_len]; exact Nat.le_refl _)).symm
theorem depL_get (m : Nat) (d : Nat → Nat) (k : Nat) (hk : k ≤ m) (j : Nat) (hj : j < m) : (depL m (inOrder d k))[j]?.getD 0 = if j < k then (d j : Int) else 0 := by
  induction k with
  | zero => simp [depL, inOrder, hj]
  | succ k ih =>
    rw [inOrder_succ, depL_snoc]
    by_cases h : j = k
    · subst h
      rw [show ((j : Int)).toNat = j by omega, List.getElem?_set_self (by rw [depL_len]; exact hj)]
      simp
    · have : ((k : Int)).toNat ≠ j := by omega
      rw [List.getElem?_set_ne this, ih (by omega)]
      by_cases h2 : j < k
      · rw [if_pos h2, if_pos (by omega)]
      · rw [if_neg h2, if_neg (by omega)]
theorem depL_all (m : Nat) (d : Nat → Nat) : depL m (inOrder d m) = (List.range m).map (fun i => (d i : Int)) := by
  apply List.ext_getElem
  · rw [depL_len]; simp
  · intro j h1 h2
    rw [depL_len] at h1
    have := depL_get m d m (Nat.le_refl _) j h1
    rw [if_pos h1, List.getElem?_eq_getElem (by rw [depL_len]; exact h1)] at this
    simpa using this
/-- chains: each node's first kid is the next one -/
theorem chain_runs {kf : Int → List Int} {m : Nat} (h : ∀ i : Nat, i + 1 < m → ∃ t, kf (i : Int) = ((i + 1 : Nat) : Int) :: t) : ∀ k, k ≤ m → ∃ vis st, Runs kf (inOrder (· + 1) k) vis st ∧ st.length = k + 1 ∧ (k < m → ∃ t st', st = ((k : Int) :: t) :: st') := by
  intro k
  induction k with
  | zero => intro _; exact ⟨[], [[0]], by unfold inOrder; exact .nil, rfl, fun _ => ⟨[], [], rfl⟩⟩
  | succ k ih =>
    intro hk
    obtain ⟨vis, st, hr, hl, ht⟩ := ih (by omega)
    obtain ⟨t, st', rfl⟩ := ht (by omega)
    have hn : nextD vis (((k : Int) :: t) :: st') = some ((k : Int), st'.length + 1, t :: st') := by
      refine nextD_hit (i := 0) (fun y hy => by simp at hy) (by simp) ?_
      rw [Bool.eq_false_iff]
      intro hc
      have := (vis_has hr (k : Int)).1 hc
      omega
    have hr' := hr.step hn
    simp only [List.length_cons] at hl
    rw [show st'.length + 1 = k + 1 by omega] at hr'
    refine ⟨_, _, by rw [inOrder_succ]; exact hr', by simp; omega, fun hlt => ?_⟩
    obtain ⟨t', ht'⟩ := h k hlt
    exact ⟨t', _, by rw [ht']⟩
theorem chain_walk {kf : Int → List Int} {m : Nat} (hm : 1 ≤ m) (hk : KidsIn m kf) (h : ∀ i : Nat, i + 1 < m → ∃ t, kf (i : Int) = ((i + 1 : Nat) : Int) :: t) : walkL m kf = inOrder (· + 1) m := by
  obtain ⟨vis, st, hr, -⟩ := chain_runs h m (Nat.le_refl _)
  exact runs_done hm hk hr
/-- fans: all nodes are the root's kids -/
theorem fan_runs {kf : Int → List Int} {m : Nat} (h0 : kf 0 = (List.range' 1 (m - 1)).map Int.ofNat) (h : ∀ i : Nat, 1 ≤ i → i < m → kf (i : Int) = []) : ∀ k, 1 ≤ k → k ≤ m → ∃ vis st, Runs kf (inOrder (fun i => if i = 0 then 1 else 2) k) vis st ∧ nextD vis st = nextD vis [(List.range' k (m - k)).map Int.ofNat, []] := by
  intro k h1
  induction k with
  | zero => omega
  | succ k ih =>
    intro hk
    by_cases hk0 : k = 0
    · subst hk0
      have hr : Runs kf [((0 : Int), 1)] [0] (kf 0 :: [[]]) := Runs.step (pre := []) (z := 0) (d := 1) (st' := [[]]) .nil rfl
      refine ⟨_, _, by unfold inOrder; exact hr, ?_⟩
      rw [h0]
    · obtain ⟨vis, st, hr, hn⟩ := ih (by omega) (by omega)
      have hlt : k < m := by omega
      have hn2 : nextD vis [(List.range' k (m - k)).map Int.ofNat, []] = some ((k : Int), 2, [(List.range' (k + 1) (m - (k + 1))).map Int.ofNat, []]) := by
        rw [show m - k = (m - (k + 1)) + 1 by omega, List.range'_succ, List.map_cons]
        have := nextD_hit (vis := vis) (ks := Int.ofNat k :: (List.range' (k + 1) (m - (k + 1))).map Int.ofNat) (st := [[]]) (i := 0) (z := (k : Int)) (fun y hy => by simp at hy) (by simp) (by
          rw [Bool.eq_false_iff]
          intro hc
          have := (vis_has hr (k : Int)).1 hc
          omega)
        rw [this]; simp
      have hr' := hr.step (hn.trans hn2)
      refine ⟨_, _, by rw [inOrder_succ, if_neg hk0]; exact hr', ?_⟩
      rw [h k (by omega) hlt, nextD_pop (fun y hy => by cases hy)]
theorem fan_walk {kf : Int → List Int} {m : Nat} (hm : 1 ≤ m) (hk : KidsIn m kf) (h0 : kf 0 = (List.range' 1 (m - 1)).map Int.ofNat) (h : ∀ i : Nat, 1 ≤ i → i < m → kf (i : Int) = []) : walkL m kf = inOrder (fun i => if i = 0 then 1 else 2) m := by
  obtain ⟨vis, st, hr, -⟩ := fan_runs h0 h m hm (Nat.le_refl _)
  exact runs_done hm hk hr
end Go.Proofs.Ytgaclepoipaecaa
