/- What tiles a rectangle by itself, and what nothing tiles. -/
import Derived.Test.YtjdnhpbifblneaaRTiles
namespace Go.Proofs.Ytjdnhpbifblneaa
set_option linter.unusedVariables false

theorem net_cons (c : Cor) (l : List Cor) (q : Fin 2048 × Fin 2048) : net (c :: l) q = (if atC c = q then c.t else 0) + net l q := by
  unfold net
  by_cases h : atC c = q
  · rw [if_pos h, List.filter_cons_of_pos (by simpa using h)]; simp
  · rw [if_neg h, List.filter_cons_of_neg (by simpa using h)]; simp
theorem net_nil (q : Fin 2048 × Fin 2048) : net [] q = 0 := rfl
theorem atC_mk (i j : Fin 2048) (t : Int) : atC ⟨i, j, t⟩ = (i, j) := rfl
theorem tiles_self (r : R) : tilesB r [r] = true := by
  unfold tilesB
  rw [cancB_iff]
  intro p
  simp only [tileC, cornersL, cornersR, List.flatMap_cons, List.flatMap_nil, List.append_nil, List.cons_append, List.nil_append, net_cons, net_nil, atC_mk]
  have key : ∀ (A B C D : Prop) [Decidable A] [Decidable B] [Decidable C] [Decidable D], (if A then (1 : Int) else 0) + ((if B then -1 else 0) + ((if C then -1 else 0) + ((if D then 1 else 0) + ((if A then -1 else 0) + ((if B then - -1 else 0) + ((if C then - -1 else 0) + ((if D then -1 else 0) + 0))))))) = 0 := by
    intro A B C D _ _ _ _
    by_cases hA : A <;> by_cases hB : B <;> by_cases hC : C <;> by_cases hD : D <;> simp [hA, hB, hC, hD]
  exact key _ _ _ _
theorem rank_msort (zs : List Int) (x : Int) : rank (msort zs) x = rank zs x := (List.mergeSort_perm zs _).countP_eq _
theorem tiles_none (r : R) (hr : rightB r = true) : tilesB r [] = (r.w == 0 || r.h == 0) := by
  have h := (rightB_iff r).1 hr
  have x0 : rank (linesX r []) r.x = 0 := by
    rw [linesX, rank_msort]; simp [edgesX, edgX, rank]; omega
  have y0 : rank (linesY r []) r.y = 0 := by
    rw [linesY, rank_msort]; simp [edgesY, edgY, rank]; omega
  have x1 : rank (linesX r []) (r.x + r.w) = if r.w = 0 then 0 else 1 := by
    rw [linesX, rank_msort]; simp only [edgesX, edgX, rank, List.flatMap_cons, List.flatMap_nil, List.append_nil, List.countP_cons, List.countP_nil]
    by_cases hw : r.w = 0
    · simp [hw]
    · have : r.x < r.x + r.w := by omega
      simp [hw, this]
  have y1 : rank (linesY r []) (r.y + r.h) = if r.h = 0 then 0 else 1 := by
    rw [linesY, rank_msort]; simp only [edgesY, edgY, rank, List.flatMap_cons, List.flatMap_nil, List.append_nil, List.countP_cons, List.countP_nil]
    by_cases hw : r.h = 0
    · simp [hw]
    · have : r.y < r.y + r.h := by omega
      simp [hw, this]
  rw [Bool.eq_iff_iff]
  unfold tilesB
  rw [cancB_iff]
  simp only [tileC, cornersL, cornersR, List.flatMap_cons, List.flatMap_nil, List.append_nil, List.nil_append, x0, y0, x1, y1]
  clear x0 y0 x1 y1 h hr
  have key1 : ∀ (A B : Prop) [Decidable A] [Decidable B], (if A then (-1 : Int) else 0) + ((if A then - -1 else 0) + ((if B then - -1 else 0) + ((if B then -1 else 0) + 0))) = 0 := by
    intro A B _ _
    by_cases hA : A <;> by_cases hB : B <;> simp [hA, hB]
  have key2 : ∀ (A B : Prop) [Decidable A] [Decidable B], (if A then (-1 : Int) else 0) + ((if B then - -1 else 0) + ((if A then - -1 else 0) + ((if B then -1 else 0) + 0))) = 0 := by
    intro A B _ _
    by_cases hA : A <;> by_cases hB : B <;> simp [hA, hB]
  by_cases hw : r.w = 0
  · rw [if_pos hw]
    refine ⟨fun _ => by simp [hw], fun _ p => ?_⟩
    simp only [net_cons, net_nil, atC_mk]
    exact key1 _ _
  · by_cases hh : r.h = 0
    · rw [if_pos hh]
      refine ⟨fun _ => by simp [hh], fun _ p => ?_⟩
      simp only [net_cons, net_nil, atC_mk]
      exact key2 _ _
    · rw [if_neg hw, if_neg hh]
      refine ⟨fun k => ?_, fun k => by simp [hw, hh] at k⟩
      exact absurd (k (fin 0, fin 0)) (by decide)
end Go.Proofs.Ytjdnhpbifblneaa
