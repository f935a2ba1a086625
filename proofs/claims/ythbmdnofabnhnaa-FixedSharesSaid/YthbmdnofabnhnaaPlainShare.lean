/- Plain facts on shares: what rounding down leaves; sums that do not saturate. -/
import Derived.Test.YthbmdnofabnhnaaWeigh
namespace Go.Proofs.Ythbmdnofabnhnaa
open Go.RowKit
set_option linter.unusedVariables false
theorem sumZ_cons (a : Int) (l : List Int) : sumZ (a :: l) = a + sumZ l := by unfold sumZ; rw [List.foldl_cons, foldl_add]; omega
theorem sumZ_append (a b : List Int) : sumZ (a ++ b) = sumZ a + sumZ b := by
  induction a with
  | nil => simp [sumZ]
  | cons x a ih => rw [List.cons_append, sumZ_cons, sumZ_cons, ih]; omega
theorem sumZ_nonneg (l : List Int) (h : ∀ z ∈ l, 0 ≤ z) : 0 ≤ sumZ l := by
  induction l with
  | nil => simp [sumZ]
  | cons a l ih => rw [sumZ_cons]; have := h a (by simp); have := ih (fun z hz => h z (by simp [hz])); omega
theorem addS_of (l : List Int) (h : ∀ z ∈ l, 0 ≤ z) (hs : sumZ l ≤ 9223372036854775807) : addS l = sumZ l := by
  unfold addS
  suffices ∀ (l : List Int) (s : Int), 0 ≤ s → (∀ z ∈ l, 0 ≤ z) → s + sumZ l ≤ 9223372036854775807 → l.foldl (fun s z => sat (s + z)) s = s + sumZ l by
    have := this l 0 (by omega) h (by omega); simpa using this
  intro l
  induction l with
  | nil => intro s _ _ _; simp [sumZ]
  | cons a l ih =>
    intro s h0 h1 h2
    have ha := h1 a (by simp)
    have hl := sumZ_nonneg l (fun z hz => h1 z (by simp [hz]))
    rw [sumZ_cons] at h2 ⊢
    rw [List.foldl_cons, sat_in (by omega) (by omega), ih (s + a) (by omega) (fun z hz => h1 z (by simp [hz])) (by omega)]
    omega
theorem sumZ_share (t sum : Int) (l : List Int) (hs : 0 < sum) : t * sumZ l = sum * sumZ (l.map fun z => t * z / sum) + sumZ (l.map fun z => t * z % sum) := by
  induction l with
  | nil => simp [sumZ]
  | cons a l ih =>
    simp only [List.map_cons, sumZ_cons, Int.mul_add]
    have := Int.mul_ediv_add_emod (t * a) sum
    rw [ih]; omega
theorem rests_lt (t sum : Int) (l : List Int) (hs : 0 < sum) : 0 ≤ sumZ (l.map fun z => t * z % sum) ∧ sumZ (l.map fun z => t * z % sum) ≤ l.length * (sum - 1) := by
  induction l with
  | nil => simp [sumZ]
  | cons a l ih =>
    simp only [List.map_cons, sumZ_cons, List.length_cons]
    have h1 := Int.emod_nonneg (t * a) (b := sum) (by omega)
    have h2 := Int.emod_lt_of_pos (t * a) hs
    have e : ((l.length + 1 : Nat) : Int) * (sum - 1) = l.length * (sum - 1) + (sum - 1) := by
      rw [Int.natCast_add, Int.add_mul]; simp
    rw [e]; omega
/-- what is left is less than there are weights -/
theorem left_bd (t sum : Int) (l : List Int) (hs : 0 < sum) (hl : sumZ l = sum) (hn : 1 ≤ l.length) : 0 ≤ t - sumZ (l.map fun z => t * z / sum) ∧ t - sumZ (l.map fun z => t * z / sum) < l.length := by
  have e := sumZ_share t sum l hs
  have r := rests_lt t sum l hs
  rw [hl] at e
  have e2 : sum * (t - sumZ (l.map fun z => t * z / sum)) = sumZ (l.map fun z => t * z % sum) := by
    rw [Int.mul_sub, Int.mul_comm sum t]; omega
  constructor
  · apply Classical.byContradiction; intro hn'
    have : sum * (t - sumZ (l.map fun z => t * z / sum)) < 0 := Int.mul_neg_of_pos_of_neg hs (by omega)
    omega
  · apply Classical.byContradiction; intro hn'
    have h1 : (l.length : Int) ≤ t - sumZ (l.map fun z => t * z / sum) := by omega
    have h2 := Int.mul_le_mul_of_nonneg_left h1 (Int.le_of_lt hs)
    have h3 : (l.length : Int) * (sum - 1) = sum * l.length - l.length := by rw [Int.mul_sub, Int.mul_comm]; omega
    omega
end Go.Proofs.Ythbmdnofabnhnaa
