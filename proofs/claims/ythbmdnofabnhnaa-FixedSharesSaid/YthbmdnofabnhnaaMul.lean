/- Contracts of the products of layer 1 (fixed) and of the document's own answers: saturated products. -/
import Derived.Test.YthbmdnofabnhnaaShelf
import Derived.Test.YthbmdnofabnhnaaArith
namespace Go.Proofs.Ythbmdnofabnhnaa
open Go.RowKit

theorem mag_lt (a : Int) (a1 : -9223372036854775808 ≤ a) (a2 : a ≤ 9223372036854775807) : a.natAbs < 18446744073709551616 := by omega
theorem mul_mag (a b : Int) : a * b = (a.natAbs : Int) * (b.natAbs : Int) ∨ a * b = -((a.natAbs : Int) * (b.natAbs : Int)) := by
  have := Int.natAbs_mul a b
  have h : ((a * b).natAbs : Int) = (a.natAbs : Int) * (b.natAbs : Int) := by rw [this]; simp
  omega
theorem mul_same (a b : Int) (h : (!decide (a < 0) == decide (b < 0)) = false) : a * b = (a.natAbs : Int) * (b.natAbs : Int) := by
  by_cases ha : a < 0 <;> by_cases hb : b < 0 <;> simp [ha, hb] at h
  · rw [show (a.natAbs : Int) = -a by omega, show (b.natAbs : Int) = -b by omega, Int.neg_mul_neg]
  · rw [show (a.natAbs : Int) = a by omega, show (b.natAbs : Int) = b by omega]
theorem mul_differ (a b : Int) (h : (!decide (a < 0) == decide (b < 0)) = true) : a * b = -((a.natAbs : Int) * (b.natAbs : Int)) := by
  by_cases ha : a < 0 <;> by_cases hb : b < 0 <;> simp [ha, hb] at h
  · rw [show (a.natAbs : Int) = -a by omega, show (b.natAbs : Int) = b by omega, Int.neg_mul, Int.neg_neg]
  · rw [show (a.natAbs : Int) = a by omega, show (b.natAbs : Int) = -b by omega, Int.mul_neg, Int.neg_neg]
theorem wrap64_neg_wrap (m : Int) (h0 : 0 ≤ m) (h1 : m ≤ 9223372036854775808) : wrap64 (-wrap64 m) = -m := by
  simp only [wrap64]; omega
def SignCases (a b : Int) : Prop :=
  ((!decide (a < 0) == decide (b < 0)) = true ∧ Hid (a * b = -((a.natAbs : Int) * (b.natAbs : Int)))) ∨ ((!decide (a < 0) == decide (b < 0)) = false ∧ Hid (a * b = (a.natAbs : Int) * (b.natAbs : Int)))
theorem sign_cases (a b : Int) : SignCases a b := by
  cases h : (!decide (a < 0) == decide (b < 0))
  · exact .inr ⟨h, mul_same a b h⟩
  · exact .inl ⟨h, mul_differ a b h⟩
theorem mag_mul_nonneg (a b : Int) : 0 ≤ (a.natAbs : Int) * (b.natAbs : Int) := Int.mul_nonneg (by omega) (by omega)
end Go.Proofs.Ythbmdnofabnhnaa
