/- Floats that stand for small whole numbers: how two of them stand to each other. Nothing of the program. -/
import Derived.Laws.FloatArith
import Derived.Laws.Cover3
namespace Go.Proofs.Ytjdnhpbifblneaa
set_option linter.unusedVariables false

/-- the float of a whole number -/
def FN (n : Nat) : Nat := floatOfInt .f64 n
def okF (i : Nat) : Bool := match FloatKind.f64.format.read (FN i) with
  | .number false m p => decide (p ≤ 0) && (m == i * 2 ^ (-p).toNat)
  | _ => false
theorem okF_all : (List.range 2048).all okF = true := by decide +kernel
theorem okF_of {i : Nat} (h : i < 2048) : ∃ (m : Nat) (p : Int), FloatKind.f64.format.read (FN i) = .number false m p ∧ p ≤ 0 ∧ m = i * 2 ^ (-p).toNat := by
  have := List.all_eq_true.1 okF_all i (List.mem_range.2 h)
  unfold okF at this
  split at this
  · rename_i m p hr
    simp at this
    exact ⟨m, p, hr, this.1, this.2⟩
  · cases this
theorem signed_shift (i : Nat) (p b : Int) (hp : p ≤ 0) (hb : b ≤ p) : Ieee.signed false (i * 2 ^ (-p).toNat) (p - b).toNat = (i * 2 ^ (-b).toNat : Nat) := by
  unfold Ieee.signed
  rw [if_neg (by simp), Nat.shiftLeft_eq, Nat.mul_assoc, ← Nat.pow_add, show (-p).toNat + (p - b).toNat = (-b).toNat by omega]
theorem cmpI_lt {a b : Int} (h : a < b) : compare a b = .lt := by simp only [compare, compareOfLessAndEq]; rw [if_pos h]
theorem cmpI_eq (a : Int) : compare a a = .eq := by simp only [compare, compareOfLessAndEq]; rw [if_neg (by omega)]; simp
theorem cmpI_gt {a b : Int} (h : b < a) : compare a b = .gt := by simp only [compare, compareOfLessAndEq]; rw [if_neg (by omega), if_neg (by omega)]
theorem order_FN {i j : Nat} (hi : i < 2048) (hj : j < 2048) : FloatKind.f64.format.order (FN i) (FN j) = some (compare i j) := by
  obtain ⟨m, p, hr, hp, hm⟩ := okF_of hi
  obtain ⟨n, q, hs, hq, hn⟩ := okF_of hj
  unfold Ieee.Format.order
  rw [hr, hs]
  simp only [Ieee.Datum.order]
  rw [hm, hn, signed_shift i p _ hp (Int.min_le_left ..), signed_shift j q _ hq (Int.min_le_right ..)]
  congr 1
  have h2 : 0 < 2 ^ (-min p q).toNat := Nat.two_pow_pos _
  generalize 2 ^ (-min p q).toNat = k at h2
  rcases Nat.lt_trichotomy i j with h | h | h
  · rw [Nat.compare_eq_lt.2 h, cmpI_lt]
    exact Int.ofNat_lt.2 (Nat.mul_lt_mul_of_pos_right h h2)
  · subst h
    rw [Nat.compare_eq_eq.2 rfl, cmpI_eq]
  · rw [Nat.compare_eq_gt.2 h, cmpI_gt]
    exact Int.ofNat_lt.2 (Nat.mul_lt_mul_of_pos_right h h2)
theorem FN_eq {i j : Nat} (hi : i < 2048) (hj : j < 2048) : (FloatKind.f64.format.order (FN i) (FN j) == some .eq) = decide (i = j) := by
  rw [order_FN hi hj]
  rcases Nat.lt_trichotomy i j with h | h | h
  · rw [Nat.compare_eq_lt.2 h]; simp; omega
  · rw [Nat.compare_eq_eq.2 h]; simp [h]
  · rw [Nat.compare_eq_gt.2 h]; simp; omega
theorem FN_lt {i j : Nat} (hi : i < 2048) (hj : j < 2048) : (FloatKind.f64.format.order (FN i) (FN j) == some .lt) = decide (i < j) := by
  rw [order_FN hi hj]
  rcases Nat.lt_trichotomy i j with h | h | h
  · rw [Nat.compare_eq_lt.2 h]; simp [h]
  · rw [Nat.compare_eq_eq.2 h]; simp [h]
  · rw [Nat.compare_eq_gt.2 h]; simp; omega
theorem FN_gt {i j : Nat} (hi : i < 2048) (hj : j < 2048) : (FloatKind.f64.format.order (FN i) (FN j) == some .gt) = decide (j < i) := by
  rw [order_FN hi hj]
  rcases Nat.lt_trichotomy i j with h | h | h
  · rw [Nat.compare_eq_lt.2 h]; simp; omega
  · rw [Nat.compare_eq_eq.2 h]; simp [h]
  · rw [Nat.compare_eq_gt.2 h]; simp [h]
end Go.Proofs.Ytjdnhpbifblneaa
