/- Floats that stand for whole numbers of at most 52 digits: sums, differences, and the way back are exact. Nothing of the program. -/
import Derived.Laws.FloatArith
import Derived.Laws.ComplexArith
namespace Go.Proofs.Ytlnfgmmgkmhehaa
set_option linter.unusedVariables false

/-- the float of a whole number -/
def FZ (n : Int) : Nat := floatOfInt .f64 n

theorem log2_bd {m : Nat} (h : 0 < m) : 2 ^ m.log2 ≤ m ∧ m < 2 ^ (m.log2 + 1) := ⟨Nat.log2_self_le (by omega), Nat.lt_log2_self⟩
theorem log2_small {m : Nat} (h : 0 < m) (h2 : m < 2 ^ 53) : m.log2 ≤ 52 := by
  have := (log2_bd h).1
  rcases Nat.lt_or_ge m.log2 53 with h3 | h3
  · omega
  · have := Nat.pow_le_pow_right (n := 2) (by omega) h3
    omega
theorem log2_up (m k : Nat) (h : 0 < m) : (m * 2 ^ k).log2 = m.log2 + k := by
  have h0 : m * 2 ^ k ≠ 0 := by have := Nat.mul_pos h (Nat.two_pow_pos k); omega
  refine (Nat.log2_eq_iff h0).2 ⟨?_, ?_⟩
  · rw [Nat.pow_add]; exact Nat.mul_le_mul_right _ (log2_bd h).1
  · rw [show m.log2 + k + 1 = (m.log2 + 1) + k by omega, Nat.pow_add]; exact Nat.mul_lt_mul_of_pos_right (log2_bd h).2 (Nat.two_pow_pos k)

/-- the rung of a magnitude -/
def rungOf (m : Nat) : Nat := (m.log2 + 1022) * 2 ^ 52 + m * 2 ^ (52 - m.log2)

theorem cut_exact (way : Bool) (neg : Bool) (n k d : Nat) (h : 0 < n) (hd : k = d) : Ieee.Toward.cut (if way then .even else .zero) neg (n * 2 ^ k) d = n := by
  subst hd
  unfold Ieee.Toward.cut
  have hl := log2_up n k h
  rw [show min k ((n * 2 ^ k).log2 + 2) = k by omega]
  simp only [Nat.one_shiftLeft]
  have h2 := Nat.two_pow_pos k
  rw [Nat.mul_div_cancel _ h2, Nat.mul_mod_left]
  cases way <;> simp <;> omega

theorem nearest_exact (neg : Bool) (m k : Nat) (h : 0 < m) (h2 : m < 2 ^ 53) (hk : k ≤ 1074) : Ieee.double.nearest neg (m * 2 ^ k) (-(k : Int)) = Ieee.double.word neg (rungOf m) := by
  have hL := log2_small h h2
  have h0 : m * 2 ^ k ≠ 0 := by have := Nat.mul_pos h (Nat.two_pow_pos k); omega
  unfold Ieee.Format.nearest
  rw [if_neg h0]
  simp only [log2_up m k h]
  rw [show Ieee.double.leastPlace = -1074 by decide, show ((Ieee.double.fractionBits : Nat) : Int) = 52 by decide, show Ieee.double.binade = 2 ^ 52 by decide]
  rw [show max (-(k : Int) + ((m.log2 + k : Nat) : Int) - 52) (-1074) = (m.log2 : Int) - 52 by omega]
  rw [show ((m.log2 : Int) - 52 - -1074).toNat = m.log2 + 1022 by omega]
  have hkept : Ieee.Toward.even.cut neg ((m * 2 ^ k) <<< (-(k : Int) - ((m.log2 : Int) - 52)).toNat) ((m.log2 : Int) - 52 - -(k : Int)).toNat = m * 2 ^ (52 - m.log2) := by
    have hp : 0 < m * 2 ^ (52 - m.log2) := Nat.mul_pos h (Nat.two_pow_pos _)
    rcases Nat.lt_or_ge (52 - m.log2) k with hc | hc
    · rw [show (-(k : Int) - ((m.log2 : Int) - 52)).toNat = 0 by omega, Nat.shiftLeft_zero]
      have := cut_exact true neg (m * 2 ^ (52 - m.log2)) (k - (52 - m.log2)) ((m.log2 : Int) - 52 - -(k : Int)).toNat hp (by omega)
      rw [Nat.mul_assoc, ← Nat.pow_add, show 52 - m.log2 + (k - (52 - m.log2)) = k by omega] at this
      exact this
    · have e : (m * 2 ^ k) <<< (-(k : Int) - ((m.log2 : Int) - 52)).toNat = m * 2 ^ (52 - m.log2) * 2 ^ 0 := by
        rw [Nat.shiftLeft_eq, Nat.mul_assoc, ← Nat.pow_add, show k + (-(k : Int) - ((m.log2 : Int) - 52)).toNat = 52 - m.log2 by omega, Nat.pow_zero, Nat.mul_one]
      rw [e]
      exact cut_exact true neg (m * 2 ^ (52 - m.log2)) 0 _ hp (by omega)
  rw [hkept]
  have hm : m * 2 ^ (52 - m.log2) < 2 ^ 53 := by
    have := Nat.mul_lt_mul_of_pos_right (log2_bd h).2 (Nat.two_pow_pos (52 - m.log2))
    rw [← Nat.pow_add, show m.log2 + 1 + (52 - m.log2) = 53 by omega] at this
    exact this
  unfold rungOf
  rw [show Ieee.double.infRung = 2047 * 2 ^ 52 by decide, Nat.min_eq_left (by omega)]

theorem rung_read (neg : Bool) (m : Nat) (h : 0 < m) (h2 : m < 2 ^ 53) : Ieee.double.read (Ieee.double.word neg (rungOf m)) = .number neg (m * 2 ^ (52 - m.log2)) ((m.log2 : Int) - 52) := by
  have hL := log2_small h h2
  have hm : m * 2 ^ (52 - m.log2) < 2 ^ 53 := by
    have := Nat.mul_lt_mul_of_pos_right (log2_bd h).2 (Nat.two_pow_pos (52 - m.log2))
    rw [← Nat.pow_add, show m.log2 + 1 + (52 - m.log2) = 53 by omega] at this
    exact this
  have hm2 : 2 ^ 52 ≤ m * 2 ^ (52 - m.log2) := by
    have := Nat.mul_le_mul_right (2 ^ (52 - m.log2)) (log2_bd h).1
    rw [← Nat.pow_add, show m.log2 + (52 - m.log2) = 52 by omega] at this
    exact this
  unfold Ieee.Format.read Ieee.Format.word rungOf
  generalize m * 2 ^ (52 - m.log2) = z at *
  rw [show Ieee.double.signWeight = 2 ^ 63 by decide, show Ieee.double.binade = 2 ^ 52 by decide, show Ieee.double.infRung = 2047 * 2 ^ 52 by decide, show Ieee.double.leastPlace = -1074 by decide]
  generalize m.log2 = L at *
  have hr : (L + 1022) * 2 ^ 52 + z < 2 ^ 63 := by omega
  have e2 : (if neg = true then 2 ^ 63 + ((L + 1022) * 2 ^ 52 + z) else (L + 1022) * 2 ^ 52 + z) % 2 ^ 63 = (L + 1022) * 2 ^ 52 + z := by
    cases neg
    · rw [if_neg (by simp), Nat.mod_eq_of_lt hr]
    · rw [if_pos rfl]; omega
  simp only [e2]
  rw [if_neg (by omega), if_pos (by omega)]
  have e1' : ((if neg = true then 2 ^ 63 + ((L + 1022) * 2 ^ 52 + z) else (L + 1022) * 2 ^ 52 + z) / 2 ^ 63 % 2 == 1) = neg := by
    cases neg
    · rw [if_neg (by simp), Nat.div_eq_of_lt hr]; rfl
    · rw [if_pos rfl, show (2 ^ 63 + ((L + 1022) * 2 ^ 52 + z)) / 2 ^ 63 = 1 by omega]; rfl
  rw [e1', show 2 ^ 52 + ((L + 1022) * 2 ^ 52 + z) % 2 ^ 52 = z by omega, show (-1074 : Int) + (((L + 1022) * 2 ^ 52 + z) / 2 ^ 52 - 1 : Nat) = (L : Int) - 52 by omega]

theorem zero_up (k : Nat) : 0 = (0 : Int).natAbs * 2 ^ k := by simp
/-- the float of a whole number of at most 52 digits, read -/
theorem read_FZ (n : Int) (h : n.natAbs < 2 ^ 53) : ∃ (m : Nat) (k : Nat), FloatKind.f64.format.read (FZ n) = .number (decide (n < 0)) m (-(k : Int)) ∧ k ≤ 1074 ∧ m = n.natAbs * 2 ^ k := by
  by_cases h0 : n = 0
  · subst h0
    exact ⟨0, 1074, by decide +kernel, Nat.le_refl _, zero_up 1074⟩
  · have hp : 0 < n.natAbs := by omega
    have hL := log2_small hp h
    refine ⟨n.natAbs * 2 ^ (52 - n.natAbs.log2), 52 - n.natAbs.log2, ?_, by omega, rfl⟩
    have := nearest_exact (decide (n < 0)) n.natAbs 0 hp h (by omega)
    rw [Nat.pow_zero, Nat.mul_one] at this
    show Ieee.double.read (Ieee.double.nearest (decide (n < 0)) n.natAbs 0) = _
    rw [show (0 : Int) = -((0 : Nat) : Int) by rfl] at *
    rw [this, rung_read _ _ hp h]
    congr 1
    omega

theorem write_FZ (n : Int) (k : Nat) (h : n.natAbs < 2 ^ 53) (hk : k ≤ 1074) : Ieee.double.nearest (decide (n < 0)) (n.natAbs * 2 ^ k) (-(k : Int)) = FZ n := by
  by_cases h0 : n = 0
  · subst h0
    rw [show ((0 : Int).natAbs * 2 ^ k) = 0 by simp]
    unfold Ieee.Format.nearest
    rw [if_pos rfl]
    decide +kernel
  · have hp : 0 < n.natAbs := by omega
    rw [nearest_exact _ _ _ hp h hk]
    have := nearest_exact (decide (n < 0)) n.natAbs 0 hp h (by omega)
    rw [Nat.pow_zero, Nat.mul_one] at this
    exact this.symm

theorem signed_FZ (n : Int) (k b : Nat) (hb : k ≤ b) (i : Int) (j : Int) (hi : i = -(k : Int)) (hj : j = -(b : Int)) : Ieee.signed (decide (n < 0)) (n.natAbs * 2 ^ k) (i - j).toNat = n * (2 ^ b : Nat) := by
  subst hi hj
  unfold Ieee.signed
  rw [Nat.shiftLeft_eq, Nat.mul_assoc, ← Nat.pow_add, show k + (-(k : Int) - -(b : Int)).toNat = b by omega]
  by_cases hn : n < 0
  · rw [if_pos (by simpa using hn)]
    rw [show -((n.natAbs * 2 ^ b : Nat) : Int) = -(n.natAbs : Int) * ((2 ^ b : Nat) : Int) by rw [Int.natCast_mul, Int.neg_mul], show -(n.natAbs : Int) = n by omega]
  · rw [if_neg (by simpa using hn)]
    rw [Int.natCast_mul, show (n.natAbs : Int) = n by omega]
theorem signed_FZ' (n : Int) (k b : Nat) (hb : k ≤ b) (i : Int) (j : Int) (hi : i = -(k : Int)) (hj : j = -(b : Int)) (s : Bool) (hs : s = !decide (n < 0)) : Ieee.signed s (n.natAbs * 2 ^ k) (i - j).toNat = -n * (2 ^ b : Nat) := by
  by_cases h0 : n = 0
  · subst h0; simp [Ieee.signed]
  · have := signed_FZ (-n) k b hb i j hi hj
    rw [Int.natAbs_neg] at this
    rw [hs, show (!decide (n < 0)) = decide (-n < 0) by by_cases h : n < 0 <;> simp [h] <;> omega]
    exact this

theorem sum_total (c : Int) (b : Nat) (s : Bool) (hs : c = 0 → s = false) (h : c.natAbs < 2 ^ 53) (hb : b ≤ 1074) : Ieee.double.write (.number (if c * (2 ^ b : Nat) = 0 then s else decide (c * (2 ^ b : Nat) < 0)) (c * (2 ^ b : Nat)).natAbs (-(b : Int))) = FZ c := by
  have hp : (0 : Int) < ((2 ^ b : Nat) : Int) := by exact_mod_cast Nat.two_pow_pos b
  have e : (c * ((2 ^ b : Nat) : Int)).natAbs = c.natAbs * 2 ^ b := by rw [Int.natAbs_mul]; rfl
  have e2 : (if c * ((2 ^ b : Nat) : Int) = 0 then s else decide (c * ((2 ^ b : Nat) : Int) < 0)) = decide (c < 0) := by
    by_cases h0 : c = 0
    · rw [if_pos (by simp [h0]), hs h0]; simp [h0]
    · have : c * ((2 ^ b : Nat) : Int) ≠ 0 := Int.mul_ne_zero h0 (by omega)
      rw [if_neg this]
      by_cases hc : c < 0
      · have := Int.mul_neg_of_neg_of_pos hc hp
        rw [decide_eq_true hc, decide_eq_true this]
      · have := Int.mul_pos (show 0 < c by omega) hp
        rw [decide_eq_false hc, decide_eq_false (by omega)]
  rw [e, e2]
  exact write_FZ c b h hb

theorem add_FZ (a b : Int) (ha : a.natAbs < 2 ^ 52) (hb : b.natAbs < 2 ^ 52) : floatBits .add .f64 (FZ a) (FZ b) = some (FZ (a + b)) := by
  obtain ⟨m, i, hm, hi, rfl⟩ := read_FZ a (by omega)
  obtain ⟨n, j, hn, hj, rfl⟩ := read_FZ b (by omega)
  show FloatKind.f64.format.add _ _ = _
  unfold Ieee.Format.add
  rw [hm, hn]
  unfold Ieee.Datum.sum
  have hx : min (-(i : Int)) (-(j : Int)) = -((max i j : Nat) : Int) := by omega
  simp only [hx, Option.map_some]
  rw [signed_FZ a i (max i j) (by omega) _ _ rfl rfl, signed_FZ b j (max i j) (by omega) _ _ rfl rfl, ← Int.add_mul]
  congr 1
  exact sum_total (a + b) (max i j) _ (fun h => by
    by_cases h1 : a < 0
    · have : ¬ b < 0 := by omega
      simp [this]
    · simp [h1]) (by omega) (by omega)

theorem sub_FZ (a b : Int) (ha : a.natAbs < 2 ^ 52) (hb : b.natAbs < 2 ^ 52) : floatBits .sub .f64 (FZ a) (FZ b) = some (FZ (a - b)) := by
  obtain ⟨m, i, hm, hi, rfl⟩ := read_FZ a (by omega)
  obtain ⟨n, j, hn, hj, rfl⟩ := read_FZ b (by omega)
  show FloatKind.f64.format.sub _ _ = _
  unfold Ieee.Format.sub
  rw [hm, hn]
  unfold Ieee.Datum.opposite Ieee.Datum.sum
  have hx : min (-(i : Int)) (-(j : Int)) = -((max i j : Nat) : Int) := by omega
  simp only [hx, Option.map_some]
  rw [signed_FZ a i (max i j) (by omega) _ _ rfl rfl, signed_FZ' b j (max i j) (by omega) _ _ rfl rfl _ rfl, ← Int.add_mul]
  congr 1
  exact sum_total (a + -b) (max i j) _ (fun h => by
    by_cases h1 : a < 0
    · have : b < 0 := by omega
      simp [this]
    · simp [h1]) (by omega) (by omega)

/-- and back -/
theorem int_FZ (n : Int) (h : n.natAbs < 2 ^ 53) : floatToIntVal .f64 (FZ n) .i64 = some n := by
  obtain ⟨m, i, hm, hi, rfl⟩ := read_FZ n h
  unfold floatToIntVal
  have e : (FloatKind.f64.decode (FZ n)).toInt .zero = some n := by
    show (FloatKind.f64.format.read (FZ n)).toInt .zero = some n
    rw [hm]
    unfold Ieee.Datum.toInt Ieee.Datum.integral
    simp only
    rw [show (-(i : Int)).toNat = 0 by omega, Nat.shiftLeft_zero, show (- -(i : Int)).toNat = i by omega]
    by_cases h0 : n = 0
    · subst h0
      rw [show (0 : Int).natAbs * 2 ^ i = 0 by simp]
      simp [Ieee.Toward.cut, Ieee.signed]
    · have := cut_exact false (decide (n < 0)) n.natAbs i i (by omega) rfl
      simp only [Bool.false_eq_true, if_false] at this
      rw [this]
      unfold Ieee.signed
      by_cases hn : n < 0 <;> simp [hn] <;> omega
  rw [e]
  simp only
  rw [if_pos]
  have e1 : IntKind.min .i64 = -9223372036854775808 := by decide
  have e2 : IntKind.max .i64 = 9223372036854775807 := by decide
  rw [e1, e2]
  omega
theorem csub_FZ (a b c d : Int) (ha : a.natAbs < 2 ^ 52) (hb : b.natAbs < 2 ^ 52) (hc : c.natAbs < 2 ^ 52) (hd : d.natAbs < 2 ^ 52) : cSumBits .sub .f64 (FZ a) (FZ b) (FZ c) (FZ d) = some (FZ (a - c), FZ (b - d)) := by
  unfold cSumBits
  rw [sub_FZ a c ha hc, sub_FZ b d hb hd]; rfl
end Go.Proofs.Ytlnfgmmgkmhehaa
