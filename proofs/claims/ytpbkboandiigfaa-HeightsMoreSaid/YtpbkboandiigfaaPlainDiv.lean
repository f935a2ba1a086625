/- Plain facts on the division of two words by one, digit by digit: nothing of the program. -/
import Derived.WalkKit
import Derived.Lib.ItoaNum
namespace Go.Proofs.Ytpbkboandiigfaa
open Go.RowKit

/-- one digit: the running rest X, the next digit c, the divisor Y = P * 2^32 + Z -/
structure Digit (X c Y P Z Q R : Int) : Prop where
  x0 : 0 ≤ X
  xy : X < Y
  c0 : 0 ≤ c
  c1 : c < 4294967296
  y : Y = P * 4294967296 + Z
  p0 : 2147483648 ≤ P
  p1 : P < 4294967296
  z0 : 0 ≤ Z
  z1 : Z < 4294967296
  q : Q = (X * 4294967296 + c) / Y
  r : R = (X * 4294967296 + c) % Y
namespace Digit
variable {X c Y P Z Q R : Int}
theorem mulY (h : Digit X c Y P Z Q R) (q : Int) : q * Y = q * P * 4294967296 + q * Z := by
  rw [h.y, Int.mul_add, Int.mul_assoc]
theorem le_iff (h : Digit X c Y P Z Q R) (q : Int) : q ≤ Q ↔ q * P * 4294967296 + q * Z ≤ X * 4294967296 + c := by
  have := h.y; have := h.p0; have := h.z0
  rw [h.q, Int.le_ediv_iff_mul_le (by omega), h.mulY]
theorem q_lt (h : Digit X c Y P Z Q R) : Q < 4294967296 := by
  have := h.y; have := h.p0; have := h.z0; have := h.xy; have := h.c1
  rw [h.q]
  apply Int.ediv_lt_of_lt_mul (by omega)
  omega
theorem q_ge (h : Digit X c Y P Z Q R) : 0 ≤ Q := by
  have := h.y; have := h.p0; have := h.z0; have := h.x0; have := h.c0
  rw [h.q]; exact Int.ediv_nonneg (by omega) (by omega)
theorem rest (h : Digit X c Y P Z Q R) : X * 4294967296 + c - Q * Y = R ∧ 0 ≤ R ∧ R < Y := by
  have := h.y; have := h.p0; have := h.z0
  have e := Int.mul_ediv_add_emod (X * 4294967296 + c) Y
  rw [← h.q, ← h.r, Int.mul_comm] at e
  refine ⟨by omega, ?_, ?_⟩
  · rw [h.r]; exact Int.emod_nonneg _ (by omega)
  · rw [h.r]; exact Int.emod_lt_of_pos _ (by omega)
theorem more (h : Digit X c Y P Z Q R) {q r : Int} (hq : Q < q) (hr : r = X - q * P) : 4294967296 * r + c < q * Z := by
  have e := h.le_iff q
  have : ¬ q * P * 4294967296 + q * Z ≤ X * 4294967296 + c := fun k => by have := e.2 k; omega
  generalize q * P = A at *; generalize q * Z = B at *; omega
theorem done (h : Digit X c Y P Z Q R) {r : Int} (hr : r = X - Q * P) : Q * Z ≤ 4294967296 * r + c := by
  have e := (h.le_iff Q).1 (Int.le_refl _)
  generalize Q * P = A at *; generalize Q * Z = B at *; omega
theorem prod_le (h : Digit X c Y P Z Q R) {q : Int} (q0 : 0 ≤ q) (q1 : q ≤ 4294967297) : 0 ≤ q * Z ∧ q * Z ≤ 4294967297 * 4294967295 :=
  ⟨Int.mul_nonneg q0 h.z0, by have := h.z1; have := h.z0; exact Int.mul_le_mul q1 (by omega) (by omega) (by omega)⟩
theorem prod_lt (h : Digit X c Y P Z Q R) {q : Int} (q0 : 0 ≤ q) (q1 : q < 4294967296) : q * Z < 18446744073709551616 := by
  have := h.z1; have := h.z0
  have : q * Z ≤ 4294967295 * 4294967295 := Int.mul_le_mul (by omega) (by omega) (by omega) (by omega)
  omega
theorem last (h : Digit X c Y P Z Q R) {q r : Int} (hq : Q < q) (hq1 : q ≤ 4294967297) (hr : r = X - q * P) (hb : 4294967296 ≤ r + P) : q - 1 = Q := by
  have e := (h.le_iff (q - 1)).2
  have p := h.q_ge
  have z := h.prod_le (q := q - 1) (by omega) (by omega)
  have z2 : (q - 1) * Z ≤ 4294967296 * 4294967295 := by have := h.z1; have := h.z0; exact Int.mul_le_mul (by omega) (by omega) (by omega) (by omega)
  have e1 : (q - 1) * P = q * P - P := by rw [Int.sub_mul, Int.one_mul]
  have c0 := h.c0
  rw [e1] at e
  generalize q * P = A at *; generalize (q - 1) * Z = B at *
  have := e (by omega)
  omega
theorem first (h : Digit X c Y P Z Q R) : Q ≤ X / P ∧ X / P ≤ 4294967297 ∧ 0 ≤ X - X / P * P ∧ X - X / P * P < 4294967296 := by
  have p0 := h.p0; have p1 := h.p1; have x0 := h.x0; have xy := h.xy; have hy := h.y; have z1 := h.z1; have z0 := h.z0; have c1 := h.c1
  have e := Int.mul_ediv_add_emod X P
  have m0 := Int.emod_nonneg X (b := P) (by omega)
  have m1 := Int.emod_lt_of_pos X (b := P) (by omega)
  have hd : X / P < 4294967298 := by
    apply Int.ediv_lt_of_lt_mul (by omega); omega
  have hd0 : 0 ≤ X / P := Int.ediv_nonneg x0 (by omega)
  rw [Int.mul_comm] at e
  refine ⟨?_, by omega, by omega, by omega⟩
  by_cases k : X / P + 1 ≤ Q
  · exfalso
    have := (h.le_iff _).1 k
    have e1 : (X / P + 1) * P = X / P * P + P := by rw [Int.add_mul, Int.one_mul]
    have z : 0 ≤ (X / P + 1) * Z := Int.mul_nonneg (by omega) z0
    rw [e1] at this
    generalize X / P * P = A at *; generalize (X / P + 1) * Z = B at *; omega
  · omega
end Digit
/-- what holds at a digit's loop -/
def Trial (X P Q q r : Int) : Prop := Q ≤ q ∧ q ≤ 4294967297 ∧ 0 ≤ r ∧ r < 4294967296 ∧ r = X - q * P
theorem trial_start {X c Y P Z Q R : Int} (h : Digit X c Y P Z Q R) : Trial X P Q (X / P) (X - X / P * P) := by
  obtain ⟨a, b, c, d⟩ := h.first
  exact ⟨a, b, c, d, rfl⟩
theorem trial_step {X P Q q r : Int} (t : Trial X P Q q r) (hq : Q < q) (hr : r + P < 4294967296) (p0 : 0 ≤ P) : Trial X P Q (q - 1) (r + P) := by
  obtain ⟨a, b, c, d, e⟩ := t
  exact ⟨by omega, by omega, by omega, by omega, by rw [e, Int.sub_mul, Int.one_mul]; omega⟩
/-- one trial: it is too great, and goes on; or it, or the one below it, is the digit -/
def TrialCases (Q Z P c q r : Int) : Prop :=
  (Q < q ∧ 4294967296 ≤ q ∧ r + P < 4294967296) ∨
  (∃ m, q * Z = m ∧ Q < q ∧ q < 4294967296 ∧ 4294967296 * r + c < m ∧ 0 ≤ m ∧ m < 18446744073709551616 ∧ r + P < 4294967296) ∨
  (∃ m, q * Z = m ∧ q = Q ∧ q < 4294967296 ∧ m ≤ 4294967296 * r + c ∧ 0 ≤ m ∧ m < 18446744073709551616) ∨
  (q = Q + 1 ∧ 4294967296 ≤ q ∧ 4294967296 ≤ r + P) ∨
  (∃ m, q * Z = m ∧ q = Q + 1 ∧ q < 4294967296 ∧ 4294967296 * r + c < m ∧ 0 ≤ m ∧ m < 18446744073709551616 ∧ 4294967296 ≤ r + P)
theorem trial_cases {X c Y P Z Q R q r : Int} (h : Digit X c Y P Z Q R) (t : Trial X P Q q r) : TrialCases Q Z P c q r := by
  obtain ⟨tq, tq1, tr, tr1, te⟩ := t
  have q0 := h.q_ge
  have hc1 := h.c1
  have pz := h.prod_le (q := q) (by omega) tq1
  by_cases hq : q = Q
  · have hd := h.done (r := r) (by rw [← hq]; exact te)
    have := h.q_lt
    exact .inr (.inr (.inl ⟨_, rfl, hq, by omega, by rw [hq]; exact hd, pz.1, by rw [hq]; omega⟩))
  · have hm := h.more (q := q) (by omega) te
    by_cases hb : 4294967296 ≤ q
    · by_cases hr : 4294967296 ≤ r + P
      · have hl := h.last (by omega) tq1 te hr
        exact .inr (.inr (.inr (.inl ⟨by omega, hb, hr⟩)))
      · exact .inl ⟨by omega, hb, by omega⟩
    · have hp := h.prod_lt (q := q) (by omega) (by omega)
      by_cases hr : 4294967296 ≤ r + P
      · have hl := h.last (by omega) tq1 te hr
        exact .inr (.inr (.inr (.inr ⟨_, rfl, by omega, by omega, hm, pz.1, hp, hr⟩)))
      · exact .inr (.inl ⟨_, rfl, by omega, by omega, hm, pz.1, hp, by omega⟩)

/-- the normalized numbers of a division of two words -/
theorem norm_s (y : Int) (y1 : 0 < y) (y2 : y < 18446744073709551616) : ∃ s : Nat, (s : Int) = 64 - (Lib.bitLen y.toNat : Int) ∧ s ≤ 63 ∧ 9223372036854775808 ≤ y * 2 ^ s ∧ y * 2 ^ s < 18446744073709551616 := by
  obtain ⟨n, rfl⟩ := Int.eq_ofNat_of_zero_le (Int.le_of_lt y1)
  have hb := Lib.bitLenAux_bounds 64 n (by omega) (by omega)
  have hle : Lib.bitLenAux 64 n ≤ 64 := by
    by_cases k : Lib.bitLenAux 64 n ≤ 64
    · exact k
    · exfalso
      have : (2 : Nat) ^ 64 ≤ 2 ^ (Lib.bitLenAux 64 n - 1) := Nat.pow_le_pow_right (by omega) (by omega)
      omega
  refine ⟨64 - Lib.bitLenAux 64 n, ?_, by omega, ?_, ?_⟩
  · simp only [Lib.bitLen, Int.toNat_natCast]; omega
  · have : n * 2 ^ (64 - Lib.bitLenAux 64 n) ≥ 2 ^ (Lib.bitLenAux 64 n - 1) * 2 ^ (64 - Lib.bitLenAux 64 n) := Nat.mul_le_mul_right _ hb.2.1
    rw [← Nat.pow_add, show Lib.bitLenAux 64 n - 1 + (64 - Lib.bitLenAux 64 n) = 63 by omega] at this
    have e : ((n : Int) * 2 ^ (64 - Lib.bitLenAux 64 n)) = ((n * 2 ^ (64 - Lib.bitLenAux 64 n) : Nat) : Int) := by simp
    rw [e]; omega
  · have : n * 2 ^ (64 - Lib.bitLenAux 64 n) < 2 ^ (Lib.bitLenAux 64 n) * 2 ^ (64 - Lib.bitLenAux 64 n) := Nat.mul_lt_mul_of_pos_right hb.2.2 (Nat.pow_pos (by omega))
    rw [← Nat.pow_add, show Lib.bitLenAux 64 n + (64 - Lib.bitLenAux 64 n) = 64 by omega] at this
    have e : ((n : Int) * 2 ^ (64 - Lib.bitLenAux 64 n)) = ((n * 2 ^ (64 - Lib.bitLenAux 64 n) : Nat) : Int) := by simp
    rw [e]; omega

theorem pow_split (s : Nat) (h : s ≤ 63) : (2 : Int) ^ (64 - s) * 2 ^ s = 18446744073709551616 := by
  rw [← Int.pow_add, show 64 - s + s = 64 by omega]; rfl
theorem pow_pos' (s : Nat) : (0 : Int) < 2 ^ s := Int.pow_pos (by omega)

/-- the shifted low word: its upper and its lower part -/
theorem low_split (l : Int) (s : Nat) (h : s ≤ 63) (l1 : 0 ≤ l) (l2 : l < 18446744073709551616) :
    l * 2 ^ s = l / 2 ^ (64 - s) * 18446744073709551616 + IntKind.u64.wrap (l * 2 ^ s) ∧ 0 ≤ l / 2 ^ (64 - s) ∧ l / 2 ^ (64 - s) < 2 ^ s := by
  have e := pow_split s h
  have p := pow_pos' s
  have p' := pow_pos' (64 - s)
  have hw : IntKind.u64.wrap (l * 2 ^ s) = (l * 2 ^ s) % 18446744073709551616 := by simp [IntKind.wrap, IntKind.bits, IntKind.signed]
  have hd : l * 2 ^ s / 18446744073709551616 = l / 2 ^ (64 - s) := by
    rw [← e]; exact Int.mul_ediv_mul_of_pos_left _ _ p
  refine ⟨?_, Int.ediv_nonneg l1 (Int.le_of_lt p'), ?_⟩
  · rw [hw, ← hd]; have := Int.mul_ediv_add_emod (l * 2 ^ s) 18446744073709551616; omega
  · apply Int.ediv_lt_of_lt_mul p'
    rw [Int.mul_comm, e]; exact l2

/-- the whole: out of the two digits -/
theorem whole_div (h l y Y H T X c1 c0 P Z Q1 R1 Q0 R0 : Int) (s : Nat) (hY : y * 2 ^ s = Y) (hH : h * 2 ^ s = H)
    (hT : l * 2 ^ s = (X - H) * 18446744073709551616 + T) (hc : T = c1 * 4294967296 + c0)
    (d1 : Digit X c1 Y P Z Q1 R1) (d0 : Digit R1 c0 Y P Z Q0 R0) :
    (h * 18446744073709551616 + l) / y = Q1 * 4294967296 + Q0 ∧ (h * 18446744073709551616 + l) % y = R0 / 2 ^ s := by
  have p := pow_pos' s
  have r1 := d1.rest
  have r0 := d0.rest
  -- N * 2^s = q * Y + R0
  have key : (h * 18446744073709551616 + l) * 2 ^ s = (Q1 * 4294967296 + Q0) * Y + R0 := by
    rw [Int.add_mul, hT, Int.mul_right_comm, hH, hc, Int.add_mul, Int.mul_right_comm]
    generalize Q1 * Y = A at *; generalize Q0 * Y = B at *; omega
  have q : (h * 18446744073709551616 + l) / y = Q1 * 4294967296 + Q0 := by
    have e : (h * 18446744073709551616 + l) * 2 ^ s / (y * 2 ^ s) = (h * 18446744073709551616 + l) / y := Int.mul_ediv_mul_of_pos_left _ _ p
    rw [← e, key, hY, Int.add_comm, Int.add_mul_ediv_right _ _ (by omega), Int.ediv_eq_zero_of_lt r0.2.1 r0.2.2]; omega
  refine ⟨q, ?_⟩
  have m := Int.mul_ediv_add_emod (h * 18446744073709551616 + l) y
  rw [q] at m
  have : (h * 18446744073709551616 + l) % y * 2 ^ s = R0 := by
    have : (h * 18446744073709551616 + l) % y = (h * 18446744073709551616 + l) - y * (Q1 * 4294967296 + Q0) := by omega
    rw [this, Int.sub_mul, key, Int.mul_comm y, Int.mul_assoc, hY]; omega
  rw [← this]; exact (Int.mul_ediv_cancel _ (by omega)).symm
theorem x_lt (h l y Y H T X : Int) (s : Nat) (h2 : h < y) (l2 : l < 18446744073709551616) (hY : y * 2 ^ s = Y) (hH : h * 2 ^ s = H)
    (hT : l * 2 ^ s = (X - H) * 18446744073709551616 + T) (t0 : 0 ≤ T) : X < Y := by
  have p := pow_pos' s
  have a : (h * 18446744073709551616 + l) < y * 18446744073709551616 := by omega
  have b : (h * 18446744073709551616 + l) * 2 ^ s < (y * 18446744073709551616) * 2 ^ s := Int.mul_lt_mul_of_pos_right a p
  rw [Int.add_mul, hT, Int.mul_right_comm, hH, Int.mul_right_comm, hY] at b
  omega
end Go.Proofs.Ytpbkboandiigfaa
