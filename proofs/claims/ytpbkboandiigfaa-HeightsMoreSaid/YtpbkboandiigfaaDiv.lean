/- Contract of the library's division of two words by one: the quotient and the remainder. -/
/- The library's division of two words by one returns the quotient and the remainder, wherever the upper word is below the divisor. -/
import Derived.Test.YtpbkboandiigfaaShelf
import Derived.Test.YtpbkboandiigfaaArith
import Derived.Test.YtpbkboandiigfaaPlainDiv
import Derived.BigQuiet
import Derived.Deep.QuietTactic
import Derived.LoopTactic
namespace Go.Proofs.Ytpbkboandiigfaa
open Go.RowKit
set_option linter.unusedVariables false

theorem lz_of (y : Int) (w : World) (y1 : 0 < y) (y2 : y < 18446744073709551616) (s : Nat) (hs : (s : Int) = 64 - (Lib.bitLen y.toNat : Int)) :
    Calls Try.prog 73 #[.int .u64 y] w fun e w' => e = .returned (.int .i64 (s : Int)) ∧ w = w' :=
  (Try.bits_LeadingZeros64 y w (by omega) (by omega)).mono fun e w' ⟨h1, h2⟩ => ⟨by rw [h1, hs], h2.symm⟩

set_option maxHeartbeats 1000000 in
theorem div64_walk (h l y Y H X T c1 c0 P Z a1 m1 a0 m0 A1 C1 A0 C0 Q1 R1 Q0 R0 : Int) (s : Nat) (w : World) (h1 : 0 < h) (h2 : h < y) (y1 : 0 < y) (y2 : y < 18446744073709551616) (l1 : 0 ≤ l) (l2 : l < 18446744073709551616)
    (hs : Hid ((s : Int) = 64 - (Lib.bitLen y.toNat : Int))) (s1 : s ≤ 63) (hsm : min s 64 = s) (Y1 : 9223372036854775808 ≤ Y) (Y2 : Y < 18446744073709551616)
    (hY : y * 2 ^ s = Y) (hH : h * 2 ^ s = H) (H1 : 0 ≤ H) (H2 : H < 18446744073709551616)
    (hP : Y / 4294967296 = P) (hZ : bits .and .u64 Y 4294967295 = Z) (hX : bits .or .u64 H (l / 2 ^ (64 - s)) = X) (X1 : 0 ≤ X) (X2 : X < 18446744073709551616)
    (P0 : 2147483648 ≤ P) (P1 : P < 4294967296) (Z0 : 0 ≤ Z) (Z1 : Z < 4294967296)
    (hT : IntKind.u64.wrap (l * 2 ^ s) = T) (T1 : 0 ≤ T) (T2 : T < 18446744073709551616) (hc1 : T / 4294967296 = c1) (hc0 : bits .and .u64 T 4294967295 = c0)
    (c10 : 0 ≤ c1) (c11 : c1 < 4294967296) (c00 : 0 ≤ c0) (c01 : c0 < 4294967296)
    (ha1 : X / P = a1) (a10 : 0 ≤ a1) (a11 : a1 ≤ 4294967297) (hm1 : a1 * P = m1) (m10 : 0 ≤ m1) (m11 : m1 ≤ X)
    (ha0 : R1 / P = a0) (a00 : 0 ≤ a0) (a01 : a0 ≤ 4294967297) (hm0 : a0 * P = m0) (m00 : 0 ≤ m0) (m01 : m0 ≤ R1)
    (R10 : 0 ≤ R1) (R11 : R1 < 18446744073709551616) (R00 : 0 ≤ R0) (R01 : R0 < 18446744073709551616)
    (hA1 : IntKind.u64.wrap (X * 4294967296) = A1) (A10 : 0 ≤ A1) (A11 : A1 ≤ 18446744069414584320) (hC1 : IntKind.u64.wrap (Q1 * Y) = C1) (hR1 : IntKind.u64.wrap (A1 + c1 - C1) = R1)
    (hA0 : IntKind.u64.wrap (R1 * 4294967296) = A0) (A00 : 0 ≤ A0) (A01 : A0 ≤ 18446744069414584320) (hC0 : IntKind.u64.wrap (Q0 * Y) = C0) (hR0 : IntKind.u64.wrap (A0 + c0 - C0) = R0)
    (Q10 : 0 ≤ Q1) (Q11 : Q1 < 4294967296) (Q00 : 0 ≤ Q0) (Q01 : Q0 < 4294967296)
    (d1 : Hid (Digit X c1 Y P Z Q1 R1)) (d0 : Hid (Digit R1 c0 Y P Z Q0 R0)) (t1 : Trial X P Q1 a1 (X - m1)) (t0 : Trial R1 P Q0 a0 (R1 - m0)) :
    Calls Try.prog 55 #[.int .u64 h, .int .u64 l, .int .u64 y] w fun e w' => e = .returned (.tuple #[.int .u64 (Q1 * 4294967296 + Q0), .int .u64 (R0 / 2 ^ s)]) ∧ w = w' := by
  go_enter Try.func55, Try.ntmps55
  go_wp2_with (first
    | (go_at_call 73; refine (lz_of _ _ (by assumption) (by assumption) s hs.out).mono ?_; rintro e w' ⟨rfl, rfl⟩))
  go_loop [15, 16] (fun q r => ∃ q' r' : Int, q = .int .u64 q' ∧ r = .int .u64 r' ∧ Trial X P Q1 q' r') (fun q _ => (intOf q).toNat)
  case atStart => first | exact ⟨_, _, rfl, rfl, t1⟩ | exact ⟨_, _, rfl, rfl, by rw [ha1]; exact t1⟩
  case round =>
    obtain ⟨q, r, rfl, rfl, tq⟩ := hrel
    have tc := trial_cases d1.out tq
    have TQ := Lib.hid tq
    have tq0 := tq.1; have tq1 := tq.2.1; have tr0 := tq.2.2.1; have tr1 := tq.2.2.2.1; clear tq
    rcases tc with ⟨b1, b2, b3⟩ | ⟨m, hm, b1, b2, b3, b4, b5, b6⟩ | ⟨m, hm, rfl, b2, b3, b4, b5⟩ | ⟨rfl, b2, b3⟩ | ⟨m, hm, rfl, b2, b3, b4, b5, b6⟩
    · go_wp2
      go_round
      case rel => exact ⟨q - 1, r + P, rfl, rfl, trial_step TQ.out b1 b3 (by omega)⟩
      case measure => simp [intOf]; omega
    · go_wp2
      go_round
      case rel => first | exact ⟨q - 1, r + P, rfl, rfl, trial_step TQ.out b1 b6 (by omega)⟩ | exact trial_step TQ.out b1 b6 (by omega)
      case measure => simp [intOf]; omega
    all_goals
      clear TQ
      go_wp2
      go_loop [18, 16] (fun q r => ∃ q' r' : Int, q = .int .u64 q' ∧ r = .int .u64 r' ∧ Trial R1 P Q0 q' r') (fun q _ => (intOf q).toNat)
      case atStart => first | exact ⟨_, _, rfl, rfl, t0⟩ | exact ⟨_, _, rfl, rfl, by rw [ha0]; exact t0⟩
      case round =>
        obtain ⟨q, r, rfl, rfl, tq⟩ := hrel
        have tc := trial_cases d0.out tq
        have TQ := Lib.hid tq
        have tq0 := tq.1; have tq1 := tq.2.1; have tr0 := tq.2.2.1; have tr1 := tq.2.2.2.1; clear tq
        rcases tc with ⟨b1, b2, b3⟩ | ⟨m, hm, b1, b2, b3, b4, b5, b6⟩ | ⟨m, hm, rfl, b2, b3, b4, b5⟩ | ⟨rfl, b2, b3⟩ | ⟨m, hm, rfl, b2, b3, b4, b5, b6⟩
        · go_wp2
          go_round
          case rel => exact ⟨q - 1, r + P, rfl, rfl, trial_step TQ.out b1 b3 (by omega)⟩
          case measure => simp [intOf]; omega
        · go_wp2
          go_round
          case rel => first | exact ⟨q - 1, r + P, rfl, rfl, trial_step TQ.out b1 b6 (by omega)⟩ | exact trial_step TQ.out b1 b6 (by omega)
          case measure => simp [intOf]; omega
        all_goals
          clear TQ
          go_wp2
          go_ret2
          exact ⟨rfl, rfl⟩
end Go.Proofs.Ytpbkboandiigfaa

namespace Go.Proofs.Ytpbkboandiigfaa
open Go.RowKit
set_option linter.unusedVariables false

theorem wrap_u64_emod (x : Int) : IntKind.u64.wrap x = x % 18446744073709551616 := by simp [IntKind.wrap, IntKind.bits, IntKind.signed]
theorem wrap_rest {X c Y Q R : Int} (e : X * 4294967296 + c - Q * Y = R) (r0 : 0 ≤ R) (r1 : R < 18446744073709551616) :
    IntKind.u64.wrap (IntKind.u64.wrap (X * 4294967296) + c - IntKind.u64.wrap (Q * Y)) = R := by
  simp only [wrap_u64_emod]
  generalize Q * Y = A at *
  omega
theorem wrap_high (X : Int) : 0 ≤ IntKind.u64.wrap (X * 4294967296) ∧ IntKind.u64.wrap (X * 4294967296) ≤ 18446744069414584320 := by
  simp only [wrap_u64_emod]; omega
set_option maxHeartbeats 1000000 in
theorem div64_big (h l y : Int) (w : World) (h1 : 0 < h) (h2 : h < y) (y2 : y < 18446744073709551616) (l1 : 0 ≤ l) (l2 : l < 18446744073709551616) :
    Calls Try.prog 55 #[.int .u64 h, .int .u64 l, .int .u64 y] w fun e w' => e = .returned (.tuple #[.int .u64 ((h * 18446744073709551616 + l) / y), .int .u64 ((h * 18446744073709551616 + l) % y)]) ∧ w = w' := by
  obtain ⟨s, hs, s1, Y1, Y2⟩ := norm_s y (by omega) y2
  have sp := low_split l s s1 l1 l2
  have p := pow_pos' s
  have hH0 : 0 ≤ h * 2 ^ s := Int.mul_nonneg (by omega) (by omega)
  have hHY : h * 2 ^ s < y * 2 ^ s := Int.mul_lt_mul_of_pos_right h2 p
  have T1 : 0 ≤ IntKind.u64.wrap (l * 2 ^ s) ∧ IntKind.u64.wrap (l * 2 ^ s) < 18446744073709551616 := by simp only [wrap_u64_emod]; omega
  have hor : bits .or .u64 (h * 2 ^ s) (l / 2 ^ (64 - s)) = h * 2 ^ s + l / 2 ^ (64 - s) := by
    have p63 : (2 : Int) ^ s ≤ 2 ^ 63 := by have := Int.ofNat_le.2 (Nat.pow_le_pow_right (n := 2) (by omega) s1); simpa using this
    exact bits_join .u64 64 (by decide) (fun n n0 n1 => by rw [wrap_u64_emod]; exact Int.emod_eq_of_lt n0 n1) s _ _ hH0 (Int.mul_emod_left _ _) (by omega) sp.2.1 sp.2.2 (by omega)
  obtain ⟨X, hX⟩ : ∃ X, h * 2 ^ s + l / 2 ^ (64 - s) = X := ⟨_, rfl⟩
  obtain ⟨T, hT⟩ : ∃ T, IntKind.u64.wrap (l * 2 ^ s) = T := ⟨_, rfl⟩
  obtain ⟨Y, hY⟩ : ∃ Y, y * 2 ^ s = Y := ⟨_, rfl⟩
  obtain ⟨H, hH⟩ : ∃ H, h * 2 ^ s = H := ⟨_, rfl⟩
  rw [hX] at hor
  have hl : l * 2 ^ s = (X - H) * 18446744073709551616 + T := by rw [sp.1, hT, ← hX, hH]; omega
  have xl := x_lt h l y Y H T X s h2 l2 hY hH hl (by rw [← hT]; exact T1.1)
  rw [hT] at T1; rw [hY] at Y1 Y2 hHY; rw [hH] at hH0 hX hor hHY
  have d1 : Digit X (T / 4294967296) Y (Y / 4294967296) (Y % 4294967296) _ _ := ⟨by omega, xl, by omega, by omega, by omega, by omega, by omega, by omega, by omega, rfl, rfl⟩
  have r1 := d1.rest
  have d0 : Digit ((X * 4294967296 + T / 4294967296) % Y) (T % 4294967296) Y (Y / 4294967296) (Y % 4294967296) _ _ := ⟨r1.2.1, r1.2.2, by omega, by omega, by omega, by omega, by omega, by omega, by omega, rfl, rfl⟩
  have r0 := d0.rest
  have w := whole_div h l y Y H T X (T / 4294967296) (T % 4294967296) (Y / 4294967296) (Y % 4294967296) _ _ _ _ s hY hH hl (by omega) d1 d0
  rw [w.1, w.2]
  have f1 := d1.first
  have f0 := d0.first
  have a1 := wrap_high X
  have a0 := wrap_high ((X * 4294967296 + T / 4294967296) % Y)
  exact div64_walk h l y Y H X T _ _ _ _ _ _ _ _ _ _ _ _ _ _ _ _ s _ h1 h2 (by omega) y2 l1 l2 hs s1 (by omega) Y1 Y2 hY hH hH0 (by omega)
    rfl (and_low32 Y (by omega) Y2) hor (by omega) (by omega) (by omega) (by omega) (by omega) (by omega) hT T1.1 T1.2 rfl (and_low32 T T1.1 T1.2)
    (by omega) (by omega) (by omega) (by omega) rfl (Int.ediv_nonneg (by omega) (by omega)) f1.2.1 rfl (Int.mul_nonneg (Int.ediv_nonneg (by omega) (by omega)) (by omega)) (by have := f1.2.2.1; omega)
    rfl (Int.ediv_nonneg (by omega) (by omega)) f0.2.1 rfl (Int.mul_nonneg (Int.ediv_nonneg (by omega) (by omega)) (by omega)) (by have := f0.2.2.1; omega)
    (by omega) (by omega) (by omega) (by omega) rfl a1.1 a1.2 rfl (wrap_rest r1.1 (by omega) (by omega)) rfl a0.1 a0.2 rfl (wrap_rest r0.1 (by omega) (by omega))
    d1.q_ge d1.q_lt d0.q_ge d0.q_lt d1 d0 (trial_start d1) (trial_start d0)

set_option maxHeartbeats 400000 in
theorem div64_zero (l y : Int) (w : World) (y1 : 0 < y) (y2 : y < 18446744073709551616) (l1 : 0 ≤ l) (l2 : l < 18446744073709551616) :
    Calls Try.prog 55 #[.int .u64 0, .int .u64 l, .int .u64 y] w fun e w' => e = .returned (.tuple #[.int .u64 (l / y), .int .u64 (l % y)]) ∧ ∃ n, w' = w.drewN n := by
  have y3 : (y == 0) = false := by simp; omega
  have q1 : 0 ≤ l / y := Int.ediv_nonneg l1 (by omega)
  have q2 : l / y ≤ l := Int.ediv_le_self _ l1
  have r1 := Int.emod_nonneg l (b := y) (by omega)
  have r2 := Int.emod_lt_of_pos l y1
  have e1 : l.tdiv y = l / y := Int.tdiv_eq_ediv_of_nonneg l1
  have e2 : l.tmod y = l % y := Int.tmod_eq_emod_of_nonneg l1
  go_enter Try.func55, Try.ntmps55
  go_wp2
  go_quiet (fail)
  go_wp2
  go_ret2
  exact ⟨rfl, ⟨_, rfl⟩⟩

/-- the library's division, wherever it does not panic -/
theorem div64_any (h l y : Int) (w : World) (h1 : 0 ≤ h) (h2 : h < y) (y2 : y < 18446744073709551616) (l1 : 0 ≤ l) (l2 : l < 18446744073709551616) :
    Calls Try.prog 55 #[.int .u64 h, .int .u64 l, .int .u64 y] w fun e w' => e = .returned (.tuple #[.int .u64 ((h * 18446744073709551616 + l) / y), .int .u64 ((h * 18446744073709551616 + l) % y)]) ∧ ∃ n, w' = w.drewN n := by
  by_cases hz : h = 0
  · subst hz
    rw [Int.zero_mul, Int.zero_add]
    exact div64_zero l y w h2 y2 l1 l2
  · exact (div64_big h l y w (by omega) h2 y2 l1 l2).mono fun e w' ⟨a, b⟩ => ⟨a, 0, b.symm⟩
theorem div64_of (h l y q r : Int) (w : World) (h1 : 0 ≤ h) (h2 : h < y) (y2 : y < 18446744073709551616) (l1 : 0 ≤ l) (l2 : l < 18446744073709551616)
    (hq : (h * 18446744073709551616 + l) / y = q) (hr : (h * 18446744073709551616 + l) % y = r) :
    Calls Try.prog 55 #[.int .u64 h, .int .u64 l, .int .u64 y] w fun e w' => e = .returned (.tuple #[.int .u64 q, .int .u64 r]) ∧ ∃ n, w' = w.drewN n := by
  rw [← hq, ← hr]; exact div64_any h l y w h1 h2 y2 l1 l2
theorem mul64_of (a b h l : Int) (w : World) (a0 : 0 ≤ a) (a1 : a < 18446744073709551616) (b0 : 0 ≤ b) (b1 : b < 18446744073709551616) (hh : a * b / 18446744073709551616 = h) (hl : a * b % 18446744073709551616 = l) :
    Calls Try.prog 54 #[.int .u64 a, .int .u64 b] w fun e w' => e = .returned (.tuple #[.int .u64 h, .int .u64 l]) ∧ w = w' := by
  obtain ⟨n, rfl⟩ := Int.eq_ofNat_of_zero_le a0
  obtain ⟨m, rfl⟩ := Int.eq_ofNat_of_zero_le b0
  refine (Try.bits_Mul64 n m (by omega) (by omega) w).mono fun e w' ⟨he, hw⟩ => ⟨?_, hw.symm⟩
  rw [he, ← hh, ← hl]; simp
end Go.Proofs.Ytpbkboandiigfaa
