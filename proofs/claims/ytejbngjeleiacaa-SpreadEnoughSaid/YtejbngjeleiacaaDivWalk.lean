/- Contract of the library's division of two words by one: the quotient and the remainder. -/
import Derived.Test.YtejbngjeleiacaaShelf
import Derived.Test.YtejbngjeleiacaaSlice
import Derived.Test.YtejbngjeleiacaaPlainDiv
import Derived.BigQuiet
import Derived.Deep.QuietTactic
import Derived.LoopTactic
namespace Go.Proofs.Ytejbngjeleiacaa
open Go.RowKit
set_option linter.unusedVariables false

theorem lz_of (y : Int) (w : World) (y1 : 0 < y) (y2 : y < 18446744073709551616) (s : Nat) (hs : (s : Int) = 64 - (Lib.bitLen y.toNat : Int)) :
    Calls Try.prog 100 #[.int .u64 y] w fun e w' => e = .returned (.int .i64 (s : Int)) ∧ w = w' :=
  (Try.bits_LeadingZeros64 y w (by omega) (by omega)).mono fun e w' ⟨h1, h2⟩ => ⟨by rw [h1, hs], h2.symm⟩

set_option maxHeartbeats 1000000 in
theorem div64_walk (h l y Y H X T c1 c0 P Z a1 m1 a0 m0 A1 C1 A0 C0 Q1 R1 Q0 R0 : Int) (s : Nat) (w : World) (h1 : 0 < h) (h2 : h < y) (y1 : 0 < y) (y2 : y < 18446744073709551616) (l1 : 0 ≤ l) (l2 : l < 18446744073709551616)
    (hs : Hid ((s : Int) = 64 - (Lib.bitLen y.toNat : Int))) (s1 : s ≤ 63) (hsm : min s 64 = s) (Y1 : 9223372036854775808 ≤ Y) (Y2 : Y < 18446744073709551616)
    (hY : y * 2 ^ s = Y) (hH : h * 2 ^ s = H) (H1 : 0 ≤ H) (H2 : H < 18446744073709551616)
    (hP : Y / 4294967296 = P) (hZ : bits .and .u64 Y 4294967295 = Z) (hX : bits .or .u64 H (l / 2 ^ (64 - s)) = X) (X1 : 0 ≤ X) (X2 : X < 18446744073709551616)
    (P0 : 2147483648 ≤ P) (P1 : P < 4294967296) (Z0 : 0 ≤ Z) (Z1 : Z < 4294967296)
    (hT : IntKind.u64.wrap (l * 2 ^ s) = T) (T1 : 0 ≤ T) (T2 : T < 18446744073709551616) (hc1 : T / 4294967296 = c1) (hc0 : bits .and .u64 T 4294967295 = c0)
    (c10 : 0 ≤ c1) (c11 : c1 < 4294967296) (c00 : 0 ≤ c0) (c01 : c0 < 4294967296)
    (ha1 : X / P = a1) (a10 : 0 ≤ a1) (a11 : a1 ≤ 4294967297) (hm1 : a1 * P = m1) (m10 : 0 ≤ m1) (m11 : m1 ≤ X)
    (ha0 : R1 / P = a0) (a00 : 0 ≤ a0) (a01 : a0 ≤ 4294967297) (hm0 : a0 * P = m0) (m00 : 0 ≤ m0) (m01 : m0 ≤ R1)
    (R10 : 0 ≤ R1) (R11 : R1 < 18446744073709551616) (R00 : 0 ≤ R0) (R01 : R0 < 18446744073709551616)
    (hA1 : IntKind.u64.wrap (X * 4294967296) = A1) (A10 : 0 ≤ A1) (A11 : A1 ≤ 18446744069414584320) (hC1 : IntKind.u64.wrap (Q1 * Y) = C1) (hR1 : IntKind.u64.wrap (A1 + c1 - C1) = R1)
    (hA0 : IntKind.u64.wrap (R1 * 4294967296) = A0) (A00 : 0 ≤ A0) (A01 : A0 ≤ 18446744069414584320) (hC0 : IntKind.u64.wrap (Q0 * Y) = C0) (hR0 : IntKind.u64.wrap (A0 + c0 - C0) = R0)
    (Q10 : 0 ≤ Q1) (Q11 : Q1 < 4294967296) (Q00 : 0 ≤ Q0) (Q01 : Q0 < 4294967296)
    (d1 : Hid (Digit X c1 Y P Z Q1 R1)) (d0 : Hid (Digit R1 c0 Y P Z Q0 R0)) (t1 : Trial X P Q1 a1 (X - m1)) (t0 : Trial R1 P Q0 a0 (R1 - m0)) :
    Calls Try.prog 86 #[.int .u64 h, .int .u64 l, .int .u64 y] w fun e w' => e = .returned (.tuple #[.int .u64 (Q1 * 4294967296 + Q0), .int .u64 (R0 / 2 ^ s)]) ∧ w = w' := by
  go_enter Try.func86, Try.ntmps86
  go_wp2_with (first
    | (go_at_call 100; refine (lz_of _ _ (by assumption) (by assumption) s hs.out).mono ?_; rintro e w' ⟨rfl, rfl⟩))
  go_loop [15, 16] (fun q r => ∃ q' r' : Int, q = .int .u64 q' ∧ r = .int .u64 r' ∧ Trial X P Q1 q' r') (fun q _ => (intOf q).toNat)
  case atStart => first | exact ⟨_, _, rfl, rfl, t1⟩ | exact ⟨_, _, rfl, rfl, by rw [ha1]; exact t1⟩
  case round =>
    obtain ⟨q, r, rfl, rfl, tq⟩ := hrel
    have tc := trial_cases d1.out tq
    have TQ := Lib.hid tq
    have tq0 := tq.1; have tq1 := tq.2.1; have tr0 := tq.2.2.1; have tr1 := tq.2.2.2.1; clear tq
    rcases tc with ⟨b1, b2, b3⟩ | ⟨m, hm, b1, b2, b3, b4, b5, b6⟩ | ⟨m, hm, rfl, b2, b3, b4, b5⟩ | ⟨rfl, b2, b3⟩ | ⟨m, hm, rfl, b2, b3, b4, b5, b6⟩
    · go_wp2
      go_round
      case rel => exact ⟨q - 1, r + P, rfl, rfl, trial_step TQ.out b1 b3 (by omega)⟩
      case measure => simp [intOf]; omega
    · go_wp2
      go_round
      case rel => first | exact ⟨q - 1, r + P, rfl, rfl, trial_step TQ.out b1 b6 (by omega)⟩ | exact trial_step TQ.out b1 b6 (by omega)
      case measure => simp [intOf]; omega
    all_goals
      clear TQ
      go_wp2
      go_loop [18, 16] (fun q r => ∃ q' r' : Int, q = .int .u64 q' ∧ r = .int .u64 r' ∧ Trial R1 P Q0 q' r') (fun q _ => (intOf q).toNat)
      case atStart => first | exact ⟨_, _, rfl, rfl, t0⟩ | exact ⟨_, _, rfl, rfl, by rw [ha0]; exact t0⟩
      case round =>
        obtain ⟨q, r, rfl, rfl, tq⟩ := hrel
        have tc := trial_cases d0.out tq
        have TQ := Lib.hid tq
        have tq0 := tq.1; have tq1 := tq.2.1; have tr0 := tq.2.2.1; have tr1 := tq.2.2.2.1; clear tq
        rcases tc with ⟨b1, b2, b3⟩ | ⟨m, hm, b1, b2, b3, b4, b5, b6⟩ | ⟨m, hm, rfl, b2, b3, b4, b5⟩ | ⟨rfl, b2, b3⟩ | ⟨m, hm, rfl, b2, b3, b4, b5, b6⟩
        · go_wp2
          go_round
          case rel => exact ⟨q - 1, r + P, rfl, rfl, trial_step TQ.out b1 b3 (by omega)⟩
          case measure => simp [intOf]; omega
        · go_wp2
          go_round
          case rel => first | exact ⟨q - 1, r + P, rfl, rfl, trial_step TQ.out b1 b6 (by omega)⟩ | exact trial_step TQ.out b1 b6 (by omega)
          case measure => simp [intOf]; omega
        all_goals
          clear TQ
          go_wp2
          go_ret2
          exact ⟨rfl, rfl⟩
end Go.Proofs.Ytejbngjeleiacaa
