/- Contracts of the share of a length (Part): the product, divided by 10000, rounded down, saturated; 0 if one is negative. -/
import Derived.Test.YthbmdnofabnhnaaDiv
namespace Go.Proofs.Ythbmdnofabnhnaa
open Go.RowKit
set_option linter.unusedVariables false
/-- a share of a length -/
def part (s o : Int) : Int := if s < 0 ∨ o < 0 then 0 else if 9223372036854775807 < s * o / 10000 then 9223372036854775807 else s * o / 10000
theorem part_neg {s o : Int} (h : s < 0 ∨ o < 0) : part s o = 0 := by unfold part; rw [if_pos h]
theorem part_nn {s o : Int} (h : 0 ≤ s) (h' : 0 ≤ o) : part s o = if 9223372036854775807 < s * o / 10000 then 9223372036854775807 else s * o / 10000 := by unfold part; rw [if_neg (by omega)]
theorem part_lo (s o : Int) : 0 ≤ part s o := by
  unfold part; split
  · omega
  · rename_i h
    have : 0 ≤ s * o := Int.mul_nonneg (by omega) (by omega)
    split <;> omega
theorem part_hi (s o : Int) : part s o ≤ 9223372036854775807 := by unfold part; split <;> (try split) <;> omega

set_option maxHeartbeats 400000 in
theorem part_any_neg (a b : Int) (w : World) (h : a < 0 ∨ b < 0) :
    Calls Try.prog 12 #[.int .i64 a, .int .i64 b] w fun e w' => e = .returned (.int .i64 (part a b)) ∧ ∃ n, w' = w.drewN n := by
  have hp := Lib.hid (part_neg h)
  by_cases ha : a < 0
  · clear h
    go_enter Try.func12, Try.ntmps12
    go_wp2
    go_ret
    exact ⟨ret_int hp.out.symm, 0, rfl⟩
  · have hb : b < 0 := by omega
    clear h
    go_enter Try.func12, Try.ntmps12
    go_wp2
    go_ret
    exact ⟨ret_int hp.out.symm, 0, rfl⟩
set_option maxHeartbeats 400000 in
theorem part_any_nn (a b H L q r : Int) (w : World) (a0 : 0 ≤ a) (a1 : a ≤ 9223372036854775807) (b0 : 0 ≤ b) (b1 : b ≤ 9223372036854775807)
    (hh : Hid (a * b / 18446744073709551616 = H)) (hl : Hid (a * b % 18446744073709551616 = L)) (H0 : 0 ≤ H) (H1 : H < 18446744073709551616) (L0 : 0 ≤ L) (L1 : L < 18446744073709551616)
    (hq : Hid ((H * 18446744073709551616 + L) / 10000 = q)) (hr : Hid ((H * 18446744073709551616 + L) % 10000 = r)) (q0 : 0 ≤ q) (q1 : H < 10000 → q < 18446744073709551616) :
    Calls Try.prog 12 #[.int .i64 a, .int .i64 b] w fun e w' => e = .returned (.int .i64 (if 9223372036854775807 < q then 9223372036854775807 else q)) ∧ ∃ n, w' = w.drewN n := by
  by_cases h : H < 10000
  · have q2 := q1 h
    clear q1
    by_cases hq2 : 9223372036854775807 < q
    all_goals
      go_enter Try.func12, Try.ntmps12
      go_wp2_with (first
        | (go_at_call 21; refine (mul64_of _ _ H L _ (by omega) (by omega) (by omega) (by omega) hh.out hl.out).mono ?_; rintro e w' ⟨rfl, rfl⟩)
        | (go_at_call 22; refine (div64_of _ _ _ q r _ (by omega) (by omega) (by omega) (by omega) (by omega) hq.out hr.out).mono ?_; rintro e w' ⟨rfl, nn, rfl⟩))
      go_ret
      exact ⟨ret_int (by omega), _, rfl⟩
  · have hq2 : 9223372036854775807 < q := by have := hq.out; omega
    clear q1
    go_enter Try.func12, Try.ntmps12
    go_wp2_with (first
      | (go_at_call 21; refine (mul64_of _ _ H L _ (by omega) (by omega) (by omega) (by omega) hh.out hl.out).mono ?_; rintro e w' ⟨rfl, rfl⟩))
    go_ret
    exact ⟨ret_int (by omega), 0, rfl⟩
theorem part_any (a b : Int) (w : World) (a1 : a ≤ 9223372036854775807) (b1 : b ≤ 9223372036854775807) :
    Calls Try.prog 12 #[.int .i64 a, .int .i64 b] w fun e w' => e = .returned (.int .i64 (part a b)) ∧ ∃ n, w' = w.drewN n := by
  by_cases h : a < 0 ∨ b < 0
  · exact part_any_neg a b w h
  · have p0 : 0 ≤ a * b := Int.mul_nonneg (by omega) (by omega)
    have p1 : a * b ≤ 9223372036854775807 * 9223372036854775807 := Int.mul_le_mul a1 b1 (by omega) (by omega)
    rw [part_nn (by omega) (by omega)]
    have e : a * b / 10000 = (a * b / 18446744073709551616 * 18446744073709551616 + a * b % 18446744073709551616) / 10000 := by congr 1; omega
    rw [e]
    exact part_any_nn a b _ _ _ _ w (by omega) a1 (by omega) b1 rfl rfl (by omega) (by omega) (by omega) (by omega) rfl rfl (by omega) (by omega)
end Go.Proofs.Ythbmdnofabnhnaa
