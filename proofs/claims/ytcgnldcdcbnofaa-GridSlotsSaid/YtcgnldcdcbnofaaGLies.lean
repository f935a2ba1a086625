/- Contracts of grid.lies and grid.rightSize. -/
import Derived.Test.YtcgnldcdcbnofaaGSlotI
import Derived.Test.YtcgnldcdcbnofaaGWithin
import Derived.Test.YtcgnldcdcbnofaaGSame
namespace Go.Proofs.Ytcgnldcdcbnofaa
open Go.RowKit Go.Shelf
set_option linter.unusedVariables false
attribute [local go_sem] Oper.semAt_some

def liesB (f m : Int) (a : Nat) : Bool := decide (0 ≤ f) && decide (1 ≤ m) && decide (f + m ≤ a)
theorem lies_eq (f m : Int) (a : Nat) (ha : a ≤ 65536) (hf : -9223372036854775808 ≤ f ∧ f ≤ 9223372036854775807) (hm : -9223372036854775808 ≤ m ∧ m ≤ 9223372036854775807) :
    (!([f, wrap64 (m - 1), wrap64 (wrap64 (f + m) - 1)].any (outB 0 ((a : Int) - 1)))) = liesB f m a := by
  rw [Bool.eq_iff_iff]
  unfold liesB wrap64
  simp [outB]
  omega
set_option maxHeartbeats 1000000 in
theorem lies_any (f m : Int) (a : Nat) (ha : a ≤ 65536) (hf : -9223372036854775808 ≤ f ∧ f ≤ 9223372036854775807) (hm : -9223372036854775808 ≤ m ∧ m ≤ 9223372036854775807) (w : World) :
    Calls Try.prog 42 #[.int .i64 f, .int .i64 m, .int .i64 (a : Int)] w fun e W' => e = .returned (.bool (liesB f m a)) ∧ Below w.heap.size w W' := by
  have HQ := Lib.hid (lies_eq f m a ha hf hm)
  clear hf hm
  go_enter Try.func42, Try.ntmps42
  go_wp2_with fail
  refine (gwithin_any_k 0 ((a : Int) - 1) _ [f, wrap64 (m - 1), wrap64 (wrap64 (f + m) - 1)] _ (Ints.whole (t := 3) (whole_new w [.int .i64 f, .int .i64 (wrap64 (m - 1)), .int .i64 (wrap64 (wrap64 (f + m) - 1))] 3 _ rfl) rfl (by simp))).mono ?_
  rintro e w3 ⟨rfl, hb3⟩
  rw [HQ.out]
  have HB := Lib.hid (((Below.refl _ w).alloc (Nat.le_refl _) (.cells #[.int .i64 f, .int .i64 (wrap64 (m - 1)), .int .i64 (wrap64 (wrap64 (f + m) - 1))] 3)).trans (hb3.mono (by simp)))
  clear hb3
  go_wp2
  go_ret
  exact ⟨rfl, HB.out⟩
def SizeQ (r c : Int) : Prop := (0 ≤ r ∧ r ≤ 65536) ∧ (0 ≤ c ∧ c ≤ 10000) ∧ r * c ≤ 1000000
set_option maxHeartbeats 1000000 in
theorem rightSize_any (r c : Int) (w : World) :
    Calls Try.prog 41 #[.int .i64 r, .int .i64 c] w fun e W' => ∃ b, e = .returned (.bool b) ∧ (b = true ↔ SizeQ r c) ∧ Below w.heap.size w W' := by
  have W1 := Lib.hid (fun X sv h => gwithin_any_k 0 65536 sv [r] X h)
  have W2 := Lib.hid (fun X sv h => gwithin_any_k 0 10000 sv [c] X h)
  simp only [within_one] at W1 W2
  by_cases h1 : 0 ≤ r ∧ r ≤ 65536
  · have e1 : (decide (0 ≤ r) && decide (r ≤ 65536)) = true := by simp [h1]
    rw [e1] at W1
    by_cases h2 : 0 ≤ c ∧ c ≤ 10000
    · have e2 : (decide (0 ≤ c) && decide (c ≤ 10000)) = true := by simp [h2]
      rw [e2] at W2
      obtain ⟨rn, rfl⟩ : ∃ rn : Nat, r = (rn : Int) := ⟨r.toNat, by omega⟩
      obtain ⟨cn, rfl⟩ : ∃ cn : Nat, c = (cn : Int) := ⟨c.toNat, by omega⟩
      obtain ⟨P, hP⟩ : ∃ P : Nat, rn * cn = P := ⟨_, rfl⟩
      have hPI : (rn : Int) * (cn : Int) = (P : Int) := by rw [← hP]; simp
      have hP2 : P ≤ 655360000 := by rw [← hP]; exact Nat.le_trans (Nat.mul_le_mul (show rn ≤ 65536 by omega) (show cn ≤ 10000 by omega)) (by omega)
      have HQ : Hid (SizeQ (rn : Int) (cn : Int) ↔ P ≤ 1000000) := Lib.hid (by unfold SizeQ; rw [hPI]; omega)
      clear e1 e2 hP h1 h2
      by_cases h3 : P ≤ 1000000
      · have d3 : decide ((P : Int) ≤ 1000000) = true := by simp; omega
        go_enter Try.func41, Try.ntmps41
        go_wp2_with (first
          | (go_at_call 44; refine (W1.out _ _ (Ints.whole (t := 3) (whole_new w [.int .i64 (rn : Int)] 3 _ rfl) rfl (by simp))).mono ?_; clear W1; rintro e w3 ⟨rfl, hb3⟩; have B3 := Lib.hid (((Below.refl _ w).alloc (Nat.le_refl _) (.cells #[.int .i64 (rn : Int)] 3)).trans (hb3.mono (by simp))); clear hb3)
          | (go_at_call 44; refine (W2.out _ _ (Ints.whole (t := 3) (whole_new w3 [.int .i64 (cn : Int)] 3 _ rfl) rfl (by simp))).mono ?_; clear W2; rintro e w4 ⟨rfl, hb4⟩; have B4 := Lib.hid (B3.out.trans ((((Below.refl _ w3).alloc (Nat.le_refl _) (.cells #[.int .i64 (cn : Int)] 3)).trans (hb4.mono (by simp))).mono B3.out.size)); clear hb4))
        go_ret
        exact ⟨true, by simp, by simp [HQ.out, h3], B4.out⟩
      · have d3 : decide ((P : Int) ≤ 1000000) = false := by simp; omega
        go_enter Try.func41, Try.ntmps41
        go_wp2_with (first
          | (go_at_call 44; refine (W1.out _ _ (Ints.whole (t := 3) (whole_new w [.int .i64 (rn : Int)] 3 _ rfl) rfl (by simp))).mono ?_; clear W1; rintro e w3 ⟨rfl, hb3⟩; have B3 := Lib.hid (((Below.refl _ w).alloc (Nat.le_refl _) (.cells #[.int .i64 (rn : Int)] 3)).trans (hb3.mono (by simp))); clear hb3)
          | (go_at_call 44; refine (W2.out _ _ (Ints.whole (t := 3) (whole_new w3 [.int .i64 (cn : Int)] 3 _ rfl) rfl (by simp))).mono ?_; clear W2; rintro e w4 ⟨rfl, hb4⟩; have B4 := Lib.hid (B3.out.trans ((((Below.refl _ w3).alloc (Nat.le_refl _) (.cells #[.int .i64 (cn : Int)] 3)).trans (hb4.mono (by simp))).mono B3.out.size)); clear hb4))
        go_ret
        exact ⟨false, by simp, by simp [HQ.out, h3], B4.out⟩
    · have e2 : (decide (0 ≤ c) && decide (c ≤ 10000)) = false := by simp; omega
      rw [e2] at W2
      have HQ : Hid (¬ SizeQ r c) := Lib.hid fun h => h2 h.2.1
      clear e1 e2 h1 h2
      go_enter Try.func41, Try.ntmps41
      go_wp2_with (first
        | (go_at_call 44; refine (W1.out _ _ (Ints.whole (t := 3) (whole_new w [.int .i64 r] 3 _ rfl) rfl (by simp))).mono ?_; clear W1; rintro e w3 ⟨rfl, hb3⟩; have B3 := Lib.hid (((Below.refl _ w).alloc (Nat.le_refl _) (.cells #[.int .i64 r] 3)).trans (hb3.mono (by simp))); clear hb3)
        | (go_at_call 44; refine (W2.out _ _ (Ints.whole (t := 3) (whole_new w3 [.int .i64 c] 3 _ rfl) rfl (by simp))).mono ?_; clear W2; rintro e w4 ⟨rfl, hb4⟩; have B4 := Lib.hid (B3.out.trans ((((Below.refl _ w3).alloc (Nat.le_refl _) (.cells #[.int .i64 c] 3)).trans (hb4.mono (by simp))).mono B3.out.size)); clear hb4))
      go_ret
      exact ⟨false, by simp, by simp [HQ.out], B4.out⟩
  · have e1 : (decide (0 ≤ r) && decide (r ≤ 65536)) = false := by simp; omega
    rw [e1] at W1
    have HQ : Hid (¬ SizeQ r c) := Lib.hid fun h => h1 h.1
    clear e1 h1 W2
    go_enter Try.func41, Try.ntmps41
    go_wp2_with (go_at_call 44; refine (W1.out _ _ (Ints.whole (t := 3) (whole_new w [.int .i64 r] 3 _ rfl) rfl (by simp))).mono ?_; clear W1; rintro e w3 ⟨rfl, hb3⟩; have B3 := Lib.hid (((Below.refl _ w).alloc (Nat.le_refl _) (.cells #[.int .i64 r] 3)).trans (hb3.mono (by simp))); clear hb3)
    go_ret
    exact ⟨false, by simp, by simp [HQ.out], B3.out⟩
end Go.Proofs.Ytcgnldcdcbnofaa
