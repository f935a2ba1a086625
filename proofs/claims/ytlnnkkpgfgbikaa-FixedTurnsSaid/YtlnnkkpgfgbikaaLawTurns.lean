/- A sum and a difference undo each other, unless they are saturated: for every two numbers. -/
import Derived.Test.YtlnnkkpgfgbikaaRows
import Derived.WalkKit
import Derived.ProofKit
import Derived.OpenShut
import Derived.Below
import Derived.Test.YtlnnkkpgfgbikaaShown
import Derived.ShutString
namespace Go.Proofs.Ytlnnkkpgfgbikaa.fixedTurns
open Go.ChangeShapes Go.WideShapes Go.ChangeAt Go.RowKit
open Go.ChangeMaps (open_string shut_string)
set_option linter.unusedVariables false      -- a walk need not use every 'w<i>' (that an integer argument fits its kind)

theorem own : ownKnob Try.prog.godebug = none := by kernel_rfl

theorem addS_two (a b : Int) (b0 : -9223372036854775808 ≤ a) (b1 : a ≤ 9223372036854775807) : addS [a, b] = sat (a + b) := by
  simp only [addS, List.foldl_cons, List.foldl_nil]
  rw [sat_in (x := 0 + a) (by omega) (by omega), Int.zero_add]
theorem in64_two (a b : Int) (b0 : -9223372036854775808 ≤ a) (b1 : a ≤ 9223372036854775807) (b2 : -9223372036854775808 ≤ b) (b3 : b ≤ 9223372036854775807) : In64 [a, b] := by
  intro j hj
  have : j = 0 ∨ j = 1 := by simp at hj; omega
  rcases this with rfl | rfl <;> simp <;> omega
set_option maxHeartbeats 600000 in
theorem turns (a0 a1 : Int) (w : World) (b0 : -9223372036854775808 ≤ a0) (b1 : a0 ≤ 9223372036854775807) (b2 : -9223372036854775808 ≤ a1) (b3 : a1 ≤ 9223372036854775807) :
    Calls Try.prog 7 #[.int .i64 a0, .int .i64 a1] w fun e w' => e = .returned (.bool true) ∧ Below w.heap.size w w' := by
  obtain ⟨s, hs⟩ : ∃ s, sat (a0 + a1) = s := ⟨_, rfl⟩
  have s0 : -9223372036854775808 ≤ s := by rw [← hs]; exact sat_lo _
  have s1 : s ≤ 9223372036854775807 := by rw [← hs]; exact sat_hi _
  have hadd := fun X v (h : Nums .i64 X v [a0, a1]) => add_any v [a0, a1] X h (in64_two a0 a1 b0 b1 b2 b3)
  rw [addS_two a0 a1 b0 b1, hs] at hadd
  have HA := Lib.hid hadd
  clear hadd
  by_cases hsat : s = 9223372036854775807 ∨ s = -9223372036854775808
  · have HS := Lib.hid hsat
    clear hsat hs
    go_enter Try.func7, Try.ntmps7
    go_wp2_with fail
    refine (shown_any _).mono ?_
    rintro e w1 ⟨rfl, hb1⟩
    go_wp2_with fail
    refine (HA.out _ _ (nums_lit (t := 2) (whole_new _ _ _ _ (by simp)) rfl (by simp))).mono ?_
    rintro e w' ⟨rfl, rfl⟩
    go_wp2_with fail
    refine (sub_any _ _ _ s0 s1 b2 b3).mono ?_
    rintro e w' ⟨rfl, rfl⟩
    have hb2 : Below w.heap.size w (w1.alloc (.cells #[.int .i64 a0, .int .i64 a1] 2)) := hb1.alloc hb1.size _
    rcases HS.out with h | h
    all_goals
      subst h
      go_wp2
      go_ret
      exact ⟨rfl, hb2⟩
  · have e : s = a0 + a1 := by
      rw [← hs]; unfold sat at hs ⊢; split at hs <;> (try split at hs) <;> (try split) <;> (try split) <;> omega
    have n1 : (s == 9223372036854775807) = false := by simp; omega
    have n2 : (s == -9223372036854775808) = false := by simp; omega
    have d1 : sat (s - a1) = a0 := by rw [e]; rw [sat_in (by omega) (by omega)]; omega
    have d2 : sat (s - a0) = a1 := by rw [e]; rw [sat_in (by omega) (by omega)]; omega
    have d3 : sat (a0 * 1) = a0 := by rw [Int.mul_one]; exact sat_in b0 b1
    have d4 : sat (a1 * 0) = 0 := by rw [Int.mul_zero]; decide
    have c1 := fun X => sub_any s a1 X s0 s1 b2 b3
    have c2 := fun X => sub_any s a0 X s0 s1 b0 b1
    have c3 := fun X => mul_any a0 1 X b0 b1 (by decide) (by decide)
    have c4 := fun X => mul_any a1 0 X b2 b3 (by decide) (by decide)
    rw [d1] at c1; rw [d2] at c2; rw [d3] at c3; rw [d4] at c4
    have C1 := Lib.hid c1
    have C2 := Lib.hid c2
    have C3 := Lib.hid c3
    have C4 := Lib.hid c4
    clear c1 c2 c3 c4 d1 d2 d3 d4 e hs hsat
    go_enter Try.func7, Try.ntmps7
    go_wp2_with fail
    refine (shown_any _).mono ?_
    rintro e w1 ⟨rfl, hb1⟩
    go_wp2_with fail
    refine (HA.out _ _ (nums_lit (t := 2) (whole_new _ _ _ _ (by simp)) rfl (by simp))).mono ?_
    rintro e w' ⟨rfl, rfl⟩
    go_wp2_with fail
    refine (C1.out _).mono ?_
    rintro e w' ⟨rfl, rfl⟩
    go_wp2_with fail
    refine (C2.out _).mono ?_
    rintro e w' ⟨rfl, rfl⟩
    go_wp2_with fail
    refine (C3.out _).mono ?_
    rintro e w' ⟨rfl, rfl⟩
    go_wp2_with fail
    refine (C4.out _).mono ?_
    rintro e w' ⟨rfl, rfl⟩
    go_wp2_with fail
    refine (add_none _).mono ?_
    rintro e w' ⟨rfl, rfl⟩
    go_wp2
    go_ret
    exact ⟨rfl, hb1.alloc hb1.size _⟩
theorem walk (a0 : Int) (a1 : Int) (w0 : (Lit.int .i64 a0).wf = true) (w1 : (Lit.int .i64 a1).wf = true) (w : World) :
    Calls Try.prog 7 #[.int .i64 a0, .int .i64 a1] w fun e w' => e = .returned (.bool true) ∧ Below w.heap.size w w' := by
  have h0 := bounds_i64 w0
  have h1 := bounds_i64 w1
  exact turns a0 a1 w h0.1 h0.2 h1.1 h1.2

set_option maxRecDepth 100000 in
theorem lifted (os : Os) (started : os.Started) (H : Type) (enc : TypeId × Value → H) :
    ReturnsInHanded {} Try.checked os 7 .any (Rows.fixedTurnsSpec.pre6 enc Try.prog Try.f7 Rows.fixedTurnsRow.domain false) (Rows.fixedTurnsSpec.post enc Try.prog Try.f7 false true false false) := by
  refine returnsInHanded_of_change (C := Try.checked) own started (by kernel_rfl) Try.func7
    (ChangeSpec.witness6 (enc := enc) (C := Try.checked) false ⟨#[], #[.int .i64 0, .int .i64 0], []⟩ 8 (by kernel_rfl) (by kernel_rfl) (by kernel_rfl) (by kernel_rfl)) ?_
  intro W base args ds gs before hval0 hW hcnd _
  have hval : ∀ (j : Nat) t v, Try.f7.params[j]? = some t → args[j]? = some v → Value.okWide Try.prog W .any base t v := hval0
  have hW' := hW
  obtain ⟨p, q, hA0, hV, rfl, hfz, hnd⟩ := hW
  have hA : DataW.TrodAll enc Try.prog W 0 (fun _ => true) true Try.f7.params.toList args.toList ds p := hA0
  rw [Try.params7] at hA hval
  obtain ⟨v0, vs0, d0, ds0, p0, q0, hargs, rfl, rfl, h0, r0⟩ := trodAll_cons hA
  obtain ⟨v1, vs1, d1, ds1, p1, q1, rfl, rfl, rfl, h1, r1⟩ := trodAll_cons r0
  obtain ⟨rfl, rfl, rfl⟩ := trodAll_nil r1
  obtain rfl : args = #[v0, v1] := by cases args; simp_all
  obtain ⟨rfl, rfl⟩ := trodVars_none hV
  obtain ⟨a0, rfl, rfl, rfl, w0⟩ := open_int Try.underlying2 (hval 0 2 v0 rfl rfl) h0
  obtain ⟨a1, rfl, rfl, rfl, w1⟩ := open_int Try.underlying2 (hval 1 2 v1 rfl rfl) h1
  clear hA0 hval0
  simp only [List.append_nil] at hW'
  refine (walk a0 a1 w0 w1 W).mono fun e W' ⟨he, hg⟩ => ?_
  subst he
  exact ⟨_, rfl, _, _, _, [], [], [], hW', (trodAll_cons_mk (shut_bool Try.underlying4 _) trodAll_mk0), (trodAll_cons_mk (shut_int Try.underlying2 w0) (trodAll_cons_mk (shut_int Try.underlying2 w1) trodAll_mk0)), rfl, hg.frame _, fun h => by cases h⟩

theorem over : Rows.fixedTurnsRow.holds Try.pinned (OpenSpec.ofChange Rows.fixedTurnsSpec) :=
  OpenClaim.holds_of_wide 7 Try.f7 rfl rfl rfl rfl rfl rfl rfl ⟨rfl, rfl, rfl, rfl, rfl⟩ rfl rfl rfl rfl rfl (by kernel_rfl) Try.func7 (by kernel_rfl)
    (of_decide_eq_true (by kernel_rfl)) (by unfold Func.isWrapper; first | (rw [if_pos (by decide +kernel)]; kernel_rfl) | (rw [if_neg (by decide +kernel)]; exact ⟨rfl, rfl⟩))
    (fun os started H enc _ => lifted os started H enc)

/-- ████ THE STATEMENT ████ -/
theorem proved : Rows.FixedTurnsSaid :=
  over
#print axioms proved
end Go.Proofs.Ytlnnkkpgfgbikaa.fixedTurns
