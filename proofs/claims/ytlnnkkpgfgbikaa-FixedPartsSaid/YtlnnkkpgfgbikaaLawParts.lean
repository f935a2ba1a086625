/- No share of a length is more than the next greater share of it, and all of it is it: for every two shares and every length. -/
import Derived.Test.YtlnnkkpgfgbikaaRows
import Derived.WalkKit
import Derived.ProofKit
import Derived.OpenShut
import Derived.Below
import Derived.Test.YtlnnkkpgfgbikaaShown
import Derived.ShutString
namespace Go.Proofs.Ytlnnkkpgfgbikaa.fixedParts
open Go.ChangeShapes Go.WideShapes Go.ChangeAt Go.RowKit
open Go.ChangeMaps (open_string shut_string)
set_option linter.unusedVariables false      -- a walk need not use every 'w<i>' (that an integer argument fits its kind)

theorem own : ownKnob Try.prog.godebug = none := by kernel_rfl

theorem part_mono (p q n : Int) (p0 : 0 ≤ p) (pq : p ≤ q) (q1 : q ≤ 10000) (n0 : 0 ≤ n) (n1 : n ≤ 9223372036854775807) : 0 ≤ part p n ∧ part p n ≤ part q n ∧ part q n ≤ n := by
  have h1 : p * n ≤ q * n := Int.mul_le_mul_of_nonneg_right pq n0
  have h2 : q * n ≤ 10000 * n := Int.mul_le_mul_of_nonneg_right q1 n0
  have h3 : 0 ≤ p * n := Int.mul_nonneg p0 n0
  rw [part_nn p0 n0, part_nn (by omega) n0]
  generalize p * n = x at *
  generalize q * n = y at *
  split <;> split <;> omega
set_option maxHeartbeats 600000 in
theorem parts (p q n : Int) (w : World) (b1 : p ≤ 9223372036854775807) (b3 : q ≤ 9223372036854775807) (b5 : n ≤ 9223372036854775807) :
    Calls Try.prog 8 #[.int .i64 p, .int .i64 q, .int .i64 n] w fun e w' => e = .returned (.bool true) ∧ Below w.heap.size w w' := by
  by_cases hp : 0 ≤ p ∧ p ≤ q ∧ q ≤ 10000 ∧ 0 ≤ n
  · obtain ⟨p0, pq, q1, n0⟩ := hp
    have hm := part_mono p q n p0 pq q1 n0 b5
    have hw : part 10000 n = n := by rw [part_nn (by omega) n0]; rw [show (10000 : Int) * n / 10000 = n by omega]; rw [if_neg (by omega)]
    have hz : part 0 n = 0 := by rw [part_nn (by omega) n0]; simp
    have c1 := fun X => part_any p n X b1 b5
    have c2 := fun X => part_any q n X b3 b5
    have c3 := fun X => part_any 10000 n X (by decide) b5
    have c4 := fun X => part_any 0 n X (by decide) b5
    rw [hw] at c3; rw [hz] at c4
    obtain ⟨x, hx⟩ : ∃ x, part p n = x := ⟨_, rfl⟩
    obtain ⟨y, hy⟩ : ∃ y, part q n = y := ⟨_, rfl⟩
    rw [hx] at c1 hm; rw [hy] at c2 hm
    have C1 := Lib.hid c1
    have C2 := Lib.hid c2
    have C3 := Lib.hid c3
    have C4 := Lib.hid c4
    obtain ⟨x0, xy, yn⟩ := hm
    clear c1 c2 c3 c4 hx hy hw hz
    go_enter Try.func8, Try.ntmps8
    go_wp2_with fail
    refine (shown_any _).mono ?_
    rintro e w1 ⟨rfl, hb1⟩
    go_wp2_with fail
    refine (C1.out _).mono ?_
    rintro e w' ⟨rfl, n1, rfl⟩
    go_wp2_with fail
    refine (C2.out _).mono ?_
    rintro e w' ⟨rfl, n2, rfl⟩
    go_wp2_with fail
    refine (C3.out _).mono ?_
    rintro e w' ⟨rfl, n3, rfl⟩
    go_wp2_with fail
    refine (C4.out _).mono ?_
    rintro e w' ⟨rfl, n4, rfl⟩
    go_wp2
    go_ret
    exact ⟨rfl, hb1.trans (below_dn _ _ _)⟩
  · by_cases h1 : p < 0
    · clear hp
      go_enter Try.func8, Try.ntmps8
      go_wp2_with (go_at_call 11; refine (shown_any _).mono ?_; rintro e w1 ⟨rfl, hb1⟩)
      go_ret
      exact ⟨rfl, hb1⟩
    · by_cases h2 : q < p
      · clear hp
        go_enter Try.func8, Try.ntmps8
        go_wp2_with (go_at_call 11; refine (shown_any _).mono ?_; rintro e w1 ⟨rfl, hb1⟩)
        go_ret
        exact ⟨rfl, hb1⟩
      · by_cases h3 : 10000 < q
        · clear hp
          go_enter Try.func8, Try.ntmps8
          go_wp2_with (go_at_call 11; refine (shown_any _).mono ?_; rintro e w1 ⟨rfl, hb1⟩)
          go_ret
          exact ⟨rfl, hb1⟩
        · have h4 : n < 0 := by omega
          clear hp
          go_enter Try.func8, Try.ntmps8
          go_wp2_with (go_at_call 11; refine (shown_any _).mono ?_; rintro e w1 ⟨rfl, hb1⟩)
          go_ret
          exact ⟨rfl, hb1⟩
theorem walk (a0 : Int) (a1 : Int) (a2 : Int) (w0 : (Lit.int .i64 a0).wf = true) (w1 : (Lit.int .i64 a1).wf = true) (w2 : (Lit.int .i64 a2).wf = true) (w : World) :
    Calls Try.prog 8 #[.int .i64 a0, .int .i64 a1, .int .i64 a2] w fun e w' => e = .returned (.bool true) ∧ Below w.heap.size w w' := by
  have h0 := bounds_i64 w0
  have h1 := bounds_i64 w1
  have h2 := bounds_i64 w2
  exact parts a0 a1 a2 w h0.2 h1.2 h2.2

set_option maxRecDepth 100000 in
theorem lifted (os : Os) (started : os.Started) (H : Type) (enc : TypeId × Value → H) :
    ReturnsInHanded {} Try.checked os 8 .any (Rows.fixedPartsSpec.pre6 enc Try.prog Try.f8 Rows.fixedPartsRow.domain false) (Rows.fixedPartsSpec.post enc Try.prog Try.f8 false true false false) := by
  refine returnsInHanded_of_change (C := Try.checked) own started (by kernel_rfl) Try.func8
    (ChangeSpec.witness6 (enc := enc) (C := Try.checked) false ⟨#[], #[.int .i64 0, .int .i64 0, .int .i64 0], []⟩ 8 (by kernel_rfl) (by kernel_rfl) (by kernel_rfl) (by kernel_rfl)) ?_
  intro W base args ds gs before hval0 hW hcnd _
  have hval : ∀ (j : Nat) t v, Try.f8.params[j]? = some t → args[j]? = some v → Value.okWide Try.prog W .any base t v := hval0
  have hW' := hW
  obtain ⟨p, q, hA0, hV, rfl, hfz, hnd⟩ := hW
  have hA : DataW.TrodAll enc Try.prog W 0 (fun _ => true) true Try.f8.params.toList args.toList ds p := hA0
  rw [Try.params8] at hA hval
  obtain ⟨v0, vs0, d0, ds0, p0, q0, hargs, rfl, rfl, h0, r0⟩ := trodAll_cons hA
  obtain ⟨v1, vs1, d1, ds1, p1, q1, rfl, rfl, rfl, h1, r1⟩ := trodAll_cons r0
  obtain ⟨v2, vs2, d2, ds2, p2, q2, rfl, rfl, rfl, h2, r2⟩ := trodAll_cons r1
  obtain ⟨rfl, rfl, rfl⟩ := trodAll_nil r2
  obtain rfl : args = #[v0, v1, v2] := by cases args; simp_all
  obtain ⟨rfl, rfl⟩ := trodVars_none hV
  obtain ⟨a0, rfl, rfl, rfl, w0⟩ := open_int Try.underlying2 (hval 0 2 v0 rfl rfl) h0
  obtain ⟨a1, rfl, rfl, rfl, w1⟩ := open_int Try.underlying2 (hval 1 2 v1 rfl rfl) h1
  obtain ⟨a2, rfl, rfl, rfl, w2⟩ := open_int Try.underlying2 (hval 2 2 v2 rfl rfl) h2
  clear hA0 hval0
  simp only [List.append_nil] at hW'
  refine (walk a0 a1 a2 w0 w1 w2 W).mono fun e W' ⟨he, hg⟩ => ?_
  subst he
  exact ⟨_, rfl, _, _, _, [], [], [], hW', (trodAll_cons_mk (shut_bool Try.underlying4 _) trodAll_mk0), (trodAll_cons_mk (shut_int Try.underlying2 w0) (trodAll_cons_mk (shut_int Try.underlying2 w1) (trodAll_cons_mk (shut_int Try.underlying2 w2) trodAll_mk0))), rfl, hg.frame _, fun h => by cases h⟩

theorem over : Rows.fixedPartsRow.holds Try.pinned (OpenSpec.ofChange Rows.fixedPartsSpec) :=
  OpenClaim.holds_of_wide 8 Try.f8 rfl rfl rfl rfl rfl rfl rfl ⟨rfl, rfl, rfl, rfl, rfl⟩ rfl rfl rfl rfl rfl (by kernel_rfl) Try.func8 (by kernel_rfl)
    (of_decide_eq_true (by kernel_rfl)) (by unfold Func.isWrapper; first | (rw [if_pos (by decide +kernel)]; kernel_rfl) | (rw [if_neg (by decide +kernel)]; exact ⟨rfl, rfl⟩))
    (fun os started H enc _ => lifted os started H enc)

/-- ████ THE STATEMENT ████ -/
theorem proved : Rows.FixedPartsSaid :=
  over
#print axioms proved
end Go.Proofs.Ytlnnkkpgfgbikaa.fixedParts
