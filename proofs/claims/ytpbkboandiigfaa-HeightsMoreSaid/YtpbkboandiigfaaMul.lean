/- Contracts of slices.SortedStableFunc at heights' cells, and of heights.inTurn. Written by mk_HSort.py. -/
/- Contracts of the products of layer 1 (fixed) and of the document's own answers: saturated products. -/
import Derived.Test.YtpbkboandiigfaaHSort
import Derived.Test.YtpbkboandiigfaaHVal
import Derived.Test.YtpbkboandiigfaaShelf
import Derived.Test.YtpbkboandiigfaaArith
namespace Go.Proofs.Ytpbkboandiigfaa
open Go.RowKit Go.Shelf Go.Sort Go.Lib
set_option linter.unusedVariables false
set_option linter.unusedSimpArgs false
attribute [local go_sem] Oper.semAt_some

set_option maxHeartbeats 1000000 in
theorem stable_noneN (p : Option Addr) (cap : Nat) (fv : Value) (w : World) : Calls Try.prog 58 #[.slice p 0 cap, fv] w fun e w' => e = .returned (.tuple #[]) ∧ w' = w := by
  have H1 := Lib.hid (fun w => show Calls Try.prog 84 _ _ _ from AnyF.insertionSortCmpFunc_none KS.insLaysK p cap fv w)
  have hs : Calls Try.prog 75 #[.slice p 0 cap, .int .i64 0, fv] w fun e w' => e = .returned (.tuple #[]) ∧ w' = w := by
    go_enter Try.func75, Try.ntmps75
    go_wp2
    go_loopw [7, 8] (fun s7 s8 X => s7 = .int .i64 0 ∧ s8 = .int .i64 20 ∧ Hid (X = w)) (fun _ _ _ => 0)
    case atStart => exact ⟨rfl, rfl, Lib.hid rfl⟩
    case round =>
      obtain ⟨rfl, rfl, HX⟩ := hrel
      go_wp2_with fail
      refine (H1.out _).mono ?_
      rintro e w' ⟨rfl, hw⟩
      replace HX : Hid (w' = w) := Lib.hid (hw.trans HX.out)
      clear hw
      go_wp2
      go_loopw [6] (fun s6 X => s6 = .int .i64 20 ∧ Hid (X = w)) (fun _ _ => 0)
      case atStart => exact ⟨rfl, HX⟩
      case round =>
        obtain ⟨rfl, HX⟩ := hrel
        go_wp2
        go_end0
        exact ⟨rfl, HX.out⟩
  have HS := Lib.hid hs
  clear hs
  go_enter Try.func58, Try.ntmps58
  go_wp2_with fail
  refine HS.out.mono ?_
  rintro e w' ⟨rfl, rfl⟩
  go_wp2
  go_end0
  exact ⟨rfl, rfl⟩
theorem sorted_nil (M : Nat) : htL M [] = [] := by
  unfold htL
  simp
set_option maxHeartbeats 1000000 in
theorem stableN_own (M : Nat) (hM : M ≤ 10000) (base : Nat) (v : Value) (ns : List Ht) (W : World) (ho : W.ownsRow base 45 6 v ns.length (ns.flatMap Ht.cells)) (h : ∀ s ∈ ns, 1 ≤ s.rs ∧ s.rs ≤ M) (hn2 : ns.length ≤ 1000000) :
    Calls Try.prog 58 #[v, .func (.func 39) #[] #[]] W fun e W' => e = .returned (.tuple #[]) ∧ W'.ownsRow base 45 6 v ns.length ((htL M ns).flatMap Ht.cells) ∧ Below base W W' := by
  cases ns with
  | nil =>
    obtain ⟨p, k, c, rfl⟩ := own_slice ho
    have hk : k = 0 := by
      rcases ho.2 with ⟨e, _⟩ | ⟨g, cap, cur, e, _⟩
      · simp only [Value.slice.injEq] at e; exact e.2.1
      · simp only [Value.slice.injEq, List.length_nil] at e; exact e.2.1
    subst hk
    refine (stable_noneN p c _ W).mono ?_
    rintro e w' ⟨rfl, rfl⟩
    exact ⟨rfl, by rw [sorted_nil]; exact ho, Below.refl _ _⟩
  | cons s ns => exact sortH_own M hM base v (s :: ns) W ho h (by simp) hn2
set_option maxHeartbeats 1000000 in
theorem sortedStable_any (M : Nat) (hM : M ≤ 10000) (Bp Bh : Nat) (p q : Option Addr) (m c c' : Nat) (ps : List Pc) (hs : List Int) (hmm : m ≤ 9223372036854775807) (hm : ps.length = m) (hm' : hs.length = m) (w : World) (hT : TwoBox Bp Bh p q m c c' w) (hP : RowsK Pc.cells 5 w (.slice p m c) ps) (hH : Ints w (.slice q m c') hs) (zs : List Ht) (hzs : htZ ps hs = zs) (h : ∀ s ∈ zs, 1 ≤ s.rs ∧ s.rs ≤ M) (hn : zs.length ≤ 1000000) :
    Calls Try.prog 38 #[.func (.func 41) #[] #[.pointer (some ⟨Bp, 0, none⟩), .pointer (some ⟨Bh, 0, none⟩)], .func (.func 39) #[] #[]] w
      fun e W' => ∃ v, e = .returned v ∧ W'.ownsRow w.heap.size 45 6 v zs.length ((htL M zs).flatMap Ht.cells) ∧ Below w.heap.size w W' := by
  have HA := Lib.hid (collect_anyN Bp Bh p q m c c' ps hs hmm hm hm' w hT hP hH zs hzs hn)
  have HS := Lib.hid (fun v W ho => stableN_own M hM w.heap.size v zs W ho h hn)
  clear hP hH hT h
  go_enter Try.func38, Try.ntmps38
  go_wp2_with fail
  refine HA.out.mono ?_
  rintro e w1 ⟨v, rfl, ho, hb⟩
  have HB := Lib.hid hb
  have HS1 := Lib.hid (HS.out v w1 ho)
  clear ho hb HS HA
  go_wp2_with fail
  refine HS1.out.mono ?_
  rintro e w2 ⟨rfl, ho2, hb2⟩
  have HO2 := Lib.hid ho2
  have HB2 := Lib.hid (HB.out.trans hb2)
  clear ho2 hb2 HS1 HB
  go_wp2
  go_ret
  exact ⟨v, rfl, HO2.out, HB2.out⟩
theorem own_rowsN {W : World} {base m : Nat} {v : Value} {zs : List Ht} (h : W.ownsRow base 45 6 v m (zs.flatMap Ht.cells)) (hz : zs.length = m) (hl : m ≤ 9223372036854775807) : RowsK Ht.cells 6 W v zs := by
  subst hz
  refine ⟨hl, ?_⟩
  rcases h.2 with ⟨rfl, h0⟩ | ⟨g, cap, cur, rfl, hb, hg, hnc, hcm, hcs, htk⟩
  · exact .inl ⟨none, 0, rfl, List.length_eq_zero_iff.1 h0⟩
  · refine .inr ⟨g, 0, cap, rfl, (Array.getElem?_eq_some_iff.1 hg).1, fun j hj i v hv => ?_⟩
    have hi : i < 6 := (List.getElem?_eq_some_iff.1 hv).1
    have hf := flat_getK Ht.cells 6 Ht.cells_len zs j i hi hj
    rw [← htk, List.getElem?_take_of_lt (by have := Nat.mul_le_mul_right 6 (show j + 1 ≤ zs.length by omega); omega)] at hf
    rw [show 0 + j * 6 + i = j * 6 + i by omega]
    simp [World.cell?, hg]
    rw [← hv, ← hf]; simp
set_option maxHeartbeats 1000000 in
theorem inTurnH_any (M : Nat) (hM : M ≤ 10000) (Bp Bh : Nat) (p q : Option Addr) (m c c' : Nat) (ps : List Pc) (hs : List Int) (hmm : m ≤ 9223372036854775807) (hm : ps.length = m) (hm' : hs.length = m) (w : World) (hT : TwoBox Bp Bh p q m c c' w) (hP : RowsK Pc.cells 5 w (.slice p m c) ps) (hH : Ints w (.slice q m c') hs) (zs : List Ht) (hzs : htZ ps hs = zs) (h : ∀ s ∈ zs, 1 ≤ s.rs ∧ s.rs ≤ M) (hn : zs.length ≤ 1000000) :
    Calls Try.prog 20 #[.func (.func 41) #[] #[.pointer (some ⟨Bp, 0, none⟩), .pointer (some ⟨Bh, 0, none⟩)]] w fun e W' => ∃ v, e = .returned v ∧ W'.ownsRow w.heap.size 45 6 v zs.length ((htL M zs).flatMap Ht.cells) ∧ Below w.heap.size w W' := by
  have HN := Lib.hid (sortedStable_any M hM Bp Bh p q m c c' ps hs hmm hm hm' w hT hP hH zs hzs h hn)
  clear hT hP hH h
  go_enter Try.func20, Try.ntmps20
  go_wp2_with fail
  refine HN.out.mono ?_
  rintro e w2 ⟨v, rfl, ho, hb⟩
  have HO := Lib.hid ho
  have HB2 := Lib.hid hb
  clear ho hb HN
  go_wp2
  go_ret
  exact ⟨v, rfl, HO.out, HB2.out⟩
end Go.Proofs.Ytpbkboandiigfaa

namespace Go.Proofs.Ytpbkboandiigfaa
open Go.RowKit

theorem mag_lt (a : Int) (a1 : -9223372036854775808 ≤ a) (a2 : a ≤ 9223372036854775807) : a.natAbs < 18446744073709551616 := by omega
theorem mul_mag (a b : Int) : a * b = (a.natAbs : Int) * (b.natAbs : Int) ∨ a * b = -((a.natAbs : Int) * (b.natAbs : Int)) := by
  have := Int.natAbs_mul a b
  have h : ((a * b).natAbs : Int) = (a.natAbs : Int) * (b.natAbs : Int) := by rw [this]; simp
  omega
theorem mul_same (a b : Int) (h : (!decide (a < 0) == decide (b < 0)) = false) : a * b = (a.natAbs : Int) * (b.natAbs : Int) := by
  by_cases ha : a < 0 <;> by_cases hb : b < 0 <;> simp [ha, hb] at h
  · rw [show (a.natAbs : Int) = -a by omega, show (b.natAbs : Int) = -b by omega, Int.neg_mul_neg]
  · rw [show (a.natAbs : Int) = a by omega, show (b.natAbs : Int) = b by omega]
theorem mul_differ (a b : Int) (h : (!decide (a < 0) == decide (b < 0)) = true) : a * b = -((a.natAbs : Int) * (b.natAbs : Int)) := by
  by_cases ha : a < 0 <;> by_cases hb : b < 0 <;> simp [ha, hb] at h
  · rw [show (a.natAbs : Int) = -a by omega, show (b.natAbs : Int) = b by omega, Int.neg_mul, Int.neg_neg]
  · rw [show (a.natAbs : Int) = a by omega, show (b.natAbs : Int) = -b by omega, Int.mul_neg, Int.neg_neg]
theorem wrap64_neg_wrap (m : Int) (h0 : 0 ≤ m) (h1 : m ≤ 9223372036854775808) : wrap64 (-wrap64 m) = -m := by
  simp only [wrap64]; omega
def SignCases (a b : Int) : Prop :=
  ((!decide (a < 0) == decide (b < 0)) = true ∧ Hid (a * b = -((a.natAbs : Int) * (b.natAbs : Int)))) ∨ ((!decide (a < 0) == decide (b < 0)) = false ∧ Hid (a * b = (a.natAbs : Int) * (b.natAbs : Int)))
theorem sign_cases (a b : Int) : SignCases a b := by
  cases h : (!decide (a < 0) == decide (b < 0))
  · exact .inr ⟨h, mul_same a b h⟩
  · exact .inl ⟨h, mul_differ a b h⟩
theorem mag_mul_nonneg (a b : Int) : 0 ≤ (a.natAbs : Int) * (b.natAbs : Int) := Int.mul_nonneg (by omega) (by omega)
set_option maxHeartbeats 400000 in
theorem mul_any (a b : Int) (w : World) (a1 : -9223372036854775808 ≤ a) (a2 : a ≤ 9223372036854775807) (b1 : -9223372036854775808 ≤ b) (b2 : b ≤ 9223372036854775807) :
    Calls Try.prog 44 #[.int .i64 a, .int .i64 b] w fun e w' => e = .returned (.int .i64 (sat (a * b))) ∧ w = w' := by
  have m1 := mag_lt a a1 a2
  have m2 := mag_lt b b1 b2
  have m3 := mag_mul_nonneg a b
  have hp : SignCases a b := sign_cases a b
  rcases hp with ⟨hs, hp⟩ | ⟨hs, hp⟩
  all_goals
    go_enter Try.func44, Try.ntmps44
    go_wp2_with (first
      | (go_at_call 62; refine (magnitude_any _ _ (by assumption) (by assumption)).mono ?_; rintro e w' ⟨rfl, rfl⟩)
      | (go_at_call 54; refine (Try.bits_Mul64 a.natAbs b.natAbs m1 m2 _).mono ?_; rintro e w' ⟨rfl, rfl⟩))
    all_goals (go_ret; refine ⟨ret_int ?_, rfl⟩)
    all_goals rw [hp.out]
    all_goals (generalize (a.natAbs : Int) * (b.natAbs : Int) = p at *; first | (unfold sat; split <;> (try split) <;> omega) | (rw [wrap64_neg_wrap _ (by omega) (by omega)]; unfold sat; split <;> (try split) <;> omega))
set_option maxHeartbeats 400000 in
theorem refMul_any (a b : Int) (w : World) (a1 : -9223372036854775808 ≤ a) (a2 : a ≤ 9223372036854775807) (b1 : -9223372036854775808 ≤ b) (b2 : b ≤ 9223372036854775807) :
    Calls Try.prog 45 #[.int .i64 a, .int .i64 b] w fun e w' => e = .returned (.int .i64 (sat (a * b))) ∧ w = w' := by
  have m1 := mag_lt a a1 a2
  have m2 := mag_lt b b1 b2
  have m3 := mag_mul_nonneg a b
  have hp : SignCases a b := sign_cases a b
  rcases hp with ⟨hs, hp⟩ | ⟨hs, hp⟩
  all_goals
    go_enter Try.func45, Try.ntmps45
    go_wp2_with (first
      | (go_at_call 63; refine (size_any _ _ (by assumption) (by assumption)).mono ?_; rintro e w' ⟨rfl, rfl⟩)
      | (go_at_call 54; refine (Try.bits_Mul64 a.natAbs b.natAbs m1 m2 _).mono ?_; rintro e w' ⟨rfl, rfl⟩))
    all_goals (go_ret; refine ⟨ret_int ?_, rfl⟩)
    all_goals rw [hp.out]
    all_goals (generalize (a.natAbs : Int) * (b.natAbs : Int) = p at *; first | (unfold sat; split <;> (try split) <;> omega) | (rw [wrap64_neg_wrap _ (by omega) (by omega)]; unfold sat; split <;> (try split) <;> omega))
end Go.Proofs.Ytpbkboandiigfaa
