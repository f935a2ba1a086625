/- Contracts of the small functions of layer 3 (style): drawn widths, sizes that are computed or asked whether they may be, and the document's own. -/
import Derived.Test.YtgaclepoipaecaaSPlain
import Derived.Test.YtgaclepoipaecaaSBase
import Derived.Test.YtgaclepoipaecaaArith
import Derived.Test.YtgaclepoipaecaaSlice
namespace Go.Proofs.Ytgaclepoipaecaa
open Go.RowKit Go.Shelf
set_option linter.unusedVariables false

def drawnW (s w : Int) : Int := if s = 0 ∨ s = 1 then 0 else max w 0
theorem ret_size {k a b : Int} (h : a = b) : Ending.returned (.agg #[.int .i64 k, .int .i64 a]) = .returned (.agg #[.int .i64 k, .int .i64 b]) := by rw [h]
theorem ret_bool {a b : Bool} (h : a = b) : Ending.returned (.bool a) = .returned (.bool b) := by rw [h]
set_option maxHeartbeats 400000 in
theorem drawn_any (s w c : Int) (W : World) : Calls Try.prog 49 #[.agg #[.int .i64 s, .int .i64 w, .int .u32 c]] W fun e W' => e = .returned (.int .i64 (drawnW s w)) ∧ Below W.heap.size W W' := by
  have D : Hid (drawnW s w = if s = 0 ∨ s = 1 then 0 else max w 0) := Lib.hid rfl
  generalize drawnW s w = d at *
  go_enter Try.func49, Try.ntmps49
  go_wp2
  all_goals (go_ret; refine ⟨ret_int ?_, (Below.refl _ _).alloc (Nat.le_refl _) _⟩; have e := D.out; simp_all <;> omega)
set_option maxHeartbeats 400000 in
theorem compSize_at (k n d : Int) (W : World) (h : (k = 0 ∧ d = 0) ∨ (k = 1 ∧ n < 0 ∧ d = 0) ∨ (k = 1 ∧ 0 ≤ n ∧ d = n) ∨ (k ≠ 0 ∧ k ≠ 1 ∧ d = n)) :
    Calls Try.prog 50 #[.agg #[.int .i64 k, .int .i64 n]] W fun e W' => e = .returned (.agg #[.int .i64 k, .int .i64 d]) ∧ Below W.heap.size W W' := by
  rcases h with ⟨h0, rfl⟩ | ⟨h0, h1, rfl⟩ | ⟨h0, h1, rfl⟩ | ⟨h0, h1, rfl⟩
  all_goals
    go_enter Try.func50, Try.ntmps50
    go_wp2
    refine bodyPost_ret (v := .agg #[.int .i64 k, .int .i64 _]) (by simp [results, Try.results50, go_sem] <;> first | exact ⟨by omega, rfl⟩ | omega | rfl) rfl ⟨rfl, ?_⟩
    exact ((Below.refl _ _).alloc (Nat.le_refl _) _).alloc (by simp) _
theorem compSize_any (k n : Int) (W : World) : Calls Try.prog 50 #[.agg #[.int .i64 k, .int .i64 n]] W fun e W' => e = .returned (.agg #[.int .i64 k, .int .i64 (compN k n)]) ∧ Below W.heap.size W W' :=
  compSize_at k n _ W (by unfold compN; by_cases h0 : k = 0 <;> by_cases h1 : k = 1 <;> simp [h0, h1] <;> omega)
set_option maxHeartbeats 400000 in
theorem refLen_any (n : Int) (W : World) : Calls Try.prog 66 #[.int .i64 n] W fun e W' => e = .returned (.bool (inPx n)) ∧ W = W' := by
  by_cases h : -1073741824 ≤ n
  · have D : Hid (inPx n = decide (n ≤ 1073741824)) := Lib.hid (by simp [inPx, h])
    go_enter Try.func66, Try.ntmps66
    go_wp2
    go_ret
    exact ⟨ret_bool D.out.symm, rfl⟩
  · have D : Hid (inPx n = false) := Lib.hid (by simp [inPx]; omega)
    go_enter Try.func66, Try.ntmps66
    go_wp2
    go_ret
    exact ⟨ret_bool D.out.symm, rfl⟩
def madeN (k n : Int) : Int := max (if k = 0 then 0 else n) 0
set_option maxHeartbeats 400000 in
theorem validSize_any (k n : Int) (W : World) : Calls Try.prog 63 #[.agg #[.int .i64 k, .int .i64 n]] W fun e W' => e = .returned (.bool (sizeB k n)) ∧ Below W.heap.size W W' := by
  have hd : sizeB k n = if k = 0 then true else if k = 1 then inPx n else if k = 2 then decide (0 ≤ n) && decide (n ≤ 10000000) else false := rfl
  have H1 := Lib.hid (fun sv X hI => within_any (-1073741824) 1073741824 sv [n] X hI)
  have H2 := Lib.hid (fun sv X hI => within_any 0 10000000 sv [n] X hI)
  have E1 : (inPx n = !([n].any (outB (-1073741824) 1073741824))) := (within_one _ _ _).symm
  have E2 : ((decide (0 ≤ n) && decide (n ≤ 10000000)) = !([n].any (outB 0 10000000))) := (within_one _ _ _).symm
  rw [E1, E2] at hd
  clear E1 E2
  generalize (!([n].any (outB (-1073741824) 1073741824))) = d1 at *
  generalize (!([n].any (outB 0 10000000))) = d2 at *
  generalize sizeB k n = d at *
  have D := Lib.hid hd
  clear hd
  by_cases h0 : k = 0
  · subst h0
    go_enter Try.func63, Try.ntmps63
    go_wp2_with fail
    go_ret
    exact ⟨ret_bool (by simpa using D.out.symm), (Below.refl _ _).alloc (Nat.le_refl _) _⟩
  · by_cases h1 : k = 1
    · subst h1
      go_enter Try.func63, Try.ntmps63
      go_wp2_with fail
      refine (H1.out _ _ (Ints.whole (t := 2) (whole_new _ _ _ _ (by simp)) rfl (by simp))).mono ?_
      rintro e w' ⟨rfl, hb1⟩
      go_wp2_with fail
      go_ret
      exact ⟨ret_bool (by simpa using D.out.symm), (((Below.refl _ _).alloc (Nat.le_refl _) _).alloc (by simp) _).trans (hb1.mono (by simp; omega))⟩
    · by_cases h2 : k = 2
      · subst h2
        go_enter Try.func63, Try.ntmps63
        go_wp2_with fail
        refine (H2.out _ _ (Ints.whole (t := 2) (whole_new _ _ _ _ (by simp)) rfl (by simp))).mono ?_
        rintro e w' ⟨rfl, hb1⟩
        go_wp2_with fail
        go_ret
        exact ⟨ret_bool (by simpa using D.out.symm), (((Below.refl _ _).alloc (Nat.le_refl _) _).alloc (by simp) _).trans (hb1.mono (by simp; omega))⟩
      · go_enter Try.func63, Try.ntmps63
        go_wp2_with fail
        go_ret
        exact ⟨ret_bool (by simpa [h0, h1, h2] using D.out.symm), (Below.refl _ _).alloc (Nat.le_refl _) _⟩
set_option maxHeartbeats 400000 in
theorem refSize_any (k n : Int) (W : World) : Calls Try.prog 65 #[.agg #[.int .i64 k, .int .i64 n]] W fun e W' => e = .returned (.bool (sizeB k n)) ∧ Below W.heap.size W W' := by
  have hd : sizeB k n = if k = 0 then true else if k = 1 then inPx n else if k = 2 then decide (0 ≤ n) && decide (n ≤ 10000000) else false := rfl
  have H1 := Lib.hid (fun X => refLen_any n X)
  generalize sizeB k n = d at *
  generalize inPx n = d1 at *
  have D := Lib.hid hd
  clear hd
  by_cases h0 : k = 0
  · subst h0
    go_enter Try.func65, Try.ntmps65
    go_wp2_with fail
    go_ret
    exact ⟨ret_bool (by simpa using D.out.symm), (Below.refl _ _).alloc (Nat.le_refl _) _⟩
  · by_cases h1 : k = 1
    · subst h1
      go_enter Try.func65, Try.ntmps65
      go_wp2_with fail
      refine (H1.out _).mono ?_
      rintro e w' ⟨rfl, rfl⟩
      go_wp2_with fail
      go_ret
      exact ⟨ret_bool (by simpa using D.out.symm), (Below.refl _ _).alloc (Nat.le_refl _) _⟩
    · by_cases h2 : k = 2
      · subst h2
        by_cases h3 : 0 ≤ n
        · have hd : Hid (d = decide (n ≤ 10000000)) := Lib.hid (by simpa [h3] using D.out)
          go_enter Try.func65, Try.ntmps65
          go_wp2_with fail
          go_ret
          exact ⟨ret_bool hd.out.symm, (Below.refl _ _).alloc (Nat.le_refl _) _⟩
        · have hd : Hid (d = false) := Lib.hid (by simpa [h3] using D.out)
          go_enter Try.func65, Try.ntmps65
          go_wp2_with fail
          go_ret
          exact ⟨ret_bool hd.out.symm, (Below.refl _ _).alloc (Nat.le_refl _) _⟩
      · go_enter Try.func65, Try.ntmps65
        go_wp2_with fail
        go_ret
        exact ⟨ret_bool (by simpa [h0, h1, h2] using D.out.symm), (Below.refl _ _).alloc (Nat.le_refl _) _⟩
end Go.Proofs.Ytgaclepoipaecaa
