/- The document's own Half, Right and Wins. -/
import Derived.Test.YtbhpclligoemcaaCShown
namespace Go.Proofs.Ytbhpclligoemcaa
open Go.RowKit Go.Shelf Go.Sort
set_option linter.unusedVariables false
set_option linter.unusedSimpArgs false

set_option maxHeartbeats 1000000 in
theorem refHalf_any (w : Int) (f : Bool) (h1 : -9223372036854775808 ≤ w) (h2 : w ≤ 9223372036854775807) (W : World) :
    Calls Try.prog 23 #[.int .i64 w, .bool f] W fun e W' => e = .returned (.int .i64 (halfI w f)) ∧ W = W' := by
  by_cases hw : w < 0
  · have hv : Hid (halfI w f = 0) := Lib.hid (by unfold halfI; split <;> omega)
    go_enter Try.func23, Try.ntmps23
    go_wp2
    go_ret
    exact ⟨by rw [hv.out] <;> rfl, rfl⟩
  · cases f with
    | false =>
      have hv : Hid (halfI w false = w / 2) := Lib.hid (by unfold halfI; simp; omega)
      go_enter Try.func23, Try.ntmps23
      go_wp2
      go_ret
      exact ⟨by rw [hv.out] <;> rfl, rfl⟩
    | true =>
      by_cases hr : w % 2 = 1
      · have hv : Hid (halfI w true = w / 2 + 1) := Lib.hid (by unfold halfI; simp; omega)
        go_enter Try.func23, Try.ntmps23
        go_wp2
        go_ret
        exact ⟨by rw [hv.out] <;> rfl, rfl⟩
      · have hv : Hid (halfI w true = w / 2) := Lib.hid (by unfold halfI; simp; omega)
        have hr' : (w % 2 == 1) = false := by simpa using hr
        go_enter Try.func23, Try.ntmps23
        go_wp2
        go_ret
        exact ⟨by rw [hv.out] <;> rfl, rfl⟩
theorem half_both (w : Int) (h : 0 ≤ w) : halfI w true + halfI w false = w := by unfold halfI; simp; omega
theorem half_bd (w : Int) (f : Bool) (h : 0 ≤ w) : 0 ≤ halfI w f ∧ halfI w f ≤ w := by unfold halfI; split <;> omega
