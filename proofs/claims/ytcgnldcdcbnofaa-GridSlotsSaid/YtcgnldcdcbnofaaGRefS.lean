/- The document's Slots: numbers of rows and columns that it refuses. -/
import Derived.Test.YtcgnldcdcbnofaaGOpenP
import Derived.Test.YtcgnldcdcbnofaaGSlots
import Derived.Test.YtcgnldcdcbnofaaGEmpty
namespace Go.Proofs.Ytcgnldcdcbnofaa
open Go.RowKit Go.Shelf
set_option linter.unusedVariables false
set_option linter.unusedSimpArgs false
attribute [local go_sem] Oper.semAt_some

set_option maxHeartbeats 2000000 in
theorem refSlots_size (v : Value) (rows cols : Int) (hr : I64 rows) (hc : I64 cols) (w : World) (hS : ¬ SizeQ rows cols) :
    Calls Try.prog 13 #[v, .int .i64 rows, .int .i64 cols] w fun e W' => e = .returned (.tuple #[.slice none 0 0, .int .i64 70]) ∧ Below w.heap.size w W' := by
  unfold I64 at hr hc
  have hB := Lib.hid (Below.refl w.heap.size w)
  by_cases h1 : rows < 0
  · go_enter Try.func13, Try.ntmps13
    go_wp2
    go_ret2
    exact ⟨rfl, hB.out⟩
  by_cases h2 : rows > 65536
  · go_enter Try.func13, Try.ntmps13
    go_wp2
    go_ret2
    exact ⟨rfl, hB.out⟩
  by_cases h3 : cols < 0
  · go_enter Try.func13, Try.ntmps13
    go_wp2
    go_ret2
    exact ⟨rfl, hB.out⟩
  by_cases h4 : cols > 10000
  · go_enter Try.func13, Try.ntmps13
    go_wp2
    go_ret2
    exact ⟨rfl, hB.out⟩
  have h5 : rows * cols > 1000000 := by
    unfold SizeQ at hS
    by_cases h : rows * cols ≤ 1000000
    · exact absurd ⟨⟨by omega, by omega⟩, ⟨by omega, by omega⟩, h⟩ hS
    · omega
  have h6 : rows * cols ≤ 655360000 := by
    have := Int.mul_le_mul (show rows ≤ 65536 by omega) (show cols ≤ 10000 by omega) (by omega) (by omega)
    omega
  obtain ⟨pq, hpq⟩ : ∃ pq, rows * cols = pq := ⟨_, rfl⟩
  rw [hpq] at h5 h6
  clear hS
  go_enter Try.func13, Try.ntmps13
  go_wp2
  go_ret2
  exact ⟨rfl, hB.out⟩
end Go.Proofs.Ytcgnldcdcbnofaa
