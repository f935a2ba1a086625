/- Contract of the laws' cut: the first sixty rectangles. -/
import Derived.Test.YtjdnhpbifblneaaRRect
namespace Go.Proofs.Ytjdnhpbifblneaa
open Go.RowKit Go.Shelf Go.Lib
set_option linter.unusedVariables false
set_option linter.unusedSimpArgs false

theorem cut_none (W : World) : Calls Try.prog 7 #[.slice none 0 0] W fun e W' => e = .returned (.slice none 0 0) ∧ W' = W := by
  go_enter Try.func7, Try.ntmps7
  go_wp2
  go_ret
  exact ⟨rfl, rfl⟩
theorem cut_some (g off n cap : Nat) (m : Option Nat) (W : World) (hn : n ≤ cap) (hc : cap ≤ 9223372036854775807) : Calls Try.prog 7 #[.slice (some ⟨g, off, m⟩) n cap] W fun e W' => e = .returned (.slice (some ⟨g, off, m⟩) (min n 60) cap) ∧ W' = W := by
  by_cases h : n ≤ 60
  · rw [Nat.min_eq_left h]
    have hm : min (n : Int) 60 = n := by omega
    go_enter Try.func7, Try.ntmps7
    go_wp2
    go_ret
    exact ⟨rfl, rfl⟩
  · rw [Nat.min_eq_right (by omega)]
    have hm : min (n : Int) 60 = 60 := by omega
    have hc' : 60 ≤ cap := by omega
    go_enter Try.func7, Try.ntmps7
    go_wp2
    go_ret
    exact ⟨rfl, rfl⟩
end Go.Proofs.Ytjdnhpbifblneaa
