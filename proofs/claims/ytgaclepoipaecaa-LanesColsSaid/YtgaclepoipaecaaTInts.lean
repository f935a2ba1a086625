/- Contract of purflingref04.Ints: are two lists of numbers the same? Written by program out of the text on purflingref01.Same: the code is the same. -/
import Derived.Test.YtgaclepoipaecaaSBase
import Derived.Test.YtgaclepoipaecaaSlice
namespace Go.Proofs.Ytgaclepoipaecaa
open Go.RowKit Go.Shelf
set_option linter.unusedVariables false

theorem igetD_take_ne {xs ys : List Int} (h : xs.length = ys.length) (h' : xs ≠ ys) : ∃ k, k < xs.length ∧ xs[k]?.getD 0 ≠ ys[k]?.getD 0 := by
  apply Classical.byContradiction
  intro hn
  apply h'
  apply List.ext_getElem h
  intro i h1 h2
  apply Classical.byContradiction
  intro hd
  exact hn ⟨i, h1, by simpa [h1, h2] using hd⟩
end Go.Proofs.Ytgaclepoipaecaa
