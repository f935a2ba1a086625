/- Contracts of the arithmetic of layer 1 (fixed) and of the document's own answers: saturated sums, differences, bounds. -/
import Derived.Test.YtgaclepoipaecaaRows
import Derived.WalkKit
import Derived.WalkSpells
import Derived.WalkLawsBesides
import Derived.Test.YtgaclepoipaecaaPlain1
namespace Go.Proofs.Ytgaclepoipaecaa
open Go.RowKit

theorem wrap_mag (a : Int) (a1 : -9223372036854775808 ≤ a) (h : a < 0) : IntKind.u64.wrap (-IntKind.u64.wrap a) = (a.natAbs : Int) := by
  simp [IntKind.wrap, IntKind.bits, IntKind.signed]; omega

end Go.Proofs.Ytgaclepoipaecaa
