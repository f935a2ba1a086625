/- Contracts of the small functions of layer 3 (style): drawn widths, sizes that are computed or asked whether they may be, and the document's own. -/
import Derived.Test.YthgkjgaebgpplaaSPlain
import Derived.Test.YthgkjgaebgpplaaSBase
import Derived.Test.YthgkjgaebgpplaaArith
import Derived.Test.YthgkjgaebgpplaaSlice
namespace Go.Proofs.Ythgkjgaebgpplaa
open Go.RowKit Go.Shelf
set_option linter.unusedVariables false

def drawnW (s w : Int) : Int := if s = 0 ∨ s = 1 then 0 else max w 0
theorem ret_size {k a b : Int} (h : a = b) : Ending.returned (.agg #[.int .i64 k, .int .i64 a]) = .returned (.agg #[.int .i64 k, .int .i64 b]) := by rw [h]
theorem ret_bool {a b : Bool} (h : a = b) : Ending.returned (.bool a) = .returned (.bool b) := by rw [h]
def madeN (k n : Int) : Int := max (if k = 0 then 0 else n) 0
end Go.Proofs.Ythgkjgaebgpplaa
