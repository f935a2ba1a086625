/- Contracts of the bounds of layer 4 (tree.within, over numbers of both kinds). Written by program out of the text on style.within: the code is the same. -/
import Derived.Test.YthgkjgaebgpplaaSBase
namespace Go.Proofs.Ythgkjgaebgpplaa
open Go.RowKit Go.Shelf
set_option linter.unusedVariables false

end Go.Proofs.Ythgkjgaebgpplaa
