/- Contract of grid.Empty: the slots that nothing takes. -/
import Derived.Test.YtceippgkmoijdaaGOwners
namespace Go.Proofs.Ytceippgkmoijdaa
open Go.RowKit Go.Shelf Go.Maps
set_option linter.unusedVariables false
attribute [local go_sem] Oper.semAt_some

theorem Try.infoSlot : (Try.prog.info? 127).map (fun i => (i.zero, i.size, i.bytes)) = some (some (.agg #[.int .i64 0, .int .i64 0]), 2, 16) := by kernel_rfl
def slotC (s : Nat × Nat) : List Value := [.int .i64 (s.1 : Int), .int .i64 (s.2 : Int)]
def freeSl (ms : List ((Nat × Nat) × Nat)) (s : Nat × Nat) : Bool := !(ms.any fun e => e.1 == s)
def emptyL (rows cols : Nat) (L : List Pz) : List (Nat × Nat) := (slotsL ⟨0, 0, 0, rows, cols⟩).filter (freeSl (entL 0 L).reverse)
end Go.Proofs.Ytceippgkmoijdaa
