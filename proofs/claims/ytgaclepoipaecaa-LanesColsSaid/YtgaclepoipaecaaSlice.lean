/- Slices of whole numbers as lists; sums over them. -/
import Derived.Test.YtgaclepoipaecaaArith
import Derived.LoopTactic
import Derived.BigQuiet
import Derived.Deep.QuietTactic
namespace Go.Proofs.Ytgaclepoipaecaa
open Go.RowKit
set_option linter.unusedVariables false

/-- the slice value sv holds the numbers zs of kind k in the world W -/
def Nums (k : IntKind) (W : World) (sv : Value) (zs : List Int) : Prop :=
  zs.length ≤ 9223372036854775807 ∧ ((∃ (a : Option Addr) (cap : Nat), sv = .slice a 0 cap ∧ cap ≤ 9223372036854775807 ∧ zs = []) ∨ ∃ b off cap, sv = .slice (some ⟨b, off, none⟩) zs.length cap ∧ zs.length ≤ cap ∧ cap ≤ 9223372036854775807 ∧ ∀ j, j < zs.length → W.cell? ⟨b, off + j, none⟩ = some (.int k (zs[j]?.getD 0)))
/-- .. and all of them lie in 64 bits -/
def In64 (zs : List Int) : Prop := ∀ j, j < zs.length → -9223372036854775808 ≤ zs[j]?.getD 0 ∧ zs[j]?.getD 0 ≤ 9223372036854775807
/-- a sum, saturated step by step -/
def addS (zs : List Int) : Int := zs.foldl (fun s z => sat (s + z)) 0
theorem foldl_bd (zs : List Int) (s : Int) (h : -9223372036854775808 ≤ s ∧ s ≤ 9223372036854775807) : -9223372036854775808 ≤ zs.foldl (fun s z => sat (s + z)) s ∧ zs.foldl (fun s z => sat (s + z)) s ≤ 9223372036854775807 := by
  induction zs generalizing s with
  | nil => exact h
  | cons z zs ih => exact ih _ ⟨sat_lo _, sat_hi _⟩
theorem addS_bd (zs : List Int) : -9223372036854775808 ≤ addS zs ∧ addS zs ≤ 9223372036854775807 := foldl_bd zs 0 (by omega)
theorem take_snoc (zs : List Int) (k : Nat) (h : k < zs.length) : zs.take (k + 1) = zs.take k ++ [zs[k]?.getD 0] := by
  rw [List.take_succ_eq_append_getElem h]; simp [h]
theorem addS_snoc (zs : List Int) (k : Nat) (h : k < zs.length) : addS (zs.take (k + 1)) = sat (addS (zs.take k) + zs[k]?.getD 0) := by
  rw [take_snoc zs k h]; simp [addS]


end Go.Proofs.Ytgaclepoipaecaa
