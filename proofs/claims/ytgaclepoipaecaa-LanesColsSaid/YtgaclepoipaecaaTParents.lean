/- Contract of tree.Parents: whose kids nodes are. -/
import Derived.Test.YtgaclepoipaecaaTOrder
namespace Go.Proofs.Ytgaclepoipaecaa
open Go.RowKit Go.Shelf
set_option linter.unusedVariables false
attribute [local go_sem] Oper.semAt_some

/-- parents, as they have been written so far: (kid, parent) -/
def parL (m : Nat) (P : List (Int × Nat)) : List Int := P.foldl (fun ps x => ps.set x.1.toNat (x.2 : Int)) ((List.replicate m 0).set 0 (-1))
theorem parL_len (m : Nat) (P : List (Int × Nat)) : (parL m P).length = m := by
  unfold parL
  have : ∀ (xs : List (Int × Nat)) (ds : List Int), (xs.foldl (fun ds x => ds.set x.1.toNat (x.2 : Int)) ds).length = ds.length := by
    intro xs
    induction xs with
    | nil => intro ds; rfl
    | cons x xs ih => intro ds; simp only [List.foldl_cons]; rw [ih]; simp
  rw [this]; simp
theorem parL_snoc (m : Nat) (P : List (Int × Nat)) (x : Int × Nat) : parL m (P ++ [x]) = (parL m P).set x.1.toNat (x.2 : Int) := by simp [parL, List.foldl_append]
def pairsOf (ns : List Nd) : List (Int × Nat) := ns.zipIdx.flatMap fun x => x.1.ks.map fun z => (z, x.2)
theorem pairs_snoc (ns : List Nd) (i : Nat) (n : Nd) (h : ns[i]? = some n) : pairsOf (ns.take (i + 1)) = pairsOf (ns.take i) ++ n.ks.map (fun z => (z, i)) := by
  have hl := (List.getElem?_eq_some_iff.1 h).1
  unfold pairsOf
  rw [List.take_add_one, h, List.zipIdx_append, List.flatMap_append]
  simp [List.length_take, Nat.min_eq_left (Nat.le_of_lt hl)]
def parentsP (ns : List Nd) : List Int := parL ns.length (pairsOf ns)
end Go.Proofs.Ytgaclepoipaecaa
