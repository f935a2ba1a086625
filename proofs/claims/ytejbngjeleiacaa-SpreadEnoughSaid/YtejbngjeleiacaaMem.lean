/- Blocks of memory: a block that lies whole; what stays below a block's number. Nothing of the program. -/
import Derived.Test.YtejbngjeleiacaaRows
import Derived.WalkKit
import Derived.Below
import Derived.Deep.Draws
import Derived.RangeFuncBox
import Derived.Laws.NewBlocks
import Derived.Laws.AppendOwn
namespace Go.Proofs.Ytejbngjeleiacaa
open Go.RowKit
set_option linter.unusedVariables false

theorem below_dn (B : Nat) (w : World) (n : Nat) : Below B w (w.drewN n) := ⟨rfl, rfl, rfl, Nat.le_refl _, fun _ _ => rfl⟩
theorem bcell {W w1 : World} {B : Nat} (hb : Below B W w1) : (∀ b o, b < B → w1.cell? ⟨b, o, none⟩ = W.cell? ⟨b, o, none⟩) ∧ (∀ b o, b < B → w1.frozen? ⟨b, o, none⟩ = W.frozen? ⟨b, o, none⟩) :=
  ⟨fun b o h => hb.cell (p := ⟨b, o, none⟩) h, fun b o h => hb.frozen (p := ⟨b, o, none⟩) h⟩
theorem cell_lt {W : World} {a : Addr} {v : Value} (h : W.cell? a = some v) : a.block < W.heap.size := by
  unfold World.cell? at h
  cases hb : W.heap[a.block]? with
  | none => simp [hb] at h
  | some o => exact (Array.getElem?_eq_some_iff.1 hb).1
/-- a block of cells lies whole -/
def Whole (W : World) (g t : Nat) (xs : List Value) : Prop := W.heap[g]? = some (.cells xs.toArray t (0, 0))
theorem Whole.lt {W : World} {g t : Nat} {xs : List Value} (h : Whole W g t xs) : g < W.heap.size := (Array.getElem?_eq_some_iff.1 h).1
theorem Whole.alloc {W : World} {g t : Nat} {xs : List Value} (h : Whole W g t xs) (o : Obj) : Whole (W.alloc o) g t xs := (Below.heap_alloc W o g h.lt).trans h
theorem Whole.below {W W' : World} {g t B : Nat} {xs : List Value} (h : Whole W g t xs) (hb : Below B W W') (hg : g < B) : Whole W' g t xs := (hb.block g hg).trans h
theorem Whole.set {W : World} {g t : Nat} {xs : List Value} (h : Whole W g t xs) (j : Nat) (v : Value) : Whole (W.setCell ⟨g, j, none⟩ v) g t (xs.set j v) := by
  have := heap_setCell_same W g j xs.toArray t v h
  unfold Whole; rw [this]; simp
theorem Whole.other {W : World} {g t : Nat} {xs : List Value} (h : Whole W g t xs) (a : Addr) (v : Value) (hne : g ≠ a.block) : Whole (W.setCell a v) g t xs := (Below.heap_setCell W a v g hne).trans h
theorem Whole.cellAt {W : World} {g t : Nat} {xs : List Value} (h : Whole W g t xs) (j : Nat) : W.cell? ⟨g, j, none⟩ = xs[j]? := by
  simp [World.cell?, show W.heap[g]? = _ from h]
theorem Whole.free {W : World} {g t : Nat} {xs : List Value} (h : Whole W g t xs) (j : Nat) : W.frozen? ⟨g, j, none⟩ = false := by
  simp [World.frozen?, show W.heap[g]? = _ from h]
theorem whole_new (W : World) (xs : List Value) (t g : Nat) (h : g = W.heap.size) : Whole (W.alloc (.cells xs.toArray t)) g t xs := by
  subst h; exact World.alloc_heap_new _ _
end Go.Proofs.Ytejbngjeleiacaa
