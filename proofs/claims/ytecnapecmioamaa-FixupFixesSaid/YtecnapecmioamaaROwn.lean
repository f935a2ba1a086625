/- Two lists that grow side by side, their slices in the two fields of one box: what an append to one of them leaves of the other. Nothing of the program. -/
import Derived.Test.YtecnapecmioamaaSBase
import Derived.Maps.OwnIn
import Derived.RangeFuncNested
import Derived.RangeFuncBound
import Derived.RangeFuncCalls
namespace Go.Proofs.Ytecnapecmioamaa
open Go.RowKit
set_option linter.unusedVariables false

theorem Whole.grown {W W' : World} {row : Option Nat} {g t : Nat} {xs : List Value} (h : Whole W g t xs) (hg : W.grownBy W' row) (hr : row ≠ some g) : Whole W' g t xs :=
  (hg.block g h.lt (fun e => hr e.symm)).trans h
/-- rows that hold no cells -/
def NoCells (W : World) (row : Option Nat) : Prop := ∀ r, row = some r → ∃ o : Obj, W.heap[r]? = some o ∧ o.isCells = false
theorem Whole.ne {W : World} {row : Option Nat} {g t : Nat} {xs : List Value} (h : Whole W g t xs) (hr : NoCells W row) : row ≠ some g := fun e => by
  obtain ⟨o, ho, hc⟩ := hr g e
  rw [show W.heap[g]? = _ from h] at ho; cases ho; cases hc
theorem own_block_cells {W : World} {base e size n : Nat} {v : Value} {xs : List Value} (h : W.ownsRow base e size v n xs) {g : Nat} (hg : v.ownBlock = some g) : ∃ cur, W.heap[g]? = some (.cells cur e (0, 0)) := by
  rcases h.2 with ⟨rfl, _⟩ | ⟨g', cap, cur, rfl, _, hgg, _⟩
  · simp [Value.ownBlock] at hg
  · simp [Value.ownBlock] at hg; subst hg; exact ⟨cur, hgg⟩
theorem own_ne {W : World} {base e size n : Nat} {v : Value} {xs : List Value} (h : W.ownsRow base e size v n xs) {row : Option Nat} (hr : NoCells W row) : v.ownBlock = none ∨ v.ownBlock ≠ row := by
  cases hv : v.ownBlock with
  | none => exact .inl rfl
  | some g =>
    refine .inr fun e => ?_
    obtain ⟨cur, hc⟩ := own_block_cells h hv
    obtain ⟨o, ho, hc'⟩ := hr g e.symm
    rw [hc] at ho; cases ho; cases hc'
theorem own_grown {W W' : World} {base e size n : Nat} {v : Value} {xs : List Value} {row : Option Nat} (h : W.ownsRow base e size v n xs) (hg : W.grownBy W' row) (hr : NoCells W row) : W'.ownsRow base e size v n xs := h.kept hg (own_ne h hr)
theorem whole_own {W : World} {base e size n g t : Nat} {v : Value} {xs ys : List Value} (hw : Whole W g t ys) (h : W.ownsRow base e size v n xs) (hte : t ≠ e) : v.ownBlock ≠ some g := fun hv => by
  obtain ⟨cur, hc⟩ := own_block_cells h hv
  rw [show W.heap[g]? = _ from hw] at hc; cases hc; exact hte rfl
theorem own_keeps {W W' : World} {base e size n : Nat} {v : Value} {xs : List Value} (h : W.ownsRow base e size v n xs) (hg : W.grownBy W' v.ownBlock) : KeepsOthers W W' :=
  KeepsOthers.of_grownBy hg fun j o ej ho => by obtain ⟨cur, hc⟩ := own_block_cells h ej; rw [hc] at ho; cases ho; rfl
theorem own_below {B : Nat} {w W W' : World} {base e size n : Nat} {v : Value} {xs : List Value} (hb : Below B w W) (h : W.ownsRow base e size v n xs) (hB : B ≤ base) (hg : W.grownBy W' v.ownBlock) (hs : B ≤ W.heap.size) : Below B w W' :=
  hb.grown hg hs (fun k ek => Nat.le_trans hB (h.lt k ek).1)
theorem own_setCell {W : World} {base e size n g o : Nat} {v u : Value} {xs : List Value} (h : W.ownsRow base e size v n xs) (hne : v.ownBlock ≠ some g) : (W.setCell ⟨g, o, none⟩ u).ownsRow base e size v n xs := by
  refine ⟨h.1, ?_⟩
  rcases h.2 with hn | ⟨g', cap, cur, rfl, hb, hgg, rest⟩
  · exact .inl hn
  · refine .inr ⟨g', cap, cur, rfl, hb, ?_, rest⟩
    rw [Below.heap_setCell W _ u g' (by simpa [Value.ownBlock] using hne)]
    exact hgg
theorem own_slice {W : World} {base e size n : Nat} {v : Value} {xs : List Value} (h : W.ownsRow base e size v n xs) : ∃ p k c, v = .slice p k c := by
  rcases h.2 with ⟨rfl, _⟩ | ⟨g', cap, cur, rfl, _⟩ <;> exact ⟨_, _, _, rfl⟩
/-- the two blocks are two -/
def Two (vx vy : Value) : Prop := (vx.ownBlock = none ∧ vy.ownBlock = none) ∨ vx.ownBlock ≠ vy.ownBlock
theorem Two.symm {vx vy : Value} (h : Two vx vy) : Two vy vx := h.elim (fun h => .inl ⟨h.2, h.1⟩) (fun h => .inr fun e => h e.symm)
theorem Two.kept {vx vy : Value} (h : Two vx vy) : vy.ownBlock = none ∨ vy.ownBlock ≠ vx.ownBlock := h.elim (fun h => .inl h.2) (fun h => .inr fun e => h e.symm)
/-- two lists that grow: their slices lie in the box b -/
structure Grow2 (base e t b : Nat) (vx vy : Value) (n m : Nat) (xs ys : List Value) (W : World) : Prop where
  box : Whole W b t [vx, vy]
  ox : W.ownsRow base e 1 vx n xs
  oy : W.ownsRow base e 1 vy m ys
  two : Two vx vy
theorem Grow2.grown {base e t b n m : Nat} {vx vy : Value} {xs ys : List Value} {W W' : World} {row : Option Nat} (h : Grow2 base e t b vx vy n m xs ys W) (hg : W.grownBy W' row) (hr : NoCells W row) : Grow2 base e t b vx vy n m xs ys W' :=
  ⟨h.box.grown hg (h.box.ne hr), own_grown h.ox hg hr, own_grown h.oy hg hr, h.two⟩
/-- one more on the first list: a new block o, the append, the store -/
theorem Grow2.stepX {base e t b n m n' : Nat} {vx vy v' : Value} {xs ys xs' : List Value} {V w1 : World} {o : Obj} (h : Grow2 base e t b vx vy n m xs ys V) (hte : t ≠ e)
    (hown : w1.ownsRow base e 1 v' n' xs') (hg : (V.alloc o).grownBy w1 vx.ownBlock) (hf : v'.ownBlock = vx.ownBlock ∨ v'.ownBlock = some (V.heap.size + 1)) :
    Grow2 base e t b v' vy n' m xs' ys (w1.setCell ⟨b, 0, none⟩ v') := by
  have hbox : Whole w1 b t [vx, vy] := (h.box.alloc o).grown hg (whole_own (h.box.alloc o) (h.ox.alloc o) hte)
  have hy : w1.ownsRow base e 1 vy m ys := (h.oy.alloc o).kept hg h.two.kept
  refine ⟨hbox.set 0 v', own_setCell hown (whole_own hbox hown hte), own_setCell hy (whole_own hbox hy hte), ?_⟩
  rcases hf with hf | hf
  · exact h.two.elim (fun k => .inl ⟨hf.trans k.1, k.2⟩) (fun k => .inr (by rw [hf]; exact k))
  · refine .inr fun e' => ?_
    have := ((h.oy.alloc o).lt _ (e'.symm.trans hf)).2
    simp at this
theorem Grow2.stepY {base e t b n m m' : Nat} {vx vy v' : Value} {xs ys ys' : List Value} {V w1 : World} {o : Obj} (h : Grow2 base e t b vx vy n m xs ys V) (hte : t ≠ e)
    (hown : w1.ownsRow base e 1 v' m' ys') (hg : (V.alloc o).grownBy w1 vy.ownBlock) (hf : v'.ownBlock = vy.ownBlock ∨ v'.ownBlock = some (V.heap.size + 1)) :
    Grow2 base e t b vx v' n m' xs ys' (w1.setCell ⟨b, 1, none⟩ v') := by
  have hbox : Whole w1 b t [vx, vy] := (h.box.alloc o).grown hg (whole_own (h.box.alloc o) (h.oy.alloc o) hte)
  have hx : w1.ownsRow base e 1 vx n xs := (h.ox.alloc o).kept hg h.two.symm.kept
  refine ⟨hbox.set 1 v', own_setCell hx (whole_own hbox hx hte), own_setCell hown (whole_own hbox hown hte), ?_⟩
  rcases hf with hf | hf
  · exact h.two.elim (fun k => .inl ⟨k.1, hf.trans k.2⟩) (fun k => .inr (by rw [hf]; exact k))
  · refine .inr fun e' => ?_
    have := ((h.ox.alloc o).lt _ (e'.trans hf)).2
    simp at this
theorem Whole.app {base e g t n sz : Nat} {v : Value} {xs zs : List Value} {V w1 : World} {o : Obj} (h : Whole V g t zs) (ho : V.ownsRow base e sz v n xs) (hte : t ≠ e) (hg : (V.alloc o).grownBy w1 v.ownBlock) : Whole w1 g t zs :=
  (h.alloc o).grown hg (whole_own (h.alloc o) (ho.alloc o) hte)
/-- what such a step leaves of another block -/
theorem Whole.step {base e g t b n off sz : Nat} {v v' : Value} {xs zs : List Value} {V w1 : World} {o : Obj} (h : Whole V g t zs) (ho : V.ownsRow base e sz v n xs) (hte : t ≠ e) (hg : (V.alloc o).grownBy w1 v.ownBlock) (hne : g ≠ b) :
    Whole (w1.setCell ⟨b, off, none⟩ v') g t zs :=
  ((h.alloc o).grown hg (whole_own (h.alloc o) (ho.alloc o) hte)).other _ _ hne
theorem step_keeps {base e b n off sz : Nat} {v v' : Value} {xs : List Value} {V w1 : World} {o : Obj} (ho : V.ownsRow base e sz v n xs) (hg : (V.alloc o).grownBy w1 v.ownBlock) : KeepsOthers V (w1.setCell ⟨b, off, none⟩ v') :=
  ((KeepsOthers.alloc V o).trans (own_keeps (ho.alloc o) hg)).trans (KeepsOthers.setCell _ _ _)
theorem step_below {B base e b n off sz : Nat} {v v' : Value} {xs : List Value} {V w1 w : World} {o : Obj} (hb : Below B w V) (ho : V.ownsRow base e sz v n xs) (hg : (V.alloc o).grownBy w1 v.ownBlock) (hB : B ≤ base) (hb' : B ≤ b) (hs : B ≤ V.heap.size) :
    Below B w (w1.setCell ⟨b, off, none⟩ v') :=
  (own_below (hb.alloc hs o) (ho.alloc o) hB hg (by simp; omega)).setCell (p := ⟨b, off, none⟩) hb' _
theorem two_new (w : World) (x y : Value) (t : Nat) : ∀ j u, [x, y][j]? = some u → (w.alloc (.cells #[x, y] t)).cell? ((⟨w.heap.size, 0, none⟩ : Addr).add j) = some u := by
  intro j u hj
  have h := (whole_new w [x, y] t _ rfl).cellAt j
  rw [show (⟨w.heap.size, 0, none⟩ : Addr).add j = ⟨w.heap.size, j, none⟩ by unfold Addr.add; split <;> simp_all]
  exact h.trans hj
end Go.Proofs.Ytecnapecmioamaa
