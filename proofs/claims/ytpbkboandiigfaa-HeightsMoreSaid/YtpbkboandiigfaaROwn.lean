/- Loads and stores of whole values, in regions whose order is drawn, too. Nothing of the program. -/
/- Two lists that grow side by side, their slices in the two fields of one box: what an append to one of them leaves of the other. Nothing of the program. -/
import Derived.Test.YtpbkboandiigfaaArith
import Derived.Laws.Rows
import Derived.Laws.Tables
import Derived.OrdersHeld
import Derived.LoopTactic
import Derived.StillTail
import Derived.StillTailTactics
import Derived.Maps.OwnIn
import Derived.RangeFuncNested
import Derived.RangeFuncBound
import Derived.RangeFuncCalls
namespace Go.Proofs.Ytpbkboandiigfaa
open Go.RowKit
set_option linter.unusedVariables false
attribute [local go_sem] Oper.semAt_some

/-- loads of whole values that lie anywhere -/
theorem run_loadVarC {P : Program} (w : World) (p : Addr) (ty : TypeId) (cs : Array Value) (d : TypeDesc) (hc : ∀ j v, cs[j]? = some v → w.cell? (p.add j) = some v)
    (hu : P.underlying ty = some d) (hd : (match d with | .struct _ | .array _ _ => true | _ => false) = true) (hi : (P.info? ty).map (·.size) = some cs.size) :
    (loadVar ty p).run P w = .ok (.agg cs) w := by
  have hl : (loadCells p cs.toList.length).run P w = .ok cs.toList.toArray w :=
    run_loadCells_list (P := P) w p cs.toList (fun j v hv => hc j v (by simpa using hv))
  cases hq : P.info? ty with
  | none => simp [hq] at hi
  | some i =>
    have hs : i.size = cs.size := by simpa [hq] using hi
    have hagg : (isAgg ty).run P w = .ok true w := by
      unfold isAgg
      rw [Sem.run_bind, run_underlying hu w]
      cases d <;> simp_all
    simp only [Array.length_toList, Array.toArray_toList] at hl
    simp [loadVar, Sem.run_bind, hagg, sizeOf, typeInfo, hq, hs, hl]
theorem wp_loadC {P : Program} {o : Oper} {a : Act} {w : World} {K : Act → World → Prop} {Q : Exit → Act → World → Prop} (ty : TypeId) (x : Operand) (ho : o.op = .load ty x)
    (p : Addr) (hx : a.eval x = .pointer (some p)) (cs : Array Value) (d : TypeDesc) (hc : ∀ j v, cs[j]? = some v → w.cell? (p.add j) = some v)
    (hu : P.underlying ty = some d) (hd : (match d with | .struct _ | .array _ _ => true | _ => false) = true) (hi : (P.info? ty).map (·.size) = some cs.size)
    (h : K (a.put o.dst (.agg cs)) w) : o.wp P a w K Q := by
  unfold Oper.wp execOp
  simp only [ho, hx, Instr.loadAt, Instr.sureAddr, Sem.run_bind, Sem.run_pure, Result.andThen_ok, run_loadVarC w p ty cs d hc hu hd hi]
  exact h
theorem wpList_loadC {P : Program} {ops : Array Oper} {rest : List Oper} {o : Oper} {a : Act} {w : World} {Q : Exit → Act → World → Prop} (hgd : o.guard = none) (ty : TypeId) (x : Operand) (ho : o.op = .load ty x)
    (p : Addr) (hx : a.eval x = .pointer (some p)) (cs : Array Value) (d : TypeDesc) (hc : ∀ j v, cs[j]? = some v → w.cell? (p.add j) = some v)
    (hu : P.underlying ty = some d) (hd : (match d with | .struct _ | .array _ _ => true | _ => false) = true) (hi : (P.info? ty).map (·.size) = some cs.size)
    (h : wpList P ops Q rest (a.put o.dst (.agg cs)) w) : wpList P ops Q (o :: rest) a w :=
  wpList_plain hgd fun _ hK => wp_loadC ty x ho p hx cs d hc hu hd hi (hK _ _ h)
theorem wpList_loadCw {P : Program} {ops : Array Oper} {rest : List Oper} {o : Oper} {a : Act} {w : World} {Q : Exit → Act → World → Prop} (hgd : Region.wanted o (yielded ops a.tmps) = true) (ty : TypeId) (x : Operand) (ho : o.op = .load ty x)
    (p : Addr) (hx : a.eval x = .pointer (some p)) (cs : Array Value) (d : TypeDesc) (hc : ∀ j v, cs[j]? = some v → w.cell? (p.add j) = some v)
    (hu : P.underlying ty = some d) (hd : (match d with | .struct _ | .array _ _ => true | _ => false) = true) (hi : (P.info? ty).map (·.size) = some cs.size)
    (h : wpList P ops Q rest (a.put o.dst (.agg cs)) w) : wpList P ops Q (o :: rest) a w :=
  wpList_step fun K hK => by rw [if_pos hgd]; exact wp_loadC ty x ho p hx cs d hc hu hd hi (hK _ _ h)
theorem add_plainC (b o j : Nat) : (⟨b, o, none⟩ : Addr).add j = ⟨b, o + j, none⟩ := by unfold Addr.add; split <;> simp_all
theorem wpAnyH_takeC {P : Program} {md : Region.Mode} {ops : Array Oper} {Q : Exit → Act → World → Prop} {S : World → Prop} {i : Nat} {oi : Oper} {v : Value} {fuel : Nat} {listed : Array Bool} {a : Act} {w : World} (dst : Option Tmp) (hi : ops[i]? = some oi) (hd : oi.dst = dst)
    (hs : Region.noSelect ops = true) (hf : Region.free md ops listed i = true) (hr : (Region.ready md ops listed).contains i = true)
    (hQ : ∀ c a w, Q (.panic c) (a.put dst v) w → Q (.panic c) a w) (hy : YieldsIf P ops S oi v a) (hS : S w)
    (h : wpAnyH P md ops Q S fuel (listed.setIfInBounds i true) (a.put dst v) w) : wpAnyH P md ops Q S (fuel + 1) listed a w := by
  subst hd
  exact wpAnyH_take hi hs hf hr hQ hy hS h
theorem region_held_atC {P : Program} {ops : Array Oper} {Q : Exit → Act → World → Prop} {S : World → Prop} {id : Nat} {a : Act} {w : World} (hm : P.follows .mixedOrders = true)
    (h : ∀ w2 : World, w.drew = w2 → wpAnyH P .any ops Q S ops.size (Array.replicate ops.size false) a w2) : (Code.region id ops true).wp P Q a w := wp_region_held hm (h _ rfl)
theorem yields_loadC {P : Program} {ops : Array Oper} {S : World → Prop} {op : Oper} {a : Act} (hw : Region.wanted op (yielded ops a.tmps) = true) (ty : TypeId) (x : Operand) (ho : op.op = .load ty x)
    (p : Addr) (hx : a.eval x = .pointer (some p)) (cs : Array Value) (d : TypeDesc) (hc : ∀ X, S X → ∀ j v, cs[j]? = some v → X.cell? (p.add j) = some v)
    (hu : P.underlying ty = some d) (hd : (match d with | .struct _ | .array _ _ => true | _ => false) = true) (hi : (P.info? ty).map (·.size) = some cs.size) : YieldsIf P ops S op (.agg cs) a :=
  .inl ⟨hw, fun w hw' => by
    unfold execOp
    simp only [ho, hx, Instr.loadAt, Instr.sureAddr, Sem.run_bind, Sem.run_pure, Result.andThen_ok, run_loadVarC w p ty cs d (hc w hw') hu hd hi]⟩
theorem whole_rowA {W : World} {g t : Nat} {xs : List Value} (h : Whole W g t xs) (ys : Array Value) : Whole (W.setRow g ys) g t ys.toList := setRow_heap W g xs.toArray ys t (0, 0) h
theorem whole_rowO {W : World} {g t : Nat} {xs : List Value} (h : Whole W g t xs) (k : Nat) (ys : Array Value) (hne : g ≠ k) : Whole (W.setRow k ys) g t xs := (setRow_other W k g ys hne).trans h
theorem Whole.loads {W : World} {g t : Nat} {cs : Array Value} (h : Whole W g t cs.toList) (j : Nat) (v : Value) (hv : cs[j]? = some v) : W.cell? ((⟨g, 0, none⟩ : Addr).add j) = some v := by
  have := h.cellAt j
  rw [Array.getElem?_toList, hv] at this
  rw [add_plainC, Nat.zero_add]; exact this
theorem wp_store_rowC {P : Program} {o : Oper} {a : Act} {w : World} {K : Act → World → Prop} {Q : Exit → Act → World → Prop} (hd : o.dst = none) (ty : TypeId) (x y : Operand) (ho : o.op = .store ty x y)
    (g : Nat) (cells : Array Value) (hx : a.eval x = .pointer (some ⟨g, 0, none⟩)) (hy : a.eval y = .agg cells)
    (t : TypeId) (old : Array Value) (hg : w.heap[g]? = some (.cells old t (0, 0))) (hi : (P.info? ty).map (·.size) = some cells.size)
    (hold : old.size = cells.size) (h1 : cells.all (·.oneCell') = true) (h : K a (w.setRow g cells)) : o.wp P a w K Q := by
  refine wp_store_row ty x y ho g cells hx hy t old hg hi hold h1 ?_
  rw [hd]; exact h
end Go.Proofs.Ytpbkboandiigfaa

namespace Go.Proofs.Ytpbkboandiigfaa
open Go.RowKit
set_option linter.unusedVariables false

theorem Whole.grown {W W' : World} {row : Option Nat} {g t : Nat} {xs : List Value} (h : Whole W g t xs) (hg : W.grownBy W' row) (hr : row ≠ some g) : Whole W' g t xs :=
  (hg.block g h.lt (fun e => hr e.symm)).trans h
/-- rows that hold no cells -/
def NoCells (W : World) (row : Option Nat) : Prop := ∀ r, row = some r → ∃ o : Obj, W.heap[r]? = some o ∧ o.isCells = false
theorem Whole.ne {W : World} {row : Option Nat} {g t : Nat} {xs : List Value} (h : Whole W g t xs) (hr : NoCells W row) : row ≠ some g := fun e => by
  obtain ⟨o, ho, hc⟩ := hr g e
  rw [show W.heap[g]? = _ from h] at ho; cases ho; cases hc
theorem own_block_cells {W : World} {base e size n : Nat} {v : Value} {xs : List Value} (h : W.ownsRow base e size v n xs) {g : Nat} (hg : v.ownBlock = some g) : ∃ cur, W.heap[g]? = some (.cells cur e (0, 0)) := by
  rcases h.2 with ⟨rfl, _⟩ | ⟨g', cap, cur, rfl, _, hgg, _⟩
  · simp [Value.ownBlock] at hg
  · simp [Value.ownBlock] at hg; subst hg; exact ⟨cur, hgg⟩
theorem own_ne {W : World} {base e size n : Nat} {v : Value} {xs : List Value} (h : W.ownsRow base e size v n xs) {row : Option Nat} (hr : NoCells W row) : v.ownBlock = none ∨ v.ownBlock ≠ row := by
  cases hv : v.ownBlock with
  | none => exact .inl rfl
  | some g =>
    refine .inr fun e => ?_
    obtain ⟨cur, hc⟩ := own_block_cells h hv
    obtain ⟨o, ho, hc'⟩ := hr g e.symm
    rw [hc] at ho; cases ho; cases hc'
theorem own_grown {W W' : World} {base e size n : Nat} {v : Value} {xs : List Value} {row : Option Nat} (h : W.ownsRow base e size v n xs) (hg : W.grownBy W' row) (hr : NoCells W row) : W'.ownsRow base e size v n xs := h.kept hg (own_ne h hr)
theorem whole_own {W : World} {base e size n g t : Nat} {v : Value} {xs ys : List Value} (hw : Whole W g t ys) (h : W.ownsRow base e size v n xs) (hte : t ≠ e) : v.ownBlock ≠ some g := fun hv => by
  obtain ⟨cur, hc⟩ := own_block_cells h hv
  rw [show W.heap[g]? = _ from hw] at hc; cases hc; exact hte rfl
theorem own_keeps {W W' : World} {base e size n : Nat} {v : Value} {xs : List Value} (h : W.ownsRow base e size v n xs) (hg : W.grownBy W' v.ownBlock) : KeepsOthers W W' :=
  KeepsOthers.of_grownBy hg fun j o ej ho => by obtain ⟨cur, hc⟩ := own_block_cells h ej; rw [hc] at ho; cases ho; rfl
theorem own_below {B : Nat} {w W W' : World} {base e size n : Nat} {v : Value} {xs : List Value} (hb : Below B w W) (h : W.ownsRow base e size v n xs) (hB : B ≤ base) (hg : W.grownBy W' v.ownBlock) (hs : B ≤ W.heap.size) : Below B w W' :=
  hb.grown hg hs (fun k ek => Nat.le_trans hB (h.lt k ek).1)
theorem own_setCell {W : World} {base e size n g o : Nat} {v u : Value} {xs : List Value} (h : W.ownsRow base e size v n xs) (hne : v.ownBlock ≠ some g) : (W.setCell ⟨g, o, none⟩ u).ownsRow base e size v n xs := by
  refine ⟨h.1, ?_⟩
  rcases h.2 with hn | ⟨g', cap, cur, rfl, hb, hgg, rest⟩
  · exact .inl hn
  · refine .inr ⟨g', cap, cur, rfl, hb, ?_, rest⟩
    rw [Below.heap_setCell W _ u g' (by simpa [Value.ownBlock] using hne)]
    exact hgg
theorem own_slice {W : World} {base e size n : Nat} {v : Value} {xs : List Value} (h : W.ownsRow base e size v n xs) : ∃ p k c, v = .slice p k c := by
  rcases h.2 with ⟨rfl, _⟩ | ⟨g', cap, cur, rfl, _⟩ <;> exact ⟨_, _, _, rfl⟩
/-- the two blocks are two -/
def Two (vx vy : Value) : Prop := (vx.ownBlock = none ∧ vy.ownBlock = none) ∨ vx.ownBlock ≠ vy.ownBlock
theorem Two.symm {vx vy : Value} (h : Two vx vy) : Two vy vx := h.elim (fun h => .inl ⟨h.2, h.1⟩) (fun h => .inr fun e => h e.symm)
theorem Two.kept {vx vy : Value} (h : Two vx vy) : vy.ownBlock = none ∨ vy.ownBlock ≠ vx.ownBlock := h.elim (fun h => .inl h.2) (fun h => .inr fun e => h e.symm)
/-- two lists that grow: their slices lie in the box b -/
structure Grow2 (base e t b : Nat) (vx vy : Value) (n m : Nat) (xs ys : List Value) (W : World) : Prop where
  box : Whole W b t [vx, vy]
  ox : W.ownsRow base e 1 vx n xs
  oy : W.ownsRow base e 1 vy m ys
  two : Two vx vy
theorem Grow2.grown {base e t b n m : Nat} {vx vy : Value} {xs ys : List Value} {W W' : World} {row : Option Nat} (h : Grow2 base e t b vx vy n m xs ys W) (hg : W.grownBy W' row) (hr : NoCells W row) : Grow2 base e t b vx vy n m xs ys W' :=
  ⟨h.box.grown hg (h.box.ne hr), own_grown h.ox hg hr, own_grown h.oy hg hr, h.two⟩
/-- one more on the first list: a new block o, the append, the store -/
theorem Grow2.stepX {base e t b n m n' : Nat} {vx vy v' : Value} {xs ys xs' : List Value} {V w1 : World} {o : Obj} (h : Grow2 base e t b vx vy n m xs ys V) (hte : t ≠ e)
    (hown : w1.ownsRow base e 1 v' n' xs') (hg : (V.alloc o).grownBy w1 vx.ownBlock) (hf : v'.ownBlock = vx.ownBlock ∨ v'.ownBlock = some (V.heap.size + 1)) :
    Grow2 base e t b v' vy n' m xs' ys (w1.setCell ⟨b, 0, none⟩ v') := by
  have hbox : Whole w1 b t [vx, vy] := (h.box.alloc o).grown hg (whole_own (h.box.alloc o) (h.ox.alloc o) hte)
  have hy : w1.ownsRow base e 1 vy m ys := (h.oy.alloc o).kept hg h.two.kept
  refine ⟨hbox.set 0 v', own_setCell hown (whole_own hbox hown hte), own_setCell hy (whole_own hbox hy hte), ?_⟩
  rcases hf with hf | hf
  · exact h.two.elim (fun k => .inl ⟨hf.trans k.1, k.2⟩) (fun k => .inr (by rw [hf]; exact k))
  · refine .inr fun e' => ?_
    have := ((h.oy.alloc o).lt _ (e'.symm.trans hf)).2
    simp at this
theorem Grow2.stepY {base e t b n m m' : Nat} {vx vy v' : Value} {xs ys ys' : List Value} {V w1 : World} {o : Obj} (h : Grow2 base e t b vx vy n m xs ys V) (hte : t ≠ e)
    (hown : w1.ownsRow base e 1 v' m' ys') (hg : (V.alloc o).grownBy w1 vy.ownBlock) (hf : v'.ownBlock = vy.ownBlock ∨ v'.ownBlock = some (V.heap.size + 1)) :
    Grow2 base e t b vx v' n m' xs ys' (w1.setCell ⟨b, 1, none⟩ v') := by
  have hbox : Whole w1 b t [vx, vy] := (h.box.alloc o).grown hg (whole_own (h.box.alloc o) (h.oy.alloc o) hte)
  have hx : w1.ownsRow base e 1 vx n xs := (h.ox.alloc o).kept hg h.two.symm.kept
  refine ⟨hbox.set 1 v', own_setCell hx (whole_own hbox hx hte), own_setCell hown (whole_own hbox hown hte), ?_⟩
  rcases hf with hf | hf
  · exact h.two.elim (fun k => .inl ⟨k.1, hf.trans k.2⟩) (fun k => .inr (by rw [hf]; exact k))
  · refine .inr fun e' => ?_
    have := ((h.ox.alloc o).lt _ (e'.trans hf)).2
    simp at this
theorem Whole.app {base e g t n sz : Nat} {v : Value} {xs zs : List Value} {V w1 : World} {o : Obj} (h : Whole V g t zs) (ho : V.ownsRow base e sz v n xs) (hte : t ≠ e) (hg : (V.alloc o).grownBy w1 v.ownBlock) : Whole w1 g t zs :=
  (h.alloc o).grown hg (whole_own (h.alloc o) (ho.alloc o) hte)
/-- what such a step leaves of another block -/
theorem Whole.step {base e g t b n off sz : Nat} {v v' : Value} {xs zs : List Value} {V w1 : World} {o : Obj} (h : Whole V g t zs) (ho : V.ownsRow base e sz v n xs) (hte : t ≠ e) (hg : (V.alloc o).grownBy w1 v.ownBlock) (hne : g ≠ b) :
    Whole (w1.setCell ⟨b, off, none⟩ v') g t zs :=
  ((h.alloc o).grown hg (whole_own (h.alloc o) (ho.alloc o) hte)).other _ _ hne
theorem step_keeps {base e b n off sz : Nat} {v v' : Value} {xs : List Value} {V w1 : World} {o : Obj} (ho : V.ownsRow base e sz v n xs) (hg : (V.alloc o).grownBy w1 v.ownBlock) : KeepsOthers V (w1.setCell ⟨b, off, none⟩ v') :=
  ((KeepsOthers.alloc V o).trans (own_keeps (ho.alloc o) hg)).trans (KeepsOthers.setCell _ _ _)
theorem step_below {B base e b n off sz : Nat} {v v' : Value} {xs : List Value} {V w1 w : World} {o : Obj} (hb : Below B w V) (ho : V.ownsRow base e sz v n xs) (hg : (V.alloc o).grownBy w1 v.ownBlock) (hB : B ≤ base) (hb' : B ≤ b) (hs : B ≤ V.heap.size) :
    Below B w (w1.setCell ⟨b, off, none⟩ v') :=
  (own_below (hb.alloc hs o) (ho.alloc o) hB hg (by simp; omega)).setCell (p := ⟨b, off, none⟩) hb' _
theorem two_new (w : World) (x y : Value) (t : Nat) : ∀ j u, [x, y][j]? = some u → (w.alloc (.cells #[x, y] t)).cell? ((⟨w.heap.size, 0, none⟩ : Addr).add j) = some u := by
  intro j u hj
  have h := (whole_new w [x, y] t _ rfl).cellAt j
  rw [show (⟨w.heap.size, 0, none⟩ : Addr).add j = ⟨w.heap.size, j, none⟩ by unfold Addr.add; split <;> simp_all]
  exact h.trans hj
end Go.Proofs.Ytpbkboandiigfaa
