/- Nodes as plain data; whether a node is wrong (tree.wrong, wrongText, hasText). -/
import Derived.Test.YthgkjgaebgpplaaTBase
import Derived.Test.YthgkjgaebgpplaaSValid
namespace Go.Proofs.Ythgkjgaebgpplaa
open Go.RowKit Go.Shelf
set_option linter.unusedVariables false
attribute [local go_sem] Oper.semAt_some

/-- a node: its kind, kids, style, words, blank, height; kv, wv: the slices in which kids and words lie -/
structure Nd where
  k : Int
  kv : Value
  ks : List Int
  s : Sty
  wv : Value
  ws : List Int
  b : Int
  h : Int
def ndCells (k : Int) (kv : Value) (sc : List Value) (wv : Value) (b h : Int) : List Value := .int .i64 k :: kv :: (sc ++ [wv, .int .i64 b, .int .i64 h])
def Nd.cells (n : Nd) : List Value := ndCells n.k n.kv n.s.cells n.wv n.b n.h
def Nd.val (n : Nd) : Value := .agg n.cells.toArray
def CapOk (v : Value) : Prop := ∃ p len cap, v = .slice p len cap ∧ len ≤ cap ∧ cap ≤ 9223372036854775807
def Nd.ok (n : Nd) (W : World) : Prop := Ints W n.kv n.ks ∧ Ints W n.wv n.ws ∧ CapOk n.kv ∧ CapOk n.wv
theorem Nd.ok.below {n : Nd} {W W' : World} (h : n.ok W) (hb : Below W.heap.size W W') : n.ok W' := ⟨h.1.below hb, h.2.1.below hb, h.2.2⟩
theorem Nd.len (n : Nd) : n.cells.length = 34 := by simp [Nd.cells, ndCells, Sty.cells, styCells]
theorem Nd.c0 (n : Nd) : n.cells[0]? = some (.int .i64 n.k) := rfl
theorem Nd.c1 (n : Nd) : n.cells[1]? = some n.kv := rfl
theorem Nd.c31 (n : Nd) : n.cells[31]? = some n.wv := rfl
theorem Nd.c32 (n : Nd) : n.cells[32]? = some (.int .i64 n.b) := rfl
theorem Nd.c33 (n : Nd) : n.cells[33]? = some (.int .i64 n.h) := rfl
theorem Nd.sty (n : Nd) (j : Nat) (v : Value) (h : n.s.cells[j]? = some v) : n.cells[2 + j]? = some v := by
  have hj : j < 29 := (List.getElem?_eq_some_iff.1 h).1
  unfold Nd.cells ndCells
  rw [show 2 + j = j + 1 + 1 by omega, List.getElem?_cons_succ, List.getElem?_cons_succ, List.getElem?_append_left (by have := (List.getElem?_eq_some_iff.1 h).1; omega)]
  exact h
theorem Try.infoNd : (Try.prog.info? 35).map (·.size) = some 34 := by kernel_rfl
theorem Ints.form {W : World} {v : Value} {zs : List Int} (h : Ints W v zs) : ∃ p cap, v = .slice p zs.length cap := by
  obtain ⟨_, ⟨a, cap, rfl, rfl⟩ | ⟨b, off, cap, rfl, _⟩⟩ := h
  · exact ⟨a, cap, rfl⟩
  · exact ⟨_, cap, rfl⟩
theorem Ints.small {W : World} {v : Value} {zs : List Int} (h : Ints W v zs) : zs.length ≤ 9223372036854775807 := h.1

/-- loads of whole values that lie anywhere -/
theorem run_loadVar_at {P : Program} (w : World) (p : Addr) (ty : TypeId) (cs : Array Value) (d : TypeDesc) (hc : ∀ j v, cs[j]? = some v → w.cell? (p.add j) = some v)
    (hu : P.underlying ty = some d) (hd : (match d with | .struct _ | .array _ _ => true | _ => false) = true) (hi : (P.info? ty).map (·.size) = some cs.size) :
    (loadVar ty p).run P w = .ok (.agg cs) w := by
  have hl : (loadCells p cs.toList.length).run P w = .ok cs.toList.toArray w :=
    run_loadCells_list (P := P) w p cs.toList (fun j v hv => hc j v (by simpa using hv))
  cases hq : P.info? ty with
  | none => simp [hq] at hi
  | some i =>
    have hs : i.size = cs.size := by simpa [hq] using hi
    have hagg : (isAgg ty).run P w = .ok true w := by
      unfold isAgg
      rw [Sem.run_bind, run_underlying hu w]
      cases d <;> simp_all
    simp only [Array.length_toList, Array.toArray_toList] at hl
    simp [loadVar, Sem.run_bind, hagg, sizeOf, typeInfo, hq, hs, hl]
theorem wp_load_at {P : Program} {o : Oper} {a : Act} {w : World} {K : Act → World → Prop} {Q : Exit → Act → World → Prop} (ty : TypeId) (x : Operand) (ho : o.op = .load ty x)
    (p : Addr) (hx : a.eval x = .pointer (some p)) (cs : Array Value) (d : TypeDesc) (hc : ∀ j v, cs[j]? = some v → w.cell? (p.add j) = some v)
    (hu : P.underlying ty = some d) (hd : (match d with | .struct _ | .array _ _ => true | _ => false) = true) (hi : (P.info? ty).map (·.size) = some cs.size)
    (h : K (a.put o.dst (.agg cs)) w) : o.wp P a w K Q := by
  unfold Oper.wp execOp
  simp only [ho, hx, Instr.loadAt, Instr.sureAddr, Sem.run_bind, Sem.run_pure, Result.andThen_ok, run_loadVar_at w p ty cs d hc hu hd hi]
  exact h
theorem wpList_load_at {P : Program} {ops : Array Oper} {rest : List Oper} {o : Oper} {a : Act} {w : World} {Q : Exit → Act → World → Prop} (hgd : o.guard = none) (ty : TypeId) (x : Operand) (ho : o.op = .load ty x)
    (p : Addr) (hx : a.eval x = .pointer (some p)) (cs : Array Value) (d : TypeDesc) (hc : ∀ j v, cs[j]? = some v → w.cell? (p.add j) = some v)
    (hu : P.underlying ty = some d) (hd : (match d with | .struct _ | .array _ _ => true | _ => false) = true) (hi : (P.info? ty).map (·.size) = some cs.size)
    (h : wpList P ops Q rest (a.put o.dst (.agg cs)) w) : wpList P ops Q (o :: rest) a w :=
  wpList_plain hgd fun _ hK => wp_load_at ty x ho p hx cs d hc hu hd hi (hK _ _ h)
theorem wpList_load_at_w {P : Program} {ops : Array Oper} {rest : List Oper} {o : Oper} {a : Act} {w : World} {Q : Exit → Act → World → Prop} (hgd : Region.wanted o (yielded ops a.tmps) = true) (ty : TypeId) (x : Operand) (ho : o.op = .load ty x)
    (p : Addr) (hx : a.eval x = .pointer (some p)) (cs : Array Value) (d : TypeDesc) (hc : ∀ j v, cs[j]? = some v → w.cell? (p.add j) = some v)
    (hu : P.underlying ty = some d) (hd : (match d with | .struct _ | .array _ _ => true | _ => false) = true) (hi : (P.info? ty).map (·.size) = some cs.size)
    (h : wpList P ops Q rest (a.put o.dst (.agg cs)) w) : wpList P ops Q (o :: rest) a w :=
  wpList_step fun K hK => by rw [if_pos hgd]; exact wp_load_at ty x ho p hx cs d hc hu hd hi (hK _ _ h)
theorem add_plain (b o j : Nat) : (⟨b, o, none⟩ : Addr).add j = ⟨b, o + j, none⟩ := by unfold Addr.add; split <;> simp_all
/-- a node's cells lie at b, o -/
def NdAt (W : World) (b o : Nat) (n : Nd) : Prop := ∀ j v, n.cells[j]? = some v → W.cell? ⟨b, o + j, none⟩ = some v
theorem NdAt.below {W W' : World} {b o : Nat} {n : Nd} (h : NdAt W b o n) (hb : Below W.heap.size W W') : NdAt W' b o n := fun j v hj =>
  (hb.cell (p := ⟨b, o + j, none⟩) (cell_lt (h j v hj))).trans (h j v hj)
theorem NdAt.load {W : World} {b o : Nat} {n : Nd} (h : NdAt W b o n) : ∀ j v, n.cells.toArray[j]? = some v → W.cell? ((⟨b, o, none⟩ : Addr).add j) = some v := fun j v hj => by
  rw [add_plain]; exact h j v (by simpa using hj)
theorem NdAt.style {W : World} {b o : Nat} {n : Nd} (h : NdAt W b o n) : ∀ j v, n.s.cells.toArray[j]? = some v → W.cell? ((⟨b, o + 2, none⟩ : Addr).add j) = some v := fun j v hj => by
  rw [add_plain, show o + 2 + j = o + (2 + j) by omega]; exact h _ v (n.sty j v (by simpa using hj))
theorem NdAt.whole {W : World} {g t : Nat} {n : Nd} (h : Whole W g t n.cells) : NdAt W g 0 n := fun j v hj => by
  rw [Nat.zero_add, h.cellAt]; exact hj

def hasT (n : Nd) : Bool := decide (0 < n.ws.length) || (decide (n.b ≠ 0) || decide (n.h ≠ 0))
def wrongT (n : Nd) : Bool := decide (10000 < n.ws.length) || (n.ws.any (outB 0 1073741824) || [n.b, n.h].any (outB 0 1073741824))
def wrongN (n : Nd) : Bool := decide (¬ (0 ≤ n.k ∧ n.k ≤ 10)) || (!validS n.s || (if n.k = 1 then decide (0 < n.ks.length) || wrongT n else if n.k = 5 then decide (0 < n.ks.length) || hasT n else hasT n))
/-- what a node's own cells are in a block of their own, and in all later worlds -/
def NdBox (n : Nd) (k : Int) (g : Nat) (p : Option Addr) (m cap : Nat) (X : World) : Prop := g < X.heap.size ∧ NdAt X g 0 n ∧ X.cell? ⟨g, 0, none⟩ = some (.int .i64 k) ∧ X.cell? ⟨g, 1, none⟩ = some (.slice p m cap)
theorem NdBox.mk' {n : Nd} {g t : Nat} {p : Option Addr} {m cap : Nat} {X : World} (h : Whole X g t n.cells) (hk : n.kv = .slice p m cap) : NdBox n n.k g p m cap X :=
  ⟨h.lt, .whole h, by rw [h.cellAt]; exact n.c0, by rw [h.cellAt, n.c1, hk]⟩
theorem NdBox.later {n : Nd} {k : Int} {g B : Nat} {p : Option Addr} {m cap : Nat} {X Y : World} (h : NdBox n k g p m cap X) (hb : Below B X Y) (hB : g < B) (hB2 : X.heap.size = B) : NdBox n k g p m cap Y := by
  subst hB2
  exact ⟨Nat.lt_of_lt_of_le h.1 hb.size, h.2.1.below hb, (hb.cell (p := ⟨g, 0, none⟩) hB).trans h.2.2.1, (hb.cell (p := ⟨g, 1, none⟩) hB).trans h.2.2.2⟩
theorem nd_info (n : Nd) : (Try.prog.info? 35).map (·.size) = some n.cells.toArray.size := by rw [Try.infoNd]; simp [n.len]
theorem sty_info' (s : Sty) : (Try.prog.info? 32).map (·.size) = some s.cells.toArray.size := by rw [Try.infoSty]; rfl
end Go.Proofs.Ythgkjgaebgpplaa
