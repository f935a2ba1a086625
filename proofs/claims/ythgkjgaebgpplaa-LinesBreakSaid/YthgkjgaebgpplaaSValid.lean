/- Contract of style.Valid: whether a style is valid. -/
import Derived.Test.YthgkjgaebgpplaaSSides
import Derived.Laws.Rows
namespace Go.Proofs.Ythgkjgaebgpplaa
open Go.RowKit Go.Shelf
set_option linter.unusedVariables false
attribute [local go_sem] Oper.semAt_some

def VI (s : Sty) (B : Nat) (w : World) (pre : List (Nat × Sd)) (W : World) : Prop :=
  (Whole W B 32 s.cells ∧ Whole W (B + 1) 4 [.bool false] ∧ B + 1 + 1 < W.heap.size) ∧ (∀ x ∈ pre, sideB x.2 = true) ∧ Below B w W
def VX (s : Sty) (B : Nat) (w : World) (c : Code) (pre : List (Nat × Sd)) (W : World) : Prop :=
  c = .ret ∧ sidesB s.sd = false ∧ Whole W (B + 1) 4 [.bool false] ∧ Below B w W
theorem VI.own (s : Sty) (B : Nat) (w : World) (K : Nat) (h1 : B ≤ w.heap.size) (h2 : B ≤ K) : OwnFrom K (VI s B w) := fun pre X Y row ⟨⟨ha, hc, hz⟩, hp, hb⟩ hg hr =>
  ⟨⟨ha.grown hg (ha.ne fun r e => (hr r e).2), hc.grown hg (hc.ne fun r e => (hr r e).2), Nat.lt_of_lt_of_le hz hg.size⟩, hp, (ownFrom_below (β := Unit) h1 h2) () X Y row hb hg hr⟩
theorem VX.own (s : Sty) (B : Nat) (w : World) (K : Nat) (h1 : B ≤ w.heap.size) (h2 : B ≤ K) (c : Code) : OwnFrom K (VX s B w c) := fun pre X Y row ⟨hc, hz, hw, hb⟩ hg hr =>
  ⟨hc, hz, hw.grown hg (hw.ne fun r e => (hr r e).2), (ownFrom_below (β := Unit) h1 h2) () X Y row hb hg hr⟩
theorem keeps_below {W W' : World} (h : Below W.heap.size W W') : KeepsOthers W W' := ⟨h.size, fun k o hk ho' => (h.block k (Array.getElem?_eq_some_iff.1 hk).1).trans hk⟩
structure Blk (B : Nat) (V W : World) : Prop where
  all : Below V.heap.size V W
  blk : W.heap[B + 1 + 1]? = V.heap[B + 1 + 1]?
theorem cells9 {X : World} {g : Nat} {s : Sty} (h : Whole X g 32 s.cells) : g < X.heap.size ∧
    X.cell? ⟨g, 0, none⟩ = some (.int .i64 s.wk) ∧ X.cell? ⟨g, 1, none⟩ = some (.int .i64 s.wn) ∧ X.cell? ⟨g, 2, none⟩ = some (.int .i64 s.hk) ∧ X.cell? ⟨g, 3, none⟩ = some (.int .i64 s.hn) ∧
    X.cell? ⟨g, 20, none⟩ = some (.int .i64 s.cs) ∧ X.cell? ⟨g, 21, none⟩ = some (.int .i64 s.rs) ∧ X.cell? ⟨g, 22, none⟩ = some (.int .i64 s.al) ∧ X.cell? ⟨g, 25, none⟩ = some (.int .i64 s.g0) ∧ X.cell? ⟨g, 26, none⟩ = some (.int .i64 s.g1) :=
  ⟨h.lt, h.cellAt 0, h.cellAt 1, h.cellAt 2, h.cellAt 3, h.cellAt 20, h.cellAt 21, h.cellAt 22, h.cellAt 25, h.cellAt 26⟩
theorem ints_spacing {X : World} {g : Nat} {s : Sty} (h : Whole X g 32 s.cells) : Ints X (.slice (some ⟨g, 25, none⟩) 2 2) [s.g0, s.g1] :=
  ⟨by simp, .inr ⟨g, 25, 2, rfl, fun j hj => by
    have : j = 0 ∨ j = 1 := by simp at hj; omega
    rcases this with rfl | rfl
    · exact h.cellAt 25
    · exact h.cellAt 26⟩⟩
theorem Try.infoSty : (Try.prog.info? 32).map (·.size) = some 29 := by kernel_rfl
theorem results_cell_bool {W : World} {g : Nat} {b : Bool} {tmps : Array Value} {fn : Func} (hf : fn.results = #[.cell 2 4]) (ht : tmps[2]? = some (.pointer (some ⟨g, 0, none⟩))) (h : Whole W g 4 [.bool b]) :
    (results fn tmps).run Try.prog W = .ok (.bool b) W := by
  have c0 := h.cellAt 0
  simp [results, hf, go_sem, ht, c0]
end Go.Proofs.Ythgkjgaebgpplaa
