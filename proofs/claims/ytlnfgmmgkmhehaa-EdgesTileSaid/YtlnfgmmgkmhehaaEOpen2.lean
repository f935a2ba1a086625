/- Two gaps as an argument: opened, and shut again. -/
import Derived.Test.YtlnfgmmgkmhehaaEPl
import Derived.Laws.IdiomArrays
import Derived.OpenShut
namespace Go.Proofs.Ytlnfgmmgkmhehaa
open Go.ChangeShapes Go.WideShapes Go.RowKit Go.Joins Go.Shelf
set_option linter.unusedVariables false

/-- two gaps -/
structure Gp where
  x : Int
  y : Int
def Gp.val (g : Gp) : Value := .agg #[.int .i64 g.x, .int .i64 g.y]
def Gp.wf (g : Gp) : Prop := (Lit.int .i64 g.x).wf = true ∧ (Lit.int .i64 g.y).wf = true
def Gp.data {H : Type} (g : Gp) : DataW H := .agg [.lit (.int .i64 g.x), .lit (.int .i64 g.y)]
theorem Try.cellsTwo : Try.prog.cellsOf 23 = 2 := by kernel_rfl
theorem Try.cellsIntE : Try.prog.cellsOf 2 = 1 := by kernel_rfl
section
variable {H : Type} {enc : TypeId × Value → H} {w : World} {base : Nat} {spare : Nat → Bool} {held : Bool}
theorem trod_array2 {P : Program} {t e : TypeId} {fuel : Nat} {c0 c1 : Value} {x : DataW H × List MemPlace} (ht : P.underlying t = some (.array 2 e)) (hce : P.cellsOf e = 1)
    (h : DataW.trod enc P w base spare held fuel t [c0, c1] = some x) :
    ∃ y0 y1 n, x = (.agg [y0.1, y1.1], y0.2 ++ y1.2) ∧ DataW.trod enc P w base spare held n e [c0] = some y0 ∧ DataW.trod enc P w base spare held n e [c1] = some y1 := by
  cases fuel with
  | zero => simp [DataW.trod] at h
  | succ n =>
    unfold DataW.trod at h
    rw [ht] at h
    have r2 : List.range 2 = [0, 1] := rfl
    simp [r2, hce] at h
    obtain ⟨_, h⟩ := h
    cases h0 : DataW.trod enc P w base spare held n e [c0] with
    | none => simp [h0] at h
    | some y0 =>
      cases h1 : DataW.trod enc P w base spare held n e [c1] with
      | none => simp [h0, h1] at h
      | some y1 =>
        simp [h0, h1] at h
        exact ⟨y0, y1, n, h.symm, h0, h1⟩
theorem array2 {cs : Array Value} (h : cs.size = 2) : ∃ a b, cs = #[a, b] := by
  obtain ⟨l⟩ := cs
  match l, h with
  | [a, b], _ => exact ⟨a, b, rfl⟩
set_option maxRecDepth 100000 in
theorem open_two {r : Reach} {b0 : Nat} {v : Value} {d : DataW H} {p : List MemPlace} (hv : Value.okWide Try.prog w r b0 23 v) (h : DataW.Trod enc Try.prog w base spare held 23 v d p) :
    ∃ q : Gp, v = q.val ∧ d = q.data ∧ p = [] ∧ q.wf := by
  obtain ⟨cs, rfl, hsz⟩ : ∃ cs, v = .agg cs ∧ cs.size = Try.prog.cellsOf 23 := by
    simp only [Value.okWide, Try.underlying23] at hv
    obtain ⟨cs, h1, h2, _⟩ := hv
    exact ⟨cs, h1, h2⟩
  obtain ⟨c0, c1, rfl⟩ := array2 (hsz.trans Try.cellsTwo)
  obtain ⟨fuel, hf⟩ := h
  obtain ⟨y0, y1, m, hx, h0, h1⟩ := trod_array2 Try.underlying23 Try.cellsIntE hf
  obtain ⟨a, e0, rfl, wa⟩ := DataW.trod_int Try.underlying2 h0
  obtain ⟨b, e1, rfl, wb⟩ := DataW.trod_int Try.underlying2 h1
  simp at e0 e1
  subst e0 e1
  simp only [Prod.mk.injEq] at hx
  obtain ⟨rfl, rfl⟩ := hx
  exact ⟨⟨a, b⟩, rfl, rfl, rfl, wa, wb⟩
set_option maxRecDepth 100000 in
theorem shut_two (q : Gp) (hq : q.wf) : DataW.Trod enc Try.prog w base spare held 23 q.val q.data [] := by
  obtain ⟨wa, wb⟩ := hq
  have r2 : List.range 2 = [0, 1] := rfl
  refine ⟨2, ?_⟩
  unfold Gp.val Value.cells
  unfold DataW.trod
  rw [Try.underlying23]
  simp [r2, Try.cellsIntE, Try.cellsTwo, DataW.trod, Try.underlying2, wa, wb, Gp.data]
end
end Go.Proofs.Ytlnfgmmgkmhehaa
