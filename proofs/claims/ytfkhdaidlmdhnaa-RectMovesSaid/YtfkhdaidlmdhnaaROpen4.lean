/- Four lengths as an argument: opened, and shut again. -/
import Derived.Test.YtfkhdaidlmdhnaaROpen
import Derived.Laws.IdiomArrays
namespace Go.Proofs.Ytfkhdaidlmdhnaa
open Go.ChangeShapes Go.WideShapes Go.ChangeAt Go.RowKit Go.Joins
set_option linter.unusedVariables false

theorem Try.cellsFour : Try.prog.cellsOf 35 = 4 := by kernel_rfl
theorem Try.cellsInt : Try.prog.cellsOf 2 = 1 := by kernel_rfl
section
variable {H : Type} {enc : TypeId × Value → H} {w : World} {base : Nat} {spare : Nat → Bool} {held : Bool}
set_option maxRecDepth 100000 in
theorem open_four {r : Reach} {b0 : Nat} {v : Value} {d : DataW H} {p : List MemPlace} (hv : Value.okWide Try.prog w r b0 35 v) (h : DataW.Trod enc Try.prog w base spare held 35 v d p) :
    ∃ q : R, v = q.val ∧ d = q.data ∧ p = [] ∧ q.wf := by
  obtain ⟨cs, rfl, hsz⟩ : ∃ cs, v = .agg cs ∧ cs.size = Try.prog.cellsOf 35 := by
    simp only [Value.okWide, Try.underlying35] at hv
    obtain ⟨cs, h1, h2, _⟩ := hv
    exact ⟨cs, h1, h2⟩
  obtain ⟨c0, c1, c2, c3, rfl⟩ := array4 (hsz.trans Try.cellsFour)
  obtain ⟨fuel, hf⟩ := h
  obtain ⟨y0, y1, y2, y3, m, hx, h0, h1, h2, h3⟩ := trod_array4 Try.underlying35 Try.cellsInt hf
  obtain ⟨a, e0, rfl, wa⟩ := DataW.trod_int Try.underlying2 h0
  obtain ⟨b, e1, rfl, wb⟩ := DataW.trod_int Try.underlying2 h1
  obtain ⟨c, e2, rfl, wc⟩ := DataW.trod_int Try.underlying2 h2
  obtain ⟨e, e3, rfl, we⟩ := DataW.trod_int Try.underlying2 h3
  simp at e0 e1 e2 e3
  subst e0 e1 e2 e3
  simp only [Prod.mk.injEq] at hx
  obtain ⟨rfl, rfl⟩ := hx
  exact ⟨⟨a, b, c, e⟩, rfl, rfl, rfl, wa, wb, wc, we⟩
set_option maxRecDepth 100000 in
theorem shut_four (q : R) (hq : q.wf) : DataW.Trod enc Try.prog w base spare held 35 q.val q.data [] := by
  obtain ⟨wa, wb, wc, we⟩ := hq
  have r4 : List.range 4 = [0, 1, 2, 3] := rfl
  refine ⟨2, ?_⟩
  unfold R.val Value.cells
  unfold DataW.trod
  rw [Try.underlying35]
  simp [r4, Try.cellsInt, Try.cellsFour, DataW.trod, Try.underlying2, wa, wb, wc, we, R.data]
end
end Go.Proofs.Ytfkhdaidlmdhnaa
