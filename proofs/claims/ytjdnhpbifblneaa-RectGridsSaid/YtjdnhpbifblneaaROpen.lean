/- A rectangle as an argument: opened, and shut again. -/
import Derived.Test.YtjdnhpbifblneaaRBase
import Derived.Lib.SmallJoins
import Derived.ProofKit
import Derived.OpenShut
namespace Go.Proofs.Ytjdnhpbifblneaa
open Go.ChangeShapes Go.WideShapes Go.ChangeAt Go.RowKit Go.Joins
set_option linter.unusedVariables false

theorem Try.cellsRect : Try.prog.cellsOf 23 = 4 := by kernel_rfl
/-- each of its numbers fits -/
def R.wf (r : R) : Prop := (Lit.int .i64 r.x).wf = true ∧ (Lit.int .i64 r.y).wf = true ∧ (Lit.int .i64 r.w).wf = true ∧ (Lit.int .i64 r.h).wf = true
def R.data {H : Type} (r : R) : DataW H := .agg [.lit (.int .i64 r.x), .lit (.int .i64 r.y), .lit (.int .i64 r.w), .lit (.int .i64 r.h)]
theorem R.wf.bounds {r : R} (h : r.wf) : (-9223372036854775808 ≤ r.x ∧ r.x ≤ 9223372036854775807) ∧ (-9223372036854775808 ≤ r.y ∧ r.y ≤ 9223372036854775807) ∧ (-9223372036854775808 ≤ r.w ∧ r.w ≤ 9223372036854775807) ∧ (-9223372036854775808 ≤ r.h ∧ r.h ≤ 9223372036854775807) :=
  ⟨bounds_i64 h.1, bounds_i64 h.2.1, bounds_i64 h.2.2.1, bounds_i64 h.2.2.2⟩
section
variable {H : Type} {enc : TypeId × Value → H} {w : World} {base : Nat} {spare : Nat → Bool} {held : Bool}
set_option maxRecDepth 100000 in
theorem open_rect {r : Reach} {b0 : Nat} {v : Value} {d : DataW H} {p : List MemPlace} (hv : Value.okWide Try.prog w r b0 23 v) (h : DataW.Trod enc Try.prog w base spare held 23 v d p) :
    ∃ q : R, v = q.val ∧ d = q.data ∧ p = [] ∧ q.wf := by
  obtain ⟨c0, c1, c2, c3, y0, y1, y2, y3, m, rfl, rfl, rfl, h0, h1, h2, h3⟩ := open_agg4 Try.underlying23 (by kernel_rfl) Try.cellsRect hv h
  obtain ⟨a, e0, rfl, wa⟩ := DataW.trod_int Try.underlying2 h0
  obtain ⟨b, e1, rfl, wb⟩ := DataW.trod_int Try.underlying2 h1
  obtain ⟨c, e2, rfl, wc⟩ := DataW.trod_int Try.underlying2 h2
  obtain ⟨e, e3, rfl, we⟩ := DataW.trod_int Try.underlying2 h3
  simp at e0 e1 e2 e3
  subst e0 e1 e2 e3
  exact ⟨⟨a, b, c, e⟩, rfl, rfl, rfl, wa, wb, wc, we⟩
set_option maxRecDepth 100000 in
theorem shut_rect (q : R) (hq : q.wf) : DataW.Trod enc Try.prog w base spare held 23 q.val q.data [] := by
  obtain ⟨wa, wb, wc, we⟩ := hq
  exact shut_agg4 (y0 := (.lit (.int .i64 q.x), [])) (y1 := (.lit (.int .i64 q.y), [])) (y2 := (.lit (.int .i64 q.w), [])) (y3 := (.lit (.int .i64 q.h), [])) Try.underlying23 (by kernel_rfl) Try.cellsRect
    ⟨1, by simp [DataW.trod, Try.underlying2, wa]⟩ ⟨1, by simp [DataW.trod, Try.underlying2, wb]⟩ ⟨1, by simp [DataW.trod, Try.underlying2, wc]⟩ ⟨1, by simp [DataW.trod, Try.underlying2, we]⟩
end
end Go.Proofs.Ytjdnhpbifblneaa
