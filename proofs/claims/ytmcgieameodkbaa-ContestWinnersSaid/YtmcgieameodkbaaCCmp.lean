/- Sides held against each other in a region, while they stay whole. -/
import Derived.Test.YtmcgieameodkbaaCEq
import Derived.Test.YtmcgieameodkbaaCLoad
namespace Go.Proofs.Ytmcgieameodkbaa
open Go.RowKit Go.Shelf
set_option linter.unusedVariables false
set_option linter.unusedSimpArgs false

theorem wpList_binC {P : Program} {ops : Array Oper} {rest : List Oper} {o : Oper} {a : Act} {w : World} {Q : Exit → Act → World → Prop} (hgd : Region.wanted o (yielded ops a.tmps) = true) (b : BinOp) (t t2 : TypeId) (x y : Operand) (ho : o.op = .binOp b t x y t2)
    (u v r : Value) (hx : a.eval x = u) (hy : a.eval y = v) (he : (eqGuard b t x y u v).run P w = .ok () w) (hr : (binOp b t u v).run P w = .ok r w)
    (h : wpList P ops Q rest (a.put o.dst r) w) : wpList P ops Q (o :: rest) a w :=
  wpList_step fun K hK => by
    rw [if_pos hgd]
    unfold Oper.wp execOp
    simp only [ho, hx, hy, Sem.run_bind, Sem.run_pure, Result.andThen_ok, he, hr]
    exact hK _ _ h
theorem side_gneq (x y : Operand) (a b : Si) (X : World) : (eqGuard .neq 26 x y a.val b.val).run Try.prog X = .ok () X := by
  unfold Si.val; go_simp
theorem side_geql (x y : Operand) (a b : Si) (X : World) : (eqGuard .eql 26 x y a.val b.val).run Try.prog X = .ok () X := by
  unfold Si.val; go_simp
end Go.Proofs.Ytmcgieameodkbaa
