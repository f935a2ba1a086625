/- What the laws of layer 3 want: equal styles are equal; steps that a walk of a law takes. -/
import Derived.Test.YtmhpailpjfieoaaSShown
import Derived.Test.YtmhpailpjfieoaaSOpen
import Derived.Test.YtmhpailpjfieoaaSRefFrame
import Derived.Test.YtmhpailpjfieoaaSRefComp
import Derived.ChangeKeysEq
namespace Go.Proofs.Ytmhpailpjfieoaa
open Go.RowKit Go.Shelf
set_option linter.unusedVariables false

theorem has_info (t : TypeId) (h : (Try.prog.info? t).isSome = true) : ∃ i, Try.prog.info? t = some i := Option.isSome_iff_exists.1 h
theorem pads_eql (a b c d : Int) (X : World) : (Op.equalIn 9999 24 (.agg #[.int .i64 a, .int .i64 b, .int .i64 c, .int .i64 d]) (.agg #[.int .i64 a, .int .i64 b, .int .i64 c, .int .i64 d])).run Try.prog X = .ok true X := by
  obtain ⟨i, hi⟩ := has_info 2 (by kernel_rfl)
  rw [show (9999 : Nat) = 9998 + 1 from rfl, run_equalIn_array X 9998 _ _ Try.underlying24 hi, Try.cellsI64, show List.range 4 = [0, 1, 2, 3] from rfl]
  simp only [Op.eqItems]
  go_simp
theorem gaps_eql (a b : Int) (X : World) : (Op.equalIn 9999 29 (.agg #[.int .i64 a, .int .i64 b]) (.agg #[.int .i64 a, .int .i64 b])).run Try.prog X = .ok true X := by
  obtain ⟨i, hi⟩ := has_info 2 (by kernel_rfl)
  rw [show (9999 : Nat) = 9998 + 1 from rfl, run_equalIn_array X 9998 _ _ Try.underlying29 hi, Try.cellsI64, show List.range 2 = [0, 1] from rfl]
  simp only [Op.eqItems]
  go_simp
theorem lines_eql (a b c d e f g h i j k l : Int) (X : World) : (Op.equalIn 9999 28 (.agg #[.int .i64 a, .int .i64 b, .int .u32 c, .int .i64 d, .int .i64 e, .int .u32 f, .int .i64 g, .int .i64 h, .int .u32 i, .int .i64 j, .int .i64 k, .int .u32 l]) (.agg #[.int .i64 a, .int .i64 b, .int .u32 c, .int .i64 d, .int .i64 e, .int .u32 f, .int .i64 g, .int .i64 h, .int .u32 i, .int .i64 j, .int .i64 k, .int .u32 l])).run Try.prog X = .ok true X := by
  obtain ⟨i, hi⟩ := has_info 27 (by kernel_rfl)
  rw [show (9999 : Nat) = 9998 + 1 from rfl, run_equalIn_array X 9998 _ _ Try.underlying28 hi, Try.cellsLine, show List.range 4 = [0, 1, 2, 3] from rfl]
  simp only [Op.eqItems]
  go_simp
set_option maxRecDepth 100000 in
set_option maxHeartbeats 2000000 in
theorem sty_eql (s : Sty) (X : World) : (binOp .eql 31 (.agg s.cells.toArray) (.agg s.cells.toArray)).run Try.prog X = .ok (.bool true) X := by
  rw [s.cells_lit]
  have h1 := fun X => pads_eql (s.sd 0).p (s.sd 1).p (s.sd 2).p (s.sd 3).p X
  have h2 := fun X => gaps_eql s.g0 s.g1 X
  have h3 := fun X => lines_eql (s.sd 0).s (s.sd 0).w (s.sd 0).c (s.sd 1).s (s.sd 1).w (s.sd 1).c (s.sd 2).s (s.sd 2).w (s.sd 2).c (s.sd 3).s (s.sd 3).w (s.sd 3).c X
  go_simp
theorem four_eql (h : Nat → Int) (X : World) : (binOp .eql 24 (.agg (four h).toArray) (.agg (four h).toArray)).run Try.prog X = .ok (.bool true) X := by
  obtain ⟨i, hi⟩ := has_info 2 (by kernel_rfl)
  rw [run_eql_struct]
  unfold four
  rw [show (10000 : Nat) = 9999 + 1 from rfl, run_equalIn_array X 9999 _ _ Try.underlying24 hi, Try.cellsI64, show List.range 4 = [0, 1, 2, 3] from rfl]
  simp only [Op.eqItems]
  go_simp
theorem yields_row {P : Program} {ops : Array Oper} {S : World → Prop} {o : Oper} {a : Act} {ty : TypeId} {x : Operand} (hw : Region.wanted o (yielded ops a.tmps) = true) (ho : o.op = .load ty x)
    (g : Nat) (hx : a.eval x = .pointer (some ⟨g, 0, none⟩)) (t : TypeId) (cs : Array Value) (fr : Nat × Nat) (d : TypeDesc) (hS : ∀ X, S X → X.heap[g]? = some (.cells cs t fr))
    (hu : P.underlying ty = some d) (hd : (match d with | .struct _ | .array _ _ => true | _ => false) = true) (hi : (P.info? ty).map (·.size) = some cs.size) : YieldsIf P ops S o (.agg cs) a :=
  .inl ⟨hw, fun w hw' => by
    unfold execOp
    simp only [ho, hx, Instr.loadAt, Instr.sureAddr, Sem.run_bind, Sem.run_pure, Result.andThen_ok, run_loadVar_row w g t ty cs fr d (hS w hw') hu hd hi]⟩
end Go.Proofs.Ytmhpailpjfieoaa
