/- Slices at variable bounds, of elements of any size. Nothing of the program. -/
import Derived.Test.YtmcgieameodkbaaMem
import Derived.WalkKit
import Derived.BigRegion
import Derived.RegionTactic
import Derived.Deep.Strs
namespace Go.Proofs.Ytmcgieameodkbaa
open Go.RowKit Go.Deep
set_option linter.unusedVariables false
set_option linter.unusedSimpArgs false

theorem exec_sliceZ_l {P : Program} {w : World} {a : Act} {o : Oper} (z : Nat) (t : TypeId) (x lo : Operand) (ho : o.op = .slice t x (some lo) none none) (e : TypeId) (ht : P.underlying t = some (.slice e)) (hs : (sizeOf e).run P w = .ok z w)
    (p : Option Addr) (m c fr : Nat) (hx : a.eval x = .slice p m c) (hl : a.eval lo = .int .i64 fr) (h1 : fr ≤ m) :
    (execOp a.eval o).run P w = .ok (.value (.slice (if c = fr then p else p.map (·.add (fr * z))) (m - fr) (c - fr))) w := by
  have he : P.elem t = e := by simp [Program.elem, ht]
  have ht' : P.underlying t = some (.slice (P.elem t)) := by rw [he]; exact ht
  unfold execOp
  simp only [ho, hx, Option.map_some, Option.map_none, hl]
  simp [run_sliceAt_slice (P := P) w t _ _ _ _ ht', run_slice_l (P := P) w t p m c ht' .i64 (fr : Int) (by omega) (by omega), he, hs, sliced, Result.andThen]
theorem exec_sliceZ_h {P : Program} {w : World} {a : Act} {o : Oper} (z : Nat) (t : TypeId) (x hi : Operand) (ho : o.op = .slice t x none (some hi) none) (e : TypeId) (ht : P.underlying t = some (.slice e)) (hs : (sizeOf e).run P w = .ok z w)
    (p : Option Addr) (m c to : Nat) (hx : a.eval x = .slice p m c) (hh : a.eval hi = .int .i64 to) (h2 : to ≤ c) :
    (execOp a.eval o).run P w = .ok (.value (.slice p to c)) w := by
  have he : P.elem t = e := by simp [Program.elem, ht]
  have ht' : P.underlying t = some (.slice (P.elem t)) := by rw [he]; exact ht
  unfold execOp
  simp only [ho, hx, Option.map_some, Option.map_none, hh]
  simp [run_sliceAt_slice (P := P) w t _ _ _ _ ht', run_slice_h (P := P) w t p m c ht' .i64 (to : Int) (by omega) (by omega), he, hs, sliced, Result.andThen]
  intro _; cases p <;> simp [go_sem]
end Go.Proofs.Ytmcgieameodkbaa
