/- Slices at variable bounds, of elements of any size. Nothing of the program. -/
/- Lists of numbers as an argument of a law, and their cut. Written by mk_SpSums.py. -/
import Derived.Test.YtejbngjeleiacaaMem
import Derived.WalkKit
import Derived.BigRegion
import Derived.RegionTactic
import Derived.Deep.Strs
import Derived.Test.YtejbngjeleiacaaSpLaw
import Derived.Deep.Slices
import Derived.Lib.SmallJoins
import Derived.ProofKit
namespace Go.Proofs.Ytejbngjeleiacaa
open Go.RowKit Go.Deep
set_option linter.unusedVariables false
set_option linter.unusedSimpArgs false

theorem exec_sliceZ_l {P : Program} {w : World} {a : Act} {o : Oper} (z : Nat) (t : TypeId) (x lo : Operand) (ho : o.op = .slice t x (some lo) none none) (e : TypeId) (ht : P.underlying t = some (.slice e)) (hs : (sizeOf e).run P w = .ok z w)
    (p : Option Addr) (m c fr : Nat) (hx : a.eval x = .slice p m c) (hl : a.eval lo = .int .i64 fr) (h1 : fr ≤ m) :
    (execOp a.eval o).run P w = .ok (.value (.slice (if c = fr then p else p.map (·.add (fr * z))) (m - fr) (c - fr))) w := by
  have he : P.elem t = e := by simp [Program.elem, ht]
  have ht' : P.underlying t = some (.slice (P.elem t)) := by rw [he]; exact ht
  unfold execOp
  simp only [ho, hx, Option.map_some, Option.map_none, hl]
  simp [run_sliceAt_slice (P := P) w t _ _ _ _ ht', run_slice_l (P := P) w t p m c ht' .i64 (fr : Int) (by omega) (by omega), he, hs, sliced, Result.andThen]
theorem exec_sliceZ_h {P : Program} {w : World} {a : Act} {o : Oper} (z : Nat) (t : TypeId) (x hi : Operand) (ho : o.op = .slice t x none (some hi) none) (e : TypeId) (ht : P.underlying t = some (.slice e)) (hs : (sizeOf e).run P w = .ok z w)
    (p : Option Addr) (m c to : Nat) (hx : a.eval x = .slice p m c) (hh : a.eval hi = .int .i64 to) (h2 : to ≤ c) :
    (execOp a.eval o).run P w = .ok (.value (.slice p to c)) w := by
  have he : P.elem t = e := by simp [Program.elem, ht]
  have ht' : P.underlying t = some (.slice (P.elem t)) := by rw [he]; exact ht
  unfold execOp
  simp only [ho, hx, Option.map_some, Option.map_none, hh]
  simp [run_sliceAt_slice (P := P) w t _ _ _ _ ht', run_slice_h (P := P) w t p m c ht' .i64 (to : Int) (by omega) (by omega), he, hs, sliced, Result.andThen]
  intro _; cases p <;> simp [go_sem]
end Go.Proofs.Ytejbngjeleiacaa

namespace Go.Proofs.Ytejbngjeleiacaa
open Go.RowKit Go.Shelf
set_option linter.unusedVariables false
set_option linter.unusedSimpArgs false
attribute [local go_sem] Oper.semAt_some

section
variable {H : Type} {enc : TypeId × Value → H} {w : World} {base : Nat} {spare : Nat → Bool} {held : Bool}
set_option maxRecDepth 100000 in
theorem open_ints64 {a : Option Addr} {len cap fuel : Nat} {y : DataW H × List MemPlace} (h : DataW.trod enc Try.prog w base spare held fuel 32 [.slice a len cap] = some y) : ∃ zs, Ints w (.slice a len cap) zs ∧ zs.length = len ∧ len ≤ cap ∧ cap ≤ maxLen := by
  rcases Go.Deep.open_slice1 Try.underlying32 (by kernel_rfl) h with ⟨hcs, _⟩ | ⟨x, l, c, m, n, V, D, Pl, hcs, _, hl, hm, hmm, _, hx⟩
  · simp at hcs
    obtain ⟨rfl, rfl, rfl⟩ := hcs
    exact ⟨[], ⟨by simp, .inl ⟨none, 0, rfl, rfl⟩⟩, rfl, by omega, by unfold maxLen; omega⟩
  · simp at hcs
    obtain ⟨rfl, rfl, rfl⟩ := hcs
    have hm' := hm
    unfold maxLen at hm
    have hlm : len ≤ m := by rw [hmm]; split <;> omega
    have each : ∀ i, i < len → ∃ z : Int, w.cell? (x.add i) = some (.int .i64 z) := by
      intro i hi
      obtain ⟨c0, t0⟩ := hx i (by omega)
      obtain ⟨z, e0, _, _⟩ := DataW.trod_int Try.underlying2 t0
      simp at e0
      exact ⟨z, by rw [c0, e0]⟩
    obtain ⟨q, hq⟩ := Go.Deep.choose_lt each
    obtain ⟨g, off, sp⟩ := x
    by_cases h0 : len = 0
    · subst h0; exact ⟨[], ⟨by simp, .inl ⟨_, cap, rfl, rfl⟩⟩, rfl, hl, hm'⟩
    · have c0 := hq 0 (by omega)
      have hs : sp = none := by simpa [Addr.add] using World.cell?_spot c0
      subst hs
      refine ⟨(List.range len).map q, ⟨by simp; omega, .inr ⟨g, off, cap, by simp, fun j hj => ?_⟩⟩, by simp, hl, hm'⟩
      have hj' : j < len := by simpa using hj
      have a0 := hq j hj'
      rw [add_plainK] at a0
      rw [a0]; simp [hj']
end
theorem ints_takeR {W : World} {a : Option Addr} {l c : Nat} {zs : List Int} (h : Ints W (.slice a l c) zs) (hl : zs.length = l) (k : Nat) (hk : k ≤ l) : Ints W (.slice a k c) (zs.take k) := by
  have hlk : (zs.take k).length = k := by rw [List.length_take]; omega
  obtain ⟨h1, ⟨a', c', e, rfl⟩ | ⟨b, off, c', e, hc⟩⟩ := h
  · injection e with e1 e2 e3
    subst e1 e3
    simp at hl
    refine ⟨by omega, .inl ⟨a, c, ?_, by simp⟩⟩
    rw [show k = 0 by omega]
  · injection e with e1 e2 e3
    subst e1 e3
    refine ⟨by omega, .inr ⟨b, off, c, by rw [hlk], fun j hj => ?_⟩⟩
    rw [hlk] at hj
    have := hc j (by omega)
    rwa [List.getElem?_take_of_lt hj]
theorem wpList_valS {P : Program} {ops : Array Oper} {w : World} {Q : Exit → Act → World → Prop} {a : Act} {o : Oper} {rest : List Oper} (dst : Option Tmp) (hd : o.dst = dst) (hg : o.guard = none) (v : Value) (hr : (execOp a.eval o).run P w = .ok (.value v) w) (h : wpList P ops Q rest (a.put dst v) w) : wpList P ops Q (o :: rest) a w := by
  subst hd
  exact wpList_plain hg fun K hK => by
    unfold Oper.wp
    rw [hr]
    exact hK _ _ h
theorem ints_nums {W : World} {a : Option Addr} {k c : Nat} {zs : List Int} (h : Ints W (.slice a k c) zs) (hc : k ≤ c) (hm : c ≤ 9223372036854775807) : Nums .i64 W (.slice a k c) zs := by
  obtain ⟨h1, ⟨a', c', e, rfl⟩ | ⟨b, off, c', e, hcs⟩⟩ := h
  · exact ⟨h1, .inl ⟨a', c', e, by simp only [Value.slice.injEq] at e; omega, rfl⟩⟩
  · exact ⟨h1, .inr ⟨b, off, c', e, by simp only [Value.slice.injEq] at e; omega, by simp only [Value.slice.injEq] at e; omega, hcs⟩⟩
end Go.Proofs.Ytejbngjeleiacaa
