/- Some rectangles as an argument, opened; their first sixty. -/
import Derived.Test.YtjdnhpbifblneaaRCut
import Derived.Test.YtjdnhpbifblneaaROpen
import Derived.Deep.Slices
namespace Go.Proofs.Ytjdnhpbifblneaa
open Go.ChangeShapes Go.WideShapes Go.ChangeAt Go.RowKit Go.Joins Go.Shelf
set_option linter.unusedVariables false
set_option linter.unusedSimpArgs false

/-- the rectangles of a slice that is an argument -/
def RectRow (W : World) (a : Option Addr) (len cap : Nat) (zs : List R) : Prop :=
  (a = none ∧ len = 0 ∧ cap = 0 ∧ zs = []) ∨ ∃ x, a = some x ∧ len ≤ cap ∧ cap ≤ maxLen ∧ zs.length = len ∧ ∀ j, j < len → ∀ i v, (zs[j]!).cells[i]? = some v → W.cell? (x.add (j * 4 + i)) = some v
section
variable {H : Type} {enc : TypeId × Value → H} {w : World} {base : Nat} {spare : Nat → Bool} {held : Bool}
set_option maxRecDepth 100000 in
theorem rect_cells {fuel : Nat} {cs : List Value} {y : DataW H × List MemPlace} (h : DataW.trod enc Try.prog w base spare held fuel 23 cs = some y) : ∃ q : R, cs = q.cells := by
  obtain ⟨y0, y1, y2, y3, n, _, hl, h0, h1, h2, h3⟩ := trod_struct4 Try.underlying23 h
  rw [Try.cellsRect] at hl
  match cs, hl with
  | [c0, c1, c2, c3], _ =>
    have k1 : Try.prog.cellsOf 2 = 1 := by kernel_rfl
    simp [k1] at h0 h1 h2 h3
    obtain ⟨a, e0, _, _⟩ := DataW.trod_int Try.underlying2 h0
    obtain ⟨b, e1, _, _⟩ := DataW.trod_int Try.underlying2 h1
    obtain ⟨c, e2, _, _⟩ := DataW.trod_int Try.underlying2 h2
    obtain ⟨e, e3, _, _⟩ := DataW.trod_int Try.underlying2 h3
    simp at e0 e1 e2 e3
    subst e0 e1 e2 e3
    exact ⟨⟨a, b, c, e⟩, rfl⟩
theorem open_rects {a : Option Addr} {len cap fuel : Nat} {y : DataW H × List MemPlace} (h : DataW.trod enc Try.prog w base spare held fuel 24 [.slice a len cap] = some y) : ∃ zs, RectRow w a len cap zs := by
  rcases Go.Deep.open_slice Try.underlying24 h with ⟨hcs, _⟩ | ⟨x, l, c, m, n, D, Pl, hcs, _, hl, hm, hmm, _, hx⟩
  · simp at hcs
    obtain ⟨rfl, rfl, rfl⟩ := hcs
    exact ⟨[], .inl ⟨rfl, rfl, rfl, rfl⟩⟩
  · simp at hcs
    obtain ⟨rfl, rfl, rfl⟩ := hcs
    have hlm : len ≤ m := by rw [hmm]; split <;> omega
    rw [Try.cellsRect] at hx
    have each : ∀ i, i < len → ∃ q : R, ∀ k v, q.cells[k]? = some v → w.cell? (x.add (i * 4 + k)) = some v := by
      intro i hi
      obtain ⟨cs, h1, h2⟩ := hx i (by omega)
      obtain ⟨q, rfl⟩ := rect_cells h2
      obtain ⟨_, _, hc⟩ := World.cells?_some h1
      refine ⟨q, fun k v hv => ?_⟩
      have hk : k < 4 := by have := (List.getElem?_eq_some_iff.1 hv).1; simpa [R.cells] using this
      have := hc k hk
      rw [hv] at this
      rw [Go.Deep.add_add] at this
      exact this
    obtain ⟨q, hq⟩ := Go.Deep.choose_lt each
    refine ⟨(List.range len).map q, .inr ⟨x, rfl, hl, hm, by simp, fun j hj k v hv => ?_⟩⟩
    refine hq j hj k v ?_
    have e : ((List.range len).map q)[j]! = q j := by simp [hj]
    rw [e] at hv; exact hv
/-- the law's cut of an argument -/
theorem cut_any {W : World} {a : Option Addr} {len cap : Nat} {zs : List R} (h : RectRow W a len cap zs) :
    ∃ sv, Rects W sv (zs.take 60) ∧ ∀ X, Calls Try.prog 7 #[.slice a len cap] X fun e X' => e = .returned sv ∧ X' = X := by
  rcases h with ⟨rfl, rfl, rfl, rfl⟩ | ⟨x, rfl, hl, hm, hz, hc⟩
  · exact ⟨.slice none 0 0, ⟨by simp, .inl ⟨none, 0, rfl, rfl⟩⟩, fun X => cut_none X⟩
  · unfold maxLen at hm
    obtain ⟨g, off, m⟩ := x
    refine ⟨.slice (some ⟨g, off, m⟩) (min len 60) cap, ?_, fun X => cut_some g off len cap m X hl (by omega)⟩
    have ht : (zs.take 60).length = min len 60 := by rw [List.length_take, hz, Nat.min_comm]
    refine ⟨by omega, ?_⟩
    by_cases h0 : len = 0
    · subst h0
      have : zs = [] := List.length_eq_zero_iff.1 hz
      subst this
      exact .inl ⟨some ⟨g, off, m⟩, cap, rfl, rfl⟩
    · right
      have c0 := hc 0 (by omega) 0 (.int .i64 (zs[0]!).x) rfl
      have hs : m = none := by simpa [Addr.add] using World.cell?_spot c0
      subst hs
      refine ⟨g, off, cap, by rw [ht], ?_, fun j hj i v hv => ?_⟩
      · simpa [Addr.add] using cell_lt c0
      · have hj' : j < len := by omega
        have hj6 : j < 60 := by omega
        have e : (zs.take 60)[j]! = zs[j]! := by simp [List.getElem!_eq_getElem?_getD, List.getElem?_take, hj6]
        rw [e] at hv
        have := hc j hj' i v hv
        rw [add_plain] at this
        rw [show off + j * 4 + i = off + (j * 4 + i) by omega]
        exact this
end
end Go.Proofs.Ytjdnhpbifblneaa
