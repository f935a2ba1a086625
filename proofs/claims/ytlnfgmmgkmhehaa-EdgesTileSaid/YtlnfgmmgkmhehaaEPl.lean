/- Places as an argument, opened; the first of them. -/
import Derived.Test.YtlnfgmmgkmhehaaELaw
import Derived.Lib.SmallJoins
namespace Go.Proofs.Ytlnfgmmgkmhehaa
open Go.ChangeShapes Go.WideShapes Go.RowKit Go.Joins Go.Shelf Go.Deep
set_option linter.unusedVariables false
set_option linter.unusedSimpArgs false

/-- a place, of whatever numbers -/
structure Pz where
  n : Int
  r : Int
  c : Int
  h : Int
  w : Int
deriving DecidableEq
def Pz.cells (p : Pz) : List Value := [.int .i64 p.n, .int .i64 p.r, .int .i64 p.c, .int .i64 p.h, .int .i64 p.w]
/-- places lie in memory -/
def PsAt (W : World) (v : Value) (L : List Pz) : Prop :=
  L.length ≤ 9223372036854775807 ∧ ((∃ a c, v = .slice a 0 c ∧ L = []) ∨ ∃ b off c, v = .slice (some ⟨b, off, none⟩) L.length c ∧ ∀ i x, L[i]? = some x →
    W.cell? ⟨b, off + i * 5, none⟩ = some (.int .i64 x.n) ∧ W.cell? ⟨b, off + i * 5 + 1, none⟩ = some (.int .i64 x.r) ∧ W.cell? ⟨b, off + i * 5 + 2, none⟩ = some (.int .i64 x.c) ∧ W.cell? ⟨b, off + i * 5 + 3, none⟩ = some (.int .i64 x.h) ∧ W.cell? ⟨b, off + i * 5 + 4, none⟩ = some (.int .i64 x.w))
theorem PsAt.below {W W' : World} {v : Value} {L : List Pz} (h : PsAt W v L) (hb : Below W.heap.size W W') : PsAt W' v L := by
  refine ⟨h.1, h.2.imp id ?_⟩
  rintro ⟨b, off, c, e, hc⟩
  refine ⟨b, off, c, e, fun i x hx => ?_⟩
  obtain ⟨c0, c1, c2, c3, c4⟩ := hc i x hx
  have hl := cell_lt c0
  have hq : ∀ o, W'.cell? ⟨b, o, none⟩ = W.cell? ⟨b, o, none⟩ := fun o => hb.cell (p := ⟨b, o, none⟩) hl
  rw [hq, hq, hq, hq, hq]
  exact ⟨c0, c1, c2, c3, c4⟩
def I64 (x : Int) : Prop := -9223372036854775808 ≤ x ∧ x ≤ 9223372036854775807
/-- each number of a place fits -/
def Pz.ok (p : Pz) : Prop := I64 p.n ∧ I64 p.r ∧ I64 p.c ∧ I64 p.h ∧ I64 p.w
section
variable {H : Type} {enc : TypeId × Value → H} {w : World} {base : Nat} {spare : Nat → Bool} {held : Bool}
theorem Try.cellsPz : Try.prog.cellsOf 27 = 5 := by kernel_rfl
theorem i64_wf {a : Int} (h : (Lit.int .i64 a).wf = true) : I64 a := by
  have h' : (decide (-9223372036854775808 ≤ a) && decide (a ≤ 9223372036854775807)) = true := h
  simp at h'
  exact h'
set_option maxRecDepth 100000 in
theorem place_cells {fuel : Nat} {cs : List Value} {y : DataW H × List MemPlace} (h : DataW.trod enc Try.prog w base spare held fuel 27 cs = some y) : ∃ q : Pz, cs = q.cells ∧ q.ok := by
  obtain ⟨xs, n, _, _, hl, hlen, hf⟩ := DataW.trod_struct Try.underlying27 h
  rw [Try.cellsPz] at hl
  match cs, hl, xs, hlen with
  | [c0, c1, c2, c3, c4], _, [y0, y1, y2, y3, y4], _ =>
    have k1 : Try.prog.cellsOf 3 = 1 := by kernel_rfl
    have h0 := hf 0 _ rfl
    have h1 := hf 1 _ rfl
    have h2 := hf 2 _ rfl
    have h3 := hf 3 _ rfl
    have h4 := hf 4 _ rfl
    simp [k1] at h0 h1 h2 h3 h4
    obtain ⟨a0, e0, _, w0⟩ := DataW.trod_int Try.underlying3 h0
    obtain ⟨a1, e1, _, w1⟩ := DataW.trod_int Try.underlying3 h1
    obtain ⟨a2, e2, _, w2⟩ := DataW.trod_int Try.underlying3 h2
    obtain ⟨a3, e3, _, w3⟩ := DataW.trod_int Try.underlying3 h3
    obtain ⟨a4, e4, _, w4⟩ := DataW.trod_int Try.underlying3 h4
    simp at e0 e1 e2 e3 e4
    subst e0 e1 e2 e3 e4
    exact ⟨⟨a0, a1, a2, a3, a4⟩, rfl, i64_wf w0, i64_wf w1, i64_wf w2, i64_wf w3, i64_wf w4⟩
set_option maxRecDepth 100000 in
theorem open_places {a : Option Addr} {len cap fuel : Nat} {y : DataW H × List MemPlace} (h : DataW.trod enc Try.prog w base spare held fuel 25 [.slice a len cap] = some y) : ∃ L, PsAt w (.slice a len cap) L ∧ L.length = len ∧ len ≤ cap ∧ cap ≤ maxLen ∧ ∀ p ∈ L, p.ok := by
  rcases Go.Deep.open_slice Try.underlying25 h with ⟨hcs, _⟩ | ⟨x, l, c, m, n, D, Pl, hcs, _, hl, hm, hmm, _, hx⟩
  · simp at hcs
    obtain ⟨rfl, rfl, rfl⟩ := hcs
    exact ⟨[], ⟨by simp, .inl ⟨none, 0, rfl, rfl⟩⟩, rfl, by omega, by unfold maxLen; omega, by simp⟩
  · simp at hcs
    obtain ⟨rfl, rfl, rfl⟩ := hcs
    have hm' := hm
    unfold maxLen at hm
    have hlm : len ≤ m := by rw [hmm]; split <;> omega
    rw [Try.cellsPz] at hx
    have each : ∀ i, i < len → ∃ q : Pz, q.ok ∧ ∀ k u, q.cells[k]? = some u → w.cell? (x.add (i * 5 + k)) = some u := by
      intro i hi
      obtain ⟨cs, h1, h2⟩ := hx i (by omega)
      obtain ⟨q, rfl, hq⟩ := place_cells h2
      obtain ⟨_, _, hc⟩ := World.cells?_some h1
      refine ⟨q, hq, fun k v hv => ?_⟩
      have hk : k < 5 := by have := (List.getElem?_eq_some_iff.1 hv).1; simpa [Pz.cells] using this
      have := hc k hk
      rw [hv] at this
      rw [Go.Deep.add_add] at this
      exact this
    obtain ⟨q, hq⟩ := @Go.Deep.choose_lt Pz ⟨⟨0, 0, 0, 0, 0⟩⟩ _ _ each
    refine ⟨(List.range len).map q, ⟨by simp; omega, ?_⟩, by simp, hl, hm', ?_⟩
    · obtain ⟨g, off, sp⟩ := x
      by_cases h0 : len = 0
      · subst h0; exact .inl ⟨_, cap, rfl, rfl⟩
      · right
        have c0 := (hq 0 (by omega)).2 0 _ rfl
        have hs : sp = none := by simpa [Addr.add] using World.cell?_spot c0
        subst hs
        refine ⟨g, off, cap, by simp, fun j z hz => ?_⟩
        have hj : j < len := by have := (List.getElem?_eq_some_iff.1 hz).1; simpa using this
        have e : z = q j := by simp [hj] at hz; exact hz.symm
        subst e
        have a0 := (hq j hj).2 0 _ rfl
        have a1 := (hq j hj).2 1 _ rfl
        have a2 := (hq j hj).2 2 _ rfl
        have a3 := (hq j hj).2 3 _ rfl
        have a4 := (hq j hj).2 4 _ rfl
        rw [add_plainE] at a0 a1 a2 a3 a4
        simp only [Nat.add_assoc] at *
        exact ⟨a0, a1, a2, a3, a4⟩
    · intro p hp
      obtain ⟨i, hi, rfl⟩ := List.mem_map.1 hp
      exact (hq i (List.mem_range.1 hi)).1
end
/-- the first of some places -/
theorem places_take {W : World} {a : Option Addr} {l c : Nat} {L : List Pz} (h : PsAt W (.slice a l c) L) (hl : L.length = l) (k : Nat) (hk : k ≤ l) : PsAt W (.slice a k c) (L.take k) := by
  have hlk : (L.take k).length = k := by rw [List.length_take]; omega
  refine ⟨by have := h.1; omega, ?_⟩
  rcases h.2 with ⟨a', c', e, rfl⟩ | ⟨b, off, c', e, hc⟩
  · left
    injection e with e1 e2 e3
    subst e1 e3
    simp at hl
    exact ⟨a, c, by simp; omega, by simp⟩
  · right
    injection e with e1 e2 e3
    subst e1 e3
    refine ⟨b, off, c, by rw [hlk], fun j x hx => ?_⟩
    have hj : j < k := by have := (List.getElem?_eq_some_iff.1 hx).1; omega
    exact hc j x (by rwa [List.getElem?_take_of_lt hj] at hx)
end Go.Proofs.Ytlnfgmmgkmhehaa
