/- Rows of cells as an argument, opened; numbers as an argument; the law's own cut of rows. -/
import Derived.Test.YtcgnldcdcbnofaaGMake
import Derived.Deep.Slices
import Derived.Lib.SmallJoins
import Derived.Deep.Strs
namespace Go.Proofs.Ytcgnldcdcbnofaa
open Go.ChangeShapes Go.WideShapes Go.ChangeAt Go.RowKit Go.Joins Go.Shelf Go.Deep
set_option linter.unusedVariables false
set_option linter.unusedSimpArgs false

section
variable {H : Type} {enc : TypeId × Value → H} {w : World} {base : Nat} {spare : Nat → Bool} {held : Bool}
theorem addr_none (b off j : Nat) : (⟨b, off, none⟩ : Addr).add j = ⟨b, off + j, none⟩ := by unfold Addr.add; split <;> simp_all
theorem Try.cellsSp : Try.prog.cellsOf 48 = 3 := by kernel_rfl
set_option maxRecDepth 100000 in
theorem sp_cells {fuel : Nat} {cs : List Value} {y : DataW H × List MemPlace} (h : DataW.trod enc Try.prog w base spare held fuel 48 cs = some y) : ∃ q : Sp, cs = q.cells := by
  obtain ⟨y0, y1, y2, n, _, hl, h0, h1, h2⟩ := trod_struct3 Try.underlying48 h
  rw [Try.cellsSp] at hl
  match cs, hl with
  | [c0, c1, c2], _ =>
    have k1 : Try.prog.cellsOf 3 = 1 := by kernel_rfl
    simp [k1] at h0 h1 h2
    obtain ⟨a, e0, _, _⟩ := DataW.trod_int Try.underlying3 h0
    obtain ⟨b, e1, _, _⟩ := DataW.trod_int Try.underlying3 h1
    obtain ⟨c, e2, _, _⟩ := DataW.trod_int Try.underlying3 h2
    simp at e0 e1 e2
    subst e0 e1 e2
    exact ⟨⟨a, b, c⟩, rfl⟩
set_option maxRecDepth 100000 in
theorem open_row {v : Value} {fuel : Nat} {y : DataW H × List MemPlace} (h : DataW.trod enc Try.prog w base spare held fuel 49 [v] = some y) : ∃ xs, RowIn w.heap.size w v xs := by
  rcases Go.Deep.open_slice Try.underlying49 h with ⟨hcs, _⟩ | ⟨x, l, c, m, n, D, Pl, hcs, _, hl, hm, hmm, _, hx⟩
  · simp at hcs; subst hcs
    exact ⟨[], by simp, .inl ⟨none, 0, rfl, rfl⟩⟩
  · simp at hcs; subst hcs
    unfold maxLen at hm
    have hlm : l ≤ m := by rw [hmm]; split <;> omega
    rw [Try.cellsSp] at hx
    have each : ∀ i, i < l → ∃ q : Sp, ∀ k u, q.cells[k]? = some u → w.cell? (x.add (i * 3 + k)) = some u := by
      intro i hi
      obtain ⟨cs, h1, h2⟩ := hx i (by omega)
      obtain ⟨q, rfl⟩ := sp_cells h2
      obtain ⟨_, _, hc⟩ := World.cells?_some h1
      refine ⟨q, fun k v hv => ?_⟩
      have hk : k < 3 := by have := (List.getElem?_eq_some_iff.1 hv).1; simpa [Sp.cells] using this
      have := hc k hk
      rw [hv] at this
      rw [Go.Deep.add_add] at this
      exact this
    obtain ⟨q, hq⟩ := @Go.Deep.choose_lt Sp ⟨Sp.zero⟩ _ _ each
    obtain ⟨g, off, sp⟩ := x
    by_cases h0 : l = 0
    · subst h0; exact ⟨[], by simp, .inl ⟨_, c, rfl, rfl⟩⟩
    · have c0 := hq 0 (by omega) 0 _ rfl
      have hs : sp = none := by simpa [Addr.add] using World.cell?_spot c0
      subst hs
      refine ⟨(List.range l).map q, by simp; omega, .inr ⟨g, off, c, by simp, ?_, fun j z hz => ?_⟩⟩
      · rw [addr_none] at c0; exact cell_lt c0
      · have hj : j < l := by have := (List.getElem?_eq_some_iff.1 hz).1; simpa using this
        have e : z = q j := by simp [hj] at hz; exact hz.symm
        subst e
        have a0 := hq j hj 0 _ rfl
        have a1 := hq j hj 1 _ rfl
        have a2 := hq j hj 2 _ rfl
        rw [addr_none] at a0 a1 a2
        exact ⟨a0, by rw [Nat.add_assoc]; exact a1, by rw [Nat.add_assoc]; exact a2⟩
set_option maxRecDepth 100000 in
theorem open_rows {a : Option Addr} {len cap fuel : Nat} {y : DataW H × List MemPlace} (h : DataW.trod enc Try.prog w base spare held fuel 25 [.slice a len cap] = some y) : ∃ z : (Nat → Value) × List (List Sp), RowsIn w.heap.size w (.slice a len cap) z.1 z.2 ∧ z.2.length = len := by
  rcases Go.Deep.open_slice1 Try.underlying25 (by kernel_rfl) h with ⟨hcs, _⟩ | ⟨x, l, c, m, n, V, D, Pl, hcs, _, hl, hm, hmm, _, hx⟩
  · simp at hcs
    obtain ⟨rfl, rfl, rfl⟩ := hcs
    exact ⟨(fun _ => .slice none 0 0, []), ⟨by simp, .inl ⟨none, 0, rfl, rfl⟩⟩, rfl⟩
  · simp at hcs
    obtain ⟨rfl, rfl, rfl⟩ := hcs
    unfold maxLen at hm
    have hlm : len ≤ m := by rw [hmm]; split <;> omega
    have each : ∀ i, i < len → ∃ xs, RowIn w.heap.size w (V i) xs := fun i hi => open_row (hx i (by omega)).2
    obtain ⟨q, hq⟩ := Go.Deep.choose_lt each
    obtain ⟨g, off, sp⟩ := x
    by_cases h0 : len = 0
    · subst h0; exact ⟨(V, []), ⟨by simp, .inl ⟨_, cap, rfl, rfl⟩⟩, rfl⟩
    · have c0 := (hx 0 (by omega)).1
      have hs : sp = none := by simpa [Addr.add] using World.cell?_spot c0
      subst hs
      refine ⟨(V, (List.range len).map q), ⟨by simp; omega, .inr ⟨g, off, cap, by simp, ?_, fun j z hz => ?_⟩⟩, by simp⟩
      · rw [addr_none] at c0; exact cell_lt c0
      · have hj : j < len := by have := (List.getElem?_eq_some_iff.1 hz).1; simpa using this
        have e : z = q j := by simp [hj] at hz; exact hz.symm
        subst e
        have a0 := (hx j (by omega)).1
        rw [addr_none] at a0
        exact ⟨a0, hq j hj⟩
set_option maxRecDepth 100000 in
theorem open_intsG {a : Option Addr} {len cap fuel : Nat} {y : DataW H × List MemPlace} (h : DataW.trod enc Try.prog w base spare held fuel 26 [.slice a len cap] = some y) : ∃ zs, Ints w (.slice a len cap) zs ∧ zs.length = len ∧ len ≤ cap ∧ cap ≤ maxLen := by
  rcases Go.Deep.open_slice1 Try.underlying26 (by kernel_rfl) h with ⟨hcs, _⟩ | ⟨x, l, c, m, n, V, D, Pl, hcs, _, hl, hm, hmm, _, hx⟩
  · simp at hcs
    obtain ⟨rfl, rfl, rfl⟩ := hcs
    exact ⟨[], ⟨by simp, .inl ⟨none, 0, rfl, rfl⟩⟩, rfl, by omega, by unfold maxLen; omega⟩
  · simp at hcs
    obtain ⟨rfl, rfl, rfl⟩ := hcs
    have hm' := hm
    unfold maxLen at hm
    have hlm : len ≤ m := by rw [hmm]; split <;> omega
    have each : ∀ i, i < len → ∃ z : Int, w.cell? (x.add i) = some (.int .i64 z) := by
      intro i hi
      obtain ⟨c0, t0⟩ := hx i (by omega)
      obtain ⟨z, e0, _, _⟩ := DataW.trod_int Try.underlying3 t0
      simp at e0
      exact ⟨z, by rw [c0, e0]⟩
    obtain ⟨q, hq⟩ := Go.Deep.choose_lt each
    obtain ⟨g, off, sp⟩ := x
    by_cases h0 : len = 0
    · subst h0; exact ⟨[], ⟨by simp, .inl ⟨_, cap, rfl, rfl⟩⟩, rfl, hl, hm'⟩
    · have c0 := hq 0 (by omega)
      have hs : sp = none := by simpa [Addr.add] using World.cell?_spot c0
      subst hs
      refine ⟨(List.range len).map q, ⟨by simp; omega, .inr ⟨g, off, cap, by simp, fun j hj => ?_⟩⟩, by simp, hl, hm'⟩
      have hj' : j < len := by simpa using hj
      have a0 := hq j hj'
      rw [addr_none] at a0
      rw [a0]; simp [hj']
end
/-- the first of some numbers -/
theorem ints_take {W : World} {a : Option Addr} {l c : Nat} {zs : List Int} (h : Ints W (.slice a l c) zs) (hl : zs.length = l) (k : Nat) (hk : k ≤ l) : Ints W (.slice a k c) (zs.take k) := by
  have hlk : (zs.take k).length = k := by rw [List.length_take]; omega
  refine ⟨by have := h.1; omega, ?_⟩
  rcases h.2 with ⟨a', c', e, rfl⟩ | ⟨b, off, c', e, hc⟩
  · left
    injection e with e1 e2 e3
    subst e1 e3
    simp at hl
    exact ⟨a, c, by simp; omega, by simp⟩
  · right
    injection e with e1 e2 e3
    subst e1 e3
    refine ⟨b, off, c, by rw [hlk], fun j hj => ?_⟩
    rw [hc j (by omega)]
    rw [List.getElem?_take_of_lt (by omega)]
/-- the law's cut -/
def trimC (x : Sp) : Sp := if 30 < x.c ∧ x.c ≤ 1000 then ⟨x.n, 30, x.r⟩ else x
def cutG (rows : List (List Sp)) : List (List Sp) := (rows.take 20).map fun r => (r.take 10).map trimC
theorem own_row {N B : Nat} {X : World} {v : Value} {xs : List Sp} (h : X.ownsRow N 48 3 v xs.length (flat3 xs)) (hl : xs.length ≤ 9223372036854775807) (hB : X.heap.size ≤ B) : RowIn B X v xs := by
  rcases h.2 with ⟨rfl, h0⟩ | ⟨g, cap, cur, rfl, hb, hg, _, _, hcs, htk⟩
  · exact ⟨hl, .inl ⟨none, 0, rfl, List.length_eq_zero_iff.1 h0⟩⟩
  · refine ⟨hl, .inr ⟨g, 0, cap, rfl, Nat.lt_of_lt_of_le (Array.getElem?_eq_some_iff.1 hg).1 hB, fun j x hx => ?_⟩⟩
    have key : ∀ o u, (flat3 xs)[o]? = some u → X.cell? ⟨g, o, none⟩ = some u := fun o u hu => by
      rw [← htk] at hu
      have hj := (List.getElem?_eq_some_iff.1 hu).1
      rw [List.length_take] at hj
      rw [List.getElem?_take_of_lt (by omega)] at hu
      simp only [World.cell?, hg]
      rw [← Array.getElem?_toList]; exact hu
    have k3 : ∀ (L : List Sp) (i : Nat) (x : Sp) (j : Nat) (u : Value), L[i]? = some x → x.cells[j]? = some u → (flat3 L)[i * 3 + j]? = some u := by
      intro L
      induction L with
      | nil => intro i x j u h; simp at h
      | cons y L ih =>
        intro i x j u h hu
        have hl : y.cells.length = 3 := rfl
        have e : flat3 (y :: L) = y.cells ++ flat3 L := rfl
        match i, h with
        | 0, h =>
          simp at h; subst h
          rw [e, Nat.zero_mul, Nat.zero_add, List.getElem?_append_left (List.getElem?_eq_some_iff.1 hu).1]; exact hu
        | i + 1, h =>
          rw [e, List.getElem?_append_right (by rw [hl]; omega), hl, show (i + 1) * 3 + j - 3 = i * 3 + j by omega]
          exact ih i x j u (by simpa using h) hu
    rw [Nat.zero_add]
    exact ⟨key _ _ (k3 xs j x 0 _ hx rfl), key _ _ (k3 xs j x 1 _ hx rfl), key _ _ (k3 xs j x 2 _ hx rfl)⟩
end Go.Proofs.Ytcgnldcdcbnofaa
