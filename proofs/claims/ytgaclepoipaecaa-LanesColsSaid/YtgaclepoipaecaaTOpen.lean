/- A page as an argument: opened. -/
import Derived.Test.YtgaclepoipaecaaTInts
import Derived.Test.YtgaclepoipaecaaTOrder
import Derived.Test.YtgaclepoipaecaaNOpen
import Derived.Deep.Slices
namespace Go.Proofs.Ytgaclepoipaecaa
open Go.ChangeShapes Go.WideShapes Go.ChangeAt Go.RowKit Go.Joins Go.Shelf
set_option linter.unusedVariables false
set_option linter.unusedSimpArgs false

section
variable {H : Type} {enc : TypeId × Value → H} {w : World} {base : Nat} {spare : Nat → Bool} {held : Bool}
instance : Inhabited Nd := ⟨Nd.zero⟩
theorem open_nodes {a : Option Addr} {len cap fuel : Nat} {y : DataW H × List MemPlace} (h : DataW.trod enc Try.prog w base spare held fuel 22 [.slice a len cap] = some y) : ∃ ns, PageAt w (.slice a len cap) ns ∧ len ≤ cap ∧ cap ≤ 9223372036854775807 ∧ ns.length = len := by
  rcases Go.Deep.open_slice Try.underlying22 h with ⟨hcs, _⟩ | ⟨x, l, c, m, n, D, Pl, hcs, _, hl, hm, hmm, _, hx⟩
  · simp at hcs
    obtain ⟨rfl, rfl, rfl⟩ := hcs
    exact ⟨[], ⟨by simp, fun n h => (by cases h), .inl ⟨none, 0, rfl, rfl⟩⟩, by omega, by omega, rfl⟩
  · simp at hcs
    obtain ⟨rfl, rfl, rfl⟩ := hcs
    unfold maxLen at hm
    have hlm : len ≤ m := by rw [hmm]; split <;> omega
    rw [Try.cellsNd] at hx
    have each : ∀ i, i < len → ∃ q : Nd, q.ok w ∧ ∀ k v, q.cells[k]? = some v → w.cell? (x.add (i * 34 + k)) = some v := by
      intro i hi
      obtain ⟨cs, h1, h2⟩ := hx i (by omega)
      obtain ⟨_, h3, hc⟩ := World.cells?_some h1
      obtain ⟨q, rfl, hok⟩ := node_cells h3 h2
      refine ⟨q, hok, fun k v hv => ?_⟩
      have hk : k < 34 := by have := (List.getElem?_eq_some_iff.1 hv).1; rwa [q.len] at this
      have := hc k hk
      rw [hv] at this
      rw [Go.Deep.add_add] at this
      exact this
    obtain ⟨q, hq⟩ := Go.Deep.choose_lt each
    refine ⟨(List.range len).map q, ⟨by simp; omega, fun nd hnd => ?_, ?_⟩, hl, hm, by simp⟩
    · obtain ⟨i, hi, rfl⟩ := List.mem_map.1 hnd
      exact (hq i (by simpa using hi)).1
    · obtain ⟨g, off, sp⟩ := x
      by_cases h0 : len = 0
      · subst h0; exact .inl ⟨_, cap, rfl, rfl⟩
      · right
        have c0 := (hq 0 (by omega)).2 0 _ (Nd.c0 _)
        have hs : sp = none := by simpa [Addr.add] using World.cell?_spot c0
        subst hs
        refine ⟨g, off, cap, by simp, fun i nd hi j v hj => ?_⟩
        obtain ⟨hlt, he⟩ := List.getElem?_eq_some_iff.1 hi
        simp at hlt he
        subst he
        have := (hq i hlt).2 j v hj
        rw [add_plain] at this
        rw [show off + i * 34 + j = off + (i * 34 + j) by omega]
        exact this
end
end Go.Proofs.Ytgaclepoipaecaa
