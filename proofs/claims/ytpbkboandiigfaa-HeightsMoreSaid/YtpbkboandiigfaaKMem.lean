/- Slices of structs as lists: where their cells lie; as arguments: opened, and cut. Nothing of the program but its types. -/
import Derived.Test.YtpbkboandiigfaaHBase
import Derived.Test.YtpbkboandiigfaaKPlain
import Derived.Lib.SmallJoins
import Derived.ProofKit
import Derived.OpenShut
import Derived.Deep.Slices
import Derived.BigRegion
import Derived.RegionTactic
namespace Go.Proofs.Ytpbkboandiigfaa
open Go.ChangeShapes Go.WideShapes Go.ChangeAt Go.RowKit Go.Joins Go.Shelf
set_option linter.unusedVariables false
set_option linter.unusedSimpArgs false

theorem add_plainK (b off j : Nat) : (⟨b, off, none⟩ : Addr).add j = ⟨b, off + j, none⟩ := by simp [Addr.add]
/-- a slice of structs: its cells -/
def RowsK {α : Type} [Inhabited α] (cells : α → List Value) (n : Nat) (W : World) (sv : Value) (zs : List α) : Prop :=
  zs.length ≤ 9223372036854775807 ∧ ((∃ (a : Option Addr) (cap : Nat), sv = .slice a 0 cap ∧ zs = []) ∨ ∃ b off cap, sv = .slice (some ⟨b, off, none⟩) zs.length cap ∧ b < W.heap.size ∧ ∀ j, j < zs.length → ∀ i v, (cells (zs[j]!))[i]? = some v → W.cell? ⟨b, off + j * n + i, none⟩ = some v)
theorem RowsK.below {α : Type} [Inhabited α] {cells : α → List Value} {n : Nat} {W W' : World} {sv : Value} {zs : List α} (h : RowsK cells n W sv zs) (hb : Below W.heap.size W W') : RowsK cells n W' sv zs := by
  obtain ⟨hm, ⟨a, cap, rfl, rfl⟩ | ⟨b, off, cap, rfl, hlt, hc⟩⟩ := h
  · exact ⟨hm, .inl ⟨a, cap, rfl, rfl⟩⟩
  · exact ⟨hm, .inr ⟨b, off, cap, rfl, by have := hb.size; omega, fun j hj i v hv => (hb.cell (p := ⟨b, off + j * n + i, none⟩) hlt).trans (hc j hj i v hv)⟩⟩
theorem RowsK.at {α : Type} [Inhabited α] {cells : α → List Value} {n : Nat} {W : World} {p : Option Addr} {m c : Nat} {zs : List α} (h : RowsK cells n W (.slice p m c) zs) (k : Nat) (s : α) (hs : zs[k]? = some s) :
    ∃ b off, p = some ⟨b, off, none⟩ ∧ b < W.heap.size ∧ ∀ i v, (cells s)[i]? = some v → W.cell? ⟨b, off + k * n + i, none⟩ = some v := by
  obtain ⟨hm, ⟨a, cap, e, rfl⟩ | ⟨b, off, cap, e, hlt, hc⟩⟩ := h
  · simp at hs
  · injection e with e1 e2 e3
    have hk := (List.getElem?_eq_some_iff.1 hs).1
    refine ⟨b, off, e1, hlt, fun i v hv => hc k hk i v ?_⟩
    have : zs[k]! = s := by simp [List.getElem!_eq_getElem?_getD, hs]
    rw [this]; exact hv
theorem RowsK.len {α : Type} [Inhabited α] {cells : α → List Value} {n : Nat} {W : World} {p : Option Addr} {m c : Nat} {zs : List α} (h : RowsK cells n W (.slice p m c) zs) : zs.length = m := by
  obtain ⟨hm, ⟨a, cap, e, rfl⟩ | ⟨b, off, cap, e, hlt, hc⟩⟩ := h
  · injection e with e1 e2 e3; subst e2; rfl
  · injection e with e1 e2 e3; exact e2.symm
theorem RowsK.slice {α : Type} [Inhabited α] {cells : α → List Value} {n : Nat} {W : World} {sv : Value} {zs : List α} (h : RowsK cells n W sv zs) : ∃ p c, sv = .slice p zs.length c := by
  obtain ⟨hm, ⟨a, cap, e, rfl⟩ | ⟨b, off, cap, e, hlt, hc⟩⟩ := h
  · exact ⟨a, cap, e⟩
  · exact ⟨_, cap, e⟩
theorem RowsK.none {α : Type} [Inhabited α] {cells : α → List Value} {n : Nat} {W : World} {a : Option Addr} {c : Nat} : RowsK cells n W (.slice a 0 c) ([] : List α) := ⟨by simp, .inl ⟨a, c, rfl, rfl⟩⟩
theorem flat_getK {α : Type} [Inhabited α] (cells : α → List Value) (n : Nat) (hn : ∀ a, (cells a).length = n) (l : List α) (j i : Nat) (hi : i < n) (hj : j < l.length) : (l.flatMap cells)[j * n + i]? = (cells (l[j]!))[i]? := by
  induction l generalizing j with
  | nil => simp at hj
  | cons a l ih =>
    cases j with
    | zero =>
      rw [List.flatMap_cons, List.getElem?_append_left (by rw [hn]; omega)]; simp
    | succ j =>
      rw [List.flatMap_cons, List.getElem?_append_right (by rw [hn, Nat.succ_mul]; omega)]
      rw [show (j + 1) * n + i - (cells a).length = j * n + i by rw [hn, Nat.succ_mul]; omega, ih j (by simpa using hj)]; simp
theorem RowsK.whole {α : Type} [Inhabited α] {cells : α → List Value} {n : Nat} (hn : ∀ a, (cells a).length = n) {W : World} {g t m : Nat} {zs : List α} (h : Whole W g t (zs.flatMap cells)) (hz : zs.length = m) (c : Nat) (hm : m ≤ 9223372036854775807) : RowsK cells n W (.slice (some ⟨g, 0, Option.none⟩) m c) zs := by
  refine ⟨by omega, .inr ⟨g, 0, c, by rw [hz], h.lt, fun j hj i v hv => ?_⟩⟩
  rw [h.cellAt]
  have hi : i < n := by
    have := (List.getElem?_eq_some_iff.1 hv).1; rwa [hn] at this
  rw [show 0 + j * n + i = j * n + i by omega, flat_getK cells n hn zs j i hi hj]; exact hv
/-- a slice of structs that is an argument -/
def RowArg {α : Type} [Inhabited α] (cells : α → List Value) (wf : α → Prop) (n : Nat) (W : World) (a : Option Addr) (len cap : Nat) (zs : List α) : Prop :=
  (∀ s ∈ zs, wf s) ∧ ((a = none ∧ len = 0 ∧ cap = 0 ∧ zs = []) ∨ ∃ x, a = some x ∧ len ≤ cap ∧ cap ≤ maxLen ∧ zs.length = len ∧ ∀ j, j < len → ∀ i v, (cells (zs[j]!))[i]? = some v → W.cell? (x.add (j * n + i)) = some v)
theorem open_rowsK {α : Type} [Inhabited α] {H : Type} {enc : TypeId × Value → H} {w : World} {base : Nat} {spare : Nat → Bool} {held : Bool} {cells : α → List Value} {wf : α → Prop} {n T E : Nat} (hT : Try.prog.underlying T = some (.slice E)) (hE : Try.prog.cellsOf E = n) (hn : ∀ a, (cells a).length = n)
    (one : ∀ {fuel : Nat} {cs : List Value} {x : DataW H × List MemPlace}, DataW.trod enc Try.prog w base spare held fuel E cs = some x → ∃ q : α, cs = cells q ∧ wf q)
    {a : Option Addr} {len cap fuel : Nat} {y : DataW H × List MemPlace} (h : DataW.trod enc Try.prog w base spare held fuel T [.slice a len cap] = some y) : ∃ zs, RowArg cells wf n w a len cap zs := by
  rcases Go.Deep.open_slice hT h with ⟨hcs, _⟩ | ⟨x, l, c, m, nn, D, Pl, hcs, _, hl, hm, hmm, _, hx⟩
  · simp at hcs
    obtain ⟨rfl, rfl, rfl⟩ := hcs
    exact ⟨[], by simp, .inl ⟨rfl, rfl, rfl, rfl⟩⟩
  · simp at hcs
    obtain ⟨rfl, rfl, rfl⟩ := hcs
    have hlm : len ≤ m := by rw [hmm]; split <;> omega
    rw [hE] at hx
    have each : ∀ i, i < len → ∃ q : α, wf q ∧ ∀ k v, (cells q)[k]? = some v → w.cell? (x.add (i * n + k)) = some v := by
      intro i hi
      obtain ⟨cs, h1, h2⟩ := hx i (by omega)
      obtain ⟨q, rfl, hw⟩ := one h2
      obtain ⟨_, _, hc⟩ := World.cells?_some h1
      refine ⟨q, hw, fun k v hv => ?_⟩
      have hk : k < n := by have := (List.getElem?_eq_some_iff.1 hv).1; rwa [hn] at this
      have := hc k hk
      rw [hv] at this
      rw [Go.Deep.add_add] at this
      exact this
    obtain ⟨q, hq⟩ := Go.Deep.choose_lt each
    refine ⟨(List.range len).map q, ?_, .inr ⟨x, rfl, hl, hm, by simp, fun j hj k v hv => ?_⟩⟩
    · intro s hs
      simp at hs
      obtain ⟨i, hi, rfl⟩ := hs
      exact (hq i hi).1
    · refine (hq j hj).2 k v ?_
      have e : ((List.range len).map q)[j]! = q j := by simp [hj]
      rw [e] at hv; exact hv
/-- an argument, cut to its first so many -/
theorem RowArg.take {α : Type} [Inhabited α] {cells : α → List Value} {wf : α → Prop} {n : Nat} (hn : ∀ a, (cells a).length = n) (h0 : 0 < n) {W : World} {a : Option Addr} {len cap : Nat} {zs : List α} (h : RowArg cells wf n W a len cap zs) (k : Nat) :
    RowsK cells n W (.slice a (min len k) cap) (zs.take k) ∧ (zs.take k).length = min len k ∧ len ≤ cap ∧ cap ≤ 9223372036854775807 ∧ (∀ s ∈ zs.take k, wf s) ∧ ((a = none ∧ len = 0 ∧ cap = 0) ∨ ∃ g off m, a = some ⟨g, off, m⟩) := by
  have hw : ∀ s ∈ zs.take k, wf s := fun s hs => h.1 s (List.mem_of_mem_take hs)
  rcases h.2 with ⟨rfl, rfl, rfl, rfl⟩ | ⟨x, rfl, hl, hm, hz, hc⟩
  · exact ⟨by rw [Nat.zero_min, List.take_nil]; exact RowsK.none, by simp, by simp, by simp, hw, .inl ⟨rfl, rfl, rfl⟩⟩
  · unfold maxLen at hm
    obtain ⟨g, off, m⟩ := x
    have ht : (zs.take k).length = min len k := by rw [List.length_take, hz, Nat.min_comm]
    refine ⟨?_, ht, hl, by omega, hw, .inr ⟨g, off, m, rfl⟩⟩
    refine ⟨by omega, ?_⟩
    by_cases h1 : min len k = 0
    · rw [h1] at ht ⊢
      exact .inl ⟨_, _, rfl, List.length_eq_zero_iff.1 ht⟩
    · right
      obtain ⟨v0, hv0⟩ : ∃ v, (cells (zs[0]!))[0]? = some v := ⟨_, List.getElem?_eq_getElem (by rw [hn]; exact h0)⟩
      have c0 := hc 0 (by omega) 0 v0 hv0
      have hs : m = none := by simpa [Addr.add] using World.cell?_spot c0
      subst hs
      refine ⟨g, off, cap, by rw [ht], ?_, fun j hj i v hv => ?_⟩
      · simpa [Addr.add] using cell_lt c0
      · have hj' : j < len := by omega
        have hjk : j < k := by omega
        have e : (zs.take k)[j]! = zs[j]! := by simp [List.getElem!_eq_getElem?_getD, List.getElem?_take, hjk]
        rw [e] at hv
        have := hc j hj' i v hv
        rw [add_plainK] at this
        rw [show off + j * n + i = off + (j * n + i) by omega]
        exact this
end Go.Proofs.Ytpbkboandiigfaa
