/- Bands in memory: a list of bands in one block; what is stored into it. -/
import Derived.Test.YtmljndggblfeiaaKRight
import Derived.Test.YtmljndggblfeiaaROwn
import Derived.Test.YtmljndggblfeiaaRound
import Derived.Deep.MidRow
import Derived.Laws.MakeOwn
namespace Go.Proofs.Ytmljndggblfeiaa
open Go.RowKit Go.Shelf
set_option linter.unusedVariables false
set_option linter.unusedSimpArgs false

theorem Ba.cells_len (b : Ba) : b.cells.length = 4 := rfl
theorem Sz.cells_len (b : Sz) : b.cells.length = 2 := rfl
theorem Ne.cells_len (b : Ne) : b.cells.length = 9 := rfl
/-- a list of bands is what a block holds -/
def BsAt (G : Nat) (bs : List Ba) (X : World) : Prop := Whole X G 39 (bs.flatMap Ba.cells)
theorem BsAt.below {G B : Nat} {bs : List Ba} {X Y : World} (h : BsAt G bs X) (hb : Below B X Y) (hg : G < B) : BsAt G bs Y := Whole.below h hb hg
theorem BsAt.lt {G : Nat} {bs : List Ba} {X : World} (h : BsAt G bs X) : G < X.heap.size := Whole.lt h
theorem BsAt.rows {G : Nat} {bs : List Ba} {X : World} (h : BsAt G bs X) {m : Nat} (hm : bs.length = m) (c : Nat) (h2 : m ≤ 9223372036854775807) : RowsK Ba.cells 4 X (.slice (some ⟨G, 0, none⟩) m c) bs :=
  RowsK.whole Ba.cells_len h hm c h2
theorem BsAt.cell {G : Nat} {bs : List Ba} {X : World} (h : BsAt G bs X) (c : Nat) (b : Ba) (hb : bs[c]? = some b) (i : Nat) (hi : i < 4) : X.cell? ⟨G, c * 4 + i, none⟩ = b.cells[i]? := by
  have hc := (List.getElem?_eq_some_iff.1 hb).1
  rw [Whole.cellAt h, flat_getK Ba.cells 4 Ba.cells_len bs c i hi hc]
  have : bs[c]! = b := by simp [List.getElem!_eq_getElem?_getD, hb]
  rw [this]
theorem BsAt.range {G : Nat} {bs : List Ba} {X : World} (h : BsAt G bs X) (c : Nat) (b : Ba) (hb : bs[c]? = some b) : X.rangeAt G (c * 4) b.cells := fun j v hv => by
  have hj : j < 4 := (List.getElem?_eq_some_iff.1 hv).1
  rw [h.cell c b hb j hj, hv]
theorem BsAt.there {G : Nat} {bs : List Ba} {X : World} (h : BsAt G bs X) (c : Nat) (hc : c < bs.length) : X.there G (c * 4) 4 := fun j hj => by
  obtain ⟨b, hb⟩ : ∃ b, bs[c]? = some b := ⟨_, List.getElem?_eq_getElem hc⟩
  refine ⟨?_, Whole.free h _⟩
  rw [h.cell c b hb j hj]
  simp [Ba.cells_len, hj]
theorem flat_set (bs : List Ba) (c : Nat) (b : Ba) (hc : c < bs.length) : (bs.set c b).flatMap Ba.cells = ((((bs.flatMap Ba.cells).set (c * 4) (.int .i64 b.mn)).set (c * 4 + 1) (.int .i64 b.mx)).set (c * 4 + 2) (.int .i64 b.sh)).set (c * 4 + 3) (.int .i64 b.wt) := by
  induction bs generalizing c with
  | nil => simp at hc
  | cons a l ih =>
    cases c with
    | zero => simp [List.flatMap_cons, Ba.cells]
    | succ c =>
      have e : ∀ (x : List Value) (i : Nat) (v : Value), (a.cells ++ x).set (4 + i) v = a.cells ++ x.set i v := fun x i v => by
        rw [List.set_append_right _ _ (by rw [Ba.cells_len]; omega)]; simp [Ba.cells_len]
      rw [List.set_cons_succ, List.flatMap_cons, List.flatMap_cons, ih c (by simpa using hc)]
      rw [show (c + 1) * 4 = 4 + c * 4 by omega, show 4 + c * 4 + 1 = 4 + (c * 4 + 1) by omega, show 4 + c * 4 + 2 = 4 + (c * 4 + 2) by omega, show 4 + c * 4 + 3 = 4 + (c * 4 + 3) by omega, e, e, e, e]
theorem BsAt.put {G : Nat} {bs : List Ba} {X : World} (h : BsAt G bs X) (c : Nat) (b : Ba) (hc : c < bs.length) : BsAt G (bs.set c b) (X.setCells G (c * 4) b.cells) := by
  unfold BsAt
  rw [flat_set bs c b hc]
  have := (((Whole.set h (c * 4) (.int .i64 b.mn)).set (c * 4 + 1) (.int .i64 b.mx)).set (c * 4 + 2) (.int .i64 b.sh)).set (c * 4 + 3) (.int .i64 b.wt)
  exact this
/-- its least, and its most, set one by one -/
theorem BsAt.put2 {G : Nat} {bs : List Ba} {X : World} (h : BsAt G bs X) (c : Nat) (b : Ba) (hb : bs[c]? = some b) (x y : Int) : BsAt G (bs.set c { b with mn := x, mx := y }) ((X.setCell ⟨G, c * 4, none⟩ (.int .i64 x)).setCell ⟨G, c * 4 + 1, none⟩ (.int .i64 y)) := by
  have hc := (List.getElem?_eq_some_iff.1 hb).1
  unfold BsAt
  rw [flat_set bs c _ hc]
  have h1 := (Whole.set h (c * 4) (.int .i64 x)).set (c * 4 + 1) (.int .i64 y)
  have e2 : (bs.flatMap Ba.cells)[c * 4 + 2]? = some (.int .i64 b.sh) := by
    rw [flat_getK Ba.cells 4 Ba.cells_len bs c 2 (by omega) hc]
    have : bs[c]! = b := by simp [List.getElem!_eq_getElem?_getD, hb]
    rw [this]; rfl
  have e3 : (bs.flatMap Ba.cells)[c * 4 + 3]? = some (.int .i64 b.wt) := by
    rw [flat_getK Ba.cells 4 Ba.cells_len bs c 3 (by omega) hc]
    have : bs[c]! = b := by simp [List.getElem!_eq_getElem?_getD, hb]
    rw [this]; rfl
  have keep : ∀ (l : List Value) (i : Nat) (v : Value), l[i]? = some v → l.set i v = l := fun l i v hv => by
    apply List.ext_getElem?
    intro j
    by_cases e : j = i
    · subst e; rw [List.getElem?_set_self (List.getElem?_eq_some_iff.1 hv).1, hv]
    · rw [List.getElem?_set_ne (Ne.symm e)]
  rw [keep _ (c * 4 + 2) _ (by rw [List.getElem?_set_ne (by omega), List.getElem?_set_ne (by omega)]; exact e2), keep _ (c * 4 + 3) _ (by rw [List.getElem?_set_ne (by omega), List.getElem?_set_ne (by omega)]; exact e3)]
  exact h1
theorem below_setCells4 {B G o : Nat} {W X : World} (h : Below B W X) (hg : B ≤ G) (b : Ba) : Below B W (X.setCells G o b.cells) :=
  (((h.setCell (p := ⟨G, o, none⟩) hg _).setCell (p := ⟨G, o + 1, none⟩) hg _).setCell (p := ⟨G, o + 1 + 1, none⟩) hg _).setCell (p := ⟨G, o + 1 + 1 + 1, none⟩) hg _
theorem whole_setCells4 {G o g t : Nat} {xs : List Value} {X : World} (h : Whole X g t xs) (hne : g ≠ G) (b : Ba) : Whole (X.setCells G o b.cells) g t xs :=
  (((h.other ⟨G, o, none⟩ _ hne).other ⟨G, o + 1, none⟩ _ hne).other ⟨G, o + 1 + 1, none⟩ _ hne).other ⟨G, o + 1 + 1 + 1, none⟩ _ hne
theorem heap_setCells4 {G o k : Nat} (X : World) (hne : k ≠ G) (b : Ba) : (X.setCells G o b.cells).heap[k]? = X.heap[k]? :=
  (Below.heap_setCell _ ⟨G, o + 1 + 1 + 1, none⟩ _ k hne).trans ((Below.heap_setCell _ ⟨G, o + 1 + 1, none⟩ _ k hne).trans ((Below.heap_setCell _ ⟨G, o + 1, none⟩ _ k hne).trans (Below.heap_setCell _ ⟨G, o, none⟩ _ k hne)))
theorem size_setCells4 {G o : Nat} (X : World) (b : Ba) : (X.setCells G o b.cells).heap.size = X.heap.size := by
  show ((((X.setCell _ _).setCell _ _).setCell _ _).setCell _ _).heap.size = _
  simp
theorem zeros_flat (m : Nat) : (List.replicate m (⟨0, 0, 0, 0⟩ : Ba)).flatMap Ba.cells = List.replicate (m * 4) (.int .i64 0) := by
  induction m with
  | zero => rfl
  | succ m ih =>
    rw [List.replicate_succ, List.flatMap_cons, ih, Nat.succ_mul, Nat.add_comm (m * 4) 4]
    rw [show 4 + m * 4 = m * 4 + 1 + 1 + 1 + 1 by omega]
    rfl
theorem made_bands (m : Nat) : madeCells #[.int .i64 0, .int .i64 0, .int .i64 0, .int .i64 0] (m * 4) = ((List.replicate m (⟨0, 0, 0, 0⟩ : Ba)).flatMap Ba.cells).toArray := by
  rw [zeros_flat]
  apply Array.ext_getElem?
  intro i
  simp only [madeCells, Array.getElem?_map, List.getElem?_toArray, List.getElem?_replicate, Array.getElem?_range, List.size_toArray, List.length_cons, List.length_nil]
  by_cases h : i < m * 4
  · simp only [h, if_true, Option.map_some, Option.some.injEq]
    have e : ∀ j, j < 4 → (#[.int .i64 0, .int .i64 0, .int .i64 0, .int .i64 0] : Array Value)[j]! = .int .i64 0 := by
      intro j hj
      rcases (show j = 0 ∨ j = 1 ∨ j = 2 ∨ j = 3 by omega) with rfl | rfl | rfl | rfl <;> rfl
    exact e _ (Nat.mod_lt _ (by omega))
  · simp [h]
theorem Try.infoBa : (Try.prog.info? 39).map (fun i => (i.zero, i.size, i.bytes)) = some (some (.agg #[.int .i64 0, .int .i64 0, .int .i64 0, .int .i64 0]), 4, 32) := by kernel_rfl
theorem make_bands (m : Nat) (hm : m ≤ 10000) (w : World) : (Instr.makeSlice 22 (.int .i64 (m : Int)) (.int .i64 (m : Int))).run Try.prog w = .ok (.slice (some ⟨w.heap.size, 0, none⟩) m m) (w.alloc (.cells ((List.replicate m (⟨0, 0, 0, 0⟩ : Ba)).flatMap Ba.cells).toArray 39)) := by
  cases hi : Try.prog.info? 39 with
  | none => have := Try.infoBa; rw [hi] at this; cases this
  | some i =>
    have h := Try.infoBa
    rw [hi] at h
    simp only [Option.map_some, Option.some.injEq, Prod.mk.injEq] at h
    obtain ⟨hz, h1, h2⟩ := h
    have hr := run_make (P := Try.prog) w 22 39 i _ Try.underlying22 hi hz .i64 .i64 m m (by omega) (by omega) (by rw [h2]; omega) (by omega)
    rw [hr, h1]
    simp only [Int.toNat_natCast]
    rw [← made_bands]
    rfl
end Go.Proofs.Ytmljndggblfeiaa
