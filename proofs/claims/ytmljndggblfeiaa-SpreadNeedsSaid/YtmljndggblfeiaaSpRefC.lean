/- Bands in a block that has room behind them; lists that are changed one by one (for the document's one need, layer 14). -/
import Derived.Test.YtmljndggblfeiaaSpRefB
import Derived.Test.YtmljndggblfeiaaSpMeet
namespace Go.Proofs.Ytmljndggblfeiaa
open Go.RowKit Go.Shelf
set_option linter.unusedVariables false
set_option linter.unusedSimpArgs false

/-- the first j are a's, the others b's -/
def mix (a b : List Int) (j : Nat) : List Int := a.take j ++ b.drop j
theorem mix_zero (a b : List Int) : mix a b 0 = b := by simp [mix]
theorem mix_len (a b : List Int) (j : Nat) (h : a.length = b.length) (hj : j ≤ a.length) : (mix a b j).length = a.length := by simp [mix]; omega
theorem mix_all (a b : List Int) (k : Nat) (h : a.length = b.length) (hk : a.length = k) : mix a b k = a := by
  unfold mix
  rw [List.take_of_length_le (by omega), List.drop_eq_nil_of_le (by omega), List.append_nil]
theorem mix_get (a b : List Int) (j i : Nat) (h : a.length = b.length) (hj : j ≤ a.length) : (mix a b j)[i]? = if i < j then a[i]? else b[i]? := by
  unfold mix
  by_cases e : i < j
  · rw [if_pos e, List.getElem?_append_left (by simp; omega), List.getElem?_take_of_lt e]
  · rw [if_neg e, List.getElem?_append_right (by simp; omega), List.length_take, Nat.min_eq_left hj, List.getElem?_drop]
    congr 1; omega
theorem mix_succ (a b : List Int) (j : Nat) (h : a.length = b.length) (hj : j < a.length) : (mix a b j).set j (a[j]?.getD 0) = mix a b (j + 1) := by
  apply List.ext_getElem?
  intro i
  rw [mix_get a b (j + 1) i h (by omega)]
  by_cases e : i = j
  · subst e
    rw [List.getElem?_set_self (by rw [mix_len _ _ _ h (by omega)]; exact hj), if_pos (by omega), List.getElem?_eq_getElem hj]; rfl
  · rw [List.getElem?_set_ne (Ne.symm e), mix_get a b j i h (by omega)]
    by_cases h2 : i < j
    · rw [if_pos h2, if_pos (by omega)]
    · rw [if_neg h2, if_neg (by omega)]
theorem flat_len4 (l : List Ba) : (l.flatMap Ba.cells).length = l.length * 4 := by
  induction l with
  | nil => rfl
  | cons a l ih => rw [List.flatMap_cons, List.length_append, ih, Ba.cells_len, List.length_cons]; omega
theorem set_keep {l : List Value} {i : Nat} {v : Value} (hv : l[i]? = some v) : l.set i v = l := by
  apply List.ext_getElem?
  intro j
  by_cases e : j = i
  · subst e; rw [List.getElem?_set_self (List.getElem?_eq_some_iff.1 hv).1, hv]
  · rw [List.getElem?_set_ne (Ne.symm e)]
theorem flat_at (bs : List Ba) (c : Nat) (b : Ba) (hb : bs[c]? = some b) (i : Nat) (hi : i < 4) : (bs.flatMap Ba.cells)[c * 4 + i]? = b.cells[i]? := by
  have hc := (List.getElem?_eq_some_iff.1 hb).1
  rw [flat_getK Ba.cells 4 Ba.cells_len bs c i hi hc]
  have : bs[c]! = b := by simp [List.getElem!_eq_getElem?_getD, hb]
  rw [this]
theorem flat_setMn (bs : List Ba) (c : Nat) (b : Ba) (hb : bs[c]? = some b) (z : Int) : (bs.set c { b with mn := z }).flatMap Ba.cells = (bs.flatMap Ba.cells).set (c * 4) (.int .i64 z) := by
  have hc := (List.getElem?_eq_some_iff.1 hb).1
  rw [flat_set bs c _ hc]
  have e1 := flat_at bs c b hb 1 (by omega)
  have e2 := flat_at bs c b hb 2 (by omega)
  have e3 := flat_at bs c b hb 3 (by omega)
  rw [set_keep (i := c * 4 + 1) (by rw [List.getElem?_set_ne (by omega)]; exact e1), set_keep (i := c * 4 + 2) (by rw [List.getElem?_set_ne (by omega)]; exact e2), set_keep (i := c * 4 + 3) (by rw [List.getElem?_set_ne (by omega)]; exact e3)]
theorem flat_setMx (bs : List Ba) (c : Nat) (b : Ba) (hb : bs[c]? = some b) (z : Int) : (bs.set c { b with mx := z }).flatMap Ba.cells = (bs.flatMap Ba.cells).set (c * 4 + 1) (.int .i64 z) := by
  have hc := (List.getElem?_eq_some_iff.1 hb).1
  rw [flat_set bs c _ hc]
  have e0 := flat_at bs c b hb 0 (by omega)
  have e2 := flat_at bs c b hb 2 (by omega)
  have e3 := flat_at bs c b hb 3 (by omega)
  rw [set_keep (i := c * 4) (l := bs.flatMap Ba.cells) (by exact e0), set_keep (i := c * 4 + 2) (by rw [List.getElem?_set_ne (by omega)]; exact e2), set_keep (i := c * 4 + 3) (by rw [List.getElem?_set_ne (by omega)]; exact e3)]
/-- a list of bands is what a block begins with -/
def BRow (X : World) (G : Nat) (bs : List Ba) (sp : List Value) : Prop := Whole X G 39 (bs.flatMap Ba.cells ++ sp)
theorem BRow.lt {X : World} {G : Nat} {bs : List Ba} {sp : List Value} (h : BRow X G bs sp) : G < X.heap.size := Whole.lt h
theorem BRow.free {X : World} {G : Nat} {bs : List Ba} {sp : List Value} (h : BRow X G bs sp) (i : Nat) : X.frozen? ⟨G, i, none⟩ = false := Whole.free h i
theorem BRow.below {X Y : World} {G B : Nat} {bs : List Ba} {sp : List Value} (h : BRow X G bs sp) (hb : Below B X Y) (hg : G < B) : BRow Y G bs sp := Whole.below h hb hg
theorem BRow.upd {E : List Nat} {X Y : World} {G : Nat} {bs : List Ba} {sp : List Value} (h : BRow X G bs sp) (hu : Upd E X Y) (hg : G ∉ E) : BRow Y G bs sp := hu.whole h hg
theorem BRow.cell {X : World} {G : Nat} {bs : List Ba} {sp : List Value} (h : BRow X G bs sp) (c : Nat) (b : Ba) (hb : bs[c]? = some b) (i : Nat) (hi : i < 4) : X.cell? ⟨G, c * 4 + i, none⟩ = b.cells[i]? := by
  have hc := (List.getElem?_eq_some_iff.1 hb).1
  rw [Whole.cellAt h, List.getElem?_append_left (by rw [flat_len4]; omega), flat_at bs c b hb i hi]
theorem wdIn_setLo (bs : List Ba) (w : Wd) (c : Nat) (z : Int) (b : Ba) (hb : bs[c]? = some b) (hl : c < w.lo.length) : wdIn bs ⟨w.lo.set c z, w.hi⟩ = (wdIn bs w).set c ⟨z, w.hi[c]?.getD 0, b.sh, b.wt⟩ := by
  apply List.ext_getElem?
  intro i
  have hc := (List.getElem?_eq_some_iff.1 hb).1
  rw [wdIn_get]
  by_cases e : i = c
  · subst e
    rw [hb, List.getElem?_set_self (l := wdIn bs w) (by rw [wdIn_len]; exact hc)]; simp [hl]
  · rw [List.getElem?_set_ne (l := wdIn bs w) (fun h => e h.symm), wdIn_get]; simp only []; rw [List.getElem?_set_ne (fun h => e h.symm)]
theorem wdIn_setHi (bs : List Ba) (w : Wd) (c : Nat) (z : Int) (b : Ba) (hb : bs[c]? = some b) (hl : c < w.hi.length) : wdIn bs ⟨w.lo, w.hi.set c z⟩ = (wdIn bs w).set c ⟨w.lo[c]?.getD 0, z, b.sh, b.wt⟩ := by
  apply List.ext_getElem?
  intro i
  have hc := (List.getElem?_eq_some_iff.1 hb).1
  rw [wdIn_get]
  by_cases e : i = c
  · subst e
    rw [hb, List.getElem?_set_self (l := wdIn bs w) (by rw [wdIn_len]; exact hc)]; simp [hl]
  · rw [List.getElem?_set_ne (l := wdIn bs w) (fun h => e h.symm), wdIn_get]; simp only []; rw [List.getElem?_set_ne (fun h => e h.symm)]
theorem wdIn_at (bs : List Ba) (w : Wd) (c : Nat) (hc : c < bs.length) : ∃ b, bs[c]? = some b ∧ (wdIn bs w)[c]? = some { b with mn := w.lo[c]?.getD 0, mx := w.hi[c]?.getD 0 } := by
  refine ⟨_, List.getElem?_eq_getElem hc, ?_⟩
  rw [wdIn_get, List.getElem?_eq_getElem hc]; rfl
theorem BRow.setMn {X : World} {G : Nat} {bs : List Ba} {w : Wd} {sp : List Value} (h : BRow X G (wdIn bs w) sp) (c : Nat) (hc : c < bs.length) (hl : c < w.lo.length) (z : Int) : BRow (X.setCell ⟨G, c * 4, none⟩ (.int .i64 z)) G (wdIn bs ⟨w.lo.set c z, w.hi⟩) sp := by
  obtain ⟨b, hb, hw⟩ := wdIn_at bs w c hc
  rw [wdIn_setLo bs w c z b hb hl]
  unfold BRow
  rw [show (⟨z, w.hi[c]?.getD 0, b.sh, b.wt⟩ : Ba) = { ({ b with mn := w.lo[c]?.getD 0, mx := w.hi[c]?.getD 0 } : Ba) with mn := z } from rfl, flat_setMn _ c _ hw]
  have := Whole.set h (c * 4) (.int .i64 z)
  rwa [List.set_append_left _ _ (by rw [flat_len4, wdIn_len]; omega)] at this
theorem BRow.setMx {X : World} {G : Nat} {bs : List Ba} {w : Wd} {sp : List Value} (h : BRow X G (wdIn bs w) sp) (c : Nat) (hc : c < bs.length) (hl : c < w.hi.length) (z : Int) : BRow (X.setCell ⟨G, c * 4 + 1, none⟩ (.int .i64 z)) G (wdIn bs ⟨w.lo, w.hi.set c z⟩) sp := by
  obtain ⟨b, hb, hw⟩ := wdIn_at bs w c hc
  rw [wdIn_setHi bs w c z b hb hl]
  unfold BRow
  rw [show (⟨w.lo[c]?.getD 0, z, b.sh, b.wt⟩ : Ba) = { ({ b with mn := w.lo[c]?.getD 0, mx := w.hi[c]?.getD 0 } : Ba) with mx := z } from rfl, flat_setMx _ c _ hw]
  have := Whole.set h (c * 4 + 1) (.int .i64 z)
  rwa [List.set_append_left _ _ (by rw [flat_len4, wdIn_len]; omega)] at this
theorem BRow.two {X : World} {G : Nat} {bs : List Ba} {w : Wd} {sp : List Value} (h : BRow X G (wdIn bs w) sp) (c : Nat) (hc : c < bs.length) :
    X.cell? ⟨G, c * 4, none⟩ = some (.int .i64 (w.lo[c]?.getD 0)) ∧ X.cell? ⟨G, c * 4 + 1, none⟩ = some (.int .i64 (w.hi[c]?.getD 0)) := by
  obtain ⟨b, hb, hw⟩ := wdIn_at bs w c hc
  exact ⟨h.cell c _ hw 0 (by omega), h.cell c _ hw 1 (by omega)⟩
theorem seg_take (l : List Int) (c k j : Nat) (h : c + k ≤ l.length) (hj : j < k) : (seg l c k).take (j + 1) = (seg l c k).take j ++ [l[c + j]?.getD 0] := by
  have e := seg_get l c k j hj
  rw [List.take_add_one, e, List.getElem?_eq_getElem (by omega)]; rfl
theorem BRow.stepMn {X : World} {G : Nat} {bs : List Ba} {sp : List Value} {ls hi a b : List Int} {c j : Nat} (h : BRow X G (wdIn bs ⟨spl ls c (mix a b j), hi⟩) sp) (hab : a.length = b.length) (hj : j < a.length) (hc : c + a.length ≤ ls.length) (hl : ls.length = bs.length) :
    BRow (X.setCell ⟨G, (c + j) * 4, none⟩ (.int .i64 (a[j]?.getD 0))) G (wdIn bs ⟨spl ls c (mix a b (j + 1)), hi⟩) sp := by
  have hm := mix_len a b j hab (by omega)
  have := h.setMn (c + j) (by omega) (by show c + j < (spl ls c (mix a b j)).length; rw [spl_len _ _ _ (by rw [hm]; exact hc)]; omega) (a[j]?.getD 0)
  dsimp only at this
  rwa [spl_set _ _ _ (by rw [hm]; exact hc) _ _ (by rw [hm]; exact hj), mix_succ a b j hab hj] at this
theorem BRow.stepMx {X : World} {G : Nat} {bs : List Ba} {sp : List Value} {ls lo a b : List Int} {c j : Nat} (h : BRow X G (wdIn bs ⟨lo, spl ls c (mix a b j)⟩) sp) (hab : a.length = b.length) (hj : j < a.length) (hc : c + a.length ≤ ls.length) (hl : ls.length = bs.length) :
    BRow (X.setCell ⟨G, (c + j) * 4 + 1, none⟩ (.int .i64 (a[j]?.getD 0))) G (wdIn bs ⟨lo, spl ls c (mix a b (j + 1))⟩) sp := by
  have hm := mix_len a b j hab (by omega)
  have := h.setMx (c + j) (by omega) (by show c + j < (spl ls c (mix a b j)).length; rw [spl_len _ _ _ (by rw [hm]; exact hc)]; omega) (a[j]?.getD 0)
  dsimp only at this
  rwa [spl_set _ _ _ (by rw [hm]; exact hc) _ _ (by rw [hm]; exact hj), mix_succ a b j hab hj] at this
theorem IRow.step {X : World} {g : Nat} {sp : List Value} {a b : List Int} {j : Nat} (h : IRow X g (mix a b j) sp) (hab : a.length = b.length) (hj : j < a.length) : IRow (X.setCell ⟨g, j, none⟩ (.int .i64 (a[j]?.getD 0))) g (mix a b (j + 1)) sp := by
  have := h.set j (a[j]?.getD 0) (by rw [mix_len a b j hab (by omega)]; exact hj)
  rwa [mix_succ a b j hab hj] at this
theorem mix_here (a b : List Int) (j : Nat) (h : a.length = b.length) (hj : j < a.length) : (mix a b j)[j]?.getD 0 = b[j]?.getD 0 := by
  rw [mix_get a b j j h (by omega), if_neg (by omega)]
end Go.Proofs.Ytmljndggblfeiaa
