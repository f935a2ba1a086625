/- Rows of cells in memory; the iterator over all cells (grid.cells). -/
/- A map whose keys are slots: what it holds, as a list. -/
/- Where a cell lies: plain functions on the list that says from which row on each column is free. Nothing of the program. -/
import Derived.Test.YtceippgkmoijdaaSNext
import Derived.Test.YtceippgkmoijdaaMarks
import Derived.WalkSpells
import Derived.Lib.Hide
import Derived.LoopTactic
import Derived.BigQuiet
import Derived.Deep.QuietTactic
import Derived.Deep.LoopGhost
import Derived.Shelf.Abstract
import Derived.Shelf.RegionOpen
import Derived.ScopeJumps
import Derived.WalkMore
import Derived.Maps.Own
import Derived.Maps.OwnOps
import Derived.Maps.OwnSet
import Derived.Maps.OwnIn
import Derived.Maps.Views
import Derived.DeepKeys4
import Derived.Test.YtceippgkmoijdaaCBase
namespace Go.Proofs.Ytceippgkmoijdaa
open Go.RowKit Go.Shelf
set_option linter.unusedVariables false
attribute [local go_sem] Oper.semAt_some

/-- a cell: its node, how many columns and rows it wants -/
structure Sp where
  n : Int
  c : Int
  r : Int
def Sp.cells (x : Sp) : List Value := [.int .i64 x.n, .int .i64 x.c, .int .i64 x.r]
/-- a row of cells lies below B -/
def RowIn (B : Nat) (X : World) (v : Value) (xs : List Sp) : Prop :=
  xs.length ≤ 9223372036854775807 ∧ ((∃ a c, v = .slice a 0 c ∧ xs = []) ∨ ∃ b off c, v = .slice (some ⟨b, off, none⟩) xs.length c ∧ b < B ∧
    ∀ j x, xs[j]? = some x → X.cell? ⟨b, off + j * 3, none⟩ = some (.int .i64 x.n) ∧ X.cell? ⟨b, off + j * 3 + 1, none⟩ = some (.int .i64 x.c) ∧ X.cell? ⟨b, off + j * 3 + 2, none⟩ = some (.int .i64 x.r))
/-- rows of cells lie below B -/
def RowsIn (B : Nat) (X : World) (v : Value) (hv : Nat → Value) (rows : List (List Sp)) : Prop :=
  rows.length ≤ 9223372036854775807 ∧ ((∃ a c, v = .slice a 0 c ∧ rows = []) ∨ ∃ b off c, v = .slice (some ⟨b, off, none⟩) rows.length c ∧ b < B ∧
    ∀ i row, rows[i]? = some row → X.cell? ⟨b, off + i, none⟩ = some (hv i) ∧ RowIn B X (hv i) row)
theorem RowIn.keep {B : Nat} {X Y : World} {v : Value} {xs : List Sp} (h : RowIn B X v xs) (hb : ∀ k, k < B → Y.heap[k]? = X.heap[k]?) : RowIn B Y v xs := by
  refine ⟨h.1, h.2.imp id ?_⟩
  rintro ⟨b, off, c, e, hB, hc⟩
  refine ⟨b, off, c, e, hB, fun j x hx => ?_⟩
  obtain ⟨h1, h2, h3⟩ := hc j x hx
  have hq : ∀ o, Y.cell? ⟨b, o, none⟩ = X.cell? ⟨b, o, none⟩ := fun o => by simp only [World.cell?]; rw [hb b hB]
  rw [hq, hq, hq]
  exact ⟨h1, h2, h3⟩
theorem RowsIn.keep {B : Nat} {X Y : World} {v : Value} {hv : Nat → Value} {rows : List (List Sp)} (h : RowsIn B X v hv rows) (hb : ∀ k, k < B → Y.heap[k]? = X.heap[k]?) : RowsIn B Y v hv rows := by
  refine ⟨h.1, h.2.imp id ?_⟩
  rintro ⟨b, off, c, e, hB, hc⟩
  refine ⟨b, off, c, e, hB, fun i row hr => ?_⟩
  obtain ⟨h1, h2⟩ := hc i row hr
  exact ⟨by simp only [World.cell?] at h1 ⊢; rw [hb b hB]; exact h1, h2.keep hb⟩
theorem RowsIn.below {B : Nat} {X Y : World} {v : Value} {hv : Nat → Value} {rows : List (List Sp)} (h : RowsIn B X v hv rows) (hb : Below B X Y) : RowsIn B Y v hv rows := h.keep fun k hk => hb.block k hk
theorem RowIn.below {B : Nat} {X Y : World} {v : Value} {rows : List Sp} (h : RowIn B X v rows) (hb : Below B X Y) : RowIn B Y v rows := h.keep fun k hk => hb.block k hk
theorem RowsIn.mono {B C : Nat} {X : World} {v : Value} {hv : Nat → Value} {rows : List (List Sp)} (h : RowsIn B X v hv rows) (hb : B ≤ C) : RowsIn C X v hv rows := by
  refine ⟨h.1, h.2.imp id ?_⟩
  rintro ⟨b, off, c, e, hB, hc⟩
  refine ⟨b, off, c, e, by omega, fun i row hr => ?_⟩
  obtain ⟨h1, h2⟩ := hc i row hr
  refine ⟨h1, h2.1, h2.2.imp id ?_⟩
  rintro ⟨b', off', c', e', hB', hc'⟩
  exact ⟨b', off', c', e', by omega, hc'⟩
theorem RowsIn.form {B : Nat} {X : World} {v : Value} {hv : Nat → Value} {rows : List (List Sp)} (h : RowsIn B X v hv rows) : ∃ p c, v = .slice p rows.length c := by
  rcases h.2 with ⟨a, c, rfl, rfl⟩ | ⟨b, off, c, rfl, _⟩
  · exact ⟨_, _, rfl⟩
  · exact ⟨_, _, rfl⟩
theorem RowIn.form {B : Nat} {X : World} {v : Value} {rows : List Sp} (h : RowIn B X v rows) : ∃ p c, v = .slice p rows.length c := by
  rcases h.2 with ⟨a, c, rfl, rfl⟩ | ⟨b, off, c, rfl, _⟩
  · exact ⟨_, _, rfl⟩
  · exact ⟨_, _, rfl⟩
theorem RowsIn.at {B : Nat} {X : World} {p : Option Addr} {l c : Nat} {hv : Nat → Value} {rows : List (List Sp)} (h : RowsIn B X (.slice p l c) hv rows) (i : Nat) (row : List Sp) (hr : rows[i]? = some row) :
    ∃ b off, p = some ⟨b, off, none⟩ ∧ b < B ∧ X.cell? ⟨b, off + i, none⟩ = some (hv i) ∧ RowIn B X (hv i) row := by
  rcases h.2 with ⟨a, c', _, rfl⟩ | ⟨b, off, c', e, hB, hc⟩
  · simp at hr
  · injection e with e1 e2 e3
    exact ⟨b, off, e1, hB, hc i row hr⟩
theorem RowIn.at {B : Nat} {X : World} {p : Option Addr} {l c : Nat} {xs : List Sp} (h : RowIn B X (.slice p l c) xs) (j : Nat) (x : Sp) (hx : xs[j]? = some x) :
    ∃ b off, p = some ⟨b, off, none⟩ ∧ b < B ∧ X.cell? ⟨b, off + j * 3, none⟩ = some (.int .i64 x.n) ∧ X.cell? ⟨b, off + j * 3 + 1, none⟩ = some (.int .i64 x.c) ∧ X.cell? ⟨b, off + j * 3 + 2, none⟩ = some (.int .i64 x.r) := by
  rcases h.2 with ⟨a, c', _, rfl⟩ | ⟨b, off, c', e, hB, hc⟩
  · simp at hx
  · injection e with e1 e2 e3
    obtain ⟨h1, h2, h3⟩ := hc j x hx
    exact ⟨b, off, e1, hB, h1, h2, h3⟩
/-- all cells, each with its row, from row k on -/
def cellsF : Nat → List (List Sp) → List (Nat × Sp)
  | _, [] => []
  | k, row :: r => row.map (fun x => (k, x)) ++ cellsF (k + 1) r
theorem cellsF_drop (rows : List (List Sp)) (t : Nat) (row : List Sp) (h : rows[t]? = some row) : cellsF t (rows.drop t) = row.map (fun x => (t, x)) ++ cellsF (t + 1) (rows.drop (t + 1)) := by
  obtain ⟨hl, he⟩ := List.getElem?_eq_some_iff.1 h
  rw [List.drop_eq_getElem_cons hl, he]
  rfl
theorem cellsF_end (rows : List (List Sp)) (t : Nat) (h : rows.length ≤ t) : cellsF t (rows.drop t) = [] := by
  rw [List.drop_of_length_le h]; rfl
theorem map_drop (row : List Sp) (t j : Nat) (x : Sp) (h : row[j]? = some x) : (row.drop j).map (fun x => (t, x)) = (t, x) :: (row.drop (j + 1)).map (fun x => (t, x)) := by
  obtain ⟨hl, he⟩ := List.getElem?_eq_some_iff.1 h
  rw [List.drop_eq_getElem_cons hl, he]
  rfl
/-- the next cell -/
def nxtC (rows : List (List Sp)) (pre : List (Nat × Sp)) (x : Nat × Sp) : Prop := ∃ rest, cellsF 0 rows = pre ++ x :: rest
def encC (x : Nat × Sp) : Array Value := #[.int .i64 (x.1 : Int), .agg #[.int .i64 x.2.n, .int .i64 x.2.c, .int .i64 x.2.r]]
def KeepG (R : World → Prop) (V W : World) : Prop := V.heap.size ≤ W.heap.size ∧ (R V → R W)
theorem KeepG.trans {R : World → Prop} {U V W : World} (h : KeepG R U V) (k : KeepG R V W) : KeepG R U W := ⟨Nat.le_trans h.1 k.1, fun x => k.2 (h.2 x)⟩
/-- what the iterator reads: its box, and the rows, which lie below B -/
structure CellMem (B gb : Nat) (v : Value) (hv : Nat → Value) (rows : List (List Sp)) (X : World) : Prop where
  size : B ≤ X.heap.size
  lt : gb < X.heap.size
  box : X.cell? ⟨gb, 0, none⟩ = some v
  rows : RowsIn B X v hv rows
theorem CellMem.keep {B gb : Nat} {v : Value} {hv : Nat → Value} {rows : List (List Sp)} {X Y : World} (h : CellMem B gb v hv rows X) (hs : X.heap.size ≤ Y.heap.size) (hb : ∀ k, k < B → Y.heap[k]? = X.heap[k]?) (hg : Y.heap[gb]? = X.heap[gb]?) : CellMem B gb v hv rows Y :=
  ⟨Nat.le_trans h.size hs, Nat.lt_of_lt_of_le h.lt hs, by have := h.box; simp only [World.cell?] at this ⊢; rw [hg]; exact this, h.rows.keep hb⟩
theorem CellMem.below {B gb : Nat} {v : Value} {hv : Nat → Value} {rows : List (List Sp)} {X Y : World} (h : CellMem B gb v hv rows X) (hb : Below X.heap.size X Y) : CellMem B gb v hv rows Y :=
  h.keep hb.size (fun k hk => hb.block k (Nat.lt_of_lt_of_le hk h.size)) (hb.block gb h.lt)
theorem grown_of_below' {W W' : World} (hb : Below W.heap.size W W') : W.grownBy W' none := ⟨hb.os, hb.tape, hb.output, hb.size, fun k hk _ => hb.block k hk⟩
theorem abides_below' {β : Type} {B : Nat} {J : β → World → Prop} (h : AbidesFrom B J) {s : β} {W W' : World} (hs : J s W) (hb : Below W.heap.size W W') : J s W' :=
  h s W W' none hs (grown_of_below' hb) (fun r e => by cases e)
end Go.Proofs.Ytceippgkmoijdaa

namespace Go.Proofs.Ytceippgkmoijdaa
open Go.RowKit Go.Shelf Go.Maps Go.ChangeMaps
set_option linter.unusedVariables false

theorem slotKeyed : Keyed Try.prog 127 := Keyed.of_law (deep_law_laid (m := 2) (by kernel_rfl) (by omega) (of_decide_eq_true (by kernel_rfl)) (by kernel_rfl) (by kernel_rfl))
theorem zeroInt (w : World) : (zeroValue 3).run Try.prog w = .ok (.int .i64 0) w := by kernel_rfl
def slotV (s : Nat × Nat) : Value := .agg #[.int .i64 (s.1 : Int), .int .i64 (s.2 : Int)]
theorem wf_small (n : Nat) (h : n ≤ 300000) : (Lit.int .i64 (n : Int)).wf = true := by
  simp [Lit.wf, IntKind.min, IntKind.max, IntKind.bits, IntKind.signed]; omega
theorem Try.sizeTypes : ∃ d, Try.prog.types.size + 1 = d + 1 + 1 := ⟨Try.prog.types.size - 1, by have : 1 ≤ Try.prog.types.size := of_decide_eq_true (by kernel_rfl); omega⟩
theorem slot_key (s : Nat × Nat) (h1 : s.1 ≤ 300000) (h2 : s.2 ≤ 300000) : ∃ l, keyOf Try.prog 127 (slotV s) = some l := by
  obtain ⟨d, hd⟩ := Try.sizeTypes
  have k1 : Try.prog.cellsOf 3 = 1 := by kernel_rfl
  have k2 : Try.prog.cellsOf 127 = 2 := by kernel_rfl
  have k3 : Try.prog.keyType 127 = true := by kernel_rfl
  have k4 : (slotV s).formed Try.prog 127 = true := by simp [slotV, Value.formed, Try.underlying127, k2]
  have e1 : Try.prog.keyLits (d + 1) 3 [.int .i64 (s.1 : Int)] = some [.int .i64 (s.1 : Int)] := by
    simp [Program.keyLits, Try.underlying3, wf_small s.1 h1]
  have e2 : Try.prog.keyLits (d + 1) 3 [.int .i64 (s.2 : Int)] = some [.int .i64 (s.2 : Int)] := by
    simp [Program.keyLits, Try.underlying3, wf_small s.2 h2]
  have e3 : Try.prog.keyLits (d + 1 + 1) 127 [.int .i64 (s.1 : Int), .int .i64 (s.2 : Int)] = some [.int .i64 (s.1 : Int), .int .i64 (s.2 : Int)] := by
    unfold Program.keyLits
    simp [Try.underlying127, k1, k2, List.range_succ, e1, e2]
  refine ⟨.string (keyBytes [.int .i64 (s.1 : Int), .int .i64 (s.2 : Int)]), ?_⟩
  unfold keyOf
  rw [Try.underlying127]
  simp only [k3, k4, Bool.and_self, if_true]
  rw [hd]
  show Option.map _ (Try.prog.keyLits (d + 1 + 1) 127 [.int .i64 (s.1 : Int), .int .i64 (s.2 : Int)]) = _
  rw [e3]
  rfl
/-- the owners that a map holds, the last first -/
def MapAt (X : World) (b : Nat) (ms : List ((Nat × Nat) × Nat)) : Prop :=
  ∃ D : DataW Unit, X.ownsMap Try.prog 127 (plainElem Try.prog 3) b ms.length D ∧ IsMap D ∧
    ∀ (s : Nat × Nat) (l : Lit), s.1 ≤ 300000 → s.2 ≤ 300000 → keyOf Try.prog 127 (slotV s) = some l →
      Maps.has D l = (ms.any fun e => e.1 == s) ∧ D.atKey l (.lit (.int .i64 0)) = .lit (.int .i64 (((ms.find? fun e => e.1 == s).map fun e => e.2).getD 0 : Nat))
theorem MapAt.new (w : World) : MapAt (w.alloc (.map #[] 0)) w.heap.size [] :=
  ⟨.map [], World.ownsMap_made w _ _ _, isMap_empty, fun s l h1 h2 hk => ⟨rfl, rfl⟩⟩
theorem MapAt.kept {X Y : World} {b : Nat} {ms : List ((Nat × Nat) × Nat)} {row : Option Nat} (h : MapAt X b ms) (hg : X.grownBy Y row) (hne : some b ≠ row) : MapAt Y b ms := by
  obtain ⟨D, h1, h2, h3⟩ := h
  exact ⟨D, h1.kept hg hne, h2, h3⟩
theorem MapAt.lt {X : World} {b : Nat} {ms : List ((Nat × Nat) × Nat)} (h : MapAt X b ms) : b < X.heap.size := by obtain ⟨D, h1, _⟩ := h; exact h1.lt
theorem slotV_inj {s t : Nat × Nat} (h : slotV s = slotV t) : s = t := by
  unfold slotV at h
  simp at h
  obtain ⟨h1, h2⟩ := h
  exact Prod.ext (by omega) (by omega)
/-- one slot more -/
theorem MapAt.put {X Y : World} {b : Nat} {ms : List ((Nat × Nat) × Nat)} {D : DataW Unit} (hD : IsMap D)
    (h3 : ∀ (s : Nat × Nat) (l : Lit), s.1 ≤ 300000 → s.2 ≤ 300000 → keyOf Try.prog 127 (slotV s) = some l → Maps.has D l = (ms.any fun e => e.1 == s) ∧ D.atKey l (.lit (.int .i64 0)) = .lit (.int .i64 (((ms.find? fun e => e.1 == s).map fun e => e.2).getD 0 : Nat)))
    (s : Nat × Nat) (v : Nat) (l : Lit) (hl : keyOf Try.prog 127 (slotV s) = some l) (hY : Y.ownsMap Try.prog 127 (plainElem Try.prog 3) b (ms.length + 1) (D.put l (.lit (.int .i64 (v : Int))))) :
    MapAt Y b ((s, v) :: ms) := by
  refine ⟨_, hY, hD.put _ _, fun s' l' g1 g2 hl' => ?_⟩
  have hkey : WideAt.IsKeyLit l := slotKeyed.key hl
  by_cases e : s = s'
  · subst e
    rw [hl] at hl'; cases hl'
    exact ⟨by rw [has_put_same hD hkey]; simp, by rw [atKey_put_same hD hkey]; simp⟩
  · have hne : l' ≠ l := fun h => e (slotV_inj (slotKeyed.inj hl (h ▸ hl')))
    obtain ⟨a1, a2⟩ := h3 s' l' g1 g2 hl'
    have hb : (s == s') = false := by simpa using e
    exact ⟨by rw [has_put_other hne, a1]; simp [hb], by rw [atKey_put_other hne, a2]; simp [hb]⟩
end Go.Proofs.Ytceippgkmoijdaa

namespace Go.Proofs.Ytceippgkmoijdaa
set_option linter.unusedVariables false

/-- is a column free in a row? -/
def freeB (t : List Nat) (row c : Nat) : Bool := match t[c]? with
  | none => true
  | some z => decide (z ≤ row)
theorem freeB_out {t : List Nat} {row c : Nat} (h : t.length ≤ c) : freeB t row c = true := by
  unfold freeB; rw [List.getElem?_eq_none h]
theorem freeB_lt {t : List Nat} {row c : Nat} (h : freeB t row c = false) : c < t.length := by
  cases Nat.lt_or_ge c t.length with
  | inl h' => exact h'
  | inr h' => rw [freeB_out h'] at h; cases h
theorem freeB_at {t : List Nat} {row c z : Nat} (h : t[c]? = some z) : freeB t row c = decide (z ≤ row) := by unfold freeB; rw [h]
def skipN (t : List Nat) (row : Nat) : Nat → Nat → Nat
  | 0, c => c
  | f + 1, c => if freeB t row c = true then c else skipN t row f (c + 1)
/-- the first free column, from one on -/
def firstF (t : List Nat) (row c : Nat) : Nat := skipN t row (t.length - c) c
def wideN (t : List Nat) (row c : Nat) : Nat → Nat → Nat
  | 0, k => k
  | r + 1, k => if freeB t row (c + k) = true then wideN t row c r (k + 1) else k
/-- how many columns are free there -/
def wideF (t : List Nat) (row c most : Nat) : Nat := wideN t row c most 0
theorem skipN_spec (t : List Nat) (row : Nat) : ∀ f c, t.length ≤ c + f → c ≤ skipN t row f c ∧ (∀ j, c ≤ j → j < skipN t row f c → freeB t row j = false) ∧ freeB t row (skipN t row f c) = true
  | 0, c, h => ⟨Nat.le_refl _, fun j h1 h2 => by simp only [skipN] at h2; omega, freeB_out (by simpa [skipN] using h)⟩
  | f + 1, c, h => by
    unfold skipN
    by_cases hf : freeB t row c = true
    · rw [if_pos hf]
      exact ⟨Nat.le_refl _, fun j h1 h2 => by omega, hf⟩
    · rw [if_neg hf]
      obtain ⟨h1, h2, h3⟩ := skipN_spec t row f (c + 1) (by omega)
      refine ⟨by omega, fun j hj hl => ?_, h3⟩
      by_cases e : j = c
      · subst e; simpa using hf
      · exact h2 j (by omega) hl
theorem firstF_spec (t : List Nat) (row c : Nat) : c ≤ firstF t row c ∧ (∀ j, c ≤ j → j < firstF t row c → freeB t row j = false) ∧ freeB t row (firstF t row c) = true :=
  skipN_spec t row _ c (by omega)
theorem firstF_eq {t : List Nat} {row c d : Nat} (h1 : c ≤ d) (h2 : ∀ j, c ≤ j → j < d → freeB t row j = false) (h3 : freeB t row d = true) : firstF t row c = d := by
  obtain ⟨g1, g2, g3⟩ := firstF_spec t row c
  rcases Nat.lt_trichotomy (firstF t row c) d with h | h | h
  · rw [h2 _ g1 h] at g3; cases g3
  · exact h
  · rw [g2 _ h1 h] at h3; cases h3
theorem firstF_step {t : List Nat} {row c : Nat} (h : freeB t row c = false) : firstF t row c = firstF t row (c + 1) := by
  obtain ⟨g1, g2, g3⟩ := firstF_spec t row (c + 1)
  refine firstF_eq (by omega) (fun j h1 h2 => ?_) g3
  by_cases e : j = c
  · subst e; exact h
  · exact g2 j (by omega) h2
theorem firstF_le (t : List Nat) (row c : Nat) (h : c ≤ t.length) : firstF t row c ≤ t.length := by
  obtain ⟨g1, g2, g3⟩ := firstF_spec t row c
  rcases Nat.lt_or_ge t.length (firstF t row c) with h' | h'
  · have := g2 _ h h'; rw [freeB_out (Nat.le_refl _)] at this; cases this
  · exact h'
theorem wideN_spec (t : List Nat) (row c : Nat) : ∀ r k, (∀ j, j < k → freeB t row (c + j) = true) →
    k ≤ wideN t row c r k ∧ wideN t row c r k ≤ k + r ∧ (∀ j, j < wideN t row c r k → freeB t row (c + j) = true) ∧ (wideN t row c r k = k + r ∨ freeB t row (c + wideN t row c r k) = false)
  | 0, k, h => ⟨Nat.le_refl _, Nat.le_refl _, h, .inl rfl⟩
  | r + 1, k, h => by
    unfold wideN
    by_cases hf : freeB t row (c + k) = true
    · rw [if_pos hf]
      obtain ⟨h1, h2, h3, h4⟩ := wideN_spec t row c r (k + 1) (fun j hj => by
        by_cases e : j = k
        · subst e; exact hf
        · exact h j (by omega))
      exact ⟨by omega, by omega, h3, by rcases h4 with h4 | h4; exact .inl (by omega); exact .inr h4⟩
    · rw [if_neg hf]
      exact ⟨Nat.le_refl _, by omega, h, .inr (by simpa using hf)⟩
theorem wideF_spec (t : List Nat) (row c most : Nat) : wideF t row c most ≤ most ∧ (∀ j, j < wideF t row c most → freeB t row (c + j) = true) ∧ (wideF t row c most = most ∨ freeB t row (c + wideF t row c most) = false) := by
  obtain ⟨_, h2, h3, h4⟩ := wideN_spec t row c most 0 (fun j h => by omega)
  unfold wideF
  exact ⟨by omega, h3, by rcases h4 with h4 | h4; exact .inl (by omega); exact .inr h4⟩
theorem wideF_eq {t : List Nat} {row c most d : Nat} (h1 : d ≤ most) (h2 : ∀ j, j < d → freeB t row (c + j) = true) (h3 : d = most ∨ freeB t row (c + d) = false) : wideF t row c most = d := by
  obtain ⟨g1, g2, g3⟩ := wideF_spec t row c most
  rcases Nat.lt_trichotomy (wideF t row c most) d with h | h | h
  · rcases g3 with g3 | g3
    · omega
    · rw [h2 _ h] at g3; cases g3
  · exact h
  · rcases h3 with h3 | h3
    · omega
    · rw [g2 _ h] at h3; cases h3
theorem wideF_pos {t : List Nat} {row c most : Nat} (h : 1 ≤ most) (hf : freeB t row c = true) : 1 ≤ wideF t row c most := by
  obtain ⟨g1, g2, g3⟩ := wideF_spec t row c most
  rcases Nat.lt_or_ge (wideF t row c most) 1 with h' | h'
  · have e : wideF t row c most = 0 := by omega
    rw [e] at g3
    rcases g3 with g3 | g3
    · omega
    · rw [Nat.add_zero, hf] at g3; cases g3
  · exact h'
/-- k columns from c on are taken up to row e -/
def takeN (t : List Nat) (c e : Nat) : Nat → List Nat
  | 0 => t
  | k + 1 => (if c + k = (takeN t c e k).length then takeN t c e k ++ [0] else takeN t c e k).set (c + k) e
theorem takeN_len (t : List Nat) (c e : Nat) (h : c ≤ t.length) : ∀ k, (takeN t c e k).length = max t.length (c + k)
  | 0 => by simp only [takeN]; omega
  | k + 1 => by
    have ih := takeN_len t c e h k
    unfold takeN
    split
    · simp only [List.length_set, List.length_append, List.length_cons, List.length_nil]; omega
    · simp only [List.length_set]; omega
theorem takeN_get (t : List Nat) (c e : Nat) (h : c ≤ t.length) : ∀ k j, (takeN t c e k)[j]? = if c ≤ j ∧ j < c + k then some e else t[j]?
  | 0, j => by rw [if_neg (by omega)]; rfl
  | k + 1, j => by
    have ih := takeN_get t c e h k j
    have hl := takeN_len t c e h k
    unfold takeN
    by_cases ej : j = c + k
    · subst ej
      have e1 : (if c ≤ c + k ∧ c + k < c + (k + 1) then some e else t[c + k]?) = some e := if_pos ⟨by omega, by omega⟩
      rw [e1, List.getElem?_set_self]
      split
      · simp only [List.length_append, List.length_cons, List.length_nil]; omega
      · omega
    · rw [List.getElem?_set_ne (fun e => ej e.symm)]
      have hi : (if c + k = (takeN t c e k).length then takeN t c e k ++ [0] else takeN t c e k)[j]? = (takeN t c e k)[j]? := by
        split
        · rename_i hq
          rcases Nat.lt_or_ge j (takeN t c e k).length with h' | h'
          · rw [List.getElem?_append_left h']
          · rw [List.getElem?_eq_none h', List.getElem?_eq_none (by simp; omega)]
        · rfl
      rw [hi, ih]
      by_cases h1 : c ≤ j ∧ j < c + k
      · rw [if_pos h1, if_pos (by omega)]
      · rw [if_neg h1, if_neg (by omega)]
end Go.Proofs.Ytceippgkmoijdaa
