/- Rows of cells that a call makes itself: blocks of zero cells, cells laid in one by one; and the places of one row of wide cells. -/
import Derived.Test.YtcgnldcdcbnofaaGShown
namespace Go.Proofs.Ytcgnldcdcbnofaa
open Go.RowKit Go.Shelf
set_option linter.unusedVariables false

def Sp.zero : Sp := ⟨0, 0, 0⟩
def flat3 (L : List Sp) : List Value := L.flatMap Sp.cells
theorem flat3_len (L : List Sp) : (flat3 L).length = L.length * 3 := by
  induction L with
  | nil => rfl
  | cons a L ih => unfold flat3 at *; rw [List.flatMap_cons, List.length_append, ih, List.length_cons]; have : a.cells.length = 3 := rfl; omega
theorem flat3_set : ∀ (L : List Sp) (k : Nat) (x : Sp), k < L.length → (((flat3 L).set (k * 3) (.int .i64 x.n)).set (k * 3 + 1) (.int .i64 x.c)).set (k * 3 + 2) (.int .i64 x.r) = flat3 (L.set k x)
  | [], k, x, h => by simp at h
  | y :: L, 0, x, h => by
    obtain ⟨a, b, c⟩ := y
    obtain ⟨a', b', c'⟩ := x
    rfl
  | y :: L, k + 1, x, h => by
    have ih := flat3_set L k x (by simpa using h)
    have e : flat3 (y :: L) = y.cells ++ flat3 L := rfl
    have hl : y.cells.length = 3 := rfl
    rw [e, List.set_append_right _ _ (by rw [hl]; omega), List.set_append_right _ _ (by rw [hl]; omega), List.set_append_right _ _ (by rw [hl]; omega), hl, show (k + 1) * 3 - 3 = k * 3 by omega, show (k + 1) * 3 + 1 - 3 = k * 3 + 1 by omega, show (k + 1) * 3 + 2 - 3 = k * 3 + 2 by omega, ih]
    rfl
theorem Whole.sp {W : World} {g t : Nat} {L : List Sp} (h : Whole W g t (flat3 L)) (k : Nat) (x : Sp) (hk : k < L.length) :
    Whole (((W.setCell ⟨g, k * 3, none⟩ (.int .i64 x.n)).setCell ⟨g, k * 3 + 1, none⟩ (.int .i64 x.c)).setCell ⟨g, k * 3 + 2, none⟩ (.int .i64 x.r)) g t (flat3 (L.set k x)) := by
  rw [← flat3_set L k x hk]
  exact ((h.set _ _).set _ _).set _ _
theorem Try.infoSp : (Try.prog.info? 48).map (fun i => (i.zero, i.size, i.bytes)) = some (some (.agg #[.int .i64 0, .int .i64 0, .int .i64 0]), 3, 24) := by kernel_rfl
theorem made_getG (z : Array Value) (n k : Nat) (h : k < n) : (madeCells z n)[k]? = some (z[k % z.size]!) := by simp [madeCells, h]
theorem flat3_rep : ∀ n, flat3 (List.replicate n Sp.zero) = List.replicate (n * 3) (.int .i64 0)
  | 0 => rfl
  | n + 1 => by
    rw [List.replicate_succ, show (n + 1) * 3 = n * 3 + 1 + 1 + 1 by omega, List.replicate_succ, List.replicate_succ, List.replicate_succ, ← flat3_rep n]
    rfl
theorem make_spans (n : Nat) (hn : n ≤ 1000000) (w : World) : (Instr.makeSlice 49 (.int .i64 n) (.int .i64 n)).run Try.prog w = .ok (.slice (some ⟨w.heap.size, 0, none⟩) n n) (w.alloc (.cells (flat3 (List.replicate n Sp.zero)).toArray 48)) := by
  cases hi : Try.prog.info? 48 with
  | none => have := Try.infoSp; rw [hi] at this; cases this
  | some i =>
    have h := Try.infoSp
    rw [hi] at h
    simp only [Option.map_some, Option.some.injEq, Prod.mk.injEq] at h
    obtain ⟨hz, h1, h2⟩ := h
    have hr := run_make (P := Try.prog) w 49 48 i _ Try.underlying49 hi hz .i64 .i64 n n (by omega) (Int.le_refl _) (by rw [h2]; omega) (by omega)
    rw [hr, h1]
    simp only [Int.toNat_natCast]
    rw [show madeCells (Value.agg #[.int .i64 0, .int .i64 0, .int .i64 0]).cells (n * 3) = (flat3 (List.replicate n Sp.zero)).toArray from by
      rw [flat3_rep]
      apply Array.ext_getElem?
      intro k
      by_cases hk : k < n * 3
      · have hs : (Value.agg #[.int .i64 0, .int .i64 0, .int .i64 0]).cells = #[.int .i64 0, .int .i64 0, .int .i64 0] := rfl
        rw [made_getG _ _ _ hk, hs]
        have : k % 3 = 0 ∨ k % 3 = 1 ∨ k % 3 = 2 := by omega
        rcases this with h | h | h <;> simp [h, hk]
      · rw [Array.getElem?_eq_none (by rw [size_madeCells]; omega), Array.getElem?_eq_none (by simp; omega)]]
theorem Try.infoSps : (Try.prog.info? 49).map (fun i => (i.zero, i.size, i.bytes)) = some (some (.slice none 0 0), 1, 24) := by kernel_rfl
theorem make_rows (n : Nat) (hn : n ≤ 1000000) (w : World) : (Instr.makeSlice 25 (.int .i64 n) (.int .i64 n)).run Try.prog w = .ok (.slice (some ⟨w.heap.size, 0, none⟩) n n) (w.alloc (.cells (List.replicate n (.slice none 0 0)).toArray 49)) := by
  cases hi : Try.prog.info? 49 with
  | none => have := Try.infoSps; rw [hi] at this; cases this
  | some i =>
    have h := Try.infoSps
    rw [hi] at h
    simp only [Option.map_some, Option.some.injEq, Prod.mk.injEq] at h
    obtain ⟨hz, h1, h2⟩ := h
    have hr := run_make (P := Try.prog) w 25 49 i _ Try.underlying25 hi hz .i64 .i64 n n (by omega) (Int.le_refl _) (by rw [h2]; omega) (by omega)
    rw [hr, h1]
    simp only [Int.toNat_natCast]
    rw [show (madeCells (Value.slice none 0 0).cells (n * 1)) = (List.replicate n (.slice none 0 0)).toArray from by
      apply Array.toList_inj.1
      rw [show (Value.slice none 0 0).cells = #[Value.slice none 0 0] from rfl, toList_madeCells_one]; simp]
theorem make_intsG (m : Nat) (hm : m ≤ 1000000000) (w : World) : (Instr.makeSlice 26 (.int .i64 m) (.int .i64 m)).run Try.prog w = .ok (.slice (some ⟨w.heap.size, 0, none⟩) m m) (w.alloc (.cells ((List.replicate m (0 : Int)).map (Value.int .i64)).toArray 3)) := by
  cases hi : Try.prog.info? 3 with
  | none => have := Try.infoIntG; rw [hi] at this; cases this
  | some i =>
    have h := Try.infoIntG
    rw [hi] at h
    simp only [Option.map_some, Option.some.injEq, Prod.mk.injEq] at h
    obtain ⟨hz, h1, h2⟩ := h
    have hr := run_make (P := Try.prog) w 26 3 i (.int .i64 0) Try.underlying26 hi hz .i64 .i64 m m (by omega) (Int.le_refl _) (by rw [h2]; omega) (by omega)
    rw [hr, h1]
    simp only [Int.toNat_natCast]
    rw [show (madeCells (Value.int IntKind.i64 0).cells (m * 1)) = ((List.replicate m (0 : Int)).map (Value.int .i64)).toArray from by
      apply Array.toList_inj.1
      rw [show (Value.int IntKind.i64 0).cells = #[Value.int .i64 0] from rfl, toList_madeCells_one]; simp]
/-- so many cells of so many columns, in one row -/
def wideC (m : Nat) : Sp := ⟨0, m, 0⟩
theorem cells_one_row (l : List Sp) : cellsF 0 [l] = l.map fun x => (0, x) := by simp [cellsF]
theorem full_free (L j : Nat) (h : j < L) : freeB (List.replicate L 1) 0 j = false := by
  rw [freeB_at (z := 1) (by simp [h])]; rfl
theorem rep_take (L m : Nat) : takeN (List.replicate L 1) L 1 m = List.replicate (L + m) 1 := by
  apply List.ext_getElem?
  intro j
  rw [takeN_get _ _ _ (by simp)]
  by_cases h : L ≤ j ∧ j < L + m
  · rw [if_pos h]; simp [h.2]
  · rw [if_neg h]
    by_cases hj : j < L
    · rw [List.getElem?_replicate, List.getElem?_replicate, if_pos hj, if_pos (by omega)]
    · rw [List.getElem?_eq_none (by simp; omega), List.getElem?_eq_none (by simp; omega)]
structure WideAt (m k : Nat) (s : LS) : Prop where
  t : s.t = List.replicate (k * m) 1
  ps : s.ps.length = k
  from_ : fromP s 0 = k * m
theorem wide_step (m k : Nat) (hm : 1 ≤ m) (s : LS) (h : WideAt m k s) : WideAt m (k + 1) (stepP [1] s (0, wideC m)) := by
  have hp : placeP [1] s (0, wideC m) = ⟨0, 0, k * m, 1, m⟩ := by
    unfold placeP
    dsimp only
    rw [h.from_, h.t]
    have e1 : firstF (List.replicate (k * m) 1) 0 (k * m) = k * m := firstF_eq (Nat.le_refl _) (fun j h1 h2 => by omega) (freeB_out (by simp))
    rw [e1]
    have e2 : wideF (List.replicate (k * m) 1) 0 (k * m) (wideC m).c.toNat = m := by
      have : (wideC m).c.toNat = m := by simp [wideC]
      rw [this]
      exact wideF_eq (Nat.le_refl _) (fun j hj => freeB_out (by simp)) (.inl rfl)
    rw [e2]
    rfl
  unfold stepP
  rw [hp]
  have e : (k + 1) * m = k * m + m := Nat.succ_mul k m
  refine ⟨?_, by simp [h.ps], ?_⟩
  · show takeN s.t (k * m) (0 + 1) m = _
    rw [h.t, rep_take, e]
  · show k * m + m = (k + 1) * m
    omega
theorem wide_run (m : Nat) (hm : 1 ≤ m) : ∀ k, (k * m ≤ 10000 → ∃ s, runP [1] (List.replicate k (0, wideC m)) LS.zero = some s ∧ WideAt m k s) ∧ (10000 < k * m → runP [1] (List.replicate k (0, wideC m)) LS.zero = none)
  | 0 => ⟨fun _ => ⟨LS.zero, rfl, by simp; rfl, rfl, by simp; rfl⟩, fun h => by omega⟩
  | k + 1 => by
    obtain ⟨h1, h2⟩ := wide_run m hm k
    have e : (k + 1) * m = k * m + m := Nat.succ_mul k m
    rw [List.replicate_succ']
    refine ⟨fun h => ?_, fun h => ?_⟩
    · obtain ⟨s, hs, hw⟩ := h1 (by omega)
      have hw2 := wide_step m k hm s hw
      refine ⟨_, ?_, hw2⟩
      rw [runP_snoc _ _ _ _ _ hs, if_neg (by rw [hw2.t]; simp; omega)]
    · by_cases hk : k * m ≤ 10000
      · obtain ⟨s, hs, hw⟩ := h1 hk
        have hw2 := wide_step m k hm s hw
        rw [runP_snoc _ _ _ _ _ hs, if_pos (by rw [hw2.t]; simp; omega)]
      · exact runP_more _ _ _ _ (h2 (by omega))
end Go.Proofs.Ytcgnldcdcbnofaa
