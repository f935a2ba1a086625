/- The places of cells, as a plain function. -/
import Derived.Test.YtcgnldcdcbnofaaGTake
namespace Go.Proofs.Ytcgnldcdcbnofaa
set_option linter.unusedVariables false

/-- where one is while cells are placed -/
structure LS where
  t : List Nat
  ps : List Pl
  last : Pl
def LS.zero : LS := ⟨[], [], ⟨0, 0, 0, 0, 0⟩⟩
def fromP (s : LS) (row : Nat) : Nat := if row = s.last.r then s.last.c + s.last.w else 0
def endP (ends : List Int) (row : Nat) : Nat := (ends[row]?.getD 0).toNat
def placeP (ends : List Int) (s : LS) (x : Nat × Sp) : Pl :=
  ⟨x.2.n, x.1, firstF s.t x.1 (fromP s x.1), highF x.2.r (endP ends x.1 - x.1), wideF s.t x.1 (firstF s.t x.1 (fromP s x.1)) x.2.c.toNat⟩
def stepP (ends : List Int) (s : LS) (x : Nat × Sp) : LS :=
  ⟨takeN s.t (placeP ends s x).c (x.1 + (placeP ends s x).h) (placeP ends s x).w, s.ps ++ [placeP ends s x], placeP ends s x⟩
def runP (ends : List Int) : List (Nat × Sp) → LS → Option LS
  | [], s => some s
  | x :: l, s => if 10000 < (stepP ends s x).t.length then none else runP ends l (stepP ends s x)
theorem runP_append (ends : List Int) : ∀ (l k : List (Nat × Sp)) (s : LS), runP ends (l ++ k) s = (runP ends l s).bind (runP ends k)
  | [], k, s => rfl
  | x :: l, k, s => by
    simp only [List.cons_append, runP]
    split
    · rfl
    · exact runP_append ends l k _
theorem runP_snoc (ends : List Int) (l : List (Nat × Sp)) (x : Nat × Sp) (s s' : LS) (h : runP ends l s = some s') : runP ends (l ++ [x]) s = if 10000 < (stepP ends s' x).t.length then none else some (stepP ends s' x) := by
  rw [runP_append, h]
  simp only [Option.bind_some, runP]
theorem runP_more (ends : List Int) (l k : List (Nat × Sp)) (s : LS) (h : runP ends l s = none) : runP ends (l ++ k) s = none := by
  rw [runP_append, h]; rfl
/-- what holds at every step -/
structure Okay (s : LS) : Prop where
  few : s.t.length ≤ 10000
  last : s.last.c + s.last.w ≤ s.t.length
theorem Okay.zero : Okay LS.zero := ⟨Nat.zero_le _, Nat.le_refl _⟩
theorem Okay.from (s : LS) (h : Okay s) (row : Nat) : fromP s row ≤ s.t.length := by
  unfold fromP; split
  · exact h.last
  · omega
theorem place_col {ends : List Int} {s : LS} (h : Okay s) (x : Nat × Sp) : (placeP ends s x).c ≤ s.t.length := firstF_le _ _ _ (h.from s _)
theorem Okay.step {ends : List Int} {s : LS} (h : Okay s) (x : Nat × Sp) (hl : ¬ 10000 < (stepP ends s x).t.length) : Okay (stepP ends s x) := by
  refine ⟨by omega, ?_⟩
  have := takeN_len s.t (placeP ends s x).c (x.1 + (placeP ends s x).h) (place_col h x) (placeP ends s x).w
  show (placeP ends s x).c + (placeP ends s x).w ≤ (takeN s.t (placeP ends s x).c (x.1 + (placeP ends s x).h) (placeP ends s x).w).length
  omega
theorem runP_okay (ends : List Int) : ∀ (l : List (Nat × Sp)) (s s' : LS), Okay s → runP ends l s = some s' → Okay s' ∧ s'.ps.length = s.ps.length + l.length
  | [], s, s', h, hr => by cases hr; exact ⟨h, rfl⟩
  | x :: l, s, s', h, hr => by
    simp only [runP] at hr
    split at hr
    · cases hr
    · rename_i hl
      obtain ⟨h1, h2⟩ := runP_okay ends l _ s' (h.step x hl) hr
      refine ⟨h1, ?_⟩
      rw [h2]
      show (s.ps ++ [placeP ends s x]).length + l.length = s.ps.length + (l.length + 1)
      simp; omega
def layP (rows : List (List Sp)) (ends : List Int) : Option LS := runP ends (cellsF 0 rows) LS.zero
/-- each cell comes with a row that there is -/
theorem cellsF_row : ∀ (k : Nat) (rows : List (List Sp)) (x : Nat × Sp), x ∈ cellsF k rows → k ≤ x.1 ∧ x.1 < k + rows.length
  | _, [], x, h => by simp [cellsF] at h
  | k, row :: r, x, h => by
    simp only [cellsF, List.mem_append, List.mem_map] at h
    rcases h with ⟨y, _, rfl⟩ | h
    · simp
    · have := cellsF_row (k + 1) r x h
      simp; omega
end Go.Proofs.Ytcgnldcdcbnofaa
