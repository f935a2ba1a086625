/- A cell's first slot is the first free one: what lies between it and the cell ahead of it belongs to cells of rows above. Plain facts; nothing of the program's code. -/
import Derived.Test.YtgmgkkljoeahhaaGOwnAt
namespace Go.Proofs.Ytgmgkkljoeahhaa
open Go.RowKit Go.Shelf
set_option linter.unusedVariables false

/-- behind the cell ahead, if it is of the same row -/
def fromI (ps : List Pl) (i : Nat) (r : Nat) : Nat := match i with
  | 0 => 0
  | j + 1 => match ps[j]? with
    | some q => if q.r = r then q.c + q.w else 0
    | none => 0
theorem fromI_succ (ps : List Pl) (j r : Nat) : fromI ps (j + 1) r = match ps[j]? with
    | some q => if q.r = r then q.c + q.w else 0
    | none => 0 := rfl
theorem fromI_app (ps : List Pl) (x : Pl) (i r : Nat) (h : i ≤ ps.length) : fromI (ps ++ [x]) i r = fromI ps i r := by
  cases i with
  | zero => rfl
  | succ j =>
    have hj : j < ps.length := h
    rw [fromI_succ, fromI_succ, List.getElem?_append_left hj]
/-- slot (r, c) belongs to a place ahead of the i-th, of a row above r -/
def Above (ps : List Pl) (i r c : Nat) : Prop := ∃ (k : Nat) (q : Pl), k < i ∧ ps[k]? = some q ∧ q.r < r ∧ (r, c) ∈ slotsL q
structure First7 (s : LS) : Prop where
  all : ∀ (i : Nat) (p : Pl), s.ps[i]? = some p → ∀ c, fromI s.ps i p.r ≤ c → c < p.c → Above s.ps i p.r c
  src : ∀ (c z : Nat), s.t[c]? = some z → ∃ (k : Nat) (q : Pl), s.ps[k]? = some q ∧ (q.c ≤ c ∧ c < q.c + q.w) ∧ q.r + q.h = z
  last : (s.ps = [] ∧ s.last = ⟨0, 0, 0, 0, 0⟩) ∨ s.ps[s.ps.length - 1]? = some s.last ∧ 0 < s.ps.length
  low : ∀ q ∈ s.ps, q.r ≤ s.last.r
  left : ∀ q ∈ s.ps, q.r = s.last.r → q.c + q.w ≤ s.last.c + s.last.w
theorem First7.zero : First7 LS.zero := ⟨fun i p h => by simp [LS.zero] at h, fun c z h => by simp [LS.zero] at h, .inl ⟨rfl, rfl⟩, fun q hq => (by cases hq), fun q hq => (by cases hq)⟩
theorem First7.from {s : LS} (h : First7 s) (r : Nat) : fromI s.ps s.ps.length r = fromP s r := by
  unfold fromP
  rcases h.last with ⟨h1, h2⟩ | ⟨h1, h2⟩
  · rw [h1, h2]; unfold fromI; simp
  · obtain ⟨j, hj⟩ : ∃ j, s.ps.length = j + 1 := ⟨s.ps.length - 1, by omega⟩
    rw [hj] at h1 ⊢
    simp only [Nat.add_sub_cancel] at h1
    rw [fromI_succ, h1]
    dsimp only
    by_cases e : s.last.r = r
    · rw [if_pos e, if_pos e.symm]
    · rw [if_neg e, if_neg (fun k => e k.symm)]
theorem First7.step {ends : List Int} {s : LS} (h : First7 s) (hk : Okay s) (x : Nat × Sp) (hx : s.ps = [] ∨ s.last.r ≤ x.1) : First7 (stepP ends s x) := by
  obtain ⟨p, hp⟩ : ∃ p, placeP ends s x = p := ⟨_, rfl⟩
  have hc : p.c ≤ s.t.length := by rw [← hp]; exact place_col hk x
  have hr : p.r = x.1 := by rw [← hp]; rfl
  have hpc : p.c = firstF s.t x.1 (fromP s x.1) := by rw [← hp]; rfl
  obtain ⟨f1, f2, f3⟩ := firstF_spec s.t x.1 (fromP s x.1)
  rw [← hpc] at f1 f2 f3
  have hget := takeN_get s.t p.c (x.1 + p.h) hc p.w
  have hlow : ∀ q ∈ s.ps, q.r ≤ x.1 := fun q hq => by
    rcases hx with hx | hx
    · rw [hx] at hq; cases hq
    · have := h.low q hq; omega
  have hleft : ∀ q ∈ s.ps, q.r = x.1 → q.c + q.w ≤ fromP s x.1 := fun q hq e => by
    have h1 := h.low q hq
    have h2 : s.last.r = x.1 := by
      rcases hx with hx | hx
      · rw [hx] at hq; cases hq
      · omega
    have := h.left q hq (by omega)
    unfold fromP
    rw [if_pos h2.symm]
    exact this
  unfold stepP
  rw [hp]
  refine ⟨fun i q hi c h1 h2 => ?_, fun c z hz => ?_, .inr ?_, fun q hq => ?_, fun q hq e => ?_⟩
  · show Above (s.ps ++ [p]) i q.r c
    have hi : (s.ps ++ [p])[i]? = some q := hi
    have h1 : fromI (s.ps ++ [p]) i q.r ≤ c := h1
    have lift : ∀ {j : Nat}, j ≤ s.ps.length → Above s.ps j q.r c → Above (s.ps ++ [p]) j q.r c := fun {j} hj ⟨k, q', g1, g2, g3, g4⟩ => ⟨k, q', g1, by rw [List.getElem?_append_left (by omega)]; exact g2, g3, g4⟩
    by_cases hil : i < s.ps.length
    · rw [List.getElem?_append_left hil] at hi
      rw [fromI_app _ _ _ _ (by omega)] at h1
      exact lift (by omega) (h.all i q hi c h1 h2)
    · have hie : i = s.ps.length := by
        have := (List.getElem?_eq_some_iff.1 hi).1
        simp at this; omega
      subst hie
      have hqp : q = p := by simpa using hi.symm
      subst hqp
      rw [fromI_app _ _ _ _ (Nat.le_refl _), h.from, hr] at h1
      have hf := f2 c h1 h2
      have hlt := freeB_lt hf
      obtain ⟨z, hz⟩ : ∃ z, s.t[c]? = some z := ⟨_, List.getElem?_eq_getElem hlt⟩
      rw [freeB_at hz] at hf
      simp at hf
      obtain ⟨k, q', g1, g2, g3⟩ := h.src c z hz
      have hkl := (List.getElem?_eq_some_iff.1 g1).1
      have hmem := List.mem_iff_getElem?.2 ⟨k, g1⟩
      have hq1 := hlow q' hmem
      refine lift (Nat.le_refl _) ⟨k, q', hkl, g1, ?_, ?_⟩
      · rw [hr]
        apply Classical.byContradiction
        intro hn
        have := hleft q' hmem (by omega)
        omega
      · rw [slots_mem]
        dsimp only
        rw [hr]
        omega
  · have hz : (takeN s.t p.c (x.1 + p.h) p.w)[c]? = some z := hz
    show ∃ k q, (s.ps ++ [p])[k]? = some q ∧ _ ∧ _
    rw [hget] at hz
    by_cases hin : p.c ≤ c ∧ c < p.c + p.w
    · rw [if_pos hin] at hz
      injection hz with hz
      exact ⟨s.ps.length, p, by simp, hin, by omega⟩
    · rw [if_neg hin] at hz
      obtain ⟨k, q, g1, g2, g3⟩ := h.src c z hz
      exact ⟨k, q, by rw [List.getElem?_append_left (List.getElem?_eq_some_iff.1 g1).1]; exact g1, g2, g3⟩
  · show (s.ps ++ [p])[(s.ps ++ [p]).length - 1]? = some p ∧ 0 < (s.ps ++ [p]).length
    simp
  · show q.r ≤ p.r
    rcases List.mem_append.1 hq with hq | hq
    · have := hlow q hq; omega
    · obtain rfl := List.mem_singleton.1 hq; omega
  · show q.c + q.w ≤ p.c + p.w
    have e : q.r = p.r := e
    rcases List.mem_append.1 hq with hq | hq
    · have := hleft q hq (by omega); omega
    · obtain rfl := List.mem_singleton.1 hq; omega
theorem run_first {ends : List Int} : ∀ (l : List (Nat × Sp)) (s s' : LS), l.Pairwise (fun a b => a.1 ≤ b.1) → (s.ps = [] ∨ ∀ x ∈ l, s.last.r ≤ x.1) → Okay s → First7 s → runP ends l s = some s' → First7 s'
  | [], s, s', _, _, _, h, hr => by cases hr; exact h
  | x :: l, s, s', hp, hx, hk, h, hr => by
    simp only [runP] at hr
    split at hr
    · cases hr
    · rename_i hl
      rw [List.pairwise_cons] at hp
      refine run_first l _ s' hp.2 (.inr fun y hy => ?_) (hk.step x hl) (h.step hk x ?_) hr
      · show x.1 ≤ y.1
        exact hp.1 y hy
      · rcases hx with hx | hx
        · exact .inl hx
        · exact .inr (hx x (by simp))
theorem cells_sorted : ∀ (rows : List (List Sp)) (k : Nat), (cellsF k rows).Pairwise (fun a b => a.1 ≤ b.1)
  | [], k => List.Pairwise.nil
  | row :: r, k => by
    unfold cellsF
    rw [List.pairwise_append]
    refine ⟨?_, cells_sorted r (k + 1), fun a ha b hb => ?_⟩
    · rw [List.pairwise_map]
      exact List.pairwise_of_forall (fun _ _ => Nat.le_refl _)
    · obtain ⟨y, _, rfl⟩ := List.mem_map.1 ha
      have := cellsF_row (k + 1) r b hb
      show k ≤ b.1
      omega
theorem lay_first {rows : List (List Sp)} {ends : List Int} {s : LS} (h : layP rows ends = some s) : First7 s :=
  run_first _ _ _ (cells_sorted rows 0) (.inl rfl) Okay.zero First7.zero h
/-- the owner of a slot -/
theorem ent_get : ∀ (L : List Pl) (k0 k : Nat) (q : Pl) (s : Nat × Nat), L[k]? = some q → s ∈ slotsL q → (s, k0 + k) ∈ entL k0 (L.map Pl.z)
  | [], k0, k, q, s, h, _ => by simp at h
  | p :: L, k0, 0, q, s, h, hs => by
    simp at h; subst h
    have hzp : p.z.pl = p := by simp [Pl.z, Pz.pl]
    simp only [List.map_cons, entL, List.mem_append, hzp]
    exact .inl (List.mem_map.2 ⟨s, hs, rfl⟩)
  | p :: L, k0, k + 1, q, s, h, hs => by
    simp only [List.map_cons, entL, List.mem_append]
    have := ent_get L (k0 + 1) k q s (by simpa using h) hs
    rw [show k0 + 1 + k = k0 + (k + 1) by omega] at this
    exact .inr this
theorem own_find {ms : List ((Nat × Nat) × Nat)} (hn : (ms.map Prod.fst).Nodup) {s : Nat × Nat} {k : Nat} (h : (s, k) ∈ ms) : ownA ms.reverse s = (k : Int) := by
  have key : ∀ (l : List ((Nat × Nat) × Nat)), (l.map Prod.fst).Nodup → (s, k) ∈ l → l.find? (fun e => e.1 == s) = some (s, k) := by
    intro l
    induction l with
    | nil => intro _ h; cases h
    | cons a l ih =>
      intro hn h
      rw [List.map_cons, List.nodup_cons] at hn
      rcases List.mem_cons.1 h with h | h
      · subst h; simp
      · have hne : a.1 ≠ s := fun e => hn.1 (List.mem_map.2 ⟨(s, k), h, e.symm⟩)
        rw [List.find?_cons_of_neg (by simpa using hne)]
        exact ih hn.2 h
  unfold ownA
  rw [key ms.reverse (by rw [List.map_reverse]; exact (List.reverse_perm _).nodup_iff.2 hn) (List.mem_reverse.2 h)]
theorem above_own {s : LS} {ends : List Int} (hf : Fit7 ends s) {i r c : Nat} (h : Above s.ps i r c) : ∃ (k : Nat) (q : Pl), k < i ∧ s.ps[k]? = some q ∧ q.r < r ∧ ownA (entL 0 (s.ps.map Pl.z)).reverse (r, c) = (k : Int) := by
  obtain ⟨k, q, h1, h2, h3, h4⟩ := h
  refine ⟨k, q, h1, h2, h3, own_find hf.own ?_⟩
  have := ent_get s.ps 0 k q (r, c) h2 h4
  rwa [Nat.zero_add] at this
/-- a row of owners, column by column -/
theorem rowOf_get (ms : List ((Nat × Nat) × Nat)) (m n r c : Nat) (hr : r < m) (hc : c < n) : (rowOf ms (slotsL ⟨0, 0, 0, m, n⟩) r)[c]? = some (ownA ms (r, c)) := by
  have hfil : ∀ (l : List Nat), l.Nodup → r ∈ l → ((l.flatMap fun a => (List.range' 0 n).map fun b => (a, b)).filter fun s => s.1 == r) = (List.range' 0 n).map fun b => (r, b) := by
    intro l
    induction l with
    | nil => intro _ h; cases h
    | cons a l ih =>
      intro hn h
      rw [List.nodup_cons] at hn
      rw [List.flatMap_cons, List.filter_append]
      by_cases e : a = r
      · subst e
        have h1 : ((List.range' 0 n).map fun b => (a, b)).filter (fun s => s.1 == a) = (List.range' 0 n).map fun b => (a, b) := by
          rw [List.filter_eq_self]
          intro x hx
          obtain ⟨b, _, rfl⟩ := List.mem_map.1 hx
          simp
        have h2 : (l.flatMap fun a => (List.range' 0 n).map fun b => (a, b)).filter (fun s => s.1 == a) = [] := by
          rw [List.filter_eq_nil_iff]
          intro x hx
          obtain ⟨a', ha', hx⟩ := List.mem_flatMap.1 hx
          obtain ⟨b, _, rfl⟩ := List.mem_map.1 hx
          simp
          intro e'
          exact hn.1 (e' ▸ ha')
        rw [h1, h2, List.append_nil]
      · have h1 : ((List.range' 0 n).map fun b => (a, b)).filter (fun s => s.1 == r) = [] := by
          rw [List.filter_eq_nil_iff]
          intro x hx
          obtain ⟨b, _, rfl⟩ := List.mem_map.1 hx
          simpa using e
        rw [h1, List.nil_append]
        exact ih hn.2 (by rcases List.mem_cons.1 h with h | h; exact absurd h.symm e; exact h)
  have hs : slotsL ⟨0, 0, 0, m, n⟩ = (List.range' 0 m).flatMap fun a => (List.range' 0 n).map fun b => (a, b) := by
    unfold slotsL rowsS rowS
    simp
  unfold rowOf
  rw [hs, hfil _ List.nodup_range' (by simp [List.mem_range'_1]; omega)]
  simp [hc]
end Go.Proofs.Ytgmgkkljoeahhaa
