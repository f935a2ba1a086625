/- What grid.Slots answers, as rows of owners (taken from GOpenP, GRMat and GRSl by mk_CoSl.py, for seats without law 7). -/
import Derived.Test.YtceippgkmoijdaaGSlots
namespace Go.Proofs.Ytceippgkmoijdaa
open Go.RowKit Go.Shelf
set_option linter.unusedVariables false
set_option linter.unusedSimpArgs false

/-- each number of a place fits -/
def Pz.ok (p : Pz) : Prop := I64 p.n ∧ I64 p.r ∧ I64 p.c ∧ I64 p.h ∧ I64 p.w
def rowM (ms : List ((Nat × Nat) × Nat)) (cols r : Nat) : List Int := (List.range cols).map fun c => ownA ms (r, c)
def matM (ms : List ((Nat × Nat) × Nat)) (rows cols : Nat) : List (List Int) := (List.range rows).map (rowM ms cols)
theorem rowM_len (ms : List ((Nat × Nat) × Nat)) (cols r : Nat) : (rowM ms cols r).length = cols := by simp [rowM]
theorem matM_len (ms : List ((Nat × Nat) × Nat)) (rows cols : Nat) : (matM ms rows cols).length = rows := by simp [matM]
theorem matM_get (ms : List ((Nat × Nat) × Nat)) (rows cols r : Nat) (hr : r < rows) : (matM ms rows cols)[r]? = some (rowM ms cols r) := by simp [matM, hr]
theorem rowM_get (ms : List ((Nat × Nat) × Nat)) (cols r c : Nat) (hc : c < cols) : (rowM ms cols r)[c]? = some (ownA ms (r, c)) := by simp [rowM, hc]
theorem own_intsZ {W : World} {base e n : Nat} {v : Value} {zs : List Int} (h : W.ownsRow base e 1 v n (zs.map (Value.int .i64))) : Ints W v zs := by
  have h' := h
  have hl : zs.length = n := by have := h.1; simpa using this
  rcases h.2 with ⟨rfl, hn⟩ | ⟨g, cap, cur, rfl, hb, hg, hnc, hcm, hcs, htk⟩
  · exact ⟨by omega, .inl ⟨none, 0, rfl, List.length_eq_zero_iff.1 (by omega)⟩⟩
  · unfold maxLen at hcm
    refine ⟨by omega, .inr ⟨g, 0, cap, by rw [hl], fun j hj => ?_⟩⟩
    have := World.ownsRow.cellAt h' j (by omega)
    rw [Nat.zero_add, this]; simp [hj]
/-- rows of numbers, for reading -/
def RowsZ (X : World) (v : Value) (M : List (List Int)) : Prop :=
  ∃ ob cap, v = .slice ob M.length cap ∧ ∀ (r : Nat) (l : List Int), M[r]? = some l → ∃ b u, ob = some ⟨b, 0, none⟩ ∧ b < X.heap.size ∧ X.cell? ⟨b, r, none⟩ = some u ∧ Ints X u l
theorem RowsZ.below {X Y : World} {v : Value} {M : List (List Int)} (h : RowsZ X v M) (hb : Below X.heap.size X Y) : RowsZ Y v M := by
  obtain ⟨ob, cap, rfl, hr⟩ := h
  refine ⟨ob, cap, rfl, fun r l hl => ?_⟩
  obtain ⟨b, u, h1, h2, h3, h4⟩ := hr r l hl
  exact ⟨b, u, h1, by have := hb.size; omega, (hb.cell (p := ⟨b, r, none⟩) h2).trans h3, h4.below hb⟩
theorem rowOf_eq (ms : List ((Nat × Nat) × Nat)) (m n r : Nat) (hr : r < m) : rowOf ms (slotsL ⟨0, 0, 0, m, n⟩) r = rowM ms n r := by
  have hfil : ∀ (l : List Nat), l.Nodup → r ∈ l → ((l.flatMap fun a => (List.range' 0 n).map fun b => (a, b)).filter fun s => s.1 == r) = (List.range' 0 n).map fun b => (r, b) := by
    intro l
    induction l with
    | nil => intro _ h; cases h
    | cons a l ih =>
      intro hn h
      rw [List.nodup_cons] at hn
      rw [List.flatMap_cons, List.filter_append]
      by_cases e : a = r
      · subst e
        have h1 : ((List.range' 0 n).map fun b => (a, b)).filter (fun s => s.1 == a) = (List.range' 0 n).map fun b => (a, b) := by
          rw [List.filter_eq_self]
          intro x hx
          obtain ⟨b, _, rfl⟩ := List.mem_map.1 hx
          simp
        have h2 : (l.flatMap fun a => (List.range' 0 n).map fun b => (a, b)).filter (fun s => s.1 == a) = [] := by
          rw [List.filter_eq_nil_iff]
          intro x hx
          obtain ⟨a', ha', hx⟩ := List.mem_flatMap.1 hx
          obtain ⟨b, _, rfl⟩ := List.mem_map.1 hx
          simp
          intro e'
          exact hn.1 (e' ▸ ha')
        rw [h1, h2, List.append_nil]
      · have h1 : ((List.range' 0 n).map fun b => (a, b)).filter (fun s => s.1 == r) = [] := by
          rw [List.filter_eq_nil_iff]
          intro x hx
          obtain ⟨b, _, rfl⟩ := List.mem_map.1 hx
          simpa using e
        rw [h1, List.nil_append]
        exact ih hn.2 (by rcases List.mem_cons.1 h with h | h; exact absurd h.symm e; exact h)
  have hs : slotsL ⟨0, 0, 0, m, n⟩ = (List.range' 0 m).flatMap fun a => (List.range' 0 n).map fun b => (a, b) := by
    unfold slotsL rowsS rowS
    simp
  unfold rowOf rowM
  rw [hs, hfil _ List.nodup_range' (by simp [List.mem_range'_1]; omega), List.map_map, ← List.range_eq_range']
  rfl
/-- the owners, row by row -/
def ownM (L : List Pz) (rows cols : Nat) : List (List Int) := matM (entL 0 L).reverse rows cols
theorem slots_rowsZ {X : World} {g base rows cols : Nat} {hs : List Value} {L : List Pz} (hw : Whole X g 95 hs) (hl : hs.length = rows)
    (ho : ∀ (r : Nat) (u : Value), hs[r]? = some u → X.ownsRow base 3 1 u (rowOf (entL 0 L).reverse (slotsL ⟨0, 0, 0, rows, cols⟩) r).length ((rowOf (entL 0 L).reverse (slotsL ⟨0, 0, 0, rows, cols⟩) r).map (Value.int .i64))) : RowsZ X (.slice (some ⟨g, 0, none⟩) rows rows) (ownM L rows cols) := by
  refine ⟨_, rows, by rw [show (ownM L rows cols).length = rows from matM_len _ _ _], fun r l hl2 => ?_⟩
  have hr : r < rows := by have := (List.getElem?_eq_some_iff.1 hl2).1; rwa [show (ownM L rows cols).length = rows from matM_len _ _ _] at this
  obtain ⟨u, hu⟩ : ∃ u, hs[r]? = some u := ⟨_, List.getElem?_eq_getElem (by omega)⟩
  refine ⟨g, u, rfl, hw.lt, by rw [hw.cellAt, hu], ?_⟩
  have h1 := own_intsZ (ho r u hu)
  rw [rowOf_eq _ _ _ _ hr] at h1
  have h2 : (ownM L rows cols)[r]? = some (rowM (entL 0 L).reverse cols r) := matM_get _ _ _ _ hr
  rw [hl2] at h2
  cases h2
  exact h1
/-- the answers for what owns its slots -/
theorem own7_ok {pp : Option Addr} {m cap rows cols : Nat} {L : List Pz} {X : World} (hl : L.length = m) (hP : PsAt X (.slice pp m cap) L) (hI : ∀ p ∈ L, p.ok) (hS : SizeQ rows cols) (hO : OwnQ rows cols L) :
    Hid (Calls Try.prog 68 #[.slice pp m cap, .int .i64 rows, .int .i64 cols] X fun e W' => ∃ mb, e = .returned (.tuple #[.map (some mb), .int .i64 0]) ∧ MapAt W' mb (entL 0 L).reverse ∧ Below X.heap.size X W') := by
  refine Lib.hid ((owners_ok pp m cap rows cols L X hl hP hS (fun p hp => ?_)).mono ?_)
  · obtain ⟨_, h1, h2, h3, h4⟩ := hI p hp
    exact ⟨⟨h1, h3⟩, h2, h4⟩
  · rintro e W' ⟨hb, ⟨h1, _⟩ | ⟨_, mb, _, rfl, h2⟩⟩
    · exact absurd hO h1
    · exact ⟨mb, rfl, h2, hb⟩
theorem own7_bad {pp : Option Addr} {m cap : Nat} {rows cols : Int} {L : List Pz} {X : World} (hl : L.length = m) (hP : PsAt X (.slice pp m cap) L) (hI : ∀ p ∈ L, p.ok) (hO : ¬ (SizeQ rows cols ∧ OwnQ rows.toNat cols.toNat L)) :
    Hid (Calls Try.prog 68 #[.slice pp m cap, .int .i64 rows, .int .i64 cols] X fun e W' => e = .returned (.tuple #[.map none, .int .i64 70]) ∧ Below X.heap.size X W') := by
  by_cases hS : SizeQ rows cols
  · obtain ⟨r, rfl⟩ := Int.eq_ofNat_of_zero_le hS.1.1
    obtain ⟨c, rfl⟩ := Int.eq_ofNat_of_zero_le hS.2.1.1
    refine Lib.hid ((owners_ok pp m cap r c L X hl hP hS (fun p hp => ?_)).mono ?_)
    · obtain ⟨_, h1, h2, h3, h4⟩ := hI p hp
      exact ⟨⟨h1, h3⟩, h2, h4⟩
    · rintro e W' ⟨hb, ⟨_, rfl⟩ | ⟨h1, _⟩⟩
      · exact ⟨rfl, hb⟩
      · exact absurd ⟨hS, h1⟩ hO
  · exact Lib.hid (owners_size _ rows cols X hS)
theorem slots7_ok {pp : Option Addr} {m cap rows cols : Nat} {L : List Pz} {X : World} (hl : L.length = m) (hP : PsAt X (.slice pp m cap) L) (hI : ∀ p ∈ L, p.ok) (hS : SizeQ rows cols) (hO : OwnQ rows cols L) :
    Calls Try.prog 41 #[.slice pp m cap, .int .i64 rows, .int .i64 cols] X fun e W' => ∃ p c, e = .returned (.tuple #[.slice p rows c, .int .i64 0]) ∧ RowsZ W' (.slice p rows c) (ownM L rows cols) ∧ Below X.heap.size X W' :=
  (slots_ok (.slice pp m cap) rows cols L X hS ⟨_, _, _, rfl⟩ (own7_ok hl hP hI hS hO)).mono fun e W' ⟨g, hs, he, h1, h2, _, h3, hb⟩ => ⟨_, _, he, slots_rowsZ h1 h2 h3, hb⟩
/-- the answers for what does not -/
theorem slots7_bad {pp : Option Addr} {m cap : Nat} {rows cols : Int} {L : List Pz} {X : World} (hl : L.length = m) (hP : PsAt X (.slice pp m cap) L) (hI : ∀ p ∈ L, p.ok) (hO : ¬ (SizeQ rows cols ∧ OwnQ rows.toNat cols.toNat L)) :
    Calls Try.prog 41 #[.slice pp m cap, .int .i64 rows, .int .i64 cols] X fun e W' => e = .returned (.tuple #[.slice none 0 0, .int .i64 70]) ∧ Below X.heap.size X W' :=
  slots_bad (.slice pp m cap) rows cols X ⟨_, _, _, rfl⟩ (own7_bad hl hP hI hO)
/-- a row of owners -/
theorem RowsZ.at {X : World} {p : Option Addr} {rows c cols : Nat} {L : List Pz} (h : RowsZ X (.slice p rows c) (ownM L rows cols)) (r : Nat) (hr : r < rows) :
    ∃ b q cq, p = some ⟨b, 0, none⟩ ∧ b < X.heap.size ∧ X.cell? ⟨b, r, none⟩ = some (.slice q cols cq) ∧ Ints X (.slice q cols cq) (rowM (entL 0 L).reverse cols r) := by
  obtain ⟨ob, cap, hv, hz⟩ := h
  obtain ⟨b, u, h1, h2, h3, h4⟩ := hz r _ (matM_get _ _ _ _ hr)
  injection hv with e1 e2 e3
  subst e1 h1
  have h5 : ∃ q cq, u = .slice q cols cq := by
    obtain ⟨_, ⟨a, cap', e, h0⟩ | ⟨g, off, cap', e, _⟩⟩ := h4
    · have hl := rowM_len (entL 0 L).reverse cols r
      rw [h0] at hl
      simp at hl
      subst hl
      exact ⟨a, cap', e⟩
    · rw [rowM_len] at e
      exact ⟨_, cap', e⟩
  obtain ⟨q, cq, rfl⟩ := h5
  exact ⟨b, q, cq, rfl, h2, h3, h4⟩
theorem ints_cell {X : World} {q : Option Addr} {n c : Nat} {zs : List Int} (h : Ints X (.slice q n c) zs) (j : Nat) (hj : j < zs.length) : ∃ b o, q = some ⟨b, o, none⟩ ∧ b < X.heap.size ∧ X.cell? ⟨b, o + j, none⟩ = some (.int .i64 (zs[j]?.getD 0)) := by
  obtain ⟨_, ⟨a, cap', e, rfl⟩ | ⟨g, off, cap', e, hc⟩⟩ := h
  · simp at hj
  · injection e with e1 e2 e3
    exact ⟨g, off, e1, cell_lt (hc j hj), hc j hj⟩
theorem own_same {X Y : World} {base e sz n : Nat} {v : Value} {xs : List Value} (h : X.ownsRow base e sz v n xs) (hs : ∀ g, base ≤ g → g < X.heap.size → Y.heap[g]? = X.heap[g]?) : Y.ownsRow base e sz v n xs := by
  refine ⟨h.1, h.2.imp id ?_⟩
  rintro ⟨g, cap, cur, e, h1, h2, h3⟩
  exact ⟨g, cap, cur, e, h1, (hs g h1 (Array.getElem?_eq_some_iff.1 h2).1).trans h2, h3⟩
/-- what Slots answers stays while the blocks that it has made do -/
theorem slots7_keep {pp : Option Addr} {m cap rows cols : Nat} {L : List Pz} {X : World} (hl : L.length = m) (hP : PsAt X (.slice pp m cap) L) (hI : ∀ p ∈ L, p.ok) (hS : SizeQ rows cols) (hO : OwnQ rows cols L) :
    Calls Try.prog 41 #[.slice pp m cap, .int .i64 rows, .int .i64 cols] X fun e W' => ∃ p c, e = .returned (.tuple #[.slice p rows c, .int .i64 0]) ∧ (∀ Y : World, (∀ g, X.heap.size ≤ g → g < W'.heap.size → Y.heap[g]? = W'.heap[g]?) → RowsZ Y (.slice p rows c) (ownM L rows cols)) ∧ Below X.heap.size X W' :=
  (slots_ok (.slice pp m cap) rows cols L X hS ⟨_, _, _, rfl⟩ (own7_ok hl hP hI hS hO)).mono fun e W' ⟨g, hs, he, h1, h2, hg, h3, hb⟩ =>
    ⟨_, _, he, fun Y hY => slots_rowsZ ((hY (g + 1) (by omega) h1.lt).trans h1) h2 (fun r u hr => own_same (h3 r u hr) hY), hb⟩
end Go.Proofs.Ytceippgkmoijdaa
