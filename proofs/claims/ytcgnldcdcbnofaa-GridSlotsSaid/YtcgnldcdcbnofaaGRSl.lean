/- Rows of owners, for reading; the answers of Slots, of the document's Slots, and of Empty in one form. -/
import Derived.Test.YtcgnldcdcbnofaaGRefS2
import Derived.Test.YtcgnldcdcbnofaaTInts
namespace Go.Proofs.Ytcgnldcdcbnofaa
open Go.RowKit Go.Shelf
set_option linter.unusedVariables false
set_option linter.unusedSimpArgs false

theorem own_intsZ {W : World} {base e n : Nat} {v : Value} {zs : List Int} (h : W.ownsRow base e 1 v n (zs.map (Value.int .i64))) : Ints W v zs := by
  have h' := h
  have hl : zs.length = n := by have := h.1; simpa using this
  rcases h.2 with ⟨rfl, hn⟩ | ⟨g, cap, cur, rfl, hb, hg, hnc, hcm, hcs, htk⟩
  · exact ⟨by omega, .inl ⟨none, 0, rfl, List.length_eq_zero_iff.1 (by omega)⟩⟩
  · unfold maxLen at hcm
    refine ⟨by omega, .inr ⟨g, 0, cap, by rw [hl], fun j hj => ?_⟩⟩
    have := World.ownsRow.cellAt h' j (by omega)
    rw [Nat.zero_add, this]; simp [hj]
/-- rows of numbers, for reading -/
def RowsZ (X : World) (v : Value) (M : List (List Int)) : Prop :=
  ∃ ob cap, v = .slice ob M.length cap ∧ ∀ (r : Nat) (l : List Int), M[r]? = some l → ∃ b u, ob = some ⟨b, 0, none⟩ ∧ b < X.heap.size ∧ X.cell? ⟨b, r, none⟩ = some u ∧ Ints X u l
theorem RowsZ.below {X Y : World} {v : Value} {M : List (List Int)} (h : RowsZ X v M) (hb : Below X.heap.size X Y) : RowsZ Y v M := by
  obtain ⟨ob, cap, rfl, hr⟩ := h
  refine ⟨ob, cap, rfl, fun r l hl => ?_⟩
  obtain ⟨b, u, h1, h2, h3, h4⟩ := hr r l hl
  exact ⟨b, u, h1, by have := hb.size; omega, (hb.cell (p := ⟨b, r, none⟩) h2).trans h3, h4.below hb⟩
theorem RM.rowsZ {w X : World} {out : Value} {hs : List Value} {M : List (List Int)} (h : RM w out hs M X) : RowsZ X out M := by
  obtain ⟨po, no, co, rfl⟩ := own_slice h.ot
  have hn : no = hs.length := by
    rcases h.ot.2 with ⟨e, h0⟩ | ⟨g, cap', cur, e, _⟩
    · injection e with e1 e2 e3; omega
    · injection e
  subst hn
  refine ⟨po, co, by rw [h.hl], fun r l hl => ?_⟩
  have hr := (List.getElem?_eq_some_iff.1 hl).1
  obtain ⟨u, hu⟩ : ∃ u, hs[r]? = some u := ⟨_, List.getElem?_eq_getElem (by rw [h.hl]; exact hr)⟩
  have hot := h.ot
  obtain ⟨ob, ocap, he, ho1, ho2⟩ := hot.form (by rw [h.hl]; omega)
  injection he with e1 e2 e3
  subst e1
  refine ⟨ob, u, rfl, ho2, ?_, own_intsZ (h.ro r u l hu hl)⟩
  rw [hot.cellAt _ (by rw [h.hl]; omega), hu]
theorem rowOf_eq (ms : List ((Nat × Nat) × Nat)) (m n r : Nat) (hr : r < m) : rowOf ms (slotsL ⟨0, 0, 0, m, n⟩) r = rowM ms n r := by
  have hfil : ∀ (l : List Nat), l.Nodup → r ∈ l → ((l.flatMap fun a => (List.range' 0 n).map fun b => (a, b)).filter fun s => s.1 == r) = (List.range' 0 n).map fun b => (r, b) := by
    intro l
    induction l with
    | nil => intro _ h; cases h
    | cons a l ih =>
      intro hn h
      rw [List.nodup_cons] at hn
      rw [List.flatMap_cons, List.filter_append]
      by_cases e : a = r
      · subst e
        have h1 : ((List.range' 0 n).map fun b => (a, b)).filter (fun s => s.1 == a) = (List.range' 0 n).map fun b => (a, b) := by
          rw [List.filter_eq_self]
          intro x hx
          obtain ⟨b, _, rfl⟩ := List.mem_map.1 hx
          simp
        have h2 : (l.flatMap fun a => (List.range' 0 n).map fun b => (a, b)).filter (fun s => s.1 == a) = [] := by
          rw [List.filter_eq_nil_iff]
          intro x hx
          obtain ⟨a', ha', hx⟩ := List.mem_flatMap.1 hx
          obtain ⟨b, _, rfl⟩ := List.mem_map.1 hx
          simp
          intro e'
          exact hn.1 (e' ▸ ha')
        rw [h1, h2, List.append_nil]
      · have h1 : ((List.range' 0 n).map fun b => (a, b)).filter (fun s => s.1 == r) = [] := by
          rw [List.filter_eq_nil_iff]
          intro x hx
          obtain ⟨b, _, rfl⟩ := List.mem_map.1 hx
          simpa using e
        rw [h1, List.nil_append]
        exact ih hn.2 (by rcases List.mem_cons.1 h with h | h; exact absurd h.symm e; exact h)
  have hs : slotsL ⟨0, 0, 0, m, n⟩ = (List.range' 0 m).flatMap fun a => (List.range' 0 n).map fun b => (a, b) := by
    unfold slotsL rowsS rowS
    simp
  unfold rowOf rowM
  rw [hs, hfil _ List.nodup_range' (by simp [List.mem_range'_1]; omega), List.map_map, ← List.range_eq_range']
  rfl
/-- the owners, row by row -/
def ownM (L : List Pz) (rows cols : Nat) : List (List Int) := matM (entL 0 L).reverse rows cols
theorem tookM_all (L : List Pz) : tookM L L.length [] = (entL 0 L).reverse := by simp [tookM]
theorem slots_rowsZ {X : World} {g base rows cols : Nat} {hs : List Value} {L : List Pz} (hw : Whole X g 26 hs) (hl : hs.length = rows)
    (ho : ∀ (r : Nat) (u : Value), hs[r]? = some u → X.ownsRow base 3 1 u (rowOf (entL 0 L).reverse (slotsL ⟨0, 0, 0, rows, cols⟩) r).length ((rowOf (entL 0 L).reverse (slotsL ⟨0, 0, 0, rows, cols⟩) r).map (Value.int .i64))) : RowsZ X (.slice (some ⟨g, 0, none⟩) rows rows) (ownM L rows cols) := by
  refine ⟨_, rows, by rw [show (ownM L rows cols).length = rows from matM_len _ _ _], fun r l hl2 => ?_⟩
  have hr : r < rows := by have := (List.getElem?_eq_some_iff.1 hl2).1; rwa [show (ownM L rows cols).length = rows from matM_len _ _ _] at this
  obtain ⟨u, hu⟩ : ∃ u, hs[r]? = some u := ⟨_, List.getElem?_eq_getElem (by omega)⟩
  refine ⟨g, u, rfl, hw.lt, by rw [hw.cellAt, hu], ?_⟩
  have h1 := own_intsZ (ho r u hu)
  rw [rowOf_eq _ _ _ _ hr] at h1
  have h2 : (ownM L rows cols)[r]? = some (rowM (entL 0 L).reverse cols r) := matM_get _ _ _ _ hr
  rw [hl2] at h2
  cases h2
  exact h1
/-- slots that are listed -/
def SlotsZ (X : World) (v : Value) (S : List (Nat × Nat)) : Prop :=
  ∃ ob cap, v = .slice ob S.length cap ∧ ∀ (k : Nat) (s : Nat × Nat), S[k]? = some s → ∃ b, ob = some ⟨b, 0, none⟩ ∧ b < X.heap.size ∧ X.cell? ⟨b, k * 2, none⟩ = some (.int .i64 (s.1 : Int)) ∧ X.cell? ⟨b, k * 2 + 1, none⟩ = some (.int .i64 (s.2 : Int))
theorem slotC_get : ∀ (S : List (Nat × Nat)) (k : Nat) (s : Nat × Nat), S[k]? = some s → (S.flatMap slotC)[k * 2]? = some (.int .i64 (s.1 : Int)) ∧ (S.flatMap slotC)[k * 2 + 1]? = some (.int .i64 (s.2 : Int))
  | [], k, s, h => by simp at h
  | x :: S, 0, s, h => by
    simp at h; subst h
    simp [slotC]
  | x :: S, k + 1, s, h => by
    have ih := slotC_get S k s (by simpa using h)
    have e : (x :: S).flatMap slotC = slotC x ++ S.flatMap slotC := rfl
    have hl : (slotC x).length = 2 := rfl
    rw [e, List.getElem?_append_right (by omega), List.getElem?_append_right (by omega), hl, show (k + 1) * 2 - 2 = k * 2 by omega, show (k + 1) * 2 + 1 - 2 = k * 2 + 1 by omega]
    exact ih
theorem slotsZ_own {X : World} {base : Nat} {v : Value} {S : List (Nat × Nat)} (h : X.ownsRow base 43 2 v S.length (S.flatMap slotC)) : SlotsZ X v S := by
  have hl := fun g hg => h.lt g hg
  have hc := fun g hg => h.cells (g := g) hg
  rcases h.2 with ⟨e, h0⟩ | ⟨g, cap, cur, rfl, hb, hg, hnc, hcm, hcs, ht⟩
  · subst e
    refine ⟨none, 0, by rw [h0], fun k s hk => ?_⟩
    have := (List.getElem?_eq_some_iff.1 hk).1
    omega
  · refine ⟨_, cap, rfl, fun k s hk => ⟨g, rfl, (hl g rfl).2, ?_, ?_⟩⟩
    · have := hc g rfl (k * 2) _ (slotC_get S k s hk).1
      rwa [add_plain, Nat.zero_add] at this
    · have := hc g rfl (k * 2 + 1) _ (slotC_get S k s hk).2
      rwa [add_plain, Nat.zero_add] at this
theorem SlotsZ.below {X Y : World} {v : Value} {S : List (Nat × Nat)} (h : SlotsZ X v S) (hb : Below X.heap.size X Y) : SlotsZ Y v S := by
  obtain ⟨ob, cap, rfl, hr⟩ := h
  refine ⟨ob, cap, rfl, fun k s hk => ?_⟩
  obtain ⟨b, h1, h2, h3, h4⟩ := hr k s hk
  exact ⟨b, h1, by have := hb.size; omega, (hb.cell (p := ⟨b, k * 2, none⟩) h2).trans h3, (hb.cell (p := ⟨b, k * 2 + 1, none⟩) h2).trans h4⟩
/-- the answers for what owns its slots -/
theorem own7_ok {pp : Option Addr} {m cap rows cols : Nat} {L : List Pz} {X : World} (hl : L.length = m) (hP : PsAt X (.slice pp m cap) L) (hI : ∀ p ∈ L, p.ok) (hS : SizeQ rows cols) (hO : OwnQ rows cols L) :
    Hid (Calls Try.prog 23 #[.slice pp m cap, .int .i64 rows, .int .i64 cols] X fun e W' => ∃ mb, e = .returned (.tuple #[.map (some mb), .int .i64 0]) ∧ MapAt W' mb (entL 0 L).reverse ∧ Below X.heap.size X W') := by
  refine Lib.hid ((owners_ok pp m cap rows cols L X hl hP hS (fun p hp => ?_)).mono ?_)
  · obtain ⟨_, h1, h2, h3, h4⟩ := hI p hp
    exact ⟨⟨h1, h3⟩, h2, h4⟩
  · rintro e W' ⟨hb, ⟨h1, _⟩ | ⟨_, mb, _, rfl, h2⟩⟩
    · exact absurd hO h1
    · exact ⟨mb, rfl, h2, hb⟩
theorem own7_bad {pp : Option Addr} {m cap : Nat} {rows cols : Int} {L : List Pz} {X : World} (hl : L.length = m) (hP : PsAt X (.slice pp m cap) L) (hI : ∀ p ∈ L, p.ok) (hO : ¬ (SizeQ rows cols ∧ OwnQ rows.toNat cols.toNat L)) :
    Hid (Calls Try.prog 23 #[.slice pp m cap, .int .i64 rows, .int .i64 cols] X fun e W' => e = .returned (.tuple #[.map none, .int .i64 70]) ∧ Below X.heap.size X W') := by
  by_cases hS : SizeQ rows cols
  · obtain ⟨r, rfl⟩ := Int.eq_ofNat_of_zero_le hS.1.1
    obtain ⟨c, rfl⟩ := Int.eq_ofNat_of_zero_le hS.2.1.1
    refine Lib.hid ((owners_ok pp m cap r c L X hl hP hS (fun p hp => ?_)).mono ?_)
    · obtain ⟨_, h1, h2, h3, h4⟩ := hI p hp
      exact ⟨⟨h1, h3⟩, h2, h4⟩
    · rintro e W' ⟨hb, ⟨_, rfl⟩ | ⟨h1, _⟩⟩
      · exact ⟨rfl, hb⟩
      · exact absurd ⟨hS, h1⟩ hO
  · exact Lib.hid (owners_size _ rows cols X hS)
theorem slots7_ok {pp : Option Addr} {m cap rows cols : Nat} {L : List Pz} {X : World} (hl : L.length = m) (hP : PsAt X (.slice pp m cap) L) (hI : ∀ p ∈ L, p.ok) (hS : SizeQ rows cols) (hO : OwnQ rows cols L) :
    Calls Try.prog 12 #[.slice pp m cap, .int .i64 rows, .int .i64 cols] X fun e W' => ∃ p c, e = .returned (.tuple #[.slice p rows c, .int .i64 0]) ∧ RowsZ W' (.slice p rows c) (ownM L rows cols) ∧ Below X.heap.size X W' :=
  (slots_ok (.slice pp m cap) rows cols L X hS ⟨_, _, _, rfl⟩ (own7_ok hl hP hI hS hO)).mono fun e W' ⟨g, hs, he, h1, h2, _, h3, hb⟩ => ⟨_, _, he, slots_rowsZ h1 h2 h3, hb⟩
theorem refslots7_ok {pp : Option Addr} {m cap rows cols : Nat} {L : List Pz} {X : World} (hl : L.length = m) (hP : PsAt X (.slice pp m cap) L) (hI : ∀ p ∈ L, p.ok) (hS : SizeQ rows cols) (hO : OwnQ rows cols L) :
    Calls Try.prog 13 #[.slice pp m cap, .int .i64 rows, .int .i64 cols] X fun e W' => ∃ p c, e = .returned (.tuple #[.slice p rows c, .int .i64 0]) ∧ RowsZ W' (.slice p rows c) (ownM L rows cols) ∧ Below X.heap.size X W' := by
  refine (refSlots_any pp m cap rows cols L X hl hP hS hI).mono ?_
  rintro e W' ⟨hb, ⟨h1, _⟩ | ⟨_, v, hs, rfl, h2⟩⟩
  · exact absurd hO h1
  · have hz := h2.rowsZ
    rw [show tookM L m [] = (entL 0 L).reverse by rw [← hl]; exact tookM_all L] at hz
    have hz' : RowsZ W' v (ownM L rows cols) := hz
    obtain ⟨p, c, hv, h3⟩ := id hz'
    rw [show (ownM L rows cols).length = rows from matM_len _ _ _] at hv
    subst hv
    exact ⟨p, c, rfl, hz', hb⟩
theorem empty7_ok {pp : Option Addr} {m cap rows cols : Nat} {L : List Pz} {X : World} (hl : L.length = m) (hP : PsAt X (.slice pp m cap) L) (hI : ∀ p ∈ L, p.ok) (hS : SizeQ rows cols) (hO : OwnQ rows cols L) :
    Calls Try.prog 14 #[.slice pp m cap, .int .i64 rows, .int .i64 cols] X fun e W' => ∃ p c, e = .returned (.tuple #[.slice p (emptyL rows cols L).length c, .int .i64 0]) ∧ SlotsZ W' (.slice p (emptyL rows cols L).length c) (emptyL rows cols L) ∧ Below X.heap.size X W' := by
  refine (empty_ok (.slice pp m cap) rows cols L X hS ⟨_, _, _, rfl⟩ (own7_ok hl hP hI hS hO)).mono ?_
  rintro e W' ⟨v, rfl, h1, hb⟩
  have hz := slotsZ_own h1
  obtain ⟨p, c, hv, h3⟩ := id hz
  subst hv
  exact ⟨p, c, rfl, hz, hb⟩
/-- the answers for what does not -/
theorem slots7_bad {pp : Option Addr} {m cap : Nat} {rows cols : Int} {L : List Pz} {X : World} (hl : L.length = m) (hP : PsAt X (.slice pp m cap) L) (hI : ∀ p ∈ L, p.ok) (hO : ¬ (SizeQ rows cols ∧ OwnQ rows.toNat cols.toNat L)) :
    Calls Try.prog 12 #[.slice pp m cap, .int .i64 rows, .int .i64 cols] X fun e W' => e = .returned (.tuple #[.slice none 0 0, .int .i64 70]) ∧ Below X.heap.size X W' :=
  slots_bad (.slice pp m cap) rows cols X ⟨_, _, _, rfl⟩ (own7_bad hl hP hI hO)
theorem empty7_bad {pp : Option Addr} {m cap : Nat} {rows cols : Int} {L : List Pz} {X : World} (hl : L.length = m) (hP : PsAt X (.slice pp m cap) L) (hI : ∀ p ∈ L, p.ok) (hO : ¬ (SizeQ rows cols ∧ OwnQ rows.toNat cols.toNat L)) :
    Calls Try.prog 14 #[.slice pp m cap, .int .i64 rows, .int .i64 cols] X fun e W' => e = .returned (.tuple #[.slice none 0 0, .int .i64 70]) ∧ Below X.heap.size X W' :=
  empty_bad (.slice pp m cap) rows cols X ⟨_, _, _, rfl⟩ (own7_bad hl hP hI hO)
theorem refslots7_bad {pp : Option Addr} {m cap : Nat} {rows cols : Int} {L : List Pz} {X : World} (hl : L.length = m) (hP : PsAt X (.slice pp m cap) L) (hI : ∀ p ∈ L, p.ok) (hr : I64 rows) (hc : I64 cols) (hO : ¬ (SizeQ rows cols ∧ OwnQ rows.toNat cols.toNat L)) :
    Calls Try.prog 13 #[.slice pp m cap, .int .i64 rows, .int .i64 cols] X fun e W' => e = .returned (.tuple #[.slice none 0 0, .int .i64 70]) ∧ Below X.heap.size X W' := by
  by_cases hS : SizeQ rows cols
  · obtain ⟨r, rfl⟩ := Int.eq_ofNat_of_zero_le hS.1.1
    obtain ⟨c, rfl⟩ := Int.eq_ofNat_of_zero_le hS.2.1.1
    refine (refSlots_any pp m cap r c L X hl hP hS hI).mono ?_
    rintro e W' ⟨hb, ⟨_, rfl⟩ | ⟨h1, _⟩⟩
    · exact ⟨rfl, hb⟩
    · exact absurd ⟨hS, h1⟩ hO
  · exact refSlots_size _ rows cols hr hc X hS
/-- the empty slots ahead of a slot -/
def freeN (L : List Pz) (pre : List (Nat × Nat)) : Nat := (pre.filter (freeSl (entL 0 L).reverse)).length
theorem freeN_taken {L : List Pz} {rows cols r c : Nat} (h : 0 ≤ ownA (entL 0 L).reverse (r, c)) : freeN L (aheadL 0 0 cols r (c + 1)) = freeN L (aheadL 0 0 cols r c) := by
  unfold freeN
  rw [ahead_next, List.filter_append, List.length_append]
  have h1 := (ownA_hit _ _).1 h
  simp only [Nat.zero_add]
  have : freeSl (entL 0 L).reverse (r, c) = false := by unfold freeSl; rw [h1]; rfl
  simp [this]
theorem freeN_free {L : List Pz} {rows cols r c : Nat} (hr : r < rows) (hc : c < cols) (h : ¬ 0 ≤ ownA (entL 0 L).reverse (r, c)) :
    freeN L (aheadL 0 0 cols r (c + 1)) = freeN L (aheadL 0 0 cols r c) + 1 ∧ (emptyL rows cols L)[freeN L (aheadL 0 0 cols r c)]? = some (r, c) := by
  have hf : freeSl (entL 0 L).reverse (r, c) = true := by
    unfold freeSl
    cases hb : ((entL 0 L).reverse.any fun e => e.1 == (r, c)) with
    | true => exact absurd ((ownA_hit _ _).2 hb) h
    | false => rfl
  constructor
  · unfold freeN
    rw [ahead_next, List.filter_append, List.length_append]
    simp only [Nat.zero_add]
    simp [hf]
  · obtain ⟨rest, hrest⟩ := ahead_split 0 0 cols (rows - r - 1) r c hc
    rw [show r + 1 + (rows - r - 1) = rows by omega] at hrest
    simp only [Nat.zero_add] at hrest
    unfold emptyL freeN
    rw [hrest, List.filter_append, List.getElem?_append_right (Nat.le_refl _), Nat.sub_self, List.filter_cons_of_pos hf]
    rfl
theorem freeN_row (L : List Pz) (cols r : Nat) : freeN L (aheadL 0 0 cols r cols) = freeN L (aheadL 0 0 cols (r + 1) 0) := by rw [ahead_row]
theorem freeN_end (L : List Pz) (rows cols : Nat) : freeN L (aheadL 0 0 cols rows 0) = (emptyL rows cols L).length := by rw [ahead_zero]; rfl
theorem freeN_start (L : List Pz) (cols : Nat) : freeN L (aheadL 0 0 cols 0 0) = 0 := by rw [ahead_zero]; rfl
/-- a row of owners -/
theorem RowsZ.at {X : World} {p : Option Addr} {rows c cols : Nat} {L : List Pz} (h : RowsZ X (.slice p rows c) (ownM L rows cols)) (r : Nat) (hr : r < rows) :
    ∃ b q cq, p = some ⟨b, 0, none⟩ ∧ b < X.heap.size ∧ X.cell? ⟨b, r, none⟩ = some (.slice q cols cq) ∧ Ints X (.slice q cols cq) (rowM (entL 0 L).reverse cols r) := by
  obtain ⟨ob, cap, hv, hz⟩ := h
  obtain ⟨b, u, h1, h2, h3, h4⟩ := hz r _ (matM_get _ _ _ _ hr)
  injection hv with e1 e2 e3
  subst e1 h1
  have h5 : ∃ q cq, u = .slice q cols cq := by
    obtain ⟨_, ⟨a, cap', e, h0⟩ | ⟨g, off, cap', e, _⟩⟩ := h4
    · have hl := rowM_len (entL 0 L).reverse cols r
      rw [h0] at hl
      simp at hl
      subst hl
      exact ⟨a, cap', e⟩
    · rw [rowM_len] at e
      exact ⟨_, cap', e⟩
  obtain ⟨q, cq, rfl⟩ := h5
  exact ⟨b, q, cq, rfl, h2, h3, h4⟩
theorem SlotsZ.at {X : World} {p : Option Addr} {n c : Nat} {S : List (Nat × Nat)} (h : SlotsZ X (.slice p n c) S) (k : Nat) (s : Nat × Nat) (hk : S[k]? = some s) :
    ∃ b, p = some ⟨b, 0, none⟩ ∧ b < X.heap.size ∧ X.cell? ⟨b, k * 2, none⟩ = some (.int .i64 (s.1 : Int)) ∧ X.cell? ⟨b, k * 2 + 1, none⟩ = some (.int .i64 (s.2 : Int)) := by
  obtain ⟨ob, cap, hv, hz⟩ := h
  injection hv with e1 e2 e3
  subst e1
  exact hz k s hk
theorem ints_cell {X : World} {q : Option Addr} {n c : Nat} {zs : List Int} (h : Ints X (.slice q n c) zs) (j : Nat) (hj : j < zs.length) : ∃ b o, q = some ⟨b, o, none⟩ ∧ b < X.heap.size ∧ X.cell? ⟨b, o + j, none⟩ = some (.int .i64 (zs[j]?.getD 0)) := by
  obtain ⟨_, ⟨a, cap', e, rfl⟩ | ⟨g, off, cap', e, hc⟩⟩ := h
  · simp at hj
  · injection e with e1 e2 e3
    exact ⟨g, off, e1, cell_lt (hc j hj), hc j hj⟩
theorem slot_same (a b : Int) (X : World) : (binOp .neq 43 (.agg #[.int .i64 a, .int .i64 b]) (.agg #[.int .i64 a, .int .i64 b])).run Try.prog X = .ok (.bool false) X := by
  obtain ⟨i, hi, _⟩ := info_parts Try.infoIntG
  have k1 : Try.prog.cellsOf 3 = 1 := by kernel_rfl
  have he : Try.prog.plainKey 3 = true := by kernel_rfl
  have h := run_equalIn_array (P := Try.prog) X 9999 #[.int .i64 a, .int .i64 b] #[.int .i64 a, .int .i64 b] Try.underlying43 hi
  have p0 := run_part_plain (P := Try.prog) X he (xs := #[.int .i64 a, .int .i64 b]) (off := 0) rfl
  have p1 := run_part_plain (P := Try.prog) X he (xs := #[.int .i64 a, .int .i64 b]) (off := 1) rfl
  have q0 := run_equalIn_int (P := Try.prog) X 9998 3 .i64 .i64 a a Try.underlying3
  have q1 := run_equalIn_int (P := Try.prog) X 9998 3 .i64 .i64 b b Try.underlying3
  go_simp
  simp [Op.eqItems, List.range_succ, k1, p0, p1, q0, q1]
end Go.Proofs.Ytcgnldcdcbnofaa
