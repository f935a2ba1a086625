/- Contract of grid.owners: the map of the slots that are taken. -/
import Derived.Test.YtceippgkmoijdaaGLies
import Derived.ScopeJumps
import Derived.WalkMore
namespace Go.Proofs.Ytceippgkmoijdaa
open Go.RowKit Go.Shelf Go.Maps
set_option linter.unusedVariables false
attribute [local go_sem] Oper.semAt_some

theorem nodup_in {α : Type} [DecidableEq α] : ∀ (l m : List α), l.Nodup → (∀ z ∈ l, z ∈ m) → l.length ≤ m.length
  | [], m, _, _ => Nat.zero_le _
  | x :: l, m, hn, hs => by
    have hx := hs x (by simp)
    have h := nodup_in l (m.erase x) (List.nodup_cons.1 hn).2 fun z hz => by
      have hne : z ≠ x := fun e => (List.nodup_cons.1 hn).1 (e ▸ hz)
      exact (List.mem_erase_of_ne hne).2 (hs z (by simp [hz]))
    rw [List.length_erase_of_mem hx] at h
    have := List.length_pos_of_mem hx
    simp; omega
theorem nodup_rev {α : Type} {l : List α} : l.reverse.Nodup ↔ l.Nodup := by
  unfold List.Nodup
  rw [List.pairwise_reverse]
  exact ⟨fun h => h.imp fun h e => h e.symm, fun h => h.imp fun h e => h e.symm⟩
def Pz.pl (p : Pz) : Pl := ⟨p.n, p.r.toNat, p.c.toNat, p.h.toNat, p.w.toNat⟩
/-- the slots of the places, each with the index of its place -/
def entL : Nat → List Pz → List ((Nat × Nat) × Nat)
  | _, [] => []
  | i, p :: t => (slotsL p.pl).map (fun s => (s, i)) ++ entL (i + 1) t
theorem entL_snoc (p : Pz) : ∀ (L : List Pz) (k : Nat), entL k (L ++ [p]) = entL k L ++ (slotsL p.pl).map (fun s => (s, k + L.length))
  | [], k => by simp [entL]
  | q :: L, k => by
    have := entL_snoc p L (k + 1)
    simp only [List.cons_append, entL, this, List.append_assoc, List.length_cons]
    rw [show k + 1 + L.length = k + (L.length + 1) by omega]
theorem entL_app (M : List Pz) : ∀ (L : List Pz) (k : Nat), entL k (L ++ M) = entL k L ++ entL (k + L.length) M
  | [], k => by simp [entL]
  | q :: L, k => by
    have := entL_app M L (k + 1)
    simp only [List.cons_append, entL, this, List.append_assoc, List.length_cons]
    rw [show k + 1 + L.length = k + (L.length + 1) by omega]
def placeB (rows cols : Nat) (p : Pz) : Bool := liesB p.r p.h rows && liesB p.c p.w cols
def OwnQ (rows cols : Nat) (L : List Pz) : Prop := (∀ p ∈ L, placeB rows cols p = true) ∧ ((entL 0 L).map Prod.fst).Nodup
theorem slots_mem {p : Pl} {s : Nat × Nat} : s ∈ slotsL p ↔ (p.r ≤ s.1 ∧ s.1 < p.r + p.h) ∧ p.c ≤ s.2 ∧ s.2 < p.c + p.w := by
  obtain ⟨a, b⟩ := s
  unfold slotsL rowsS rowS
  simp only [List.mem_flatMap, List.mem_map, List.mem_range'_1, Prod.mk.injEq]
  constructor
  · rintro ⟨r, hr, c, hc, rfl, rfl⟩; (try dsimp only); omega
  · rintro ⟨h1, h2⟩
    exact ⟨a - p.r, by omega, b - p.c, by omega, by omega, by omega⟩
theorem place_slot {rows cols : Nat} {p : Pz} (h : placeB rows cols p = true) {s : Nat × Nat} (hs : s ∈ slotsL p.pl) : s.1 < rows ∧ s.2 < cols := by
  rw [slots_mem] at hs
  unfold placeB liesB at h
  simp at h
  unfold Pz.pl at hs
  dsimp only at hs
  omega
theorem ent_slot {rows cols : Nat} : ∀ (L : List Pz) (k : Nat), (∀ p ∈ L, placeB rows cols p = true) → ∀ e ∈ entL k L, e.1.1 < rows ∧ e.1.2 < cols
  | [], k, _, e, he => by cases he
  | p :: L, k, h, e, he => by
    unfold entL at he
    rcases List.mem_append.1 he with he | he
    · obtain ⟨s, hs, rfl⟩ := List.mem_map.1 he
      exact place_slot (h p (by simp)) hs
    · exact ent_slot L (k + 1) (fun q hq => h q (by simp [hq])) e he
theorem few_slots {rows cols : Nat} (hS : SizeQ rows cols) (l : List (Nat × Nat)) (hn : l.Nodup) (h : ∀ s ∈ l, s.1 < rows ∧ s.2 < cols) : l.length ≤ 1000000 := by
  have h1 := nodup_in l (slotsL ⟨0, 0, 0, rows, cols⟩) hn fun s hs => slots_mem.2 (by have := h s hs; dsimp only; omega)
  have h2 : (slotsL ⟨0, 0, 0, rows, cols⟩).length = rows * cols := by
    unfold slotsL rowsS rowS
    simp [List.length_flatMap, List.map_const', List.sum_replicate_nat]
  have h3 := hS.2.2
  have h4 : ((rows : Int) * (cols : Int)) = ((rows * cols : Nat) : Int) := by simp
  omega
/-- what lies in the call's memory -/
structure OW (w : World) (N mb : Nat) (Ds : List Nat) (ms : List ((Nat × Nat) × Nat)) (X : World) : Prop where
  lo : Below w.heap.size w X
  b6 : Whole X N 121 [.map none]
  b7 : Whole X (N + 1) 36 [.int .i64 0]
  b8 : Whole X (mb + 1) 121 [.map (some mb)]
  mq : Marks (mb + 2) Ds X
  ml : ∀ D ∈ Ds, D < X.heap.size
  mp : MapAt X mb ms
structure OE (w : World) (N mb : Nat) (Ds : List Nat) (v : Option Nat) (e : Int) (X : World) : Prop where
  lo : Below w.heap.size w X
  b6 : Whole X N 121 [.map v]
  b7 : Whole X (N + 1) 36 [.int .i64 e]
  mq : Marks (mb + 2) Ds X
  ml : ∀ D ∈ Ds, D < X.heap.size
theorem MapAt.same {X Y : World} {b : Nat} {ms : List ((Nat × Nat) × Nat)} (h : MapAt X b ms) (hh : Y.heap[b]? = X.heap[b]?) : MapAt Y b ms := by
  obtain ⟨D, ⟨es, clock, hb, F, hs, hD⟩, h2, h3⟩ := h
  exact ⟨D, ⟨es, clock, hh.trans hb, F, hs, hD⟩, h2, h3⟩
theorem Marks.grownG {B : Nat} {Ds : List Nat} {X Y : World} {row : Option Nat} (h : Marks B Ds X) (hg : X.grownBy Y row) (ml : ∀ D ∈ Ds, D < X.heap.size) (hl : ∀ r, row = some r → r ∉ Ds) : Marks B Ds Y :=
  ⟨h.1, fun D hD => ⟨(h.2 D hD).1, (hg.block D (ml D hD) (fun e => hl D e.symm hD)).trans (h.2 D hD).2⟩⟩
theorem OW.grown {w X Y : World} {N mb : Nat} {Ds : List Nat} {ms : List ((Nat × Nat) × Nat)} {row : Option Nat} (h : OW w N mb Ds ms X) (hg : X.grownBy Y row) (hr : NoCells X row) (hl : ∀ r, row = some r → w.heap.size ≤ r ∧ r ≠ mb ∧ r ∉ Ds) : OW w N mb Ds ms Y :=
  ⟨h.lo.grown hg h.lo.size (fun r e => (hl r e).1), h.b6.grown hg (h.b6.ne hr), h.b7.grown hg (h.b7.ne hr), h.b8.grown hg (h.b8.ne hr), h.mq.grownG hg h.ml (fun r e => (hl r e).2.2), fun D hD => Nat.lt_of_lt_of_le (h.ml D hD) hg.size, h.mp.kept hg (fun e => (hl mb e.symm).2.1 rfl)⟩
theorem OE.grown {w X Y : World} {N mb : Nat} {Ds : List Nat} {v : Option Nat} {e : Int} {row : Option Nat} (h : OE w N mb Ds v e X) (hg : X.grownBy Y row) (hr : NoCells X row) (hl : ∀ r, row = some r → w.heap.size ≤ r ∧ r ∉ Ds) : OE w N mb Ds v e Y :=
  ⟨h.lo.grown hg h.lo.size (fun r e => (hl r e).1), h.b6.grown hg (h.b6.ne hr), h.b7.grown hg (h.b7.ne hr), h.mq.grownG hg h.ml (fun r e => (hl r e).2), fun D hD => Nat.lt_of_lt_of_le (h.ml D hD) hg.size⟩
theorem OW.alloc {w X : World} {N mb : Nat} {Ds : List Nat} {ms : List ((Nat × Nat) × Nat)} (h : OW w N mb Ds ms X) (o : Obj) : OW w N mb Ds ms (X.alloc o) :=
  h.grown (World.grownBy_alloc X o none) (fun _ e => by cases e) (fun _ e => by cases e)
theorem OW.below {w X Y : World} {N mb : Nat} {Ds : List Nat} {ms : List ((Nat × Nat) × Nat)} (h : OW w N mb Ds ms X) (hb : Below X.heap.size X Y) : OW w N mb Ds ms Y :=
  h.grown (grown_of_below' hb) (fun _ e => by cases e) (fun _ e => by cases e)
theorem OW.put {w X Y : World} {N mb : Nat} {Ds : List Nat} {ms ms' : List ((Nat × Nat) × Nat)} (h : OW w N mb Ds ms X) (hN : w.heap.size ≤ N) (hm : N + 1 < mb) (hg : X.grownBy Y (some mb)) (hp : MapAt Y mb ms') : OW w N mb Ds ms' Y :=
  ⟨h.lo.grown hg h.lo.size (fun r e => by cases e; omega), h.b6.grown hg (by simp; omega), h.b7.grown hg (by simp; omega), h.b8.grown hg (by simp), h.mq.grownG hg h.ml (fun r e hr => by cases e; have := (h.mq.2 _ hr).1; omega), fun D hD => Nat.lt_of_lt_of_le (h.ml D hD) hg.size, hp⟩
def errO (N : Nat) (v : Option Nat) (e : Int) (X : World) : World := (X.setCell ⟨N, 0, none⟩ (.map v)).setCell ⟨N + 1, 0, none⟩ (.int .i64 e)
theorem OW.err {w X : World} {N mb : Nat} {Ds : List Nat} {ms : List ((Nat × Nat) × Nat)} (h : OW w N mb Ds ms X) (hN : w.heap.size ≤ N) (hm : N + 1 < mb) (v : Option Nat) (e : Int) : OE w N mb Ds v e (errO N v e X) :=
  ⟨(h.lo.setCell (p := ⟨N, 0, none⟩) hN _).setCell (p := ⟨N + 1, 0, none⟩) (show w.heap.size ≤ N + 1 by omega) _, (h.b6.set 0 _).other _ _ (show N ≠ N + 1 by omega), (h.b7.other _ _ (show N + 1 ≠ N by omega)).set 0 _,
    ⟨h.mq.1, fun D hD => ⟨(h.mq.2 D hD).1, by
      have := (h.mq.2 D hD).1
      unfold errO
      rw [Below.heap_setCell _ _ _ D (show D ≠ N + 1 by omega), Below.heap_setCell _ _ _ D (show D ≠ N by omega)]
      exact (h.mq.2 D hD).2⟩⟩, fun D hD => by unfold errO; simp; exact h.ml D hD⟩
theorem errO_at {N b : Nat} {v : Option Nat} {e : Int} {X : World} (hb : N + 1 < b) : (errO N v e X).heap[b]? = X.heap[b]? := by
  unfold errO
  rw [Below.heap_setCell _ _ _ b (show b ≠ N + 1 by omega), Below.heap_setCell _ _ _ b (show b ≠ N by omega)]
theorem errO_kept {N : Nat} {v : Option Nat} {e : Int} {X : World} : KeepsOthers X (errO N v e X) := (KeepsOthers.setCell _ _ _).trans (KeepsOthers.setCell _ _ _)
theorem own_bad {L : List Pz} {i : Nat} {p : Pz} {pre rest : List (Nat × Nat)} {s : Nat × Nat} (hp : L[i]? = some p) (hs : slotsL p.pl = pre ++ s :: rest)
    (hb : (((pre.map fun s => (s, i)).reverse ++ (entL 0 (L.take i)).reverse).any fun e => e.1 == s) = true) : ¬ ((entL 0 L).map Prod.fst).Nodup := by
  intro hn
  have hlt := (List.getElem?_eq_some_iff.1 hp).1
  have hL : L = L.take i ++ p :: L.drop (i + 1) := by
    have h1 : L.drop i = p :: L.drop (i + 1) := by rw [List.drop_eq_getElem_cons hlt, (List.getElem?_eq_some_iff.1 hp).2]
    rw [← h1, List.take_append_drop]
  rw [hL, entL_app] at hn
  simp only [entL] at hn
  rw [hs] at hn
  simp only [List.map_append, List.map_cons, List.append_assoc, List.cons_append] at hn
  rw [← List.append_assoc] at hn
  have hd := (List.nodup_append.1 hn).2.2
  obtain ⟨e, he, hes⟩ := List.any_eq_true.1 hb
  have hes' : e.1 = s := by simpa using hes
  refine hd s ?_ s (by simp) rfl
  rw [List.mem_append]
  rcases List.mem_append.1 he with he | he
  · refine .inr ?_
    obtain ⟨t, ht, rfl⟩ := List.mem_map.1 (List.mem_reverse.1 he)
    rw [← hes']
    exact List.mem_map.2 ⟨(t, _), List.mem_map.2 ⟨t, ht, rfl⟩, rfl⟩
  · exact .inl (List.mem_map.2 ⟨e, List.mem_reverse.1 he, hes'⟩)
theorem results_own {W : World} {g : Nat} {v : Option Nat} {e : Int} {tmps : Array Value} {fn : Func} (hf : fn.results = #[.cell 6 121, .cell 7 36])
    (h6 : tmps[6]? = some (.pointer (some ⟨g, 0, none⟩))) (h7 : tmps[7]? = some (.pointer (some ⟨g + 1, 0, none⟩))) (k6 : Whole W g 121 [.map v]) (k7 : Whole W (g + 1) 36 [.int .i64 e]) :
    (results fn tmps).run Try.prog W = .ok (.tuple #[.map v, .int .i64 e]) W := by
  have c6 := k6.cellAt 0
  have c7 := k7.cellAt 0
  simp [results, hf, go_sem, h6, h7, c6, c7]
def markO (D : Nat) : Deferred := { target := .collected D, args := #[] }
def OLI (pp : Option Addr) (m cap rows cols N mb : Nat) (L : List Pz) (w : World) : Act → World → Prop := fun a X =>
  ∃ (i : Nat) (Ds : List Nat) (x9 x10 x11 x12 x13 x22 x23 x24 x25 x26 x27 x28 x29 x30 x31 x32 x33 x34 x35 x36 x37 x38 x39 x40 x41 x42 x43 x44 x45 x46 x47 x48 x49 x50 x51 x52 x53 x54 x55 x56 : Value), a = { tmps := #[.slice pp m cap, .int .i64 rows, .int .i64 cols, undef, undef, undef, .pointer (some ⟨N, 0, none⟩), .pointer (some ⟨N + 1, 0, none⟩), .pointer (some ⟨mb + 1, 0, none⟩), x9, x10, x11, x12, x13, .int .i64 rows, .int .i64 cols, .bool true, .bool false, .map (some mb), .slice pp m cap, .int .i64 m, .int .i64 i, x22, x23, x24, x25, x26, x27, x28, x29, x30, x31, x32, x33, x34, x35, x36, x37, x38, x39, x40, x41, x42, x43, x44, x45, x46, x47, x48, x49, x50, x51, x52, x53, x54, x55, x56], defers := Ds.map markO } ∧ i ≤ m ∧
    Hid (OW w N mb Ds (entL 0 (L.take i)).reverse X ∧ PsAt X (.slice pp m cap) L ∧ (∀ p ∈ L.take i, placeB rows cols p = true) ∧ ((entL 0 (L.take i)).map Prod.fst).Nodup)
def OF (w : World) (N mb : Nat) (Ds : List Nat) (g i : Nat) (ms : List ((Nat × Nat) × Nat)) (pre : List (Nat × Nat)) (X : World) : Prop :=
  OW w N mb Ds ((pre.map fun s => (s, i)).reverse ++ ms) X ∧ Whole X g 3 [.int .i64 i] ∧ (((pre.map fun s => (s, i)).reverse ++ ms).map Prod.fst).Nodup
def OX (bad : Prop) (w : World) (N mb : Nat) (Ds : List Nat) (c : Code) (pre : List (Nat × Nat)) (X : World) : Prop := c = .ret ∧ OE w N mb Ds none 70 X ∧ bad
def I64 (x : Int) : Prop := -9223372036854775808 ≤ x ∧ x ≤ 9223372036854775807
def OwnPost (rows cols : Nat) (L : List Pz) (w : World) (e : Ending) (W' : World) : Prop :=
  Below w.heap.size w W' ∧ ((¬ OwnQ rows cols L ∧ e = .returned (.tuple #[.map none, .int .i64 70])) ∨ (OwnQ rows cols L ∧ ∃ mb, w.heap.size ≤ mb ∧ e = .returned (.tuple #[.map (some mb), .int .i64 0]) ∧ MapAt W' mb (entL 0 L).reverse))
set_option maxRecDepth 100000 in
set_option maxHeartbeats 2000000 in
theorem owners_ok (pp : Option Addr) (m cap rows cols : Nat) (L : List Pz) (w : World) (hm : L.length = m) (hP : PsAt w (.slice pp m cap) L) (hS : SizeQ rows cols) (hI : ∀ p ∈ L, (I64 p.r ∧ I64 p.h) ∧ I64 p.c ∧ I64 p.w) :
    Calls Try.prog 68 #[.slice pp m cap, .int .i64 rows, .int .i64 cols] w (OwnPost rows cols L w) := by
  refine (callsIn_wide (n := 3)).1 (callsIn_of_wp_marks Try.func68 rfl trivial (wpIn_wide.2 ?_) rfl)
  simp only [Try.ntmps68, List.size_toArray, List.length_cons, List.length_nil, Nat.reduceAdd, Nat.reduceSub, Array.replicate_succ, Array.replicate_zero, List.push_toArray, List.append_toArray, List.nil_append, List.cons_append]
  have HR := Lib.hid (fun X => rightSize_any rows cols X)
  have HM := Lib.hid hm
  have HP := Lib.hid hP
  have HI := Lib.hid hI
  have HS := Lib.hid hS
  have hrc : rows ≤ 65536 ∧ cols ≤ 10000 := by have := hS.1; have := hS.2.1; omega
  have hmk : ∀ X : World, (Instr.makeMap 121 none).run Try.prog X = .ok (.map (some X.heap.size)) (X.alloc (.map #[] 0)) := fun X => by simp [Instr.makeMap, go_sem]
  have hml : m ≤ 9223372036854775807 := by have := hP.1; omega
  clear hm hP hI hS
  go_wp2_with (go_at_call 81; refine (HR.out _).mono ?_; rintro e w1 ⟨b, rfl, hb, hb1⟩; obtain rfl := hb.2 HS.out; have HB1 := Lib.hid hb1; clear hb1 hb HR)
  clear hmk
  obtain ⟨N, hN⟩ : ∃ N, w.heap.size = N := ⟨_, rfl⟩
  obtain ⟨mb, hmb⟩ : ∃ mb, w1.heap.size = mb := ⟨_, rfl⟩
  obtain ⟨W2, hW2⟩ : ∃ W2, (w1.alloc (.map #[] 0)).alloc (.cells #[.map (some mb)] 121) = W2 := ⟨_, rfl⟩
  have hmN : N + 1 < mb := by have := HB1.out.size; simp at this; omega
  have hO0 : OW w N mb [] [] W2 := by
    have hb2 : Below w1.heap.size w1 W2 := by rw [← hW2]; exact ((Below.refl _ w1).alloc (Nat.le_refl _) _).alloc (by simp) _
    have k6 := ((whole_new w [.map none] 121 _ rfl).alloc (.cells #[.int .i64 0] 36)).below HB1.out (by simp <;> omega)
    have k7 := (whole_new (w.alloc (.cells #[.map none] 121)) [.int .i64 0] 36 (w.heap.size + 1) (by simp)).below HB1.out (by simp <;> omega)
    have hb0 : Below w.heap.size w w1 := (((Below.refl _ w).alloc (Nat.le_refl _) (.cells #[.map none] 121)).alloc (by simp) (.cells #[.int .i64 0] 36)).trans (HB1.out.mono (by simp <;> omega))
    rw [hN] at k6 k7
    refine ⟨hb0.trans (hb2.mono (by omega)), k6.below hb2 (by omega), k7.below hb2 (by omega), ?_, Marks.nil _ _, (fun D hD => by cases hD), ?_⟩
    · rw [← hW2]; exact whole_new _ [.map (some mb)] 121 _ (by simp <;> omega)
    · have := (MapAt.new w1).kept (World.grownBy_alloc (w1.alloc (.map #[] 0)) (.cells #[.map (some mb)] 121) none) (by simp)
      rw [hmb, hW2] at this
      exact this
  have HI0 : Hid (OW w N mb [] (entL 0 (L.take 0)).reverse W2 ∧ PsAt W2 (.slice pp m cap) L ∧ (∀ p ∈ L.take 0, placeB rows cols p = true) ∧ ((entL 0 (L.take 0)).map Prod.fst).Nodup) := Lib.hid
    ⟨hO0, HP.out.below hO0.lo, by simp, by simp [entL]⟩
  have hNN : w.heap.size ≤ N := by omega
  rw [hmb, hN, hW2]
  clear hW2 HB1 hO0 hN hmb
  refine wp_loop (OLI pp m cap rows cols N mb L w) (fun a _ => m - (intOf (a.tmps.getD 21 undef)).toNat) ⟨0, [], undef, undef, undef, undef, undef, undef, undef, undef, undef, undef, undef, undef, undef, undef, undef, undef, undef, undef, undef, undef, undef, undef, undef, undef, undef, undef, undef, undef, undef, undef, undef, undef, undef, undef, undef, undef, undef, undef, undef, undef, rfl, by omega, HI0⟩ ?_
  rintro a X ⟨i, Ds, x9, x10, x11, x12, x13, x22, x23, x24, x25, x26, x27, x28, x29, x30, x31, x32, x33, x34, x35, x36, x37, x38, x39, x40, x41, x42, x43, x44, x45, x46, x47, x48, x49, x50, x51, x52, x53, x54, x55, x56, rfl, hi, HJ⟩
  clear HI0
  by_cases hlt : i < m
  · obtain ⟨p, hp⟩ : ∃ p, L[i]? = some p := ⟨_, List.getElem?_eq_getElem (by rw [HM.out]; exact hlt)⟩
    have hmem : p ∈ L := List.mem_iff_getElem?.2 ⟨i, hp⟩
    obtain ⟨b, off, rfl, hbl, c0, c1, c2, c3, c4⟩ := HJ.out.2.1.at i p hp
    obtain ⟨⟨i1, i2⟩, i3, i4⟩ := HI.out p hmem
    have HA := Lib.hid (fun Y => lies_any p.r p.h rows (by omega) i1 i2 Y)
    have HB := Lib.hid (fun Y => lies_any p.c p.w cols (by omega) i3 i4 Y)
    clear i1 i2 i3 i4
    have HPQ : Hid (placeB rows cols p = (liesB p.r p.h rows && liesB p.c p.w cols)) := Lib.hid rfl
    have HMEM := Lib.hid hmem
    have HPP := Lib.hid hp
    clear hmem hp
    obtain ⟨pn, pr, pc, ph, pw⟩ := p
    dsimp only at *
    have HW : Hid (OW w N mb Ds (entL 0 (L.take i)).reverse ((X.alloc (.cells #[.int .i64 i] 3)).alloc (.cells #[.int .i64 pn, .int .i64 pr, .int .i64 pc, .int .i64 ph, .int .i64 pw] 52))) := Lib.hid ((HJ.out.1.alloc _).alloc _)
    have K9 : Hid (Whole ((X.alloc (.cells #[.int .i64 i] 3)).alloc (.cells #[.int .i64 pn, .int .i64 pr, .int .i64 pc, .int .i64 ph, .int .i64 pw] 52)) X.heap.size 3 [.int .i64 i]) := Lib.hid ((whole_new X [.int .i64 i] 3 _ rfl).alloc _)
    have K10 : Hid (Whole ((X.alloc (.cells #[.int .i64 i] 3)).alloc (.cells #[.int .i64 pn, .int .i64 pr, .int .i64 pc, .int .i64 ph, .int .i64 pw] 52)) (X.heap.size + 1) 52 [.int .i64 pn, .int .i64 pr, .int .i64 pc, .int .i64 ph, .int .i64 pw]) := Lib.hid (whole_new (X.alloc (.cells #[.int .i64 i] 3)) [.int .i64 pn, .int .i64 pr, .int .i64 pc, .int .i64 ph, .int .i64 pw] 52 _ (by simp))
    cases hd1 : liesB pr ph rows with
    | false =>
      rw [hd1] at HA
      have HNQ : Hid (¬ OwnQ rows cols L) := Lib.hid fun h => by have := h.1 _ HMEM.out; rw [HPQ.out, hd1] at this; simp at this
      clear HB hd1 HPQ
      go_wp2_with (go_at_call 82; refine (HA.out _).mono ?_; clear HA; rintro e w3 ⟨rfl, hb3⟩; have HW3 := Lib.hid (HW.out.below hb3); have f6 := HW3.out.b6.free 0; have c6 := HW3.out.b6.cellAt 0; have l6 := HW3.out.b6.lt; have f7 := HW3.out.b7.free 0; have c7 := HW3.out.b7.cellAt 0; have l7 := HW3.out.b7.lt; clear hb3)
      have HE := Lib.hid (HW3.out.err hNN hmN none 70)
      refine leaves_marks (mb + 2) Ds _ HE.out.mq (fun W' hck hbk => ⟨_, results_own (g := N) rfl rfl rfl (hck _ _ HE.out.b6 rfl) (hck _ _ HE.out.b7 rfl), HE.out.lo.trans (hbk.mono (by omega)), .inl ⟨HNQ.out, rfl⟩⟩)
    | true =>
      rw [hd1] at HA
      cases hd2 : liesB pc pw cols with
      | false =>
        rw [hd2] at HB
        have HNQ : Hid (¬ OwnQ rows cols L) := Lib.hid fun h => by have := h.1 _ HMEM.out; rw [HPQ.out, hd1, hd2] at this; simp at this
        clear hd1 hd2 HPQ
        go_wp2_with (first
          | (go_at_call 82; refine (HA.out _).mono ?_; clear HA; rintro e w3 ⟨rfl, hb3⟩; have HW3 := Lib.hid (HW.out.below hb3); have k10 := K10.out.below hb3 K10.out.lt; have q2 := k10.cellAt 2; have q4 := k10.cellAt 4; have q0 := k10.lt; clear hb3 k10)
          | (go_at_call 82; refine (HB.out _).mono ?_; clear HB; rintro e w4 ⟨rfl, hb4⟩; have HW4 := Lib.hid (HW3.out.below hb4); have f6 := HW4.out.b6.free 0; have c6 := HW4.out.b6.cellAt 0; have l6 := HW4.out.b6.lt; have f7 := HW4.out.b7.free 0; have c7 := HW4.out.b7.cellAt 0; have l7 := HW4.out.b7.lt; clear hb4 q2 q4 q0))
        have HE := Lib.hid (HW4.out.err hNN hmN none 70)
        refine leaves_marks (mb + 2) Ds _ HE.out.mq (fun W' hck hbk => ⟨_, results_own (g := N) rfl rfl rfl (hck _ _ HE.out.b6 rfl) (hck _ _ HE.out.b7 rfl), HE.out.lo.trans (hbk.mono (by omega)), .inl ⟨HNQ.out, rfl⟩⟩)
      | true =>
        rw [hd2] at HB
        obtain ⟨rn, rfl⟩ : ∃ rn : Nat, pr = (rn : Int) := ⟨pr.toNat, by unfold liesB at hd1; simp at hd1; omega⟩
        obtain ⟨hn, rfl⟩ : ∃ hn : Nat, ph = (hn : Int) := ⟨ph.toNat, by unfold liesB at hd1; simp at hd1; omega⟩
        obtain ⟨cn, rfl⟩ : ∃ cn : Nat, pc = (cn : Int) := ⟨pc.toNat, by unfold liesB at hd2; simp at hd2; omega⟩
        obtain ⟨wn, rfl⟩ : ∃ wn : Nat, pw = (wn : Int) := ⟨pw.toNat, by unfold liesB at hd2; simp at hd2; omega⟩
        have HPT : Hid (placeB rows cols ⟨pn, rn, cn, hn, wn⟩ = true) := Lib.hid (by rw [HPQ.out, hd1, hd2]; rfl)
        have hfew : FewS ⟨pn, rn, cn, hn, wn⟩ := by
          unfold liesB at hd1 hd2
          simp at hd1 hd2
          unfold FewS
          dsimp only
          omega
        have hq : (Pz.mk pn rn cn hn wn).pl = ⟨pn, rn, cn, hn, wn⟩ := by simp [Pz.pl]
        clear hd1 hd2 HPQ
        have HSF := Lib.hid (fun Y => gslotsF_any pn rn cn hn wn Y)
        go_wp2_with (first
          | (go_at_call 82; refine (HA.out _).mono ?_; clear HA; rintro e w3 ⟨rfl, hb3⟩; have HW3 := Lib.hid (HW.out.below hb3); have K93 := Lib.hid (K9.out.below hb3 K9.out.lt); have K103 := Lib.hid (K10.out.below hb3 K10.out.lt); have q2 := K103.out.cellAt 2; have q4 := K103.out.cellAt 4; have q0 := K103.out.lt; clear hb3)
          | (go_at_call 82; refine (HB.out _).mono ?_; clear HB; rintro e w4 ⟨rfl, hb4⟩; clear q2 q4 q0; have HW4 := Lib.hid (HW3.out.below hb4); have K94 := Lib.hid (K93.out.below hb4 K93.out.lt); have k104 := K103.out.below hb4 K103.out.lt; have y0 := k104.cellAt 0; have y1 := k104.cellAt 1; have y2 := k104.cellAt 2; have y3 := k104.cellAt 3; have y4 := k104.cellAt 4; have yl := k104.lt; clear hb4 k104)
          | (go_at_call 83; refine (HSF.out _).mono ?_; clear HSF; rintro e w5 ⟨rfl, rfl⟩))
        clear y0 y1 y2 y3 y4 yl HW HW3 K93 K103 K9 K10 c0 c1 c2 c3 c4
        obtain ⟨W5, hW5⟩ : ∃ W5, w4.alloc (.cells #[.int .i64 pn, .int .i64 (rn : Int), .int .i64 (cn : Int), .int .i64 (hn : Int), .int .i64 (wn : Int)] 52) = W5 := ⟨_, rfl⟩
        have hO5 : OW w N mb Ds (entL 0 (L.take i)).reverse W5 := hW5 ▸ HW4.out.alloc _
        have k95 : Whole W5 X.heap.size 3 [.int .i64 i] := hW5 ▸ K94.out.alloc _
        have kS : SlotMem w4.heap.size ⟨pn, rn, cn, hn, wn⟩ W5 := hW5 ▸ whole_new w4 [.int .i64 pn, .int .i64 (rn : Int), .int .i64 (cn : Int), .int .i64 (hn : Int), .int .i64 (wn : Int)] 52 _ rfl
        have h5s : w4.heap.size < W5.heap.size := by rw [← hW5]; simp
        have hmb5 : mb < W5.heap.size := hO5.mp.lt
        have hmb4 : mb ≠ w4.heap.size := by have := HW4.out.mp.lt; omega
        have hx9 : X.heap.size ≠ mb := by have := HJ.out.1.mp.lt; omega
        have HO5 := Lib.hid hO5
        have K95 := Lib.hid k95
        have KS := Lib.hid kS
        have H7 : Hid (∀ D ∈ Ds, D < W5.heap.size) := Lib.hid hO5.ml
        have hw5 : w.heap.size ≤ W5.heap.size := hO5.lo.size
        have HND := Lib.hid HJ.out.2.2.2
        have HPL := Lib.hid HJ.out.2.2.1
        have HPA : Hid (∀ Y, Below w.heap.size w Y → PsAt Y (.slice (some ⟨b, off, none⟩) m cap) L) := Lib.hid fun Y hY => HP.out.below hY
        rw [hW5]
        clear hW5 HW4 K94 hO5 k95 kS HJ
        refine (wpIn_wide (n := 3)).1 (range_next (F := Fence.wide) rfl (by omega) (gf := 94) (lb := #[.pointer (some ⟨w4.heap.size, 0, none⟩)]) rfl trivial (enters_of Try.func94 (by kernel_rfl) rfl)
          (Kp := KeepG (SlotMem w4.heap.size ⟨pn, rn, cn, hn, wn⟩)) (fun _ _ _ h k => h.trans k) (fun W l o h1 h2 => ⟨by simp, fun h => h.below (below_put (B := W5.heap.size) W o h1 h2) h5s⟩) (gslots_next _ (by omega) w4.heap.size ⟨pn, rn, cn, hn, wn⟩ hfew W5 KS.out) (fun _ => rfl)
          (OF w N mb Ds X.heap.size i (entL 0 (L.take i)).reverse) (OX (¬ OwnQ rows cols L) w N mb Ds) ?own ?ownx
          ⟨by simpa using HO5.out, K95.out, by simpa using nodup_rev.2 HND.out⟩ ?round ?done ?stop)
        case own =>
          rintro pre X1 Y1 row ⟨g1, g2, g3⟩ hg hr
          have hnc : NoCells X1 row := fun r e => (hr r e).2
          exact ⟨g1.grown hg hnc (fun r e => ⟨by have := (hr r e).1; omega, by have := (hr r e).1; omega, fun hD => by have := H7.out r hD; have := (hr r e).1; omega⟩), g2.grown hg (g2.ne hnc), g3⟩
        case ownx =>
          rintro c pre X1 Y1 row ⟨g1, g2, g3⟩ hg hr
          have hnc : NoCells X1 row := fun r e => (hr r e).2
          exact ⟨g1, g2.grown hg hnc (fun r e => ⟨by have := (hr r e).1; omega, fun hD => by have := H7.out r hD; have := (hr r e).1; omega⟩), g3⟩
        case round =>
          rintro l pre ⟨s1, s2⟩ V hl ⟨g1, g2, g3⟩ ⟨rest, hrest⟩
          have hsl : ∀ t ∈ pre ++ [(s1, s2)], t.1 < rows ∧ t.2 < cols := fun t ht => place_slot HPT.out (by rw [hq, hrest]; rw [List.mem_append] at ht ⊢; exact ht.imp id (fun h => by simp at h; simp [h]))
          have hs12 := hsl (s1, s2) (by simp)
          dsimp only at hs12
          obtain ⟨kl, hkl⟩ := slot_key (s1, s2) (by dsimp only; omega) (by dsimp only; omega)
          have hlen : ((pre.map fun s => (s, i)).reverse ++ (entL 0 (L.take i)).reverse).length < maxLen := by
            have h1 := few_slots HS.out _ g3 fun t ht => by
              obtain ⟨e, he, rfl⟩ := List.mem_map.1 ht
              rcases List.mem_append.1 he with he | he
              · obtain ⟨u, hu, rfl⟩ := List.mem_map.1 (List.mem_reverse.1 he)
                exact hsl u (by simp [hu])
              · exact ent_slot _ 0 HPL.out e (List.mem_reverse.1 he)
            rw [List.length_map] at h1
            unfold maxLen
            omega
          apply Exists.intro
          apply Exists.intro
          refine ⟨?_, ?_, ?_, ?_⟩
          · intro K hK
            dsimp only [encSl]
            gi_wp2
            exact hK
          · exact (KeepsOthers.alloc V _).from _
          · exact ⟨by simp, fun h => h.alloc _⟩
          · intro V₂ hgV hnc' hbl
            have hA := g1.alloc (.cells #[.int .i64 (s1 : Int), .int .i64 (s2 : Int)] 127)
            have hO := hA.grown hgV hnc' (fun r e => by cases e; exact ⟨by omega, by omega, fun hD => by have := H7.out _ hD; omega⟩)
            have k9 := (g2.alloc (.cells #[.int .i64 (s1 : Int), .int .i64 (s2 : Int)] 127)).grown hgV ((g2.alloc _).ne hnc')
            have kS0 := whole_new V [.int .i64 (s1 : Int), .int .i64 (s2 : Int)] 127 _ rfl
            have kS := kS0.grown hgV (kS0.ne hnc')
            have s_0 := kS.cellAt 0
            have s_1 := kS.cellAt 1
            have s_l := kS.lt
            have m_8 := hO.b8.cellAt 0
            have l_8 := hO.b8.lt
            have i_9 := k9.cellAt 0
            have l_9 := k9.lt
            have f6 := hO.b6.free 0
            have c6 := hO.b6.cellAt 0
            have l6 := hO.b6.lt
            have f7 := hO.b7.free 0
            have c7 := hO.b7.cellAt 0
            have l7 := hO.b7.lt
            obtain ⟨D, hown, hD, h3⟩ := hO.mp
            obtain ⟨hhas, hat⟩ := h3 (s1, s2) kl (by dsimp only; omega) (by dsimp only; omega) hkl
            clear hat
            have hkl2 : keyOf Try.prog 127 (.agg #[.int .i64 (s1 : Int), .int .i64 (s2 : Int)]) = some kl := hkl
            have HO := Lib.hid hO
            have K92 := Lib.hid k9
            have HD := Lib.hid hD
            have H3 := Lib.hid h3
            have HG3 := Lib.hid g3
            have HRE := Lib.hid hrest
            have HKL := Lib.hid hkl
            have hV2 : mb < V₂.heap.size := hO.mp.lt
            clear g1 g2 g3 hA hO k9 kS0 kS hD h3 hgV hnc' hbl hrest hsl hkl
            cases hb : (((pre.map fun s => (s, i)).reverse ++ (entL 0 (L.take i)).reverse).any fun e => e.1 == (s1, s2)) with
            | true =>
              rw [hb] at hhas
              have HX' : Hid (¬ OwnQ rows cols L) := Lib.hid fun h => own_bad HPP.out (by rw [hq]; exact HRE.out) hb h.2
              clear hb
              gi_wp2_with (gi_at_lookup; refine wpListIn_lookup_own_ok_int _ rfl _ _ 121 rfl 127 3 .i64 slotKeyed Try.underlying121 Try.underlying3 (zeroInt _) mb _ D rfl hown _ _ rfl hkl2 ?_; intro cv hcv hwf)
              exact ⟨errO_kept.from _, rfl, HO.out.err hNN hmN none 70, HX'.out⟩
            | false =>
              rw [hb] at hhas
              have HBF := Lib.hid hb
              clear hb f6 c6 l6 f7 c7 l7
              gi_wp2_with (first
                | (gi_at_lookup; refine wpListIn_lookup_own_ok_int _ rfl _ _ 121 rfl 127 3 .i64 slotKeyed Try.underlying121 Try.underlying3 (zeroInt _) mb _ D rfl hown _ _ rfl hkl2 ?_; intro cv hcv hwf; clear hcv hwf)
                | (gi_at_mapUpdate; refine wpListIn_mapUpdate_own _ rfl _ _ _ 121 rfl 127 3 slotKeyed Try.underlying121 _ mb _ D rfl hown hlen _ _ kl rfl rfl hkl2 _ [] (plainElem_int Try.underlying3 (by simp [Lit.wf, IntKind.min, IntKind.max, IntKind.bits, IntKind.signed]; omega)) ?_; intro W4 hown4 hgrow4))
              have hmp : MapAt W4 mb (((s1, s2), i) :: ((pre.map fun s => (s, i)).reverse ++ (entL 0 (L.take i)).reverse)) := MapAt.put (X := V₂) HD.out H3.out (s1, s2) i kl HKL.out hown4
              refine ⟨KeepsFrom.of_grownBy hgrow4 (fun j e => by cases e; omega), ⟨hgrow4.size, fun h => h.grown hgrow4 (by simp; omega)⟩, ?_, K92.out.grown hgrow4 (by simp; omega), ?_⟩
              · rw [show (((pre ++ [(s1, s2)]).map fun s => (s, i)).reverse ++ (entL 0 (L.take i)).reverse) = ((s1, s2), i) :: ((pre.map fun s => (s, i)).reverse ++ (entL 0 (L.take i)).reverse) by simp]
                exact HO.out.put hNN hmN hgrow4 hmp
              · rw [show (((pre ++ [(s1, s2)]).map fun s => (s, i)).reverse ++ (entL 0 (L.take i)).reverse) = ((s1, s2), i) :: ((pre.map fun s => (s, i)).reverse ++ (entL 0 (L.take i)).reverse) by simp]
                rw [List.map_cons, List.nodup_cons]
                refine ⟨fun hmem => ?_, HG3.out⟩
                obtain ⟨e, he, hee⟩ := List.mem_map.1 hmem
                have := List.any_eq_false.1 HBF.out e he
                simp [hee] at this
        case done =>
          rintro D xs V hD rfl ⟨g1, g2, g3⟩ hmk
          have hT : L.take (i + 1) = L.take i ++ [⟨pn, rn, cn, hn, wn⟩] := by rw [List.take_add_one, HPP.out]; rfl
          have hEe : entL 0 (L.take (i + 1)) = entL 0 (L.take i) ++ (slotsL ⟨pn, rn, cn, hn, wn⟩).map (fun s => (s, i)) := by
            rw [hT, entL_snoc, hq, List.length_take, HM.out]
            rw [show 0 + min i m = i by omega]
          have HI2 : Hid (OW w N mb (D :: Ds) (entL 0 (L.take (i + 1))).reverse V ∧ PsAt V (.slice (some ⟨b, off, none⟩) m cap) L ∧ (∀ p ∈ L.take (i + 1), placeB rows cols p = true) ∧ ((entL 0 (L.take (i + 1))).map Prod.fst).Nodup) := Lib.hid (by
            have hr : (entL 0 (L.take (i + 1))).reverse = ((slotsL ⟨pn, rn, cn, hn, wn⟩).map fun s => (s, i)).reverse ++ (entL 0 (L.take i)).reverse := by rw [hEe, List.reverse_append]
            refine ⟨⟨g1.lo, g1.b6, g1.b7, g1.b8, g1.mq.cons (by have := HO5.out.b8.lt; omega) hmk (fun E hE => by have := H7.out E hE; omega), fun E hE => ?_, by rw [hr]; exact g1.mp⟩, HPA.out V g1.lo, fun q hqm => ?_, ?_⟩
            · rcases List.mem_cons.1 hE with rfl | hE
              · exact (Array.getElem?_eq_some_iff.1 hmk).1
              · exact g1.ml E hE
            · rw [hT] at hqm
              rcases List.mem_append.1 hqm with h | h
              · exact HPL.out q h
              · obtain rfl := List.mem_singleton.1 h; exact HPT.out
            · rw [← nodup_rev, ← List.map_reverse, hr]; exact g3)
          clear g1 g2 g3 hmk hT hEe
          go_wp2
          refine ⟨⟨i + 1, D :: Ds, _, _, _, _, _, _, _, _, _, _, _, _, _, _, _, _, _, _, _, _, _, _, _, _, _, _, _, _, _, _, _, _, _, _, _, _, _, _, _, _, rfl, by omega, HI2⟩, by simp [intOf]; omega⟩
        case stop =>
          rintro D c pre V hD _ ⟨rfl, g2, g3⟩ hmk
          have HMM := Lib.hid (g2.mq.cons (D := D) (by have := HO5.out.b8.lt; omega) hmk (fun E hE => by have := H7.out E hE; omega))
          have HE := Lib.hid g2
          have HNQ := Lib.hid g3
          clear g2 g3 hmk
          refine wpIn_wide.2 ?_
          go_wp2
          refine leaves_marks (mb + 2) (D :: Ds) _ HMM.out (fun W' hck hbk => ⟨_, results_own (g := N) rfl rfl rfl (hck _ _ HE.out.b6 rfl) (hck _ _ HE.out.b7 rfl), HE.out.lo.trans (hbk.mono (by omega)), .inl ⟨HNQ.out, rfl⟩⟩)
  · obtain rfl : m = i := by omega
    have hO := HJ.out.1
    have f6 := hO.b6.free 0
    have c6 := hO.b6.cellAt 0
    have l6 := hO.b6.lt
    have f7 := hO.b7.free 0
    have c7 := hO.b7.cellAt 0
    have l7 := hO.b7.lt
    have c8 := hO.b8.cellAt 0
    have l8 := hO.b8.lt
    have HO := Lib.hid hO
    have HT : Hid (OwnQ rows cols L) := Lib.hid (by
      have h1 := HJ.out.2.2.1
      have h2 := HJ.out.2.2.2
      rw [List.take_of_length_le (by rw [HM.out]; exact Nat.le_refl _)] at h1 h2
      exact ⟨h1, h2⟩)
    have HMP : Hid (MapAt X mb (entL 0 L).reverse) := Lib.hid (by
      have := hO.mp
      rw [List.take_of_length_le (by rw [HM.out]; exact Nat.le_refl _)] at this
      exact this)
    clear hO
    go_wp2
    have HE := Lib.hid (HO.out.err hNN hmN (some mb) 0)
    refine leaves_marks (mb + 2) Ds _ HE.out.mq (fun W' hck hbk => ⟨_, results_own (g := N) rfl rfl rfl (hck _ _ HE.out.b6 rfl) (hck _ _ HE.out.b7 rfl), HE.out.lo.trans (hbk.mono (by omega)), .inr ⟨HT.out, mb, by omega, rfl, ?_⟩⟩)
    exact HMP.out.same ((hbk.block mb (by omega)).trans (errO_at (by omega)))
set_option maxRecDepth 100000 in
set_option maxHeartbeats 1000000 in
theorem owners_size (v : Value) (rows cols : Int) (w : World) (hS : ¬ SizeQ rows cols) :
    Calls Try.prog 68 #[v, .int .i64 rows, .int .i64 cols] w fun e W' => e = .returned (.tuple #[.map none, .int .i64 70]) ∧ Below w.heap.size w W' := by
  refine (callsIn_wide (n := 3)).1 (callsIn_of_wp_marks Try.func68 rfl trivial (wpIn_wide.2 ?_) rfl)
  simp only [Try.ntmps68, List.size_toArray, List.length_cons, List.length_nil, Nat.reduceAdd, Nat.reduceSub, Array.replicate_succ, Array.replicate_zero, List.push_toArray, List.append_toArray, List.nil_append, List.cons_append]
  have HR := Lib.hid (fun X => rightSize_any rows cols X)
  go_wp2_with (go_at_call 81; refine (HR.out _).mono ?_; rintro e w1 ⟨b, rfl, hb, hb1⟩; obtain rfl : b = false := (by cases b with | false => rfl | true => exact absurd (hb.1 rfl) hS); have k6 := ((whole_new w [.map none] 121 _ rfl).alloc (.cells #[.int .i64 0] 36)).below hb1 (by simp <;> omega); have k7 := (whole_new (w.alloc (.cells #[.map none] 121)) [.int .i64 0] 36 (w.heap.size + 1) (by simp)).below hb1 (by simp <;> omega); have HB1 : Hid (Below w.heap.size w w1) := Lib.hid ((((Below.refl _ w).alloc (Nat.le_refl _) (.cells #[.map none] 121)).alloc (by simp) (.cells #[.int .i64 0] 36)).trans (hb1.mono (by simp <;> omega))); have f6 := k6.free 0; have c6 := k6.cellAt 0; have l6 := k6.lt; have f7 := k7.free 0; have c7 := k7.cellAt 0; have l7 := k7.lt; have K6 := Lib.hid k6; have K7 := Lib.hid k7; clear hb1 hb HR hS k6 k7)
  have e6 : Whole (errO w.heap.size none 70 w1) w.heap.size 121 [.map none] := (K6.out.set 0 _).other _ _ (show w.heap.size ≠ w.heap.size + 1 by omega)
  have e7 : Whole (errO w.heap.size none 70 w1) (w.heap.size + 1) 36 [.int .i64 70] := (K7.out.other _ _ (show w.heap.size + 1 ≠ w.heap.size by omega)).set 0 _
  refine leaves_marks w.heap.size [] _ (Marks.nil _ _) (fun W' hck hbk => ⟨_, results_own (g := w.heap.size) rfl rfl rfl (hck _ _ e6 rfl) (hck _ _ e7 rfl), rfl, ?_⟩)
  exact ((HB1.out.setCell (p := ⟨w.heap.size, 0, none⟩) (Nat.le_refl _) _).setCell (p := ⟨w.heap.size + 1, 0, none⟩) (show w.heap.size ≤ w.heap.size + 1 by omega) _).trans hbk
end Go.Proofs.Ytceippgkmoijdaa
