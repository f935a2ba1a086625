/- Contract of grid.Lay: the places of the cells of rows, for every rows and ends. -/
/- The document's Same of two lists of places; the answers of grid.Lay, one by one; the law's own check of a known grid. -/
/- The law's own check of a known grid is true. -/
/- Rows of cells that a call makes itself: blocks of zero cells, cells laid in one by one; and the places of one row of wide cells. -/
/- Rows of cells as an argument, opened; numbers as an argument; the law's own cut of rows. -/
/- Contracts of grid.spans and grid.Cells: a table's cells, row by row. -/
import Derived.Test.YtcgnldcdcbnofaaGRight
import Derived.Test.YtcgnldcdcbnofaaRound
import Derived.Deep.RegionHeld3
import Derived.Deep.Slices
import Derived.Lib.SmallJoins
import Derived.Deep.Strs
namespace Go.Proofs.Ytcgnldcdcbnofaa
open Go.RowKit Go.Shelf
set_option linter.unusedVariables false
attribute [local go_sem] Oper.semAt_some

theorem Try.infoPl : (Try.prog.info? 52).map (fun i => (i.zero, i.size, i.bytes)) = some (some (.agg #[.int .i64 0, .int .i64 0, .int .i64 0, .int .i64 0, .int .i64 0]), 5, 40) := by kernel_rfl
/-- places, as their owner holds them -/
def OwnP (base : Nat) (X : World) (v : Value) (ps : List Pl) : Prop := X.ownsRow base 52 5 v ps.length (ps.flatMap Pl.cells)
def LayPost (rows : List (List Sp)) (ends : List Int) (w : World) (e : Ending) (W' : World) : Prop :=
  Below w.heap.size w W' ∧
    ((¬ RightQ rows ends ∧ e = .returned (.tuple #[.slice none 0 0, .int .i64 0, .int .i64 70])) ∨
     (RightQ rows ends ∧ layP rows ends = none ∧ e = .returned (.tuple #[.slice none 0 0, .int .i64 0, .int .i64 43])) ∨
     (RightQ rows ends ∧ ∃ s v', layP rows ends = some s ∧ e = .returned (.tuple #[v', .int .i64 (s.t.length : Int), .int .i64 0]) ∧ OwnP w.heap.size W' v' s.ps))
theorem results_cells3 {W : World} {g : Nat} {v : Value} {n e : Int} {tmps : Array Value} {fn : Func} (hf : fn.results = #[.cell 4 36, .cell 5 3, .cell 6 27])
    (h4 : tmps[4]? = some (.pointer (some ⟨g + 1, 0, none⟩))) (h5 : tmps[5]? = some (.pointer (some ⟨g + 1 + 1, 0, none⟩))) (h6 : tmps[6]? = some (.pointer (some ⟨g + 1 + 1 + 1, 0, none⟩)))
    (k4 : Whole W (g + 1) 36 [v]) (k5 : Whole W (g + 1 + 1) 3 [.int .i64 n]) (k6 : Whole W (g + 1 + 1 + 1) 27 [.int .i64 e]) (hv : ∃ p l c, v = .slice p l c) :
    (results fn tmps).run Try.prog W = .ok (.tuple #[v, .int .i64 n, .int .i64 e]) W := by
  obtain ⟨p, l, c, rfl⟩ := hv
  have c4 := k4.cellAt 0
  have c5 := k5.cellAt 0
  have c6 := k6.cellAt 0
  simp [results, hf, go_sem, h4, h5, h6, c4, c5, c6]
/-- the boxes of the call: the ends, and what is answered -/
structure Bx (N : Nat) (ev : Value) (X : World) : Prop where
  b0 : Whole X N 26 [ev]
  b1 : Whole X (N + 1) 36 [.slice none 0 0]
  b2 : Whole X (N + 1 + 1) 3 [.int .i64 0]
  b3 : Whole X (N + 1 + 1 + 1) 27 [.int .i64 0]
theorem Bx.new (w : World) (ev : Value) : Bx w.heap.size ev ((((w.alloc (.cells #[ev] 26)).alloc (.cells #[.slice none 0 0] 36)).alloc (.cells #[.int .i64 0] 3)).alloc (.cells #[.int .i64 0] 27)) :=
  ⟨(((whole_new w [ev] 26 _ rfl).alloc _).alloc _).alloc _, ((whole_new (w.alloc (.cells #[ev] 26)) [.slice none 0 0] 36 _ (by simp)).alloc _).alloc _,
    (whole_new ((w.alloc (.cells #[ev] 26)).alloc (.cells #[.slice none 0 0] 36)) [.int .i64 0] 3 _ (by simp)).alloc _,
    whole_new (((w.alloc (.cells #[ev] 26)).alloc (.cells #[.slice none 0 0] 36)).alloc (.cells #[.int .i64 0] 3)) [.int .i64 0] 27 _ (by simp)⟩
theorem Bx.keep {N : Nat} {ev : Value} {X Y : World} (h : Bx N ev X) (hb : ∀ k, k < N + 4 → Y.heap[k]? = X.heap[k]?) : Bx N ev Y :=
  ⟨(hb _ (by omega)).trans h.b0, (hb _ (by omega)).trans h.b1, (hb _ (by omega)).trans h.b2, (hb _ (by omega)).trans h.b3⟩
theorem Bx.below {N B : Nat} {ev : Value} {X Y : World} (h : Bx N ev X) (hb : Below B X Y) (hB : N + 4 ≤ B) : Bx N ev Y := h.keep fun k hk => hb.block k (by omega)
/-- an error is laid into the boxes -/
def errW (N : Nat) (e : Int) (X : World) : World := ((X.setCell ⟨N + 1, 0, none⟩ (.slice none 0 0)).setCell ⟨N + 1 + 1, 0, none⟩ (.int .i64 0)).setCell ⟨N + 1 + 1 + 1, 0, none⟩ (.int .i64 e)
structure BxE (N : Nat) (e : Int) (X : World) : Prop where
  b1 : Whole X (N + 1) 36 [.slice none 0 0]
  b2 : Whole X (N + 1 + 1) 3 [.int .i64 0]
  b3 : Whole X (N + 1 + 1 + 1) 27 [.int .i64 e]
theorem Bx.err {N : Nat} {ev : Value} {X : World} (h : Bx N ev X) (e : Int) : BxE N e (errW N e X) :=
  ⟨((h.b1.set 0 _).other _ _ (by first | (simp; done) | (simp; omega))).other _ _ (by first | (simp; done) | (simp; omega)), (((h.b2.other _ _ (by first | (simp; done) | (simp; omega)))).set 0 _).other _ _ (by first | (simp; done) | (simp; omega)), ((h.b3.other _ _ (by first | (simp; done) | (simp; omega))).other _ _ (by first | (simp; done) | (simp; omega))).set 0 _⟩
theorem errW_below {N : Nat} {e : Int} {w X : World} (h : Below N w X) : Below N w (errW N e X) :=
  ((h.setCell (p := ⟨N + 1, 0, none⟩) (by simp) _).setCell (p := ⟨N + 1 + 1, 0, none⟩) (show N ≤ N + 1 + 1 by omega) _).setCell (p := ⟨N + 1 + 1 + 1, 0, none⟩) (show N ≤ N + 1 + 1 + 1 by omega) _
theorem errW_kept {N : Nat} {e : Int} {X : World} : KeepsOthers X (errW N e X) := ((KeepsOthers.setCell _ _ _).trans (KeepsOthers.setCell _ _ _)).trans (KeepsOthers.setCell _ _ _)
theorem errW_res {N : Nat} {e : Int} {X : World} {tmps : Array Value} {fn : Func} (hf : fn.results = #[.cell 4 36, .cell 5 3, .cell 6 27])
    (h4 : tmps[4]? = some (.pointer (some ⟨N + 1, 0, none⟩))) (h5 : tmps[5]? = some (.pointer (some ⟨N + 1 + 1, 0, none⟩))) (h6 : tmps[6]? = some (.pointer (some ⟨N + 1 + 1 + 1, 0, none⟩)))
    (h : BxE N e X) : (results fn tmps).run Try.prog X = .ok (.tuple #[.slice none 0 0, .int .i64 0, .int .i64 e]) X :=
  results_cells3 hf h4 h5 h6 h.b1 h.b2 h.b3 ⟨_, _, _, rfl⟩
theorem BxE.kept {N : Nat} {e : Int} {X Y : World} (h : BxE N e X) (hk : CellsKept X Y) : BxE N e Y := ⟨hk _ _ h.b1 rfl, hk _ _ h.b2 rfl, hk _ _ h.b3 rfl⟩
theorem gcell {X : World} {N : Nat} {ev : Value} (h : Bx N ev X) : (X.cell? ⟨N, 0, none⟩ = some ev ∧ N < X.heap.size) ∧ (X.cell? ⟨N + 1, 0, none⟩ = some (.slice none 0 0) ∧ X.frozen? ⟨N + 1, 0, none⟩ = false ∧ N + 1 < X.heap.size) ∧
    (X.cell? ⟨N + 1 + 1, 0, none⟩ = some (.int .i64 0) ∧ X.frozen? ⟨N + 1 + 1, 0, none⟩ = false ∧ N + 1 + 1 < X.heap.size) ∧ (X.cell? ⟨N + 1 + 1 + 1, 0, none⟩ = some (.int .i64 0) ∧ X.frozen? ⟨N + 1 + 1 + 1, 0, none⟩ = false ∧ N + 1 + 1 + 1 < X.heap.size) :=
  ⟨⟨h.b0.cellAt 0, h.b0.lt⟩, ⟨h.b1.cellAt 0, h.b1.free 0, h.b1.lt⟩, ⟨h.b2.cellAt 0, h.b2.free 0, h.b2.lt⟩, ⟨h.b3.cellAt 0, h.b3.free 0, h.b3.lt⟩⟩
set_option maxHeartbeats 1000000 in
theorem lay_bad (p q : Option Addr) (m c m' c' : Nat) (w : World)
    (H : Hid (Calls Try.prog 25 #[.slice p m c, .slice q m' c'] ((((w.alloc (.cells #[.slice q m' c'] 26)).alloc (.cells #[.slice none 0 0] 36)).alloc (.cells #[.int .i64 0] 3)).alloc (.cells #[.int .i64 0] 27)) fun e W' => e = .returned (.bool false) ∧ Below (w.heap.size + 4) ((((w.alloc (.cells #[.slice q m' c'] 26)).alloc (.cells #[.slice none 0 0] 36)).alloc (.cells #[.int .i64 0] 3)).alloc (.cells #[.int .i64 0] 27)) W')) :
    Calls Try.prog 15 #[.slice p m c, .slice q m' c'] w fun e W' => e = .returned (.tuple #[.slice none 0 0, .int .i64 0, .int .i64 70]) ∧ Below w.heap.size w W' := by
  have hb := Bx.new w (.slice q m' c')
  have hB : Below w.heap.size w ((((w.alloc (.cells #[.slice q m' c'] 26)).alloc (.cells #[.slice none 0 0] 36)).alloc (.cells #[.int .i64 0] 3)).alloc (.cells #[.int .i64 0] 27)) :=
    ((((Below.refl _ w).alloc (Nat.le_refl _) _).alloc (by simp) _).alloc (by simp; omega) _).alloc (by simp; omega) _
  generalize hW0 : ((((w.alloc (.cells #[.slice q m' c'] 26)).alloc (.cells #[.slice none 0 0] 36)).alloc (.cells #[.int .i64 0] 3)).alloc (.cells #[.int .i64 0] 27)) = W0 at H hb hB
  have HB := Lib.hid (And.intro hb hB)
  obtain ⟨⟨c0, l0⟩, -, -, -⟩ := gcell hb
  clear hb hB
  refine (callsIn_wide (n := 3)).1 (callsIn_of_wp_marks Try.func15 rfl trivial (wpIn_wide.2 ?_) rfl)
  simp only [Try.ntmps15, List.size_toArray, List.length_cons, List.length_nil, Nat.reduceAdd, Nat.reduceSub, Array.replicate_succ, Array.replicate_zero, List.push_toArray, List.append_toArray, List.nil_append, List.cons_append]
  go_wp2_with (go_at_call 25; refine H.out.mono ?_; clear H; rintro e w1 ⟨rfl, hb1⟩; have K1 := Lib.hid (And.intro (HB.out.1.below hb1 (by omega)) (HB.out.2.trans (hb1.mono (by omega)))); obtain ⟨-, ⟨d1, f1, l1⟩, ⟨d2, f2, l2⟩, ⟨d3, f3, l3⟩⟩ := gcell K1.out.1; clear hb1)
  exact leaves_marks w.heap.size [] _ (Marks.nil _ _) (fun W' hck hbk => ⟨_, errW_res (N := w.heap.size) (e := 70) rfl rfl rfl rfl ((K1.out.1.err 70).kept hck), ⟨rfl, (errW_below K1.out.2).trans hbk⟩⟩)
def noPanG (Q : Exit → Act → World → Prop) : Exit → Act → World → Prop
  | .panic _, _, _ => False
  | e, a, w => Q e a w
theorem noPanG_le {Q : Exit → Act → World → Prop} (e : Exit) (a : Act) (w : World) (h : noPanG Q e a w) : Q e a w := by cases e <;> first | exact h | exact h.elim
theorem region_held_atG {P : Program} {ops : Array Oper} {Q : Exit → Act → World → Prop} {S : World → Prop} {id : Nat} {a : Act} {w : World} (hm : P.follows .mixedOrders = true)
    (h : ∀ w2 : World, w.drew = w2 → wpAnyH P .any ops (noPanG Q) S ops.size (Array.replicate ops.size false) a w2) : (Code.region id ops true).wp P Q a w :=
  (wpIn_wide (n := 0)).1 (wpIn_mono (wpIn_wide.2 (wp_region_held hm (h _ rfl))) noPanG_le)
/-- what lies in the call's memory between two rounds -/
structure LI (N M gb : Nat) (v ev : Value) (w : World) (s : LS) (vp vt : Value) (X : World) : Prop where
  bx : Bx N ev X
  k7 : Whole X M 36 [vp]
  k8 : Whole X (M + 1) 84 [vt]
  k9 : Whole X (M + 1 + 1) 52 s.last.cells
  kb : Whole X gb 25 [v]
  op : OwnP (M + 1 + 1 + 1 + 1) X vp s.ps
  ot : OwnT (M + 1 + 1 + 1 + 1) X vt s.t
  lo : Below N w X
  nm : N + 4 ≤ M
  gm : gb = M + 1 + 1 + 1
theorem LI.grown {N M gb : Nat} {v ev : Value} {w : World} {s : LS} {vp vt : Value} {X Y : World} {row : Option Nat} (h : LI N M gb v ev w s vp vt X) (hg : X.grownBy Y row) (hr : NoCells X row) (hN : N ≤ X.heap.size) (hl : ∀ k, row = some k → N ≤ k) : LI N M gb v ev w s vp vt Y :=
  ⟨⟨h.bx.b0.grown hg (h.bx.b0.ne hr), h.bx.b1.grown hg (h.bx.b1.ne hr), h.bx.b2.grown hg (h.bx.b2.ne hr), h.bx.b3.grown hg (h.bx.b3.ne hr)⟩, h.k7.grown hg (h.k7.ne hr), h.k8.grown hg (h.k8.ne hr), h.k9.grown hg (h.k9.ne hr), h.kb.grown hg (h.kb.ne hr), own_grown h.op hg hr, own_grown h.ot hg hr, h.lo.grown hg hN hl, h.nm, h.gm⟩
theorem LI.alloc {N M gb : Nat} {v ev : Value} {w : World} {s : LS} {vp vt : Value} {X : World} (h : LI N M gb v ev w s vp vt X) (o : Obj) : LI N M gb v ev w s vp vt (X.alloc o) :=
  h.grown (World.grownBy_alloc X o none) (fun _ e => by cases e) (Nat.le_of_lt h.bx.b0.lt) (fun _ e => by cases e)
theorem LI.below {N M gb : Nat} {v ev : Value} {w : World} {s : LS} {vp vt : Value} {X Y : World} (h : LI N M gb v ev w s vp vt X) (hb : Below X.heap.size X Y) : LI N M gb v ev w s vp vt Y :=
  h.grown (grown_of_below' hb) (fun _ e => by cases e) (Nat.le_of_lt h.bx.b0.lt) (fun _ e => by cases e)
theorem LI.kept {N M gb : Nat} {v ev : Value} {hv : Nat → Value} {rows : List (List Sp)} {w : World} {s s' : LS} {vp vt vp' vt' : Value} {X Y : World} (h : LI N M gb v ev w s vp vt X) (h' : LI N M gb v ev w s' vp' vt' Y) (hs : X.heap.size ≤ Y.heap.size) : KeepG (CellMem N gb v hv rows) X Y :=
  ⟨hs, fun hc => hc.keep hs (fun k hk => (h'.lo.block k hk).trans (h.lo.block k hk).symm) (Eq.trans h'.kb h.kb.symm)⟩
theorem Whole.oth {W : World} {g t : Nat} {xs : List Value} (h : Whole W g t xs) (b o : Nat) (v : Value) (hne : g ≠ b) : Whole (W.setCell ⟨b, o, none⟩ v) g t xs := h.other _ _ hne
theorem below_set_at {N : Nat} {w X : World} (h : Below N w X) (b o : Nat) (v : Value) (hb : N ≤ b) : Below N w (X.setCell ⟨b, o, none⟩ v) := h.setCell (p := ⟨b, o, none⟩) hb _
theorem own_kept_cells {X Y : World} {base b' e sz n : Nat} {v : Value} {xs : List Value} (h : X.ownsRow base e sz v n xs) (hk : CellsKept X Y) (hb' : b' ≤ base) : Y.ownsRow b' e sz v n xs := by
  refine ⟨h.1, h.2.imp id ?_⟩
  rintro ⟨g, cap, cur, rfl, hb, hg, rest⟩
  exact ⟨g, cap, cur, rfl, by omega, hk _ _ hg rfl, rest⟩
theorem own_low {X : World} {base e sz n g : Nat} {v : Value} {xs : List Value} (h : X.ownsRow base e sz v n xs) (hg : g < base) : v.ownBlock ≠ some g := fun hv => by have := (h.lt g hv).1; omega
theorem own_apart {X : World} {b1 b2 e1 e2 s1 s2 n1 n2 : Nat} {v1 v2 : Value} {xs ys : List Value} (h1 : X.ownsRow b1 e1 s1 v1 n1 xs) (h2 : X.ownsRow b2 e2 s2 v2 n2 ys) (hne : e1 ≠ e2) : v1.ownBlock = none ∨ v1.ownBlock ≠ v2.ownBlock := by
  cases hv : v1.ownBlock with
  | none => exact .inl rfl
  | some g =>
    refine .inr fun e => ?_
    obtain ⟨c1, k1⟩ := own_block_cells h1 hv
    obtain ⟨c2, k2⟩ := own_block_cells h2 e.symm
    rw [k1] at k2; cases k2; exact hne rfl
/-- a step that turns one block of cells that is none of the boxes -/
theorem LI.turn {N M gb : Nat} {v ev : Value} {w : World} {s : LS} {vp vt : Value} {X Y : World} {row : Option Nat} (h : LI N M gb v ev w s vp vt X) (hg : X.grownBy Y row) (hr : ∀ k, row = some k → M + 1 + 1 + 1 + 1 ≤ k) :
    Bx N ev Y ∧ Whole Y M 36 [vp] ∧ Whole Y (M + 1) 84 [vt] ∧ Whole Y (M + 1 + 1) 52 s.last.cells ∧ Whole Y gb 25 [v] ∧ Below N w Y := by
  have hne : ∀ g, g < M + 1 + 1 + 1 + 1 → row ≠ some g := fun g hg e => by have := hr g e; omega
  have h1 := h.nm
  have h2 := h.gm
  exact ⟨⟨h.bx.b0.grown hg (hne _ (by omega)), h.bx.b1.grown hg (hne _ (by omega)), h.bx.b2.grown hg (hne _ (by omega)), h.bx.b3.grown hg (hne _ (by omega))⟩, h.k7.grown hg (hne _ (by omega)), h.k8.grown hg (hne _ (by omega)), h.k9.grown hg (hne _ (by omega)), h.kb.grown hg (hne _ (by omega)), h.lo.grown hg (Nat.le_of_lt h.bx.b0.lt) (fun k e => by have := hr k e; omega)⟩
/-- a store into the box of the last place -/
theorem LI.set9 {N M gb : Nat} {v ev : Value} {w : World} {s : LS} {vp vt : Value} {X : World} (h : LI N M gb v ev w s vp vt X) (k : Nat) (u : Value) (p : Pl) (hp : p.cells = s.last.cells.set k u) : LI N M gb v ev w ⟨s.t, s.ps, p⟩ vp vt (X.setCell ⟨M + 1 + 1, k, none⟩ u) := by
  have h1 := h.nm
  have h2 := h.gm
  refine ⟨⟨h.bx.b0.oth _ _ _ (by omega), h.bx.b1.oth _ _ _ (by omega), h.bx.b2.oth _ _ _ (by omega), h.bx.b3.oth _ _ _ (by omega)⟩, h.k7.oth _ _ _ (by omega), h.k8.oth _ _ _ (by omega), ?_, h.kb.oth _ _ _ (by omega), own_setCell h.op (own_low h.op (by omega)), own_setCell h.ot (own_low h.ot (by omega)), below_set_at h.lo _ _ _ (by omega), h1, h2⟩
  show Whole _ _ _ p.cells
  rw [hp]
  exact h.k9.set k u
theorem LI.take {N M gb : Nat} {v ev : Value} {w : World} {s : LS} {vp vt v' : Value} {t' : List Nat} {X Y : World} (h : LI N M gb v ev w s vp vt X) (ho : OwnT (M + 1 + 1 + 1 + 1) Y v' t') (hl : Left vt X Y v') : LI N M gb v ev w ⟨t', s.ps, s.last⟩ vp v' (Y.setCell ⟨M + 1, 0, none⟩ v') := by
  have h1 := h.nm
  have h2 := h.gm
  obtain ⟨g0, g1, g2, g3, g4, g5⟩ := h.turn hl.grown (fun k e => (h.ot.lt k e).1)
  have gp : OwnP (M + 1 + 1 + 1 + 1) Y vp s.ps := World.ownsRow.kept h.op hl.grown (own_apart h.op h.ot (by decide))
  exact ⟨⟨g0.b0.oth _ _ _ (by omega), g0.b1.oth _ _ _ (by omega), g0.b2.oth _ _ _ (by omega), g0.b3.oth _ _ _ (by omega)⟩, g1.oth _ _ _ (by omega), g2.set 0 v', g3.oth _ _ _ (by omega), g4.oth _ _ _ (by omega), own_setCell gp (own_low gp (by omega)), own_setCell ho (own_low ho (by omega)), below_set_at g5 _ _ _ (by omega), h1, h2⟩
theorem flat_snoc (ps : List Pl) (p : Pl) : (ps ++ [p]).flatMap Pl.cells = ps.flatMap Pl.cells ++ p.cells := by simp
theorem LI.put {N M gb : Nat} {v ev : Value} {w : World} {s : LS} {vp vt v' : Value} {p : Pl} {X Y : World} {o : Obj} (h : LI N M gb v ev w s vp vt X) (ho : Y.ownsRow (M + 1 + 1 + 1 + 1) 52 5 v' (s.ps.length + 1) (s.ps.flatMap Pl.cells ++ p.cells)) (hg : (X.alloc o).grownBy Y vp.ownBlock) : LI N M gb v ev w ⟨s.t, s.ps ++ [p], s.last⟩ v' vt (Y.setCell ⟨M, 0, none⟩ v') := by
  have h1 := h.nm
  have h2 := h.gm
  have h' := h.alloc o
  obtain ⟨g0, g1, g2, g3, g4, g5⟩ := h'.turn hg (fun k e => (h'.op.lt k e).1)
  have gt : OwnT (M + 1 + 1 + 1 + 1) Y vt s.t := World.ownsRow.kept h'.ot hg (own_apart h'.ot h'.op (by decide))
  have gp : OwnP (M + 1 + 1 + 1 + 1) Y v' (s.ps ++ [p]) := by unfold OwnP; rw [flat_snoc, List.length_append]; exact ho
  exact ⟨⟨g0.b0.oth _ _ _ (by omega), g0.b1.oth _ _ _ (by omega), g0.b2.oth _ _ _ (by omega), g0.b3.oth _ _ _ (by omega)⟩, g1.set 0 v', g2.oth _ _ _ (by omega), g3.oth _ _ _ (by omega), g4.oth _ _ _ (by omega), own_setCell gp (own_low gp (by omega)), own_setCell gt (own_low gt (by omega)), below_set_at g5 _ _ _ (by omega), h1, h2⟩
def LInv (N M gb : Nat) (v ev : Value) (ends : List Int) (w : World) (pre : List (Nat × Sp)) (X : World) : Prop := ∃ s vp vt, runP ends pre LS.zero = some s ∧ LI N M gb v ev w s vp vt X
def LX (N : Nat) (none : Prop) (w : World) (c : Code) (pre : List (Nat × Sp)) (X : World) : Prop := c = .ret ∧ none ∧ BxE N 43 X ∧ Below N w X
theorem LInv.own (N M gb : Nat) (v ev : Value) (ends : List Int) (w : World) (K : Nat) (h1 : N ≤ w.heap.size) (h2 : N ≤ K) : OwnFrom K (LInv N M gb v ev ends w) := fun pre X Y row ⟨s, vp, vt, hr, h⟩ hg hrow =>
  ⟨s, vp, vt, hr, h.grown hg (fun r e => (hrow r e).2) (Nat.le_trans h1 h.lo.size) (fun k e => Nat.le_trans h2 (hrow k e).1)⟩
theorem LX.own (N : Nat) (none : Prop) (w : World) (K : Nat) (h1 : N ≤ w.heap.size) (h2 : N ≤ K) (c : Code) : OwnFrom K (LX N none w c) := fun pre X Y row ⟨hc, hn, hb, hlo⟩ hg hr =>
  ⟨hc, hn, ⟨hb.b1.grown hg (hb.b1.ne fun r e => (hr r e).2), hb.b2.grown hg (hb.b2.ne fun r e => (hr r e).2), hb.b3.grown hg (hb.b3.ne fun r e => (hr r e).2)⟩, (ownFrom_below (β := Unit) h1 h2) () X Y row hlo hg hr⟩
set_option maxRecDepth 100000 in
set_option maxHeartbeats 4000000 in
theorem lay_main (p q : Option Addr) (m c c' : Nat) (hv : Nat → Value) (rows : List (List Sp)) (ends : List Int) (w : World) (hQ : RightQ rows ends) (hl : rows.length = m) (hR : RowsIn w.heap.size w (.slice p m c) hv rows) (hE : Ints w (.slice q m c') ends) (hn : (cellsF 0 rows).length ≤ 1000000)
    (H : Hid (Calls Try.prog 25 #[.slice p m c, .slice q m c'] ((((w.alloc (.cells #[.slice q m c'] 26)).alloc (.cells #[.slice none 0 0] 36)).alloc (.cells #[.int .i64 0] 3)).alloc (.cells #[.int .i64 0] 27)) fun e W' => e = .returned (.bool true) ∧ Below (w.heap.size + 4) ((((w.alloc (.cells #[.slice q m c'] 26)).alloc (.cells #[.slice none 0 0] 36)).alloc (.cells #[.int .i64 0] 3)).alloc (.cells #[.int .i64 0] 27)) W')) :
    Calls Try.prog 15 #[.slice p m c, .slice q m c'] w (LayPost rows ends w) := by
  have HR := Lib.hid hR
  have HE := Lib.hid hE
  have HL := Lib.hid hl
  have HQ := Lib.hid hQ
  have HN := Lib.hid hn
  have hb := Bx.new w (.slice q m c')
  have hB : Below w.heap.size w ((((w.alloc (.cells #[.slice q m c'] 26)).alloc (.cells #[.slice none 0 0] 36)).alloc (.cells #[.int .i64 0] 3)).alloc (.cells #[.int .i64 0] 27)) :=
    ((((Below.refl _ w).alloc (Nat.le_refl _) _).alloc (by simp) _).alloc (by simp; omega) _).alloc (by simp; omega) _
  generalize hW0 : ((((w.alloc (.cells #[.slice q m c'] 26)).alloc (.cells #[.slice none 0 0] 36)).alloc (.cells #[.int .i64 0] 3)).alloc (.cells #[.int .i64 0] 27)) = W0 at H hb hB
  have HB := Lib.hid (And.intro hb hB)
  obtain ⟨⟨c0, l0⟩, -, -, -⟩ := gcell hb
  clear hb hB hR hE hl hQ hn
  refine (callsIn_wide (n := 3)).1 (callsIn_of_wp_marks Try.func15 rfl trivial (wpIn_wide.2 ?_) rfl)
  simp only [Try.ntmps15, List.size_toArray, List.length_cons, List.length_nil, Nat.reduceAdd, Nat.reduceSub, Array.replicate_succ, Array.replicate_zero, List.push_toArray, List.append_toArray, List.nil_append, List.cons_append]
  go_wp2_with (first
    | (go_at_call 25; refine H.out.mono ?_; clear H; rintro e w1 ⟨rfl, hb1⟩; have K1 := Lib.hid (And.intro (HB.out.1.below hb1 (by omega)) (HB.out.2.trans (hb1.mono (by omega)))); clear hb1)
    | (go_at_call 26; refine (gcellsF_any _ _ _ _).mono ?_; rintro e w' ⟨rfl, rfl⟩))
  obtain ⟨W2, hW2⟩ : ∃ W2, (((w1.alloc (.cells #[.slice none 0 0] 36)).alloc (.cells #[.slice none 0 0] 84)).alloc (.cells #[.int .i64 0, .int .i64 0, .int .i64 0, .int .i64 0, .int .i64 0] 52)).alloc (.cells #[.slice p m c] 25) = W2 := ⟨_, rfl⟩
  have hsz2 : W2.heap.size = w1.heap.size + 4 := by rw [← hW2]; simp
  have hLI : LI w.heap.size w1.heap.size (w1.heap.size + 1 + 1 + 1) (.slice p m c) (.slice q m c') w LS.zero (.slice none 0 0) (.slice none 0 0) W2 := by
    have b2 : Below w1.heap.size w1 W2 := by rw [← hW2]; exact ((((Below.refl _ w1).alloc (Nat.le_refl _) _).alloc (by simp) _).alloc (by simp; omega) _).alloc (by simp; omega) _
    refine ⟨K1.out.1.below b2 K1.out.1.b3.lt, ?_, ?_, ?_, ?_, World.ownsRow_nil _ _ _ _, World.ownsRow_nil _ _ _ _, K1.out.2.trans (b2.mono K1.out.2.size), by have := K1.out.1.b3.lt; omega, rfl⟩
    · rw [← hW2]; exact (((whole_new w1 [.slice none 0 0] 36 _ rfl).alloc _).alloc _).alloc _
    · rw [← hW2]; exact ((whole_new (w1.alloc (.cells #[.slice none 0 0] 36)) [.slice none 0 0] 84 _ (by simp)).alloc _).alloc _
    · rw [← hW2]; exact (whole_new ((w1.alloc (.cells #[.slice none 0 0] 36)).alloc (.cells #[.slice none 0 0] 84)) LS.zero.last.cells 52 _ (by simp)).alloc _
    · rw [← hW2]; exact whole_new (((w1.alloc (.cells #[.slice none 0 0] 36)).alloc (.cells #[.slice none 0 0] 84)).alloc (.cells #[.int .i64 0, .int .i64 0, .int .i64 0, .int .i64 0, .int .i64 0] 52)) [.slice p m c] 25 _ (by simp)
  have hcm : CellMem w.heap.size (w1.heap.size + 1 + 1 + 1) (.slice p m c) hv rows W2 := ⟨hLI.lo.size, by omega, hLI.kb.cellAt 0, HR.out.below hLI.lo⟩
  have HLI := Lib.hid hLI
  have HCM := Lib.hid hcm
  have hw1 := K1.out.2.size
  rw [hW2]
  clear hW2 hLI hcm hW0 HB c0 l0
  refine (wpIn_wide (n := 3)).1 (range_next (F := Fence.wide) rfl (by omega) (gf := 45) (lb := #[.pointer (some ⟨w1.heap.size + 1 + 1 + 1, 0, none⟩)]) rfl trivial (enters_of Try.func45 (by kernel_rfl) rfl)
    (Kp := KeepG (CellMem w.heap.size (w1.heap.size + 1 + 1 + 1) (.slice p m c) hv rows)) (fun _ _ _ h k => h.trans k) (fun W l o h1 h2 => ⟨by simp, fun h => h.keep (by simp) (fun k hk => World.putObj_heap_other (by omega)) (World.putObj_heap_other (by omega))⟩) (gcells_next _ (by omega) w.heap.size (w1.heap.size + 1 + 1 + 1) _ hv rows W2 HCM.out) (fun _ => rfl)
    (LInv w.heap.size w1.heap.size (w1.heap.size + 1 + 1 + 1) (.slice p m c) (.slice q m c') ends w) (LX w.heap.size (layP rows ends = none) w) (LInv.own _ _ _ _ _ _ _ _ (Nat.le_refl _) (by omega)) (fun c => LX.own _ _ _ _ (Nat.le_refl _) (by omega) c)
    ⟨LS.zero, _, _, rfl, HLI.out⟩ ?round ?done ?stop)
  case round =>
    rintro l pre x V hl ⟨s, vp, vt, hrun, hLI⟩ ⟨rest, hnx⟩
    obtain ⟨i, ⟨x1, x2, x3⟩⟩ := x
    have hmem : (i, (⟨x1, x2, x3⟩ : Sp)) ∈ cellsF 0 rows := by rw [hnx]; simp
    have him : i < m := by have := cellsF_row 0 rows _ hmem; have := HL.out; dsimp only at *; omega
    have hpl : pre.length < 1000000 := by have := congrArg List.length hnx; have := HN.out; simp at *; omega
    have hokc := HQ.out.cells _ hmem
    dsimp only [okC] at hokc
    rw [within_one, within_one] at hokc
    simp only [Bool.and_eq_true, decide_eq_true_eq] at hokc
    obtain ⟨⟨hx2, hx2'⟩, hx3, hx3'⟩ := hokc
    obtain ⟨xc, rfl⟩ : ∃ xc : Nat, x2 = (xc : Int) := ⟨x2.toNat, by omega⟩
    obtain ⟨ee, hee⟩ : ∃ ee, ends[i]? = some ee := ⟨_, List.getElem?_eq_getElem (by rw [HQ.out.len, HL.out]; exact him)⟩
    have hoke := HQ.out.ends i ee hee
    unfold okE at hoke
    rw [within_one] at hoke
    simp only [Bool.and_eq_true, decide_eq_true_eq] at hoke
    obtain ⟨en, rfl⟩ : ∃ en : Nat, ee = (en : Int) := ⟨ee.toNat, by omega⟩
    have hin : i + 1 ≤ en := by omega
    have hem : en ≤ m := by have := HL.out; omega
    have hmm : m ≤ 65536 := by have := HQ.out.many; rw [HL.out] at this; exact this
    have hend : endP ends i = en := by unfold endP; rw [hee]; rfl
    obtain ⟨hok, hpsl⟩ := runP_okay ends pre _ s Okay.zero hrun
    have HRUN := Lib.hid hrun
    have HNX := Lib.hid hnx
    obtain ⟨eb, eo, rfl, cee, leb⟩ : ∃ eb eo, q = some ⟨eb, eo, none⟩ ∧ w.cell? ⟨eb, eo + i, none⟩ = some (.int .i64 (en : Int)) ∧ eb < w.heap.size := by
      obtain ⟨_, ⟨_, _, _, h0⟩ | ⟨b, off, c2, h1, hce⟩⟩ := HE.out
      · rw [h0] at hee; simp at hee
      · injection h1 with h1 h2 h3
        have := hce i (by rw [← h2]; exact him)
        rw [hee] at this
        exact ⟨b, off, h1, this, cell_lt this⟩
    clear hmem hnx hrun hoke hee
    apply Exists.intro
    apply Exists.intro
    refine ⟨?_, ?_, ?_, ?_⟩
    · intro K hK
      dsimp only [encC]
      gi_wp2
      exact hK
    · exact (KeepsOthers.alloc V _).from _
    · exact ⟨by simp, fun h => h.below ((Below.refl _ V).alloc (Nat.le_refl _) _)⟩
    · intro V₂ hgV hnc' hbl
      have kc : Whole V₂ V.heap.size 48 [.int .i64 x1, .int .i64 (xc : Int), .int .i64 x3] := Whole.grown (whole_new V [.int .i64 x1, .int .i64 (xc : Int), .int .i64 x3] 48 _ rfl) hgV (Whole.ne (whole_new V [.int .i64 x1, .int .i64 (xc : Int), .int .i64 x3] 48 _ rfl) hnc')
      have hLI2 := (hLI.alloc (.cells #[.int .i64 x1, .int .i64 (xc : Int), .int .i64 x3] 48)).grown hgV hnc' (by have := hLI.lo.size; simp; omega) (fun k e => by cases e; omega)
      have hCB : w1.heap.size + 1 + 1 + 1 < V.heap.size := hLI.kb.lt
      clear hLI hgV hnc' hbl
      generalize V.heap.size = CB at kc hCB ⊢
      obtain ⟨t, ps, ⟨ln, lr, lc, lh, lw⟩⟩ := s
      by_cases hrow : i = lr
      · have hfrom : fromP ⟨t, ps, ⟨ln, lr, lc, lh, lw⟩⟩ i = lc + lw := by unfold fromP; rw [if_pos hrow]
        have hd : ((i : Int) == (lr : Int)) = true := by simp; omega
        have hfv : Value.int .i64 ((lc : Int) + (lw : Int)) = Value.int .i64 ((lc + lw : Nat) : Int) := by rw [show ((lc + lw : Nat) : Int) = (lc : Int) + (lw : Int) by omega]
        have hfl : (lc + lw) ≤ t.length := by have := hok.from _ i; rw [hfrom] at this; exact this
        have htl : t.length ≤ 10000 := hok.few
        have hll : lc + lw ≤ t.length := hok.last
        have hpsn : ps.length ≤ 1000000 := by have : ps.length = 0 + pre.length := hpsl; omega
        have r1 : V₂.cell? ⟨w1.heap.size + 1 + 1, 1, none⟩ = some (.int .i64 (lr : Int)) := hLI2.k9.cellAt 1
        have r2 : V₂.cell? ⟨w1.heap.size + 1 + 1, 2, none⟩ = some (.int .i64 (lc : Int)) := hLI2.k9.cellAt 2
        have r4 : V₂.cell? ⟨w1.heap.size + 1 + 1, 4, none⟩ = some (.int .i64 (lw : Int)) := hLI2.k9.cellAt 4
        have lr9 := hLI2.k9.lt
        have z0 := kc.cellAt 0
        have z1 := kc.cellAt 1
        have z2 := kc.cellAt 2
        have lcb := kc.lt
        obtain ⟨⟨e0, le0⟩, -, -, -⟩ := gcell hLI2.bx
        have ce2 := (hLI2.lo.cell (p := ⟨eb, eo + i, none⟩) leb).trans cee
        have leb2 : eb < V₂.heap.size := by have := hLI2.lo.size; omega
        have HKC := Lib.hid kc
        have HOK := Lib.hid hok
        have HFV := Lib.hid hfv
        have HFR := Lib.hid hfrom
        have hlo2 := hLI2.lo.size
        have CEE := Lib.hid cee
        obtain ⟨p0, c0, rfl⟩ := OwnT.form hLI2.ot
        obtain ⟨pp, pn, pc, rfl⟩ := own_slice hLI2.op
        have HLI2 := Lib.hid hLI2
        clear hLI2 kc hok hfv hfrom hpsl hrow cee
        gi_wp2
        refine wpIn_round_held (S := fun X => X.cell? ⟨CB, 0, none⟩ = some (.int .i64 x1) ∧ X.cell? ⟨CB, 1, none⟩ = some (.int .i64 (xc : Int)) ∧ X.cell? ⟨CB, 2, none⟩ = some (.int .i64 x3) ∧ X.cell? ⟨w.heap.size, 0, none⟩ = some (.slice (some ⟨eb, eo, none⟩) m c') ∧ X.cell? ⟨eb, eo + i, none⟩ = some (.int .i64 (en : Int))) (by kernel_rfl) (by kernel_rfl) ?_ ?_
        · rintro ⟨x, y, h⟩; exact h
        obtain ⟨V3, hV3⟩ : ∃ V3, V₂.drew = V3 := ⟨_, rfl⟩
        have SV : Hid (Below V₂.heap.size V₂ V3) := Lib.hid (by rw [← hV3]; exact below_dn _ V₂ 1)
        have sV3 : V3.heap.size ≤ V₂.heap.size ∧ V₂.heap.size ≤ V3.heap.size := by rw [← hV3]; exact ⟨Nat.le_refl _, Nat.le_refl _⟩
        have HS : Hid (∀ U : World, Below V3.heap.size V3 U → U.cell? ⟨CB, 0, none⟩ = some (.int .i64 x1) ∧ U.cell? ⟨CB, 1, none⟩ = some (.int .i64 (xc : Int)) ∧ U.cell? ⟨CB, 2, none⟩ = some (.int .i64 x3) ∧ U.cell? ⟨w.heap.size, 0, none⟩ = some (.slice (some ⟨eb, eo, none⟩) m c') ∧ U.cell? ⟨eb, eo + i, none⟩ = some (.int .i64 (en : Int))) := Lib.hid fun U hU => by
          have hb : Below V₂.heap.size V₂ U := SV.out.trans (hU.mono (by omega))
          exact ⟨(hb.cell (p := ⟨CB, 0, none⟩) lcb).trans z0, (hb.cell (p := ⟨CB, 1, none⟩) lcb).trans z1, (hb.cell (p := ⟨CB, 2, none⟩) lcb).trans z2, (hb.cell (p := ⟨w.heap.size, 0, none⟩) le0).trans e0, (hb.cell (p := ⟨eb, eo + i, none⟩) leb2).trans ce2⟩
        have hS3 := HS.out V3 (Below.refl _ _)
        rw [hV3]
        clear hV3 z0 z1 z2 e0 ce2 r1 r2 r4
        refine wpAnyH_take (i := 0) (v := .pointer (some ⟨CB, 0, none⟩)) rfl (by kernel_rfl) (by kernel_rfl) (by kernel_rfl) (fun _ _ _ h => h) (Or.inl ⟨by rfl, ?_⟩) hS3 ?_
        · intro X hX; obtain ⟨g0, g1, g2, g3, g4⟩ := hX; go_simp
        refine wpAnyH_take (i := 1) (v := .int .i64 x1) rfl (by kernel_rfl) (by kernel_rfl) (by kernel_rfl) (fun _ _ _ h => h) (Or.inl ⟨by rfl, ?_⟩) hS3 ?_
        · intro X hX; obtain ⟨g0, g1, g2, g3, g4⟩ := hX; go_simp
        refine wpAnyH_take (i := 2) (v := .int .i64 i) rfl (by kernel_rfl) (by kernel_rfl) (by kernel_rfl) (fun _ _ _ h => h) (Or.inl ⟨by rfl, ?_⟩) hS3 ?_
        · intro X hX; go_simp
        refine wpAnyH_take (i := 3) (v := .agg #[.int .i64 x1, .int .i64 (xc : Int), .int .i64 x3]) rfl (by kernel_rfl) (by kernel_rfl) (by kernel_rfl) (fun _ _ _ h => h) (Or.inl ⟨by rfl, ?_⟩) hS3 ?_
        · intro X hX; obtain ⟨g0, g1, g2, g3, g4⟩ := hX; go_simp
        refine wpAnyH_take (i := 4) (v := .slice (some ⟨eb, eo, none⟩) m c') rfl (by kernel_rfl) (by kernel_rfl) (by kernel_rfl) (fun _ _ _ h => h) (Or.inl ⟨by rfl, ?_⟩) hS3 ?_
        · intro X hX; obtain ⟨g0, g1, g2, g3, g4⟩ := hX; go_simp
        refine wpAnyH_take (i := 5) (v := .int .i64 i) rfl (by kernel_rfl) (by kernel_rfl) (by kernel_rfl) (fun _ _ _ h => h) (Or.inl ⟨by rfl, ?_⟩) hS3 ?_
        · intro X hX; go_simp
        refine wpAnyH_take (i := 6) (v := .pointer (some ⟨eb, eo + i, none⟩)) rfl (by kernel_rfl) (by kernel_rfl) (by kernel_rfl) (fun _ _ _ h => h) (Or.inl ⟨by rfl, ?_⟩) hS3 ?_
        · intro X hX; go_simp
        refine wpAnyH_take (i := 7) (v := .int .i64 (en : Int)) rfl (by kernel_rfl) (by kernel_rfl) (by kernel_rfl) (fun _ _ _ h => h) (Or.inl ⟨by rfl, ?_⟩) hS3 ?_
        · intro X hX; obtain ⟨g0, g1, g2, g3, g4⟩ := hX; go_simp
        refine wpAnyH_take (i := 8) (v := .int .i64 i) rfl (by kernel_rfl) (by kernel_rfl) (by kernel_rfl) (fun _ _ _ h => h) (Or.inl ⟨by rfl, ?_⟩) hS3 ?_
        · intro X hX; go_simp
        refine wpAnyH_take (i := 9) (v := .int .i64 ((en : Int) - (i : Int))) rfl (by kernel_rfl) (by kernel_rfl) (by kernel_rfl) (fun _ _ _ h => h) (Or.inl ⟨by rfl, ?_⟩) hS3 ?_
        · intro X hX; go_simp; exact IntWalk.i64_in _ (by omega)
        have HHI := Lib.hid (high_any x1 (xc : Int) x3 (en - i) V3 hx3)
        rw [show ((en - i : Nat) : Int) = (en : Int) - (i : Int) by omega] at HHI
        refine wpAnyH_all (rs := [10]) (by kernel_rfl) (by simp) ?_
        intro i2 hi2; obtain rfl : i2 = 10 := by simpa using hi2
        refine wpOp_step rfl (fun K hK => ?_)
        go_simp
        refine HHI.out.mono ?_
        rintro e w4 ⟨rfl, hb4⟩
        refine hK _ _ ⟨HS.out w4 hb4, ?_⟩
        clear hK K hi2 HHI
        obtain ⟨hh, hhh⟩ : ∃ hh, highF x3 (en - i) = hh := ⟨_, rfl⟩
        rw [hhh]
        have HHH := Lib.hid hhh
        have HLI4 := Lib.hid (HLI2.out.below (SV.out.trans (hb4.mono (by omega))))
        have hS4 := HS.out w4 hb4
        have f9 := HLI4.out.k9
        have HB4 := Lib.hid (SV.out.trans (hb4.mono (by omega)))
        have s4 : V₂.heap.size ≤ w4.heap.size := HB4.out.size
        clear hhh hb4 HS
        refine wpAnyH_all (rs := [11]) (by kernel_rfl) (by simp) ?_
        intro i2 hi2; obtain rfl : i2 = 11 := by simpa using hi2
        refine wpOp_step rfl (fun K hK => ?_)
        go_simp
        refine hK _ _ ⟨hS4, ?_⟩
        clear hK K hi2
        refine wpAnyH_all (rs := [12]) (by kernel_rfl) (by simp) ?_
        intro i2 hi2; obtain rfl : i2 = 12 := by simpa using hi2
        refine wpOp_step rfl (fun K hK => ?_)
        have y0 : w4.cell? ⟨w1.heap.size + 1 + 1, 0, none⟩ = some (.int .i64 ln) := f9.cellAt 0
        have y1 : w4.cell? ⟨w1.heap.size + 1 + 1, 1, none⟩ = some (.int .i64 (lr : Int)) := f9.cellAt 1
        have y2 : w4.cell? ⟨w1.heap.size + 1 + 1, 2, none⟩ = some (.int .i64 (lc : Int)) := f9.cellAt 2
        have y3 : w4.cell? ⟨w1.heap.size + 1 + 1, 3, none⟩ = some (.int .i64 (lh : Int)) := f9.cellAt 3
        have y4 : w4.cell? ⟨w1.heap.size + 1 + 1, 4, none⟩ = some (.int .i64 (lw : Int)) := f9.cellAt 4
        have v0 := f9.free 0
        have v1 := f9.free 1
        have v2 := f9.free 2
        have v3 := f9.free 3
        have v4 := f9.free 4
        go_simp
        obtain ⟨W5, hW5⟩ : ∃ W5, (((((w4.setCell ⟨w1.heap.size + 1 + 1, 0, none⟩ (.int .i64 x1)).setCell ⟨w1.heap.size + 1 + 1, 1, none⟩ (.int .i64 (i : Int))).setCell ⟨w1.heap.size + 1 + 1, 2, none⟩ (.int .i64 0)).setCell ⟨w1.heap.size + 1 + 1, 3, none⟩ (.int .i64 (hh : Int))).setCell ⟨w1.heap.size + 1 + 1, 4, none⟩ (.int .i64 0)) = W5 := ⟨_, rfl⟩
        have hL5 : LI w.heap.size w1.heap.size (w1.heap.size + 1 + 1 + 1) (.slice p m c) (.slice (some ⟨eb, eo, none⟩) m c') w ⟨t, ps, ⟨x1, i, 0, hh, 0⟩⟩ (.slice pp pn pc) (.slice p0 t.length c0) W5 :=
          hW5 ▸ ((((HLI4.out.set9 0 (.int .i64 x1) ⟨x1, lr, lc, lh, lw⟩ rfl).set9 1 (.int .i64 (i : Int)) ⟨x1, i, lc, lh, lw⟩ rfl).set9 2 (.int .i64 0) ⟨x1, i, 0, lh, lw⟩ rfl).set9 3 (.int .i64 (hh : Int)) ⟨x1, i, 0, hh, lw⟩ rfl).set9 4 (.int .i64 0) ⟨x1, i, 0, hh, 0⟩ rfl
        have hk5 : Whole W5 CB 48 [.int .i64 x1, .int .i64 (xc : Int), .int .i64 x3] :=
          hW5 ▸ (((((HKC.out.below HB4.out lcb).oth _ _ _ (by omega)).oth _ _ _ (by omega)).oth _ _ _ (by omega)).oth _ _ _ (by omega)).oth _ _ _ (by omega)
        have hko5 : KeepsOthers V₂ W5 := hW5 ▸ (((((kept_below HB4.out).trans (KeepsOthers.setCell _ _ _)).trans (KeepsOthers.setCell _ _ _)).trans (KeepsOthers.setCell _ _ _)).trans (KeepsOthers.setCell _ _ _)).trans (KeepsOthers.setCell _ _ _)
        have hS5 : W5.cell? ⟨CB, 0, none⟩ = some (.int .i64 x1) ∧ W5.cell? ⟨CB, 1, none⟩ = some (.int .i64 (xc : Int)) ∧ W5.cell? ⟨CB, 2, none⟩ = some (.int .i64 x3) ∧ W5.cell? ⟨w.heap.size, 0, none⟩ = some (.slice (some ⟨eb, eo, none⟩) m c') ∧ W5.cell? ⟨eb, eo + i, none⟩ = some (.int .i64 (en : Int)) :=
          ⟨hk5.cellAt 0, hk5.cellAt 1, hk5.cellAt 2, hL5.bx.b0.cellAt 0, (hL5.lo.cell (p := ⟨eb, eo + i, none⟩) leb).trans CEE.out⟩
        rw [hW5]
        refine hK _ _ ⟨hS5, ?_⟩
        clear hK K hi2 y0 y1 y2 y3 y4 v0 v1 v2 v3 v4 hS5 hS4 f9 hS3
        refine wpAnyH_done (by kernel_rfl) ?_ _
        clear hW5
        obtain ⟨cc, hcc⟩ : ∃ cc, firstF t i (lc + lw) = cc := ⟨_, rfl⟩
        obtain ⟨wd, hwd⟩ : ∃ wd, wideF t i cc xc = wd := ⟨_, rfl⟩
        have HG : Hid (Calls Try.prog 28 #[.slice p0 t.length c0, .int .i64 i, (.int .i64 ((lc : Int) + (lw : Int))), .int .i64 xc] W5 fun e w' => e = .returned (.tuple #[.int .i64 (cc : Int), .int .i64 (wd : Int)]) ∧ W5 = w') := Lib.hid (by
          rw [HFV.out]
          have := gap_at p0 t.length c0 t i (lc + lw) xc W5 rfl (by omega) hfl (by omega) (by omega) (hL5.ot.ints (by omega : t.length ≤ 1000000))
          rw [hcc, hwd] at this
          exact this)
        have hccl : cc ≤ t.length := by rw [← hcc]; exact firstF_le _ _ _ hfl
        have hwdl : wd ≤ xc := by rw [← hwd]; exact (wideF_spec _ _ _ _).1
        have hhl : hh ≤ 65536 := by
          have := HHH.out
          unfold highF at this
          split at this <;> omega
        obtain ⟨T2, hT2⟩ : ∃ T2, takeN t cc (i + hh) wd = T2 := ⟨_, rfl⟩
        have HSTEP : Hid (stepP ends ⟨t, ps, ⟨ln, lr, lc, lh, lw⟩⟩ (i, ⟨x1, (xc : Int), x3⟩) = ⟨T2, ps ++ [⟨x1, i, cc, hh, wd⟩], ⟨x1, i, cc, hh, wd⟩⟩) := Lib.hid (by
          have hp : placeP ends ⟨t, ps, ⟨ln, lr, lc, lh, lw⟩⟩ (i, ⟨x1, (xc : Int), x3⟩) = ⟨x1, i, cc, hh, wd⟩ := by
            unfold placeP
            dsimp only
            rw [HFR.out, hend, HHH.out, Int.toNat_natCast, hcc, hwd]
          unfold stepP
          rw [hp]
          dsimp only
          rw [hT2])
        have hL6 := (hL5.set9 2 (.int .i64 (cc : Int)) ⟨x1, i, cc, hh, 0⟩ rfl).set9 4 (.int .i64 (wd : Int)) ⟨x1, i, cc, hh, wd⟩ rfl
        dsimp only at hL6
        have hko6 : KeepsOthers V₂ ((W5.setCell ⟨w1.heap.size + 1 + 1, 2, none⟩ (.int .i64 (cc : Int))).setCell ⟨w1.heap.size + 1 + 1, 4, none⟩ (.int .i64 (wd : Int))) := (hko5.trans (KeepsOthers.setCell _ _ _)).trans (KeepsOthers.setCell _ _ _)
        have HT2 := Lib.hid hT2
        have HL6 := Lib.hid hL6
        have HK6 := Lib.hid hko6
        have a0 : W5.cell? ⟨w1.heap.size + 1 + 1, 0, none⟩ = some (.int .i64 x1) := hL5.k9.cellAt 0
        have a1 : W5.cell? ⟨w1.heap.size + 1 + 1, 1, none⟩ = some (.int .i64 (i : Int)) := hL5.k9.cellAt 1
        have a2 : W5.cell? ⟨w1.heap.size + 1 + 1, 2, none⟩ = some (.int .i64 0) := hL5.k9.cellAt 2
        have a3 : W5.cell? ⟨w1.heap.size + 1 + 1, 3, none⟩ = some (.int .i64 (hh : Int)) := hL5.k9.cellAt 3
        have a4 : W5.cell? ⟨w1.heap.size + 1 + 1, 4, none⟩ = some (.int .i64 0) := hL5.k9.cellAt 4
        have b2 := hL5.k9.free 2
        have b4 := hL5.k9.free 4
        have la := hL5.k9.lt
        have d8 : W5.cell? ⟨w1.heap.size + 1, 0, none⟩ = some (.slice p0 t.length c0) := hL5.k8.cellAt 0
        have l8 := hL5.k8.lt
        have z1 : W5.cell? ⟨CB, 1, none⟩ = some (.int .i64 (xc : Int)) := hk5.cellAt 1
        have lz := hk5.lt
        have hne2 : CB ≠ w1.heap.size + 1 + 1 := by omega
        clear hL5 hk5 hko5 hL6 hko6 hcc hwd hT2 HHH HFV HFR hend
        gi_wp2_with (refine ⟨trivial, ?_⟩; gi_at_call 28; refine (CallsIn.inRound l (callsIn_wide.2 HG.out)).mono ?_; clear HG; rintro e w' ⟨rfl, rfl⟩)
        refine ⟨trivial, (CallsIn.inRound l (callsIn_wide.2 (take_at (w1.heap.size + 1 + 1 + 1 + 1) (.slice p0 t.length c0) t x1 i cc hh wd _ ?_ HL6.out.ot hccl (by omega) (by omega) (by omega) (by omega)))).mono ?_⟩
        · have := HL6.out.kb.lt; have h2 := HL6.out.gm; omega
        rintro e w7 ⟨v7, rfl, ho7, hl7⟩
        rw [HT2.out] at ho7
        obtain ⟨p7, c7, rfl⟩ := OwnT.form ho7
        obtain ⟨n2, hn2⟩ : ∃ n2, T2.length = n2 := ⟨_, rfl⟩
        have hL8 := HL6.out.take ho7 hl7
        have hko7 := HK6.out.trans (own_keeps HL6.out.ot hl7.grown)
        obtain ⟨-, -, k87, -, -, -⟩ := HL6.out.turn hl7.grown (fun k e => (HL6.out.ot.lt k e).1)
        rw [hn2] at hL8 ⊢
        obtain ⟨W8, hW8⟩ : ∃ W8, w7.setCell ⟨w1.heap.size + 1, 0, none⟩ (.slice p7 n2 c7) = W8 := ⟨_, rfl⟩
        rw [hW8] at hL8
        have hko8 : KeepsOthers V₂ W8 := hW8 ▸ hko7.trans (KeepsOthers.setCell _ _ _)
        have f87 := k87.free 0
        have c87 := k87.cellAt 0
        have l87 := k87.lt
        have c88 : W8.cell? ⟨w1.heap.size + 1, 0, none⟩ = some (.slice p7 n2 c7) := hL8.k8.cellAt 0
        have l88 := hL8.k8.lt
        have HN2 := Lib.hid hn2
        have HK8 := Lib.hid hko8
        have HL8 := Lib.hid hL8
        clear ho7 hl7 hL8 hko7 hko8 hn2 k87 HL6 HK6 a0 a1 a2 a3 a4 b2 b4 la d8 l8 z1 lz
        by_cases hbig : 10000 < n2
        · obtain ⟨-, ⟨d1, f1, l1⟩, ⟨d2, f2, l2⟩, ⟨d3, f3, l3⟩⟩ := gcell HL8.out.bx
          have hnone : Hid (layP rows ends = none) := Lib.hid (by
            unfold layP
            rw [HNX.out, List.append_cons]
            refine runP_more _ _ _ _ ?_
            rw [runP_snoc _ _ _ _ _ HRUN.out, HSTEP.out, if_pos (by dsimp only; rw [HN2.out]; exact hbig)])
          gi_wp2
          exact ⟨(HK8.out.trans errW_kept).from _, rfl, hnone.out, HL8.out.bx.err 43, errW_below HL8.out.lo⟩
        · have hrun8 : Hid (runP ends (pre ++ [(i, (⟨x1, (xc : Int), x3⟩ : Sp))]) LS.zero = some ⟨T2, ps ++ [⟨x1, i, cc, hh, wd⟩], ⟨x1, i, cc, hh, wd⟩⟩) := Lib.hid (by
            rw [runP_snoc _ _ _ _ _ HRUN.out, HSTEP.out, if_neg (by dsimp only; rw [HN2.out]; exact hbig)])
          obtain ⟨i1, hi1, hz0', hz1', hz2'⟩ := info_parts Try.infoPl
          have HZ1 := Lib.hid hz0'
          have HZ2 := Lib.hid hz1'
          have HZ3 := Lib.hid hz2'
          have d7 : W8.cell? ⟨w1.heap.size, 0, none⟩ = some (.slice pp pn pc) := HL8.out.k7.cellAt 0
          have l7 := HL8.out.k7.lt
          have a0 : W8.cell? ⟨w1.heap.size + 1 + 1, 0, none⟩ = some (.int .i64 x1) := HL8.out.k9.cellAt 0
          have a1 : W8.cell? ⟨w1.heap.size + 1 + 1, 1, none⟩ = some (.int .i64 (i : Int)) := HL8.out.k9.cellAt 1
          have a2 : W8.cell? ⟨w1.heap.size + 1 + 1, 2, none⟩ = some (.int .i64 (cc : Int)) := HL8.out.k9.cellAt 2
          have a3 : W8.cell? ⟨w1.heap.size + 1 + 1, 3, none⟩ = some (.int .i64 (hh : Int)) := HL8.out.k9.cellAt 3
          have a4 : W8.cell? ⟨w1.heap.size + 1 + 1, 4, none⟩ = some (.int .i64 (wd : Int)) := HL8.out.k9.cellAt 4
          have la := HL8.out.k9.lt
          have hb8 : w1.heap.size + 1 + 1 + 1 + 1 ≤ W8.heap.size := by have := HL8.out.kb.lt; have h2 := HL8.out.gm; omega
          have HPUT := Lib.hid (fun (Y : World) (v' : Value) ho hg => LI.put (p := ⟨x1, i, cc, hh, wd⟩) (v' := v') (Y := Y) (o := .cells #[.int .i64 x1, .int .i64 (i : Int), .int .i64 (cc : Int), .int .i64 (hh : Int), .int .i64 (wd : Int)] 52) HL8.out ho hg)
          have hop8 : W8.ownsRow (w1.heap.size + 1 + 1 + 1 + 1) 52 5 (.slice pp pn pc) ps.length (ps.flatMap Pl.cells) := HL8.out.op
          have HO8 := Lib.hid hop8
          dsimp only at HPUT
          clear hz0' hz1' hz2' hop8
          gi_wp2_with (gi_at_builtin; refine wpListIn_append_own_at _ rfl _ _ 36 rfl (w1.heap.size + 1 + 1 + 1 + 1) 52 i1 (.agg #[.int .i64 0, .int .i64 0, .int .i64 0, .int .i64 0, .int .i64 0]) 5 40 Try.underlying36 hi1 HZ1.out HZ2.out HZ3.out rfl (by decide) (.slice pp pn pc) ps.length (ps.flatMap Pl.cells) rfl (HO8.out.alloc _) ⟨W8.heap.size, 0, none⟩ 1 1 [.int .i64 x1, .int .i64 (i : Int), .int .i64 (cc : Int), .int .i64 (hh : Int), .int .i64 (wd : Int)] rfl rfl (lay_newG _ [.int .i64 x1, .int .i64 (i : Int), .int .i64 (cc : Int), .int .i64 (hh : Int), .int .i64 (wd : Int)] 52 W8.heap.size rfl) (by simp [Value.oneCell']) (by unfold maxLen; omega) (by omega) (by simp; omega) ?_; intro v9 w9 hown9 hgrow9 _ hf9; obtain ⟨p9, n9, c9, rfl⟩ := own_slice hown9; have HO9 := Lib.hid (HPUT.out w9 _ hown9 hgrow9); have K9 := Lib.hid ((HK8.out.trans (KeepsOthers.alloc W8 _)).trans (own_keeps (HO8.out.alloc _) hgrow9)); have k79 := ((HL8.out.alloc (.cells #[.int .i64 x1, .int .i64 (i : Int), .int .i64 (cc : Int), .int .i64 (hh : Int), .int .i64 (wd : Int)] 52)).turn hgrow9 (fun k e => ((HO8.out.alloc (.cells #[.int .i64 x1, .int .i64 (i : Int), .int .i64 (cc : Int), .int .i64 (hh : Int), .int .i64 (wd : Int)] 52)).lt k e).1)).2.1; have f79 := k79.free 0; have c79 := k79.cellAt 0; have l79 := k79.lt; clear hown9 hgrow9 hf9 HPUT k79)
          have hfin := HO9.out
          exact ⟨(K9.out.trans (KeepsOthers.setCell _ _ _)).from _, LI.kept HLI2.out hfin (by have := (K9.out.trans (KeepsOthers.setCell w9 ⟨w1.heap.size, 0, none⟩ (.slice p9 n9 c9))).size; exact this), _, _, _, hrun8.out, hfin⟩
      · have hfrom : fromP ⟨t, ps, ⟨ln, lr, lc, lh, lw⟩⟩ i = 0 := by unfold fromP; rw [if_neg hrow]
        have hd : ((i : Int) == (lr : Int)) = false := by simp; omega
        have hfv : Value.int .i64 (0 : Int) = Value.int .i64 ((0 : Nat) : Int) := rfl
        have hfl : 0 ≤ t.length := by have := hok.from _ i; rw [hfrom] at this; exact this
        have htl : t.length ≤ 10000 := hok.few
        have hll : lc + lw ≤ t.length := hok.last
        have hpsn : ps.length ≤ 1000000 := by have : ps.length = 0 + pre.length := hpsl; omega
        have r1 : V₂.cell? ⟨w1.heap.size + 1 + 1, 1, none⟩ = some (.int .i64 (lr : Int)) := hLI2.k9.cellAt 1
        have r2 : V₂.cell? ⟨w1.heap.size + 1 + 1, 2, none⟩ = some (.int .i64 (lc : Int)) := hLI2.k9.cellAt 2
        have r4 : V₂.cell? ⟨w1.heap.size + 1 + 1, 4, none⟩ = some (.int .i64 (lw : Int)) := hLI2.k9.cellAt 4
        have lr9 := hLI2.k9.lt
        have z0 := kc.cellAt 0
        have z1 := kc.cellAt 1
        have z2 := kc.cellAt 2
        have lcb := kc.lt
        obtain ⟨⟨e0, le0⟩, -, -, -⟩ := gcell hLI2.bx
        have ce2 := (hLI2.lo.cell (p := ⟨eb, eo + i, none⟩) leb).trans cee
        have leb2 : eb < V₂.heap.size := by have := hLI2.lo.size; omega
        have HKC := Lib.hid kc
        have HOK := Lib.hid hok
        have HFV := Lib.hid hfv
        have HFR := Lib.hid hfrom
        have hlo2 := hLI2.lo.size
        have CEE := Lib.hid cee
        obtain ⟨p0, c0, rfl⟩ := OwnT.form hLI2.ot
        obtain ⟨pp, pn, pc, rfl⟩ := own_slice hLI2.op
        have HLI2 := Lib.hid hLI2
        clear hLI2 kc hok hfv hfrom hpsl hrow cee
        gi_wp2
        refine wpIn_round_held (S := fun X => X.cell? ⟨CB, 0, none⟩ = some (.int .i64 x1) ∧ X.cell? ⟨CB, 1, none⟩ = some (.int .i64 (xc : Int)) ∧ X.cell? ⟨CB, 2, none⟩ = some (.int .i64 x3) ∧ X.cell? ⟨w.heap.size, 0, none⟩ = some (.slice (some ⟨eb, eo, none⟩) m c') ∧ X.cell? ⟨eb, eo + i, none⟩ = some (.int .i64 (en : Int))) (by kernel_rfl) (by kernel_rfl) ?_ ?_
        · rintro ⟨x, y, h⟩; exact h
        obtain ⟨V3, hV3⟩ : ∃ V3, V₂.drew = V3 := ⟨_, rfl⟩
        have SV : Hid (Below V₂.heap.size V₂ V3) := Lib.hid (by rw [← hV3]; exact below_dn _ V₂ 1)
        have sV3 : V3.heap.size ≤ V₂.heap.size ∧ V₂.heap.size ≤ V3.heap.size := by rw [← hV3]; exact ⟨Nat.le_refl _, Nat.le_refl _⟩
        have HS : Hid (∀ U : World, Below V3.heap.size V3 U → U.cell? ⟨CB, 0, none⟩ = some (.int .i64 x1) ∧ U.cell? ⟨CB, 1, none⟩ = some (.int .i64 (xc : Int)) ∧ U.cell? ⟨CB, 2, none⟩ = some (.int .i64 x3) ∧ U.cell? ⟨w.heap.size, 0, none⟩ = some (.slice (some ⟨eb, eo, none⟩) m c') ∧ U.cell? ⟨eb, eo + i, none⟩ = some (.int .i64 (en : Int))) := Lib.hid fun U hU => by
          have hb : Below V₂.heap.size V₂ U := SV.out.trans (hU.mono (by omega))
          exact ⟨(hb.cell (p := ⟨CB, 0, none⟩) lcb).trans z0, (hb.cell (p := ⟨CB, 1, none⟩) lcb).trans z1, (hb.cell (p := ⟨CB, 2, none⟩) lcb).trans z2, (hb.cell (p := ⟨w.heap.size, 0, none⟩) le0).trans e0, (hb.cell (p := ⟨eb, eo + i, none⟩) leb2).trans ce2⟩
        have hS3 := HS.out V3 (Below.refl _ _)
        rw [hV3]
        clear hV3 z0 z1 z2 e0 ce2 r1 r2 r4
        refine wpAnyH_take (i := 0) (v := .pointer (some ⟨CB, 0, none⟩)) rfl (by kernel_rfl) (by kernel_rfl) (by kernel_rfl) (fun _ _ _ h => h) (Or.inl ⟨by rfl, ?_⟩) hS3 ?_
        · intro X hX; obtain ⟨g0, g1, g2, g3, g4⟩ := hX; go_simp
        refine wpAnyH_take (i := 1) (v := .int .i64 x1) rfl (by kernel_rfl) (by kernel_rfl) (by kernel_rfl) (fun _ _ _ h => h) (Or.inl ⟨by rfl, ?_⟩) hS3 ?_
        · intro X hX; obtain ⟨g0, g1, g2, g3, g4⟩ := hX; go_simp
        refine wpAnyH_take (i := 2) (v := .int .i64 i) rfl (by kernel_rfl) (by kernel_rfl) (by kernel_rfl) (fun _ _ _ h => h) (Or.inl ⟨by rfl, ?_⟩) hS3 ?_
        · intro X hX; go_simp
        refine wpAnyH_take (i := 3) (v := .agg #[.int .i64 x1, .int .i64 (xc : Int), .int .i64 x3]) rfl (by kernel_rfl) (by kernel_rfl) (by kernel_rfl) (fun _ _ _ h => h) (Or.inl ⟨by rfl, ?_⟩) hS3 ?_
        · intro X hX; obtain ⟨g0, g1, g2, g3, g4⟩ := hX; go_simp
        refine wpAnyH_take (i := 4) (v := .slice (some ⟨eb, eo, none⟩) m c') rfl (by kernel_rfl) (by kernel_rfl) (by kernel_rfl) (fun _ _ _ h => h) (Or.inl ⟨by rfl, ?_⟩) hS3 ?_
        · intro X hX; obtain ⟨g0, g1, g2, g3, g4⟩ := hX; go_simp
        refine wpAnyH_take (i := 5) (v := .int .i64 i) rfl (by kernel_rfl) (by kernel_rfl) (by kernel_rfl) (fun _ _ _ h => h) (Or.inl ⟨by rfl, ?_⟩) hS3 ?_
        · intro X hX; go_simp
        refine wpAnyH_take (i := 6) (v := .pointer (some ⟨eb, eo + i, none⟩)) rfl (by kernel_rfl) (by kernel_rfl) (by kernel_rfl) (fun _ _ _ h => h) (Or.inl ⟨by rfl, ?_⟩) hS3 ?_
        · intro X hX; go_simp
        refine wpAnyH_take (i := 7) (v := .int .i64 (en : Int)) rfl (by kernel_rfl) (by kernel_rfl) (by kernel_rfl) (fun _ _ _ h => h) (Or.inl ⟨by rfl, ?_⟩) hS3 ?_
        · intro X hX; obtain ⟨g0, g1, g2, g3, g4⟩ := hX; go_simp
        refine wpAnyH_take (i := 8) (v := .int .i64 i) rfl (by kernel_rfl) (by kernel_rfl) (by kernel_rfl) (fun _ _ _ h => h) (Or.inl ⟨by rfl, ?_⟩) hS3 ?_
        · intro X hX; go_simp
        refine wpAnyH_take (i := 9) (v := .int .i64 ((en : Int) - (i : Int))) rfl (by kernel_rfl) (by kernel_rfl) (by kernel_rfl) (fun _ _ _ h => h) (Or.inl ⟨by rfl, ?_⟩) hS3 ?_
        · intro X hX; go_simp; exact IntWalk.i64_in _ (by omega)
        have HHI := Lib.hid (high_any x1 (xc : Int) x3 (en - i) V3 hx3)
        rw [show ((en - i : Nat) : Int) = (en : Int) - (i : Int) by omega] at HHI
        refine wpAnyH_all (rs := [10]) (by kernel_rfl) (by simp) ?_
        intro i2 hi2; obtain rfl : i2 = 10 := by simpa using hi2
        refine wpOp_step rfl (fun K hK => ?_)
        go_simp
        refine HHI.out.mono ?_
        rintro e w4 ⟨rfl, hb4⟩
        refine hK _ _ ⟨HS.out w4 hb4, ?_⟩
        clear hK K hi2 HHI
        obtain ⟨hh, hhh⟩ : ∃ hh, highF x3 (en - i) = hh := ⟨_, rfl⟩
        rw [hhh]
        have HHH := Lib.hid hhh
        have HLI4 := Lib.hid (HLI2.out.below (SV.out.trans (hb4.mono (by omega))))
        have hS4 := HS.out w4 hb4
        have f9 := HLI4.out.k9
        have HB4 := Lib.hid (SV.out.trans (hb4.mono (by omega)))
        have s4 : V₂.heap.size ≤ w4.heap.size := HB4.out.size
        clear hhh hb4 HS
        refine wpAnyH_all (rs := [11]) (by kernel_rfl) (by simp) ?_
        intro i2 hi2; obtain rfl : i2 = 11 := by simpa using hi2
        refine wpOp_step rfl (fun K hK => ?_)
        go_simp
        refine hK _ _ ⟨hS4, ?_⟩
        clear hK K hi2
        refine wpAnyH_all (rs := [12]) (by kernel_rfl) (by simp) ?_
        intro i2 hi2; obtain rfl : i2 = 12 := by simpa using hi2
        refine wpOp_step rfl (fun K hK => ?_)
        have y0 : w4.cell? ⟨w1.heap.size + 1 + 1, 0, none⟩ = some (.int .i64 ln) := f9.cellAt 0
        have y1 : w4.cell? ⟨w1.heap.size + 1 + 1, 1, none⟩ = some (.int .i64 (lr : Int)) := f9.cellAt 1
        have y2 : w4.cell? ⟨w1.heap.size + 1 + 1, 2, none⟩ = some (.int .i64 (lc : Int)) := f9.cellAt 2
        have y3 : w4.cell? ⟨w1.heap.size + 1 + 1, 3, none⟩ = some (.int .i64 (lh : Int)) := f9.cellAt 3
        have y4 : w4.cell? ⟨w1.heap.size + 1 + 1, 4, none⟩ = some (.int .i64 (lw : Int)) := f9.cellAt 4
        have v0 := f9.free 0
        have v1 := f9.free 1
        have v2 := f9.free 2
        have v3 := f9.free 3
        have v4 := f9.free 4
        go_simp
        obtain ⟨W5, hW5⟩ : ∃ W5, (((((w4.setCell ⟨w1.heap.size + 1 + 1, 0, none⟩ (.int .i64 x1)).setCell ⟨w1.heap.size + 1 + 1, 1, none⟩ (.int .i64 (i : Int))).setCell ⟨w1.heap.size + 1 + 1, 2, none⟩ (.int .i64 0)).setCell ⟨w1.heap.size + 1 + 1, 3, none⟩ (.int .i64 (hh : Int))).setCell ⟨w1.heap.size + 1 + 1, 4, none⟩ (.int .i64 0)) = W5 := ⟨_, rfl⟩
        have hL5 : LI w.heap.size w1.heap.size (w1.heap.size + 1 + 1 + 1) (.slice p m c) (.slice (some ⟨eb, eo, none⟩) m c') w ⟨t, ps, ⟨x1, i, 0, hh, 0⟩⟩ (.slice pp pn pc) (.slice p0 t.length c0) W5 :=
          hW5 ▸ ((((HLI4.out.set9 0 (.int .i64 x1) ⟨x1, lr, lc, lh, lw⟩ rfl).set9 1 (.int .i64 (i : Int)) ⟨x1, i, lc, lh, lw⟩ rfl).set9 2 (.int .i64 0) ⟨x1, i, 0, lh, lw⟩ rfl).set9 3 (.int .i64 (hh : Int)) ⟨x1, i, 0, hh, lw⟩ rfl).set9 4 (.int .i64 0) ⟨x1, i, 0, hh, 0⟩ rfl
        have hk5 : Whole W5 CB 48 [.int .i64 x1, .int .i64 (xc : Int), .int .i64 x3] :=
          hW5 ▸ (((((HKC.out.below HB4.out lcb).oth _ _ _ (by omega)).oth _ _ _ (by omega)).oth _ _ _ (by omega)).oth _ _ _ (by omega)).oth _ _ _ (by omega)
        have hko5 : KeepsOthers V₂ W5 := hW5 ▸ (((((kept_below HB4.out).trans (KeepsOthers.setCell _ _ _)).trans (KeepsOthers.setCell _ _ _)).trans (KeepsOthers.setCell _ _ _)).trans (KeepsOthers.setCell _ _ _)).trans (KeepsOthers.setCell _ _ _)
        have hS5 : W5.cell? ⟨CB, 0, none⟩ = some (.int .i64 x1) ∧ W5.cell? ⟨CB, 1, none⟩ = some (.int .i64 (xc : Int)) ∧ W5.cell? ⟨CB, 2, none⟩ = some (.int .i64 x3) ∧ W5.cell? ⟨w.heap.size, 0, none⟩ = some (.slice (some ⟨eb, eo, none⟩) m c') ∧ W5.cell? ⟨eb, eo + i, none⟩ = some (.int .i64 (en : Int)) :=
          ⟨hk5.cellAt 0, hk5.cellAt 1, hk5.cellAt 2, hL5.bx.b0.cellAt 0, (hL5.lo.cell (p := ⟨eb, eo + i, none⟩) leb).trans CEE.out⟩
        rw [hW5]
        refine hK _ _ ⟨hS5, ?_⟩
        clear hK K hi2 y0 y1 y2 y3 y4 v0 v1 v2 v3 v4 hS5 hS4 f9 hS3
        refine wpAnyH_done (by kernel_rfl) ?_ _
        clear hW5
        obtain ⟨cc, hcc⟩ : ∃ cc, firstF t i 0 = cc := ⟨_, rfl⟩
        obtain ⟨wd, hwd⟩ : ∃ wd, wideF t i cc xc = wd := ⟨_, rfl⟩
        have HG : Hid (Calls Try.prog 28 #[.slice p0 t.length c0, .int .i64 i, (.int .i64 0), .int .i64 xc] W5 fun e w' => e = .returned (.tuple #[.int .i64 (cc : Int), .int .i64 (wd : Int)]) ∧ W5 = w') := Lib.hid (by
          rw [HFV.out]
          have := gap_at p0 t.length c0 t i 0 xc W5 rfl (by omega) hfl (by omega) (by omega) (hL5.ot.ints (by omega : t.length ≤ 1000000))
          rw [hcc, hwd] at this
          exact this)
        have hccl : cc ≤ t.length := by rw [← hcc]; exact firstF_le _ _ _ hfl
        have hwdl : wd ≤ xc := by rw [← hwd]; exact (wideF_spec _ _ _ _).1
        have hhl : hh ≤ 65536 := by
          have := HHH.out
          unfold highF at this
          split at this <;> omega
        obtain ⟨T2, hT2⟩ : ∃ T2, takeN t cc (i + hh) wd = T2 := ⟨_, rfl⟩
        have HSTEP : Hid (stepP ends ⟨t, ps, ⟨ln, lr, lc, lh, lw⟩⟩ (i, ⟨x1, (xc : Int), x3⟩) = ⟨T2, ps ++ [⟨x1, i, cc, hh, wd⟩], ⟨x1, i, cc, hh, wd⟩⟩) := Lib.hid (by
          have hp : placeP ends ⟨t, ps, ⟨ln, lr, lc, lh, lw⟩⟩ (i, ⟨x1, (xc : Int), x3⟩) = ⟨x1, i, cc, hh, wd⟩ := by
            unfold placeP
            dsimp only
            rw [HFR.out, hend, HHH.out, Int.toNat_natCast, hcc, hwd]
          unfold stepP
          rw [hp]
          dsimp only
          rw [hT2])
        have hL6 := (hL5.set9 2 (.int .i64 (cc : Int)) ⟨x1, i, cc, hh, 0⟩ rfl).set9 4 (.int .i64 (wd : Int)) ⟨x1, i, cc, hh, wd⟩ rfl
        dsimp only at hL6
        have hko6 : KeepsOthers V₂ ((W5.setCell ⟨w1.heap.size + 1 + 1, 2, none⟩ (.int .i64 (cc : Int))).setCell ⟨w1.heap.size + 1 + 1, 4, none⟩ (.int .i64 (wd : Int))) := (hko5.trans (KeepsOthers.setCell _ _ _)).trans (KeepsOthers.setCell _ _ _)
        have HT2 := Lib.hid hT2
        have HL6 := Lib.hid hL6
        have HK6 := Lib.hid hko6
        have a0 : W5.cell? ⟨w1.heap.size + 1 + 1, 0, none⟩ = some (.int .i64 x1) := hL5.k9.cellAt 0
        have a1 : W5.cell? ⟨w1.heap.size + 1 + 1, 1, none⟩ = some (.int .i64 (i : Int)) := hL5.k9.cellAt 1
        have a2 : W5.cell? ⟨w1.heap.size + 1 + 1, 2, none⟩ = some (.int .i64 0) := hL5.k9.cellAt 2
        have a3 : W5.cell? ⟨w1.heap.size + 1 + 1, 3, none⟩ = some (.int .i64 (hh : Int)) := hL5.k9.cellAt 3
        have a4 : W5.cell? ⟨w1.heap.size + 1 + 1, 4, none⟩ = some (.int .i64 0) := hL5.k9.cellAt 4
        have b2 := hL5.k9.free 2
        have b4 := hL5.k9.free 4
        have la := hL5.k9.lt
        have d8 : W5.cell? ⟨w1.heap.size + 1, 0, none⟩ = some (.slice p0 t.length c0) := hL5.k8.cellAt 0
        have l8 := hL5.k8.lt
        have z1 : W5.cell? ⟨CB, 1, none⟩ = some (.int .i64 (xc : Int)) := hk5.cellAt 1
        have lz := hk5.lt
        have hne2 : CB ≠ w1.heap.size + 1 + 1 := by omega
        clear hL5 hk5 hko5 hL6 hko6 hcc hwd hT2 HHH HFV HFR hend
        gi_wp2_with (refine ⟨trivial, ?_⟩; gi_at_call 28; refine (CallsIn.inRound l (callsIn_wide.2 HG.out)).mono ?_; clear HG; rintro e w' ⟨rfl, rfl⟩)
        refine ⟨trivial, (CallsIn.inRound l (callsIn_wide.2 (take_at (w1.heap.size + 1 + 1 + 1 + 1) (.slice p0 t.length c0) t x1 i cc hh wd _ ?_ HL6.out.ot hccl (by omega) (by omega) (by omega) (by omega)))).mono ?_⟩
        · have := HL6.out.kb.lt; have h2 := HL6.out.gm; omega
        rintro e w7 ⟨v7, rfl, ho7, hl7⟩
        rw [HT2.out] at ho7
        obtain ⟨p7, c7, rfl⟩ := OwnT.form ho7
        obtain ⟨n2, hn2⟩ : ∃ n2, T2.length = n2 := ⟨_, rfl⟩
        have hL8 := HL6.out.take ho7 hl7
        have hko7 := HK6.out.trans (own_keeps HL6.out.ot hl7.grown)
        obtain ⟨-, -, k87, -, -, -⟩ := HL6.out.turn hl7.grown (fun k e => (HL6.out.ot.lt k e).1)
        rw [hn2] at hL8 ⊢
        obtain ⟨W8, hW8⟩ : ∃ W8, w7.setCell ⟨w1.heap.size + 1, 0, none⟩ (.slice p7 n2 c7) = W8 := ⟨_, rfl⟩
        rw [hW8] at hL8
        have hko8 : KeepsOthers V₂ W8 := hW8 ▸ hko7.trans (KeepsOthers.setCell _ _ _)
        have f87 := k87.free 0
        have c87 := k87.cellAt 0
        have l87 := k87.lt
        have c88 : W8.cell? ⟨w1.heap.size + 1, 0, none⟩ = some (.slice p7 n2 c7) := hL8.k8.cellAt 0
        have l88 := hL8.k8.lt
        have HN2 := Lib.hid hn2
        have HK8 := Lib.hid hko8
        have HL8 := Lib.hid hL8
        clear ho7 hl7 hL8 hko7 hko8 hn2 k87 HL6 HK6 a0 a1 a2 a3 a4 b2 b4 la d8 l8 z1 lz
        by_cases hbig : 10000 < n2
        · obtain ⟨-, ⟨d1, f1, l1⟩, ⟨d2, f2, l2⟩, ⟨d3, f3, l3⟩⟩ := gcell HL8.out.bx
          have hnone : Hid (layP rows ends = none) := Lib.hid (by
            unfold layP
            rw [HNX.out, List.append_cons]
            refine runP_more _ _ _ _ ?_
            rw [runP_snoc _ _ _ _ _ HRUN.out, HSTEP.out, if_pos (by dsimp only; rw [HN2.out]; exact hbig)])
          gi_wp2
          exact ⟨(HK8.out.trans errW_kept).from _, rfl, hnone.out, HL8.out.bx.err 43, errW_below HL8.out.lo⟩
        · have hrun8 : Hid (runP ends (pre ++ [(i, (⟨x1, (xc : Int), x3⟩ : Sp))]) LS.zero = some ⟨T2, ps ++ [⟨x1, i, cc, hh, wd⟩], ⟨x1, i, cc, hh, wd⟩⟩) := Lib.hid (by
            rw [runP_snoc _ _ _ _ _ HRUN.out, HSTEP.out, if_neg (by dsimp only; rw [HN2.out]; exact hbig)])
          obtain ⟨i1, hi1, hz0', hz1', hz2'⟩ := info_parts Try.infoPl
          have HZ1 := Lib.hid hz0'
          have HZ2 := Lib.hid hz1'
          have HZ3 := Lib.hid hz2'
          have d7 : W8.cell? ⟨w1.heap.size, 0, none⟩ = some (.slice pp pn pc) := HL8.out.k7.cellAt 0
          have l7 := HL8.out.k7.lt
          have a0 : W8.cell? ⟨w1.heap.size + 1 + 1, 0, none⟩ = some (.int .i64 x1) := HL8.out.k9.cellAt 0
          have a1 : W8.cell? ⟨w1.heap.size + 1 + 1, 1, none⟩ = some (.int .i64 (i : Int)) := HL8.out.k9.cellAt 1
          have a2 : W8.cell? ⟨w1.heap.size + 1 + 1, 2, none⟩ = some (.int .i64 (cc : Int)) := HL8.out.k9.cellAt 2
          have a3 : W8.cell? ⟨w1.heap.size + 1 + 1, 3, none⟩ = some (.int .i64 (hh : Int)) := HL8.out.k9.cellAt 3
          have a4 : W8.cell? ⟨w1.heap.size + 1 + 1, 4, none⟩ = some (.int .i64 (wd : Int)) := HL8.out.k9.cellAt 4
          have la := HL8.out.k9.lt
          have hb8 : w1.heap.size + 1 + 1 + 1 + 1 ≤ W8.heap.size := by have := HL8.out.kb.lt; have h2 := HL8.out.gm; omega
          have HPUT := Lib.hid (fun (Y : World) (v' : Value) ho hg => LI.put (p := ⟨x1, i, cc, hh, wd⟩) (v' := v') (Y := Y) (o := .cells #[.int .i64 x1, .int .i64 (i : Int), .int .i64 (cc : Int), .int .i64 (hh : Int), .int .i64 (wd : Int)] 52) HL8.out ho hg)
          have hop8 : W8.ownsRow (w1.heap.size + 1 + 1 + 1 + 1) 52 5 (.slice pp pn pc) ps.length (ps.flatMap Pl.cells) := HL8.out.op
          have HO8 := Lib.hid hop8
          dsimp only at HPUT
          clear hz0' hz1' hz2' hop8
          gi_wp2_with (gi_at_builtin; refine wpListIn_append_own_at _ rfl _ _ 36 rfl (w1.heap.size + 1 + 1 + 1 + 1) 52 i1 (.agg #[.int .i64 0, .int .i64 0, .int .i64 0, .int .i64 0, .int .i64 0]) 5 40 Try.underlying36 hi1 HZ1.out HZ2.out HZ3.out rfl (by decide) (.slice pp pn pc) ps.length (ps.flatMap Pl.cells) rfl (HO8.out.alloc _) ⟨W8.heap.size, 0, none⟩ 1 1 [.int .i64 x1, .int .i64 (i : Int), .int .i64 (cc : Int), .int .i64 (hh : Int), .int .i64 (wd : Int)] rfl rfl (lay_newG _ [.int .i64 x1, .int .i64 (i : Int), .int .i64 (cc : Int), .int .i64 (hh : Int), .int .i64 (wd : Int)] 52 W8.heap.size rfl) (by simp [Value.oneCell']) (by unfold maxLen; omega) (by omega) (by simp; omega) ?_; intro v9 w9 hown9 hgrow9 _ hf9; obtain ⟨p9, n9, c9, rfl⟩ := own_slice hown9; have HO9 := Lib.hid (HPUT.out w9 _ hown9 hgrow9); have K9 := Lib.hid ((HK8.out.trans (KeepsOthers.alloc W8 _)).trans (own_keeps (HO8.out.alloc _) hgrow9)); have k79 := ((HL8.out.alloc (.cells #[.int .i64 x1, .int .i64 (i : Int), .int .i64 (cc : Int), .int .i64 (hh : Int), .int .i64 (wd : Int)] 52)).turn hgrow9 (fun k e => ((HO8.out.alloc (.cells #[.int .i64 x1, .int .i64 (i : Int), .int .i64 (cc : Int), .int .i64 (hh : Int), .int .i64 (wd : Int)] 52)).lt k e).1)).2.1; have f79 := k79.free 0; have c79 := k79.cellAt 0; have l79 := k79.lt; clear hown9 hgrow9 hf9 HPUT k79)
          have hfin := HO9.out
          exact ⟨(K9.out.trans (KeepsOthers.setCell _ _ _)).from _, LI.kept HLI2.out hfin (by have := (K9.out.trans (KeepsOthers.setCell w9 ⟨w1.heap.size, 0, none⟩ (.slice p9 n9 c9))).size; exact this), _, _, _, hrun8.out, hfin⟩
  case done =>
    rintro D xs V hD rfl ⟨s, vp, vt, hrun, hLI⟩ hK
    obtain ⟨p0, c0, rfl⟩ := OwnT.form hLI.ot
    obtain ⟨pp, pn, pc, rfl⟩ := own_slice hLI.op
    obtain ⟨n2, hn2⟩ : ∃ n2, s.t.length = n2 := ⟨_, rfl⟩
    obtain ⟨-, ⟨d1, f1, l1⟩, ⟨d2, f2, l2⟩, ⟨d3, f3, l3⟩⟩ := gcell hLI.bx
    have d7 : V.cell? ⟨w1.heap.size, 0, none⟩ = some (.slice pp pn pc) := hLI.k7.cellAt 0
    have l7 := hLI.k7.lt
    have d8 : V.cell? ⟨w1.heap.size + 1, 0, none⟩ = some (.slice p0 n2 c0) := by rw [← hn2]; exact hLI.k8.cellAt 0
    have l8 := hLI.k8.lt
    have HV := Lib.hid hLI
    have HRUN := Lib.hid hrun
    have HN2 := Lib.hid hn2
    have HKK := Lib.hid hK
    clear hLI hrun hn2 hK
    gi_wp2
    go_wp2
    refine region_held_atG (S := fun X => X.cell? ⟨w1.heap.size, 0, none⟩ = some (.slice pp pn pc) ∧ X.cell? ⟨w1.heap.size + 1, 0, none⟩ = some (.slice p0 n2 c0)) (by kernel_rfl) (fun W6 hW6 => ?_)
    have SV : Hid (Below V.heap.size V W6) := by apply Lib.hid; rw [← hW6]; exact below_dn _ V 1
    have hL6 := HV.out.below SV.out
    have hN6 : s.t.length = n2 := HN2.out
    have hK6 : W6.heap[D]? = some (.deferred (some [])) := (SV.out.block D (Array.getElem?_eq_some_iff.1 HKK.out).1).trans HKK.out
    have hS6 : W6.cell? ⟨w1.heap.size, 0, none⟩ = some (.slice pp pn pc) ∧ W6.cell? ⟨w1.heap.size + 1, 0, none⟩ = some (.slice p0 n2 c0) := ⟨hL6.k7.cellAt 0, by rw [← hN6]; exact hL6.k8.cellAt 0⟩
    obtain ⟨-, ⟨y1, g1, m1⟩, ⟨y2, g2, m2⟩, ⟨y3, g3, m3⟩⟩ := gcell hL6.bx
    have hnm := hL6.nm
    have HL6 := Lib.hid hL6
    have HK6 := Lib.hid hK6
    clear hW6 d1 f1 l1 d2 f2 l2 d3 f3 l3 d7 l7 d8 l8 hL6 hN6 hK6
    refine wpAnyH_take (i := 0) (v := .slice pp pn pc) rfl (by kernel_rfl) (by kernel_rfl) (by kernel_rfl) (fun _ _ _ h => h) (Or.inl ⟨by rfl, ?_⟩) hS6 ?_
    · intro X hX; obtain ⟨q0, q1⟩ := hX; go_simp
    refine wpAnyH_take (i := 1) (v := .slice p0 n2 c0) rfl (by kernel_rfl) (by kernel_rfl) (by kernel_rfl) (fun _ _ _ h => h) (Or.inl ⟨by rfl, ?_⟩) hS6 ?_
    · intro X hX; obtain ⟨q0, q1⟩ := hX; go_simp
    refine wpAnyH_take (i := 2) (v := .int .i64 n2) rfl (by kernel_rfl) (by kernel_rfl) (by kernel_rfl) (fun _ _ _ h => h) (Or.inl ⟨by rfl, ?_⟩) hS6 ?_
    · intro X hX; go_simp
    obtain ⟨s0, s1⟩ := hS6
    have HST : Hid (∀ (U : World) (g : Nat) (u : Value), g < w1.heap.size → (U.cell? ⟨w1.heap.size, 0, none⟩ = some (.slice pp pn pc) ∧ U.cell? ⟨w1.heap.size + 1, 0, none⟩ = some (.slice p0 n2 c0)) → ((U.setCell ⟨g, 0, none⟩ u).cell? ⟨w1.heap.size, 0, none⟩ = some (.slice pp pn pc) ∧ (U.setCell ⟨g, 0, none⟩ u).cell? ⟨w1.heap.size + 1, 0, none⟩ = some (.slice p0 n2 c0))) := Lib.hid fun U g u hg hU => by
      have e1 : (U.setCell ⟨g, 0, none⟩ u).heap[w1.heap.size]? = U.heap[w1.heap.size]? := Below.heap_setCell _ _ _ _ (by show w1.heap.size ≠ g; omega)
      have e2 : (U.setCell ⟨g, 0, none⟩ u).heap[w1.heap.size + 1]? = U.heap[w1.heap.size + 1]? := Below.heap_setCell _ _ _ _ (by show w1.heap.size + 1 ≠ g; omega)
      exact ⟨by have := hU.1; simp only [World.cell?] at this ⊢; rw [e1]; exact this, by have := hU.2; simp only [World.cell?] at this ⊢; rw [e2]; exact this⟩
    refine wpAnyH_all (rs := [3]) (by kernel_rfl) (by simp) ?_
    intro i2 hi2; obtain rfl : i2 = 3 := by simpa using hi2
    refine wpOp_step rfl (fun K hK => ?_)
    go_simp
    have t1 := HST.out W6 (w.heap.size + 1) (.slice pp pn pc) (by omega) ⟨s0, s1⟩
    refine hK _ _ ⟨t1, ?_⟩
    clear hK K hi2
    refine wpAnyH_all (rs := [4]) (by kernel_rfl) (by simp) ?_
    intro i2 hi2; obtain rfl : i2 = 4 := by simpa using hi2
    refine wpOp_step rfl (fun K hK => ?_)
    go_simp
    have t2 := HST.out _ (w.heap.size + 1 + 1) (.int .i64 (n2 : Int)) (by omega) t1
    refine hK _ _ ⟨t2, ?_⟩
    clear hK K hi2
    refine wpAnyH_all (rs := [5]) (by kernel_rfl) (by simp) ?_
    intro i2 hi2; obtain rfl : i2 = 5 := by simpa using hi2
    refine wpOp_step rfl (fun K hK => ?_)
    go_simp
    have t3 := HST.out _ (w.heap.size + 1 + 1 + 1) (.int .i64 0) (by omega) t2
    refine hK _ _ ⟨t3, ?_⟩
    clear hK K hi2
    refine wpAnyH_done (by kernel_rfl) ?_ _
    simp only [noPanG]
    clear t1 t2 t3 s0 s1 HST y1 y2 y3 g1 g2 g3 m1 m2 m3
    go_wp2
    have k1 : Whole (((W6.setCell ⟨w.heap.size + 1, 0, none⟩ (.slice pp pn pc)).setCell ⟨w.heap.size + 1 + 1, 0, none⟩ (.int .i64 (n2 : Int))).setCell ⟨w.heap.size + 1 + 1 + 1, 0, none⟩ (.int .i64 0)) (w.heap.size + 1) 36 [.slice pp pn pc] := ((HL6.out.bx.b1.set 0 _).oth _ _ _ (by omega)).oth _ _ _ (by omega)
    have k2 : Whole (((W6.setCell ⟨w.heap.size + 1, 0, none⟩ (.slice pp pn pc)).setCell ⟨w.heap.size + 1 + 1, 0, none⟩ (.int .i64 (n2 : Int))).setCell ⟨w.heap.size + 1 + 1 + 1, 0, none⟩ (.int .i64 0)) (w.heap.size + 1 + 1) 3 [.int .i64 (n2 : Int)] := ((HL6.out.bx.b2.oth _ _ _ (by omega)).set 0 _).oth _ _ _ (by omega)
    have k3 : Whole (((W6.setCell ⟨w.heap.size + 1, 0, none⟩ (.slice pp pn pc)).setCell ⟨w.heap.size + 1 + 1, 0, none⟩ (.int .i64 (n2 : Int))).setCell ⟨w.heap.size + 1 + 1 + 1, 0, none⟩ (.int .i64 0)) (w.heap.size + 1 + 1 + 1) 27 [.int .i64 0] := ((HL6.out.bx.b3.oth _ _ _ (by omega)).oth _ _ _ (by omega)).set 0 _
    have k4 : Below w.heap.size w (((W6.setCell ⟨w.heap.size + 1, 0, none⟩ (.slice pp pn pc)).setCell ⟨w.heap.size + 1 + 1, 0, none⟩ (.int .i64 (n2 : Int))).setCell ⟨w.heap.size + 1 + 1 + 1, 0, none⟩ (.int .i64 0)) := below_set_at (below_set_at (below_set_at HL6.out.lo _ _ _ (by omega)) _ _ _ (by omega)) _ _ _ (by omega)
    have k5 : OwnP (w1.heap.size + 1 + 1 + 1 + 1) (((W6.setCell ⟨w.heap.size + 1, 0, none⟩ (.slice pp pn pc)).setCell ⟨w.heap.size + 1 + 1, 0, none⟩ (.int .i64 (n2 : Int))).setCell ⟨w.heap.size + 1 + 1 + 1, 0, none⟩ (.int .i64 0)) (.slice pp pn pc) s.ps := own_setCell (own_setCell (own_setCell HL6.out.op (own_low HL6.out.op (by omega))) (own_low HL6.out.op (by omega))) (own_low HL6.out.op (by omega))
    have k6 : (((W6.setCell ⟨w.heap.size + 1, 0, none⟩ (.slice pp pn pc)).setCell ⟨w.heap.size + 1 + 1, 0, none⟩ (.int .i64 (n2 : Int))).setCell ⟨w.heap.size + 1 + 1 + 1, 0, none⟩ (.int .i64 0)).heap[D]? = some (.deferred (some [])) := (Below.heap_setCell _ _ _ _ (by show D ≠ w.heap.size + 1 + 1 + 1; omega)).trans ((Below.heap_setCell _ _ _ _ (by show D ≠ w.heap.size + 1 + 1; omega)).trans ((Below.heap_setCell _ _ _ _ (by show D ≠ w.heap.size + 1; omega)).trans HK6.out))
    refine leaves_marks w.heap.size [D] _ ((Marks.nil w.heap.size _).cons (D := D) (by omega) k6 (fun E hE => by cases hE)) (fun W' hck hbk => ⟨_, results_cells3 (g := w.heap.size) (v := .slice pp pn pc) (n := (n2 : Int)) (e := 0) rfl rfl rfl rfl (hck _ _ k1 rfl) (hck _ _ k2 rfl) (hck _ _ k3 rfl) ⟨_, _, _, rfl⟩, k4.trans hbk, .inr (.inr ⟨HQ.out, s, .slice pp pn pc, HRUN.out, by rw [HN2.out], ?_⟩)⟩)
    exact own_kept_cells k5 hck (by omega)
  case stop =>
    rintro D c pre V hD _ ⟨rfl, hnone, hbx, hbV⟩ hK
    have HQ2 := Lib.hid hnone
    have HM := Lib.hid ((Marks.nil w.heap.size V).cons (D := D) (by omega) hK (fun E hE => by cases hE))
    have HV := Lib.hid (And.intro hbx hbV)
    clear hbx hbV hK hnone
    gi_wp2
    exact leaves_marks w.heap.size [D] _ HM.out (fun W' hck hbk => ⟨_, errW_res (N := w.heap.size) (e := 43) rfl rfl rfl rfl (HV.out.1.kept hck), HV.out.2.trans hbk, .inr (.inl ⟨HQ.out, HQ2.out, rfl⟩)⟩)
theorem lay_any (v ev : Value) (hv : Nat → Value) (rows : List (List Sp)) (ends : List Int) (w : World) (hR : RowsIn w.heap.size w v hv rows) (hE : Ints w ev ends) (hn : (cellsF 0 rows).length ≤ 1000000) :
    Calls Try.prog 15 #[v, ev] w (LayPost rows ends w) := by
  have hB : Below w.heap.size w ((((w.alloc (.cells #[ev] 26)).alloc (.cells #[.slice none 0 0] 36)).alloc (.cells #[.int .i64 0] 3)).alloc (.cells #[.int .i64 0] 27)) :=
    ((((Below.refl _ w).alloc (Nat.le_refl _) _).alloc (by simp) _).alloc (by simp; omega) _).alloc (by simp; omega) _
  have H := gright_any v ev hv rows ends _ ((hR.below hB).mono hB.size) (hE.below hB)
  have hsz : ((((w.alloc (.cells #[ev] 26)).alloc (.cells #[.slice none 0 0] 36)).alloc (.cells #[.int .i64 0] 3)).alloc (.cells #[.int .i64 0] 27)).heap.size = w.heap.size + 4 := by simp
  rw [hsz] at H
  obtain ⟨p, c, rfl⟩ := hR.form
  obtain ⟨q, c', rfl⟩ : ∃ q c', ev = .slice q ends.length c' := by
    obtain ⟨_, ⟨a, c', rfl, rfl⟩ | ⟨b, off, c', rfl, _⟩⟩ := hE
    · exact ⟨_, _, rfl⟩
    · exact ⟨_, _, rfl⟩
  by_cases hq : RightQ rows ends
  · have H2 := Lib.hid (H.mono (R' := fun e W' => e = .returned (.bool true) ∧ Below (w.heap.size + 4) _ W') (by rintro e W' ⟨b, rfl, hb, hbw⟩; exact ⟨by rw [hb.2 hq], hbw⟩))
    have hm := hq.len
    rw [hm] at hE H2 ⊢
    exact lay_main p q rows.length c c' hv rows ends w hq rfl hR hE hn H2
  · have H2 := Lib.hid (H.mono (R' := fun e W' => e = .returned (.bool false) ∧ Below (w.heap.size + 4) _ W') (by
      rintro e W' ⟨b, rfl, hb, hbw⟩
      cases b with
      | true => exact absurd (hb.1 rfl) hq
      | false => exact ⟨rfl, hbw⟩))
    refine (lay_bad p q rows.length c ends.length c' w H2).mono ?_
    rintro e W' ⟨rfl, hb⟩
    exact ⟨hb, .inl ⟨hq, rfl⟩⟩
end Go.Proofs.Ytcgnldcdcbnofaa

namespace Go.Proofs.Ytcgnldcdcbnofaa
open Go.RowKit Go.Shelf
set_option linter.unusedVariables false
attribute [local go_sem] Oper.semAt_some

theorem lay_good (v ev : Value) (hv : Nat → Value) (rows : List (List Sp)) (ends : List Int) (w : World) (hR : RowsIn w.heap.size w v hv rows) (hE : Ints w ev ends) (hn : (cellsF 0 rows).length ≤ 1000000) (hQ : RightQ rows ends) (s : LS) (hs : layP rows ends = some s) :
    Calls Try.prog 15 #[v, ev] w fun e W' => ∃ v', e = .returned (.tuple #[v', .int .i64 (s.t.length : Int), .int .i64 0]) ∧ OwnP w.heap.size W' v' s.ps ∧ Below w.heap.size w W' := by
  refine (lay_any v ev hv rows ends w hR hE hn).mono ?_
  rintro e W' ⟨hb, ⟨h1, _⟩ | ⟨_, h2, _⟩ | ⟨_, s', v', h3, rfl, h4⟩⟩
  · exact absurd hQ h1
  · rw [hs] at h2; cases h2
  · rw [hs] at h3; cases h3; exact ⟨v', rfl, h4, hb⟩
theorem lay_full (v ev : Value) (hv : Nat → Value) (rows : List (List Sp)) (ends : List Int) (w : World) (hR : RowsIn w.heap.size w v hv rows) (hE : Ints w ev ends) (hn : (cellsF 0 rows).length ≤ 1000000) (hQ : RightQ rows ends) (hs : layP rows ends = none) :
    Calls Try.prog 15 #[v, ev] w fun e W' => e = .returned (.tuple #[.slice none 0 0, .int .i64 0, .int .i64 43]) ∧ Below w.heap.size w W' := by
  refine (lay_any v ev hv rows ends w hR hE hn).mono ?_
  rintro e W' ⟨hb, ⟨h1, _⟩ | ⟨_, h2, rfl⟩ | ⟨_, s', v', h3, rfl, h4⟩⟩
  · exact absurd hQ h1
  · exact ⟨rfl, hb⟩
  · rw [hs] at h3; cases h3
theorem lay_wrong (v ev : Value) (hv : Nat → Value) (rows : List (List Sp)) (ends : List Int) (w : World) (hR : RowsIn w.heap.size w v hv rows) (hE : Ints w ev ends) (hn : (cellsF 0 rows).length ≤ 1000000) (hQ : ¬ RightQ rows ends) :
    Calls Try.prog 15 #[v, ev] w fun e W' => e = .returned (.tuple #[.slice none 0 0, .int .i64 0, .int .i64 70]) ∧ Below w.heap.size w W' := by
  refine (lay_any v ev hv rows ends w hR hE hn).mono ?_
  rintro e W' ⟨hb, ⟨h1, rfl⟩ | ⟨h2, _⟩ | ⟨h2, _⟩⟩
  · exact ⟨rfl, hb⟩
  · exact absurd h2 hQ
  · exact absurd h2 hQ
/-- a place, of whatever numbers -/
structure Pz where
  n : Int
  r : Int
  c : Int
  h : Int
  w : Int
deriving DecidableEq
def Pz.cells (p : Pz) : List Value := [.int .i64 p.n, .int .i64 p.r, .int .i64 p.c, .int .i64 p.h, .int .i64 p.w]
def Pl.z (p : Pl) : Pz := ⟨p.n, p.r, p.c, p.h, p.w⟩
/-- places lie in memory -/
def PsAt (W : World) (v : Value) (L : List Pz) : Prop :=
  L.length ≤ 9223372036854775807 ∧ ((∃ a c, v = .slice a 0 c ∧ L = []) ∨ ∃ b off c, v = .slice (some ⟨b, off, none⟩) L.length c ∧ ∀ i x, L[i]? = some x →
    W.cell? ⟨b, off + i * 5, none⟩ = some (.int .i64 x.n) ∧ W.cell? ⟨b, off + i * 5 + 1, none⟩ = some (.int .i64 x.r) ∧ W.cell? ⟨b, off + i * 5 + 2, none⟩ = some (.int .i64 x.c) ∧ W.cell? ⟨b, off + i * 5 + 3, none⟩ = some (.int .i64 x.h) ∧ W.cell? ⟨b, off + i * 5 + 4, none⟩ = some (.int .i64 x.w))
theorem PsAt.below {W W' : World} {v : Value} {L : List Pz} (h : PsAt W v L) (hb : Below W.heap.size W W') : PsAt W' v L := by
  refine ⟨h.1, h.2.imp id ?_⟩
  rintro ⟨b, off, c, e, hc⟩
  refine ⟨b, off, c, e, fun i x hx => ?_⟩
  obtain ⟨c0, c1, c2, c3, c4⟩ := hc i x hx
  have hl := cell_lt c0
  have hq : ∀ o, W'.cell? ⟨b, o, none⟩ = W.cell? ⟨b, o, none⟩ := fun o => hb.cell (p := ⟨b, o, none⟩) hl
  rw [hq, hq, hq, hq, hq]
  exact ⟨c0, c1, c2, c3, c4⟩
theorem PsAt.form {W : World} {v : Value} {L : List Pz} (h : PsAt W v L) : ∃ p c, v = .slice p L.length c := by
  rcases h.2 with ⟨a, c, rfl, rfl⟩ | ⟨b, off, c, e, _⟩
  · exact ⟨_, _, rfl⟩
  · exact ⟨_, _, e⟩
theorem PsAt.at {W : World} {p : Option Addr} {l c : Nat} {L : List Pz} (h : PsAt W (.slice p l c) L) (i : Nat) (x : Pz) (hx : L[i]? = some x) : ∃ b off, p = some ⟨b, off, none⟩ ∧ b < W.heap.size ∧
    W.cell? ⟨b, off + i * 5, none⟩ = some (.int .i64 x.n) ∧ W.cell? ⟨b, off + i * 5 + 1, none⟩ = some (.int .i64 x.r) ∧ W.cell? ⟨b, off + i * 5 + 2, none⟩ = some (.int .i64 x.c) ∧ W.cell? ⟨b, off + i * 5 + 3, none⟩ = some (.int .i64 x.h) ∧ W.cell? ⟨b, off + i * 5 + 4, none⟩ = some (.int .i64 x.w) := by
  rcases h.2 with ⟨a, c, _, rfl⟩ | ⟨b, off, c, e, hc⟩
  · simp at hx
  · injection e with e1 e2 e3
    exact ⟨b, off, e1, cell_lt (hc i x hx).1, hc i x hx⟩
theorem flat5_get : ∀ (L : List Pz) (i : Nat) (x : Pz) (j : Nat) (u : Value), L[i]? = some x → x.cells[j]? = some u → (L.flatMap Pz.cells)[i * 5 + j]? = some u
  | [], i, x, j, u, h, _ => by simp at h
  | y :: L, 0, x, j, u, h, hu => by
    simp at h; subst h
    rw [List.flatMap_cons, Nat.zero_mul, Nat.zero_add, List.getElem?_append_left (List.getElem?_eq_some_iff.1 hu).1]; exact hu
  | y :: L, i + 1, x, j, u, h, hu => by
    have ih := flat5_get L i x j u (by simpa using h) hu
    have hl : y.cells.length = 5 := rfl
    rw [List.flatMap_cons, List.getElem?_append_right (by rw [hl]; omega), hl, show (i + 1) * 5 + j - 5 = i * 5 + j by omega]
    exact ih
theorem places_lit {W : World} {g c : Nat} {t : Nat} {L : List Pz} (hc : ∀ j u, (L.flatMap Pz.cells)[j]? = some u → W.cell? ⟨g, j, none⟩ = some u) (hl : L.length ≤ 9223372036854775807) : PsAt W (.slice (some ⟨g, 0, none⟩) L.length c) L :=
  ⟨hl, .inr ⟨g, 0, c, rfl, fun i x hx => by
    rw [Nat.zero_add]
    exact ⟨hc _ _ (flat5_get L i x 0 _ hx rfl), hc _ _ (flat5_get L i x 1 _ hx rfl), hc _ _ (flat5_get L i x 2 _ hx rfl), hc _ _ (flat5_get L i x 3 _ hx rfl), hc _ _ (flat5_get L i x 4 _ hx rfl)⟩⟩⟩
theorem places_whole {W : World} {g c : Nat} {t : Nat} {L : List Pz} (h : Whole W g t (L.flatMap Pz.cells)) (hl : L.length ≤ 9223372036854775807) : PsAt W (.slice (some ⟨g, 0, none⟩) L.length c) L :=
  places_lit (t := t) (fun j u hu => by rw [h.cellAt]; exact hu) hl
theorem flat_z (ps : List Pl) : (ps.map Pl.z).flatMap Pz.cells = ps.flatMap Pl.cells := by
  induction ps with
  | nil => rfl
  | cons p ps ih => rw [List.map_cons, List.flatMap_cons, List.flatMap_cons, ih]; rfl
theorem OwnP.places {base : Nat} {X : World} {v : Value} {ps : List Pl} (h : OwnP base X v ps) (hl : ps.length ≤ 9223372036854775807) : PsAt X v (ps.map Pl.z) := by
  rcases h.2 with ⟨rfl, h0⟩ | ⟨g, cap, cur, rfl, hb, hg, _, _, hcs, htk⟩
  · have : ps = [] := List.length_eq_zero_iff.1 h0
    rw [this]; exact ⟨by simp, .inl ⟨none, 0, rfl, rfl⟩⟩
  · have e := places_lit (W := X) (g := g) (c := cap) (t := 0) (L := ps.map Pl.z) (fun j u hu => by
      rw [flat_z, ← htk] at hu
      have hj := (List.getElem?_eq_some_iff.1 hu).1
      rw [List.length_take] at hj
      rw [List.getElem?_take_of_lt (by omega)] at hu
      simp only [World.cell?, hg]
      rw [← Array.getElem?_toList]; exact hu) (by simpa using hl)
    rw [List.length_map] at e
    exact e
theorem pz_eql (x y : Pz) (X : World) : (binOp .neq 52 (.agg #[.int .i64 x.n, .int .i64 x.r, .int .i64 x.c, .int .i64 x.h, .int .i64 x.w]) (.agg #[.int .i64 y.n, .int .i64 y.r, .int .i64 y.c, .int .i64 y.h, .int .i64 y.w])).run Try.prog X = .ok (.bool (!decide (x = y))) X := by
  obtain ⟨a, b, c, d, e⟩ := x
  obtain ⟨a', b', c', d', e'⟩ := y
  dsimp only
  by_cases h1 : a = a'
  · by_cases h2 : b = b'
    · by_cases h3 : c = c'
      · by_cases h4 : d = d'
        · by_cases h5 : e = e'
          · subst h1 h2 h3 h4 h5; go_simp
          · subst h1 h2 h3 h4; go_simp
        · subst h1 h2 h3; go_simp
      · subst h1 h2; go_simp
    · subst h1; go_simp
  · go_simp
theorem list_ne {α : Type} {xs ys : List α} (h : xs.length = ys.length) (h' : xs ≠ ys) : ∃ (k : Nat) (x y : α), k < xs.length ∧ xs[k]? = some x ∧ ys[k]? = some y ∧ x ≠ y := by
  apply Classical.byContradiction
  intro hn
  apply h'
  apply List.ext_getElem h
  intro i h1 h2
  apply Classical.byContradiction
  intro hd
  exact hn ⟨i, _, _, h1, List.getElem?_eq_getElem h1, List.getElem?_eq_getElem h2, hd⟩
set_option maxHeartbeats 400000 in
theorem gsame_lens (a b : Option Addr) (n m c d : Nat) (w : World) (h : n ≠ m) (hn : n ≤ 9223372036854775807) (hm : m ≤ 9223372036854775807) :
    Calls Try.prog 16 #[.slice a n c, .slice b m d] w fun e w' => e = .returned (.bool false) ∧ w = w' := by
  have h' : ((n : Int) == (m : Int)) = false := by simp; omega
  have h'' : ((n : Int) != (m : Int)) = true := by simp; omega
  go_enter Try.func16, Try.ntmps16
  go_wp2
  go_ret
  exact ⟨rfl, rfl⟩
set_option maxHeartbeats 1000000 in
theorem gsame_some (p q : Option Addr) (cap cap' : Nat) (xs ys : List Pz) (m : Nat) (w : World) (hm : m ≤ 9223372036854775807) (hx0 : xs.length = m) (hy0 : ys.length = m)
    (hx : PsAt w (.slice p m cap) xs) (hy : PsAt w (.slice q m cap') ys) (same : Bool) (hs : Hid (decide (xs = ys) = same)) :
    Calls Try.prog 16 #[.slice p m cap, .slice q m cap'] w fun e w' => e = .returned (.bool same) ∧ Below w.heap.size w w' := by
  have HX := Lib.hid hx
  have HY := Lib.hid hy
  have HX0 := Lib.hid hx0
  have HY0 := Lib.hid hy0
  clear hx hy hx0 hy0
  go_enter Try.func16, Try.ntmps16
  go_wp2
  go_loopw [5] (fun i wr => ∃ k n : Nat, k ≤ m ∧ i = .int .i64 k ∧ Hid (∀ (j : Nat) (x y : Pz), j < k → xs[j]? = some x → ys[j]? = some y → x = y) ∧ wr = w.drewN n) (fun i _ => m - (intOf i).toNat)
  case atStart => exact ⟨0, 0, Nat.zero_le _, rfl, Lib.hid (fun j x y hj => by omega), rfl⟩
  case round =>
    obtain ⟨k, n, hk, rfl, hj, rfl⟩ := hrel
    by_cases hlt : k < m
    · obtain ⟨x, ex⟩ : ∃ x, xs[k]? = some x := ⟨_, List.getElem?_eq_getElem (by rw [HX0.out]; exact hlt)⟩
      obtain ⟨y, ey⟩ : ∃ y, ys[k]? = some y := ⟨_, List.getElem?_eq_getElem (by rw [HY0.out]; exact hlt)⟩
      obtain ⟨b, off, rfl, lb, cx0, cx1, cx2, cx3, cx4⟩ := HX.out.at k x ex
      obtain ⟨b', off', rfl, lb', cy0, cy1, cy2, cy3, cy4⟩ := HY.out.at k y ey
      have EX := Lib.hid ex
      have EY := Lib.hid ey
      clear ex ey
      by_cases he : x = y
      · have hE : ∀ X : World, (binOp .neq 52 (.agg #[.int .i64 x.n, .int .i64 x.r, .int .i64 x.c, .int .i64 x.h, .int .i64 x.w]) (.agg #[.int .i64 y.n, .int .i64 y.r, .int .i64 y.c, .int .i64 y.h, .int .i64 y.w])).run Try.prog X = .ok (.bool false) X := fun X => by rw [pz_eql]; simp [he]
        have HJ : Hid (∀ (j : Nat) (x y : Pz), j < k + 1 → xs[j]? = some x → ys[j]? = some y → x = y) := Lib.hid (fun j x' y' h1 h2 h3 => by
          by_cases hjk : j < k
          · exact hj.out j x' y' hjk h2 h3
          · obtain rfl : j = k := by omega
            rw [EX.out] at h2; rw [EY.out] at h3
            injection h2 with h2; injection h3 with h3
            rw [← h2, ← h3]; exact he)
        clear he hj
        go_wp2
        go_quiet (fail)
        go_wp2
        go_roundw
        case rel => exact ⟨k + 1, _, by omega, by go_num, HJ, rfl⟩
        case measure => simp [intOf]; omega
      · have hE : ∀ X : World, (binOp .neq 52 (.agg #[.int .i64 x.n, .int .i64 x.r, .int .i64 x.c, .int .i64 x.h, .int .i64 x.w]) (.agg #[.int .i64 y.n, .int .i64 y.r, .int .i64 y.c, .int .i64 y.h, .int .i64 y.w])).run Try.prog X = .ok (.bool true) X := fun X => by rw [pz_eql, decide_eq_false he]; rfl
        have hf : same = false := by
          rw [← hs.out]
          refine decide_eq_false (fun h => he ?_)
          have h1 := EX.out
          have h2 := EY.out
          rw [h, h2] at h1
          injection h1 with h1
          exact h1.symm
        clear he hj hs
        subst hf
        go_wp2
        go_quiet (fail)
        go_wp2
        go_ret
        exact ⟨rfl, (below_dn w.heap.size w n).trans (below_dn w.heap.size _ _)⟩
    · have ht : same = true := by
        rw [← hs.out]
        refine decide_eq_true ?_
        apply Classical.byContradiction
        intro hne
        obtain ⟨i, x, y, hi, h1, h2, h3⟩ := list_ne (by rw [HX0.out, HY0.out]) hne
        exact h3 (hj.out i x y (by have := HX0.out; omega) h1 h2)
      clear hk hs hj
      subst ht
      go_wp2
      go_ret
      exact ⟨rfl, below_dn _ _ _⟩
theorem gsame_any (v v' : Value) (E E' : List Pz) (w : World) (h : PsAt w v E) (h' : PsAt w v' E') :
    Calls Try.prog 16 #[v, v'] w fun e w' => e = .returned (.bool (decide (E = E'))) ∧ Below w.heap.size w w' := by
  obtain ⟨p, c, rfl⟩ := h.form
  obtain ⟨p', c', rfl⟩ := h'.form
  by_cases hl : E.length = E'.length
  · rw [← hl] at h' ⊢
    exact gsame_some p p' c c' E E' _ w h.1 rfl hl.symm h h' _ rfl
  · have hd : decide (E = E') = false := decide_eq_false (fun e => hl (by rw [e]))
    rw [hd]
    refine (gsame_lens p p' _ _ c c' w hl h.1 h'.1).mono ?_
    rintro e w' ⟨rfl, rfl⟩
    exact ⟨rfl, Below.refl _ _⟩
end Go.Proofs.Ytcgnldcdcbnofaa

namespace Go.Proofs.Ytcgnldcdcbnofaa
open Go.RowKit Go.Shelf
set_option linter.unusedVariables false
attribute [local go_sem] Oper.semAt_some

def sh7 : List (List Sp) := [[⟨0, 1, 2⟩, ⟨1, 2, 1⟩], [⟨2, 1, 1⟩]]
def sh7P : List Pl := [⟨0, 0, 0, 2, 1⟩, ⟨1, 0, 1, 1, 2⟩, ⟨2, 1, 1, 1, 1⟩]
def sh7S : LS := ⟨[2, 2, 1], sh7P, ⟨2, 1, 1, 1, 1⟩⟩
theorem sh7_lay : layP sh7 [2, 2] = some sh7S := by rfl
theorem sh7_right : RightQ sh7 [2, 2] := by
  refine ⟨by decide, rfl, fun i e h => ?_, fun x h => ?_⟩
  · match i, h with
    | 0, h => simp at h; subst h; rfl
    | 1, h => simp at h; subst h; rfl
    | k + 2, h => simp at h
  · simp [cellsF, sh7] at h
    rcases h with rfl | rfl | rfl <;> rfl
def sh7W (w : World) : World := (((w.alloc (.cells #[.int .i64 0, .int .i64 1, .int .i64 2, .int .i64 1, .int .i64 2, .int .i64 1] 48)).alloc (.cells #[.int .i64 2, .int .i64 1, .int .i64 1] 48)).alloc (.cells #[.slice (some ⟨w.heap.size, 0, none⟩) 2 2, .slice (some ⟨w.heap.size + 1, 0, none⟩) 1 1] 49)).alloc (.cells #[.int .i64 2, .int .i64 2] 3)
/-- cells of a row lie in a block -/
theorem row_whole {X : World} {B g t c : Nat} {xs : List Sp} (h : Whole X g t (xs.flatMap Sp.cells)) (hl : xs.length ≤ 9223372036854775807) (hB : g < B) : RowIn B X (.slice (some ⟨g, 0, none⟩) xs.length c) xs :=
  ⟨hl, .inr ⟨g, 0, c, rfl, hB, fun j x hx => by
    have key : ∀ (L : List Sp) (i : Nat) (x : Sp) (j : Nat) (u : Value), L[i]? = some x → x.cells[j]? = some u → (L.flatMap Sp.cells)[i * 3 + j]? = some u := by
      intro L
      induction L with
      | nil => intro i x j u h; simp at h
      | cons y L ih =>
        intro i x j u h hu
        have hl : y.cells.length = 3 := rfl
        match i, h with
        | 0, h =>
          simp at h; subst h
          rw [List.flatMap_cons, Nat.zero_mul, Nat.zero_add, List.getElem?_append_left (List.getElem?_eq_some_iff.1 hu).1]; exact hu
        | i + 1, h =>
          rw [List.flatMap_cons, List.getElem?_append_right (by rw [hl]; omega), hl, show (i + 1) * 3 + j - 3 = i * 3 + j by omega]
          exact ih i x j u (by simpa using h) hu
    rw [Nat.zero_add]
    exact ⟨by rw [h.cellAt]; exact key xs j x 0 _ hx rfl, by rw [h.cellAt]; exact key xs j x 1 _ hx rfl, by rw [h.cellAt]; exact key xs j x 2 _ hx rfl⟩⟩⟩
theorem rows_whole {X : World} {B g t c : Nat} {hv : Nat → Value} {rows : List (List Sp)} (h : ∀ i, i < rows.length → X.cell? ⟨g, i, none⟩ = some (hv i)) (hl : rows.length ≤ 9223372036854775807) (hB : g < B) (hr : ∀ i row, rows[i]? = some row → RowIn B X (hv i) row) :
    RowsIn B X (.slice (some ⟨g, 0, none⟩) rows.length c) hv rows :=
  ⟨hl, .inr ⟨g, 0, c, rfl, hB, fun i row hrow => ⟨by rw [Nat.zero_add]; exact h i (List.getElem?_eq_some_iff.1 hrow).1, hr i row hrow⟩⟩⟩
theorem rows_none (B : Nat) (X : World) (a : Option Addr) (c : Nat) (hv : Nat → Value) : RowsIn B X (.slice a 0 c) hv [] := ⟨by simp, .inl ⟨a, c, rfl, rfl⟩⟩
theorem sh7_below (w : World) : Below w.heap.size w (sh7W w) := ((((Below.refl _ w).alloc (Nat.le_refl _) _).alloc (by simp) _).alloc (by simp; omega) _).alloc (by simp; omega) _
theorem sh7_size (w : World) : (sh7W w).heap.size = w.heap.size + 4 := by unfold sh7W; simp
def sh7H (w : World) (i : Nat) : Value := if i = 0 then .slice (some ⟨w.heap.size, 0, none⟩) 2 2 else .slice (some ⟨w.heap.size + 1, 0, none⟩) 1 1
theorem sh7_mem (w : World) : RowsIn (sh7W w).heap.size (sh7W w) (.slice (some ⟨w.heap.size + 2, 0, none⟩) 2 2) (sh7H w) sh7 ∧ Ints (sh7W w) (.slice (some ⟨w.heap.size + 3, 0, none⟩) 2 2) [2, 2] := by
  have k1 : Whole (sh7W w) w.heap.size 48 [.int .i64 0, .int .i64 1, .int .i64 2, .int .i64 1, .int .i64 2, .int .i64 1] := (((whole_new w _ 48 _ rfl).alloc _).alloc _).alloc _
  have k2 : Whole (sh7W w) (w.heap.size + 1) 48 [.int .i64 2, .int .i64 1, .int .i64 1] := ((whole_new (w.alloc (.cells #[.int .i64 0, .int .i64 1, .int .i64 2, .int .i64 1, .int .i64 2, .int .i64 1] 48)) [.int .i64 2, .int .i64 1, .int .i64 1] 48 _ (by simp)).alloc _).alloc _
  have k3 : Whole (sh7W w) (w.heap.size + 2) 49 [.slice (some ⟨w.heap.size, 0, none⟩) 2 2, .slice (some ⟨w.heap.size + 1, 0, none⟩) 1 1] := (whole_new ((w.alloc (.cells #[.int .i64 0, .int .i64 1, .int .i64 2, .int .i64 1, .int .i64 2, .int .i64 1] 48)).alloc (.cells #[.int .i64 2, .int .i64 1, .int .i64 1] 48)) [.slice (some ⟨w.heap.size, 0, none⟩) 2 2, .slice (some ⟨w.heap.size + 1, 0, none⟩) 1 1] 49 _ (by simp)).alloc _
  have k4 : Whole (sh7W w) (w.heap.size + 3) 3 [.int .i64 2, .int .i64 2] := whole_new (((w.alloc (.cells #[.int .i64 0, .int .i64 1, .int .i64 2, .int .i64 1, .int .i64 2, .int .i64 1] 48)).alloc (.cells #[.int .i64 2, .int .i64 1, .int .i64 1] 48)).alloc (.cells #[.slice (some ⟨w.heap.size, 0, none⟩) 2 2, .slice (some ⟨w.heap.size + 1, 0, none⟩) 1 1] 49)) [.int .i64 2, .int .i64 2] 3 _ (by simp)
  have hs := sh7_size w
  refine ⟨rows_whole (t := 49) (rows := sh7) (fun i hi => ?_) (by decide) (by omega) (fun i row hr => ?_), Ints.whole k4 rfl (by simp)⟩
  · match i, hi with
    | 0, _ => exact k3.cellAt 0
    | 1, _ => exact k3.cellAt 1
    | k + 2, h => exact absurd h (by show ¬ (k + 2 < 2); omega)
  · match i, hr with
    | 0, hr => simp [sh7] at hr; subst hr; exact row_whole (xs := [⟨0, 1, 2⟩, ⟨1, 2, 1⟩]) k1 (by decide) (by omega)
    | 1, hr => simp [sh7] at hr; subst hr; exact row_whole (xs := [⟨2, 1, 1⟩]) k2 (by decide) (by omega)
    | k + 2, hr => simp [sh7] at hr
set_option maxRecDepth 100000 in
set_option maxHeartbeats 2000000 in
theorem shown7_any (w : World) : Calls Try.prog 5 #[] w fun e W' => e = .returned (.bool true) ∧ Below w.heap.size w W' := by
  obtain ⟨m1, m2⟩ := sh7_mem w
  have H1 := Lib.hid (lay_good _ _ _ _ _ (sh7W w) m1 m2 (by decide) sh7_right _ sh7_lay)
  have H2 := Lib.hid (fun (X : World) (ev : Value) (hE : Ints X ev [1]) => lay_wrong (.slice none 0 0) ev (fun _ => .slice none 0 0) [] [1] X (rows_none _ _ _ _ _) hE (by decide) (fun h => by have := h.len; simp at this))
  have HB := Lib.hid (sh7_below w)
  clear m1 m2
  go_enter Try.func5, Try.ntmps5
  go_wp2_with fail
  refine H1.out.mono ?_
  clear H1
  rintro e w1 ⟨v1, rfl, ho1, hb1⟩
  have HL1 := Lib.hid (ho1.places (by decide))
  have HB1 := Lib.hid (HB.out.trans (hb1.mono HB.out.size))
  obtain ⟨q1, c1, rfl⟩ := HL1.out.form
  dsimp only [sh7S, sh7P, List.length_map, List.length_cons, List.length_nil] at HL1 ⊢
  clear ho1 hb1 HB
  go_wp2_with (go_at_call 15; refine (H2.out _ _ (Ints.whole (t := 3) (whole_new w1 [.int .i64 1] 3 _ rfl) rfl (by simp))).mono ?_; clear H2; rintro e w2 ⟨rfl, hb2⟩; have B2 := Lib.hid (((Below.refl _ w1).alloc (Nat.le_refl _) (.cells #[.int .i64 1] 3)).trans (hb2.mono (by simp))); clear hb2)
  have hb4 : Below w2.heap.size w2 (w2.alloc (.cells #[.int .i64 0, .int .i64 0, .int .i64 0, .int .i64 2, .int .i64 1, .int .i64 1, .int .i64 0, .int .i64 1, .int .i64 1, .int .i64 2, .int .i64 2, .int .i64 1, .int .i64 1, .int .i64 1, .int .i64 1] 52)) := (Below.refl _ w2).alloc (Nat.le_refl _) _
  have HSM : Hid (Calls Try.prog 16 #[.slice q1 3 c1, .slice (some ⟨w2.heap.size, 0, none⟩) 3 3] (w2.alloc (.cells #[.int .i64 0, .int .i64 0, .int .i64 0, .int .i64 2, .int .i64 1, .int .i64 1, .int .i64 0, .int .i64 1, .int .i64 1, .int .i64 2, .int .i64 2, .int .i64 1, .int .i64 1, .int .i64 1, .int .i64 1] 52)) fun e W' => e = .returned (.bool true) ∧ Below w2.heap.size w2 W') := Lib.hid (by
    refine (gsame_any _ _ (sh7P.map Pl.z) (sh7P.map Pl.z) _ ((HL1.out.below B2.out).below hb4) (places_whole (t := 52) (L := sh7P.map Pl.z) (whole_new w2 [.int .i64 0, .int .i64 0, .int .i64 0, .int .i64 2, .int .i64 1, .int .i64 1, .int .i64 0, .int .i64 1, .int .i64 1, .int .i64 2, .int .i64 2, .int .i64 1, .int .i64 1, .int .i64 1, .int .i64 1] 52 _ rfl) (by decide))).mono ?_
    rintro e w' ⟨rfl, hb⟩
    exact ⟨by simp, hb4.trans (hb.mono hb4.size)⟩)
  clear hb4 HL1
  go_wp2_with (go_at_call 16; refine HSM.out.mono ?_; clear HSM; rintro e w4 ⟨rfl, hb4⟩; have HB4 := Lib.hid (HB1.out.trans ((B2.out.trans (hb4.mono B2.out.size)).mono HB1.out.size)); clear hb4)
  go_ret
  exact ⟨rfl, HB4.out⟩
end Go.Proofs.Ytcgnldcdcbnofaa

namespace Go.Proofs.Ytcgnldcdcbnofaa
open Go.RowKit Go.Shelf
set_option linter.unusedVariables false

def Sp.zero : Sp := ⟨0, 0, 0⟩
def flat3 (L : List Sp) : List Value := L.flatMap Sp.cells
theorem flat3_len (L : List Sp) : (flat3 L).length = L.length * 3 := by
  induction L with
  | nil => rfl
  | cons a L ih => unfold flat3 at *; rw [List.flatMap_cons, List.length_append, ih, List.length_cons]; have : a.cells.length = 3 := rfl; omega
theorem flat3_set : ∀ (L : List Sp) (k : Nat) (x : Sp), k < L.length → (((flat3 L).set (k * 3) (.int .i64 x.n)).set (k * 3 + 1) (.int .i64 x.c)).set (k * 3 + 2) (.int .i64 x.r) = flat3 (L.set k x)
  | [], k, x, h => by simp at h
  | y :: L, 0, x, h => by
    obtain ⟨a, b, c⟩ := y
    obtain ⟨a', b', c'⟩ := x
    rfl
  | y :: L, k + 1, x, h => by
    have ih := flat3_set L k x (by simpa using h)
    have e : flat3 (y :: L) = y.cells ++ flat3 L := rfl
    have hl : y.cells.length = 3 := rfl
    rw [e, List.set_append_right _ _ (by rw [hl]; omega), List.set_append_right _ _ (by rw [hl]; omega), List.set_append_right _ _ (by rw [hl]; omega), hl, show (k + 1) * 3 - 3 = k * 3 by omega, show (k + 1) * 3 + 1 - 3 = k * 3 + 1 by omega, show (k + 1) * 3 + 2 - 3 = k * 3 + 2 by omega, ih]
    rfl
theorem Whole.sp {W : World} {g t : Nat} {L : List Sp} (h : Whole W g t (flat3 L)) (k : Nat) (x : Sp) (hk : k < L.length) :
    Whole (((W.setCell ⟨g, k * 3, none⟩ (.int .i64 x.n)).setCell ⟨g, k * 3 + 1, none⟩ (.int .i64 x.c)).setCell ⟨g, k * 3 + 2, none⟩ (.int .i64 x.r)) g t (flat3 (L.set k x)) := by
  rw [← flat3_set L k x hk]
  exact ((h.set _ _).set _ _).set _ _
theorem Try.infoSp : (Try.prog.info? 48).map (fun i => (i.zero, i.size, i.bytes)) = some (some (.agg #[.int .i64 0, .int .i64 0, .int .i64 0]), 3, 24) := by kernel_rfl
theorem made_getG (z : Array Value) (n k : Nat) (h : k < n) : (madeCells z n)[k]? = some (z[k % z.size]!) := by simp [madeCells, h]
theorem flat3_rep : ∀ n, flat3 (List.replicate n Sp.zero) = List.replicate (n * 3) (.int .i64 0)
  | 0 => rfl
  | n + 1 => by
    rw [List.replicate_succ, show (n + 1) * 3 = n * 3 + 1 + 1 + 1 by omega, List.replicate_succ, List.replicate_succ, List.replicate_succ, ← flat3_rep n]
    rfl
theorem make_spans (n : Nat) (hn : n ≤ 1000000) (w : World) : (Instr.makeSlice 49 (.int .i64 n) (.int .i64 n)).run Try.prog w = .ok (.slice (some ⟨w.heap.size, 0, none⟩) n n) (w.alloc (.cells (flat3 (List.replicate n Sp.zero)).toArray 48)) := by
  cases hi : Try.prog.info? 48 with
  | none => have := Try.infoSp; rw [hi] at this; cases this
  | some i =>
    have h := Try.infoSp
    rw [hi] at h
    simp only [Option.map_some, Option.some.injEq, Prod.mk.injEq] at h
    obtain ⟨hz, h1, h2⟩ := h
    have hr := run_make (P := Try.prog) w 49 48 i _ Try.underlying49 hi hz .i64 .i64 n n (by omega) (Int.le_refl _) (by rw [h2]; omega) (by omega)
    rw [hr, h1]
    simp only [Int.toNat_natCast]
    rw [show madeCells (Value.agg #[.int .i64 0, .int .i64 0, .int .i64 0]).cells (n * 3) = (flat3 (List.replicate n Sp.zero)).toArray from by
      rw [flat3_rep]
      apply Array.ext_getElem?
      intro k
      by_cases hk : k < n * 3
      · have hs : (Value.agg #[.int .i64 0, .int .i64 0, .int .i64 0]).cells = #[.int .i64 0, .int .i64 0, .int .i64 0] := rfl
        rw [made_getG _ _ _ hk, hs]
        have : k % 3 = 0 ∨ k % 3 = 1 ∨ k % 3 = 2 := by omega
        rcases this with h | h | h <;> simp [h, hk]
      · rw [Array.getElem?_eq_none (by rw [size_madeCells]; omega), Array.getElem?_eq_none (by simp; omega)]]
theorem Try.infoSps : (Try.prog.info? 49).map (fun i => (i.zero, i.size, i.bytes)) = some (some (.slice none 0 0), 1, 24) := by kernel_rfl
theorem make_rows (n : Nat) (hn : n ≤ 1000000) (w : World) : (Instr.makeSlice 25 (.int .i64 n) (.int .i64 n)).run Try.prog w = .ok (.slice (some ⟨w.heap.size, 0, none⟩) n n) (w.alloc (.cells (List.replicate n (.slice none 0 0)).toArray 49)) := by
  cases hi : Try.prog.info? 49 with
  | none => have := Try.infoSps; rw [hi] at this; cases this
  | some i =>
    have h := Try.infoSps
    rw [hi] at h
    simp only [Option.map_some, Option.some.injEq, Prod.mk.injEq] at h
    obtain ⟨hz, h1, h2⟩ := h
    have hr := run_make (P := Try.prog) w 25 49 i _ Try.underlying25 hi hz .i64 .i64 n n (by omega) (Int.le_refl _) (by rw [h2]; omega) (by omega)
    rw [hr, h1]
    simp only [Int.toNat_natCast]
    rw [show (madeCells (Value.slice none 0 0).cells (n * 1)) = (List.replicate n (.slice none 0 0)).toArray from by
      apply Array.toList_inj.1
      rw [show (Value.slice none 0 0).cells = #[Value.slice none 0 0] from rfl, toList_madeCells_one]; simp]
theorem make_intsG (m : Nat) (hm : m ≤ 1000000000) (w : World) : (Instr.makeSlice 26 (.int .i64 m) (.int .i64 m)).run Try.prog w = .ok (.slice (some ⟨w.heap.size, 0, none⟩) m m) (w.alloc (.cells ((List.replicate m (0 : Int)).map (Value.int .i64)).toArray 3)) := by
  cases hi : Try.prog.info? 3 with
  | none => have := Try.infoIntG; rw [hi] at this; cases this
  | some i =>
    have h := Try.infoIntG
    rw [hi] at h
    simp only [Option.map_some, Option.some.injEq, Prod.mk.injEq] at h
    obtain ⟨hz, h1, h2⟩ := h
    have hr := run_make (P := Try.prog) w 26 3 i (.int .i64 0) Try.underlying26 hi hz .i64 .i64 m m (by omega) (Int.le_refl _) (by rw [h2]; omega) (by omega)
    rw [hr, h1]
    simp only [Int.toNat_natCast]
    rw [show (madeCells (Value.int IntKind.i64 0).cells (m * 1)) = ((List.replicate m (0 : Int)).map (Value.int .i64)).toArray from by
      apply Array.toList_inj.1
      rw [show (Value.int IntKind.i64 0).cells = #[Value.int .i64 0] from rfl, toList_madeCells_one]; simp]
/-- so many cells of so many columns, in one row -/
def wideC (m : Nat) : Sp := ⟨0, m, 0⟩
theorem cells_one_row (l : List Sp) : cellsF 0 [l] = l.map fun x => (0, x) := by simp [cellsF]
theorem full_free (L j : Nat) (h : j < L) : freeB (List.replicate L 1) 0 j = false := by
  rw [freeB_at (z := 1) (by simp [h])]; rfl
theorem rep_take (L m : Nat) : takeN (List.replicate L 1) L 1 m = List.replicate (L + m) 1 := by
  apply List.ext_getElem?
  intro j
  rw [takeN_get _ _ _ (by simp)]
  by_cases h : L ≤ j ∧ j < L + m
  · rw [if_pos h]; simp [h.2]
  · rw [if_neg h]
    by_cases hj : j < L
    · rw [List.getElem?_replicate, List.getElem?_replicate, if_pos hj, if_pos (by omega)]
    · rw [List.getElem?_eq_none (by simp; omega), List.getElem?_eq_none (by simp; omega)]
structure WideAt (m k : Nat) (s : LS) : Prop where
  t : s.t = List.replicate (k * m) 1
  ps : s.ps.length = k
  from_ : fromP s 0 = k * m
theorem wide_step (m k : Nat) (hm : 1 ≤ m) (s : LS) (h : WideAt m k s) : WideAt m (k + 1) (stepP [1] s (0, wideC m)) := by
  have hp : placeP [1] s (0, wideC m) = ⟨0, 0, k * m, 1, m⟩ := by
    unfold placeP
    dsimp only
    rw [h.from_, h.t]
    have e1 : firstF (List.replicate (k * m) 1) 0 (k * m) = k * m := firstF_eq (Nat.le_refl _) (fun j h1 h2 => by omega) (freeB_out (by simp))
    rw [e1]
    have e2 : wideF (List.replicate (k * m) 1) 0 (k * m) (wideC m).c.toNat = m := by
      have : (wideC m).c.toNat = m := by simp [wideC]
      rw [this]
      exact wideF_eq (Nat.le_refl _) (fun j hj => freeB_out (by simp)) (.inl rfl)
    rw [e2]
    rfl
  unfold stepP
  rw [hp]
  have e : (k + 1) * m = k * m + m := Nat.succ_mul k m
  refine ⟨?_, by simp [h.ps], ?_⟩
  · show takeN s.t (k * m) (0 + 1) m = _
    rw [h.t, rep_take, e]
  · show k * m + m = (k + 1) * m
    omega
theorem wide_run (m : Nat) (hm : 1 ≤ m) : ∀ k, (k * m ≤ 10000 → ∃ s, runP [1] (List.replicate k (0, wideC m)) LS.zero = some s ∧ WideAt m k s) ∧ (10000 < k * m → runP [1] (List.replicate k (0, wideC m)) LS.zero = none)
  | 0 => ⟨fun _ => ⟨LS.zero, rfl, by simp; rfl, rfl, by simp; rfl⟩, fun h => by omega⟩
  | k + 1 => by
    obtain ⟨h1, h2⟩ := wide_run m hm k
    have e : (k + 1) * m = k * m + m := Nat.succ_mul k m
    rw [List.replicate_succ']
    refine ⟨fun h => ?_, fun h => ?_⟩
    · obtain ⟨s, hs, hw⟩ := h1 (by omega)
      have hw2 := wide_step m k hm s hw
      refine ⟨_, ?_, hw2⟩
      rw [runP_snoc _ _ _ _ _ hs, if_neg (by rw [hw2.t]; simp; omega)]
    · by_cases hk : k * m ≤ 10000
      · obtain ⟨s, hs, hw⟩ := h1 hk
        have hw2 := wide_step m k hm s hw
        rw [runP_snoc _ _ _ _ _ hs, if_pos (by rw [hw2.t]; simp; omega)]
      · exact runP_more _ _ _ _ (h2 (by omega))
end Go.Proofs.Ytcgnldcdcbnofaa

namespace Go.Proofs.Ytcgnldcdcbnofaa
open Go.ChangeShapes Go.WideShapes Go.ChangeAt Go.RowKit Go.Joins Go.Shelf Go.Deep
set_option linter.unusedVariables false
set_option linter.unusedSimpArgs false

section
variable {H : Type} {enc : TypeId × Value → H} {w : World} {base : Nat} {spare : Nat → Bool} {held : Bool}
theorem addr_none (b off j : Nat) : (⟨b, off, none⟩ : Addr).add j = ⟨b, off + j, none⟩ := by unfold Addr.add; split <;> simp_all
theorem Try.cellsSp : Try.prog.cellsOf 48 = 3 := by kernel_rfl
set_option maxRecDepth 100000 in
theorem sp_cells {fuel : Nat} {cs : List Value} {y : DataW H × List MemPlace} (h : DataW.trod enc Try.prog w base spare held fuel 48 cs = some y) : ∃ q : Sp, cs = q.cells := by
  obtain ⟨y0, y1, y2, n, _, hl, h0, h1, h2⟩ := trod_struct3 Try.underlying48 h
  rw [Try.cellsSp] at hl
  match cs, hl with
  | [c0, c1, c2], _ =>
    have k1 : Try.prog.cellsOf 3 = 1 := by kernel_rfl
    simp [k1] at h0 h1 h2
    obtain ⟨a, e0, _, _⟩ := DataW.trod_int Try.underlying3 h0
    obtain ⟨b, e1, _, _⟩ := DataW.trod_int Try.underlying3 h1
    obtain ⟨c, e2, _, _⟩ := DataW.trod_int Try.underlying3 h2
    simp at e0 e1 e2
    subst e0 e1 e2
    exact ⟨⟨a, b, c⟩, rfl⟩
set_option maxRecDepth 100000 in
theorem open_row {v : Value} {fuel : Nat} {y : DataW H × List MemPlace} (h : DataW.trod enc Try.prog w base spare held fuel 49 [v] = some y) : ∃ xs, RowIn w.heap.size w v xs := by
  rcases Go.Deep.open_slice Try.underlying49 h with ⟨hcs, _⟩ | ⟨x, l, c, m, n, D, Pl, hcs, _, hl, hm, hmm, _, hx⟩
  · simp at hcs; subst hcs
    exact ⟨[], by simp, .inl ⟨none, 0, rfl, rfl⟩⟩
  · simp at hcs; subst hcs
    unfold maxLen at hm
    have hlm : l ≤ m := by rw [hmm]; split <;> omega
    rw [Try.cellsSp] at hx
    have each : ∀ i, i < l → ∃ q : Sp, ∀ k u, q.cells[k]? = some u → w.cell? (x.add (i * 3 + k)) = some u := by
      intro i hi
      obtain ⟨cs, h1, h2⟩ := hx i (by omega)
      obtain ⟨q, rfl⟩ := sp_cells h2
      obtain ⟨_, _, hc⟩ := World.cells?_some h1
      refine ⟨q, fun k v hv => ?_⟩
      have hk : k < 3 := by have := (List.getElem?_eq_some_iff.1 hv).1; simpa [Sp.cells] using this
      have := hc k hk
      rw [hv] at this
      rw [Go.Deep.add_add] at this
      exact this
    obtain ⟨q, hq⟩ := @Go.Deep.choose_lt Sp ⟨Sp.zero⟩ _ _ each
    obtain ⟨g, off, sp⟩ := x
    by_cases h0 : l = 0
    · subst h0; exact ⟨[], by simp, .inl ⟨_, c, rfl, rfl⟩⟩
    · have c0 := hq 0 (by omega) 0 _ rfl
      have hs : sp = none := by simpa [Addr.add] using World.cell?_spot c0
      subst hs
      refine ⟨(List.range l).map q, by simp; omega, .inr ⟨g, off, c, by simp, ?_, fun j z hz => ?_⟩⟩
      · rw [addr_none] at c0; exact cell_lt c0
      · have hj : j < l := by have := (List.getElem?_eq_some_iff.1 hz).1; simpa using this
        have e : z = q j := by simp [hj] at hz; exact hz.symm
        subst e
        have a0 := hq j hj 0 _ rfl
        have a1 := hq j hj 1 _ rfl
        have a2 := hq j hj 2 _ rfl
        rw [addr_none] at a0 a1 a2
        exact ⟨a0, by rw [Nat.add_assoc]; exact a1, by rw [Nat.add_assoc]; exact a2⟩
set_option maxRecDepth 100000 in
theorem open_rows {a : Option Addr} {len cap fuel : Nat} {y : DataW H × List MemPlace} (h : DataW.trod enc Try.prog w base spare held fuel 25 [.slice a len cap] = some y) : ∃ z : (Nat → Value) × List (List Sp), RowsIn w.heap.size w (.slice a len cap) z.1 z.2 ∧ z.2.length = len := by
  rcases Go.Deep.open_slice1 Try.underlying25 (by kernel_rfl) h with ⟨hcs, _⟩ | ⟨x, l, c, m, n, V, D, Pl, hcs, _, hl, hm, hmm, _, hx⟩
  · simp at hcs
    obtain ⟨rfl, rfl, rfl⟩ := hcs
    exact ⟨(fun _ => .slice none 0 0, []), ⟨by simp, .inl ⟨none, 0, rfl, rfl⟩⟩, rfl⟩
  · simp at hcs
    obtain ⟨rfl, rfl, rfl⟩ := hcs
    unfold maxLen at hm
    have hlm : len ≤ m := by rw [hmm]; split <;> omega
    have each : ∀ i, i < len → ∃ xs, RowIn w.heap.size w (V i) xs := fun i hi => open_row (hx i (by omega)).2
    obtain ⟨q, hq⟩ := Go.Deep.choose_lt each
    obtain ⟨g, off, sp⟩ := x
    by_cases h0 : len = 0
    · subst h0; exact ⟨(V, []), ⟨by simp, .inl ⟨_, cap, rfl, rfl⟩⟩, rfl⟩
    · have c0 := (hx 0 (by omega)).1
      have hs : sp = none := by simpa [Addr.add] using World.cell?_spot c0
      subst hs
      refine ⟨(V, (List.range len).map q), ⟨by simp; omega, .inr ⟨g, off, cap, by simp, ?_, fun j z hz => ?_⟩⟩, by simp⟩
      · rw [addr_none] at c0; exact cell_lt c0
      · have hj : j < len := by have := (List.getElem?_eq_some_iff.1 hz).1; simpa using this
        have e : z = q j := by simp [hj] at hz; exact hz.symm
        subst e
        have a0 := (hx j (by omega)).1
        rw [addr_none] at a0
        exact ⟨a0, hq j hj⟩
set_option maxRecDepth 100000 in
theorem open_intsG {a : Option Addr} {len cap fuel : Nat} {y : DataW H × List MemPlace} (h : DataW.trod enc Try.prog w base spare held fuel 26 [.slice a len cap] = some y) : ∃ zs, Ints w (.slice a len cap) zs ∧ zs.length = len ∧ len ≤ cap ∧ cap ≤ maxLen := by
  rcases Go.Deep.open_slice1 Try.underlying26 (by kernel_rfl) h with ⟨hcs, _⟩ | ⟨x, l, c, m, n, V, D, Pl, hcs, _, hl, hm, hmm, _, hx⟩
  · simp at hcs
    obtain ⟨rfl, rfl, rfl⟩ := hcs
    exact ⟨[], ⟨by simp, .inl ⟨none, 0, rfl, rfl⟩⟩, rfl, by omega, by unfold maxLen; omega⟩
  · simp at hcs
    obtain ⟨rfl, rfl, rfl⟩ := hcs
    have hm' := hm
    unfold maxLen at hm
    have hlm : len ≤ m := by rw [hmm]; split <;> omega
    have each : ∀ i, i < len → ∃ z : Int, w.cell? (x.add i) = some (.int .i64 z) := by
      intro i hi
      obtain ⟨c0, t0⟩ := hx i (by omega)
      obtain ⟨z, e0, _, _⟩ := DataW.trod_int Try.underlying3 t0
      simp at e0
      exact ⟨z, by rw [c0, e0]⟩
    obtain ⟨q, hq⟩ := Go.Deep.choose_lt each
    obtain ⟨g, off, sp⟩ := x
    by_cases h0 : len = 0
    · subst h0; exact ⟨[], ⟨by simp, .inl ⟨_, cap, rfl, rfl⟩⟩, rfl, hl, hm'⟩
    · have c0 := hq 0 (by omega)
      have hs : sp = none := by simpa [Addr.add] using World.cell?_spot c0
      subst hs
      refine ⟨(List.range len).map q, ⟨by simp; omega, .inr ⟨g, off, cap, by simp, fun j hj => ?_⟩⟩, by simp, hl, hm'⟩
      have hj' : j < len := by simpa using hj
      have a0 := hq j hj'
      rw [addr_none] at a0
      rw [a0]; simp [hj']
end
/-- the first of some numbers -/
theorem ints_take {W : World} {a : Option Addr} {l c : Nat} {zs : List Int} (h : Ints W (.slice a l c) zs) (hl : zs.length = l) (k : Nat) (hk : k ≤ l) : Ints W (.slice a k c) (zs.take k) := by
  have hlk : (zs.take k).length = k := by rw [List.length_take]; omega
  refine ⟨by have := h.1; omega, ?_⟩
  rcases h.2 with ⟨a', c', e, rfl⟩ | ⟨b, off, c', e, hc⟩
  · left
    injection e with e1 e2 e3
    subst e1 e3
    simp at hl
    exact ⟨a, c, by simp; omega, by simp⟩
  · right
    injection e with e1 e2 e3
    subst e1 e3
    refine ⟨b, off, c, by rw [hlk], fun j hj => ?_⟩
    rw [hc j (by omega)]
    rw [List.getElem?_take_of_lt (by omega)]
/-- the law's cut -/
def trimC (x : Sp) : Sp := if 30 < x.c ∧ x.c ≤ 1000 then ⟨x.n, 30, x.r⟩ else x
def cutG (rows : List (List Sp)) : List (List Sp) := (rows.take 20).map fun r => (r.take 10).map trimC
theorem own_row {N B : Nat} {X : World} {v : Value} {xs : List Sp} (h : X.ownsRow N 48 3 v xs.length (flat3 xs)) (hl : xs.length ≤ 9223372036854775807) (hB : X.heap.size ≤ B) : RowIn B X v xs := by
  rcases h.2 with ⟨rfl, h0⟩ | ⟨g, cap, cur, rfl, hb, hg, _, _, hcs, htk⟩
  · exact ⟨hl, .inl ⟨none, 0, rfl, List.length_eq_zero_iff.1 h0⟩⟩
  · refine ⟨hl, .inr ⟨g, 0, cap, rfl, Nat.lt_of_lt_of_le (Array.getElem?_eq_some_iff.1 hg).1 hB, fun j x hx => ?_⟩⟩
    have key : ∀ o u, (flat3 xs)[o]? = some u → X.cell? ⟨g, o, none⟩ = some u := fun o u hu => by
      rw [← htk] at hu
      have hj := (List.getElem?_eq_some_iff.1 hu).1
      rw [List.length_take] at hj
      rw [List.getElem?_take_of_lt (by omega)] at hu
      simp only [World.cell?, hg]
      rw [← Array.getElem?_toList]; exact hu
    have k3 : ∀ (L : List Sp) (i : Nat) (x : Sp) (j : Nat) (u : Value), L[i]? = some x → x.cells[j]? = some u → (flat3 L)[i * 3 + j]? = some u := by
      intro L
      induction L with
      | nil => intro i x j u h; simp at h
      | cons y L ih =>
        intro i x j u h hu
        have hl : y.cells.length = 3 := rfl
        have e : flat3 (y :: L) = y.cells ++ flat3 L := rfl
        match i, h with
        | 0, h =>
          simp at h; subst h
          rw [e, Nat.zero_mul, Nat.zero_add, List.getElem?_append_left (List.getElem?_eq_some_iff.1 hu).1]; exact hu
        | i + 1, h =>
          rw [e, List.getElem?_append_right (by rw [hl]; omega), hl, show (i + 1) * 3 + j - 3 = i * 3 + j by omega]
          exact ih i x j u (by simpa using h) hu
    rw [Nat.zero_add]
    exact ⟨key _ _ (k3 xs j x 0 _ hx rfl), key _ _ (k3 xs j x 1 _ hx rfl), key _ _ (k3 xs j x 2 _ hx rfl)⟩
end Go.Proofs.Ytcgnldcdcbnofaa

namespace Go.Proofs.Ytcgnldcdcbnofaa
open Go.RowKit Go.Shelf
set_option linter.unusedVariables false
set_option linter.unusedSimpArgs false
attribute [local go_sem] Oper.semAt_some

/-- what a cell wants -/
def spOf (i : Int) (s : Sty) : Sp := ⟨i, max s.cs 1, if s.rs < 0 then 1 else s.rs⟩
def spZ (ns : List Nd) (z : Int) : Sp := match ns[z.toNat]? with
  | some n => spOf z n.s
  | none => ⟨z, 1, 0⟩
def rowS9 (ns : List Nd) (ks : List Int) : List Sp := (ks.filter fun z => decide (kdOf ns z.toNat = 10)).map (spZ ns)
def cellsP (ns : List Nd) (E : List (Int × Int)) : List (List Sp) := E.map fun x => rowS9 ns (kfOf ns x.1)
theorem rowS9_snoc (ns : List Nd) (ks : List Int) (k : Nat) (z : Int) (h : ks[k]? = some z) : rowS9 ns (ks.take (k + 1)) = rowS9 ns (ks.take k) ++ (if kdOf ns z.toNat = 10 then [spZ ns z] else []) := by
  unfold rowS9
  rw [List.take_add_one, h, List.filter_append, List.map_append]
  by_cases hk : kdOf ns z.toNat = 10 <;> simp [hk]
theorem rowS9_len (ns : List Nd) (ks : List Int) : (rowS9 ns ks).length ≤ ks.length := by unfold rowS9; rw [List.length_map]; exact List.length_filter_le _ _
theorem results_span {fn : Func} {W : World} {g : Nat} {cs : List Value} {tmps : Array Value} (hf : fn.results = #[.cell 4 48]) (hl : cs.length = 3) (ht : tmps.getD 4 undef = .pointer (some ⟨g, 0, none⟩)) (h : Whole W g 48 cs) :
    (results fn tmps).run Try.prog W = .ok (.agg cs.toArray) W :=
  results_cell_row hf tmps W g 48 cs.toArray (0, 0) _ ht h Try.underlying48 rfl (by
    have h : (Try.prog.info? 48).map (·.size) = some 3 := by kernel_rfl
    rw [h]; simp [hl])
set_option maxRecDepth 100000 in
set_option maxHeartbeats 1000000 in
theorem spans_any (b off cap m i : Nat) (n : Nd) (w : World) (hi : i < m) (hc : NdAt w b (off + i * 34) n) :
    Calls Try.prog 18 #[.slice (some ⟨b, off, none⟩) m cap, .int .i64 (i : Int)] w fun e W' => e = .returned (.agg #[.int .i64 (spOf i n.s).n, .int .i64 (spOf i n.s).c, .int .i64 (spOf i n.s).r]) ∧ Below w.heap.size w W' := by
  obtain ⟨sc, hsc⟩ : ∃ sc, n.s.cells.toArray = sc := ⟨_, rfl⟩
  have hload : ∀ j v, sc[j]? = some v → w.cell? ((⟨b, off + i * 34 + 2, none⟩ : Addr).add j) = some v := fun j v hv => by
    rw [add_plain]
    have := hc (2 + j) v (n.sty j v (by rw [← hsc] at hv; simpa using hv))
    rw [show off + i * 34 + 2 + j = off + i * 34 + (2 + j) by omega]
    exact this
  have iS : (Try.prog.info? 62).map (·.size) = some sc.size := by rw [← hsc]; exact Try.infoSty
  have oS : sc.all (·.oneCell') = true := by rw [← hsc]; exact cells_one n.s
  have zS : Sty.zero.cells.toArray.size = sc.size := by rw [← hsc]; rfl
  have hlt : b < w.heap.size := cell_lt (hc 0 _ n.c0)
  have LS := Lib.hid (fun (X : World) (hb : Below w.heap.size w X) => (show ∀ j v, sc[j]? = some v → X.cell? ((⟨b, off + i * 34 + 2, none⟩ : Addr).add j) = some v from fun j v hv => by
    have h := hload j v hv
    rw [add_plain] at h ⊢
    exact (hb.cell (p := ⟨b, off + i * 34 + 2 + j, none⟩) hlt).trans h))
  have HSC := Lib.hid hsc
  have IS := Lib.hid iS
  have OS := Lib.hid oS
  have ZS := Lib.hid zS
  have k0 := whole_new w [.int .i64 0, .int .i64 0, .int .i64 0] 48 w.heap.size rfl
  have HB0 : Hid (Below w.heap.size w (w.alloc (.cells #[.int .i64 0, .int .i64 0, .int .i64 0] 48))) := Lib.hid ((Below.refl _ w).alloc (Nat.le_refl _) _)
  have HK0 := Lib.hid k0
  obtain ⟨cs0, hcs0⟩ : ∃ cs0, n.s.cs = cs0 := ⟨_, rfl⟩
  obtain ⟨rs0, hrs0⟩ : ∃ rs0, n.s.rs = rs0 := ⟨_, rfl⟩
  have HCS := Lib.hid hcs0
  have HRS := Lib.hid hrs0
  have hval : Hid ((spOf i n.s).n = i ∧ (spOf i n.s).c = max cs0 1 ∧ (spOf i n.s).r = if rs0 < 0 then 1 else rs0) := Lib.hid (by unfold spOf; dsimp only; rw [hcs0, hrs0]; exact ⟨rfl, rfl, rfl⟩)
  have kw : Whole (((w.alloc (.cells #[.int .i64 0, .int .i64 0, .int .i64 0] 48)).alloc (.cells Sty.zero.cells.toArray 62)).setRow (w.heap.size + 1) sc) (w.heap.size + 1) 62 n.s.cells := by
    have h := whole_row (whole_new (w.alloc (.cells #[.int .i64 0, .int .i64 0, .int .i64 0] 48)) Sty.zero.cells 62 (w.heap.size + 1) (by simp)) n.s.cells
    rw [HSC.out] at h
    exact h
  have k4 : Whole (((w.alloc (.cells #[.int .i64 0, .int .i64 0, .int .i64 0] 48)).alloc (.cells Sty.zero.cells.toArray 62)).setRow (w.heap.size + 1) sc) w.heap.size 48 [.int .i64 0, .int .i64 0, .int .i64 0] := whole_row_other (HK0.out.alloc _) _ _ (by omega)
  have bw : Below w.heap.size w (((w.alloc (.cells #[.int .i64 0, .int .i64 0, .int .i64 0] 48)).alloc (.cells Sty.zero.cells.toArray 62)).setRow (w.heap.size + 1) sc) :=
    (HB0.out.alloc HB0.out.size _).trans (below_row _ _ _ (by omega))
  have HKW := Lib.hid kw
  have HK4 := Lib.hid k4
  have HBW := Lib.hid bw
  clear kw k4 bw
  clear hsc hload iS oS zS k0 hc hcs0 hrs0
  go_enter Try.func18, Try.ntmps18
  go_wp2_with (first
    | (refine wpList_load_at rfl 62 (.tmp 9) rfl _ rfl sc _ (LS.out _ HB0.out) Try.underlying62 rfl IS.out ?_)
    | (refine wpList_store_row rfl 62 (.tmp 5) (.tmp 10) rfl _ sc rfl rfl 62 Sty.zero.cells.toArray (whole_new (w.alloc (.cells #[.int .i64 0, .int .i64 0, .int .i64 0] 48)) Sty.zero.cells 62 (w.heap.size + 1) (by simp)) IS.out ZS.out OS.out ?_; refine at_world (fun Y => Whole Y (w.heap.size + 1) 62 n.s.cells ∧ Whole Y w.heap.size 48 [.int .i64 0, .int .i64 0, .int .i64 0] ∧ Below w.heap.size w Y) ⟨HKW.out, HK4.out, HBW.out⟩ (fun Y hY => ?_); obtain ⟨kw, k4, bw⟩ := hY; refine Hid.out ?_))
  refine Lib.hid ?_
  have c20 : Y.cell? ⟨w.heap.size + 1, 20, none⟩ = some (.int .i64 cs0) := by rw [kw.cellAt, ← HCS.out]; rfl
  have c21 : Y.cell? ⟨w.heap.size + 1, 21, none⟩ = some (.int .i64 rs0) := by rw [kw.cellAt, ← HRS.out]; rfl
  have f21 := kw.free 21
  have l1 := kw.lt
  have l0 := k4.lt
  have f0 := k4.free 0
  have f1 := k4.free 1
  have f2 := k4.free 2
  have g0 := k4.cellAt 0
  have g1 := k4.cellAt 1
  have g2 := k4.cellAt 2
  have K4 := Lib.hid k4
  have BW := Lib.hid bw
  clear kw k4 bw LS HK0 HB0 HKW HK4 HBW
  by_cases hr : rs0 < 0
  · go_wp2
    refine bodyPost_ret (results_span (g := w.heap.size) (cs := [.int .i64 i, .int .i64 (max cs0 1), .int .i64 1]) rfl rfl rfl ?_) rfl ⟨?_, ?_⟩
    · exact (((K4.out.other _ _ (show w.heap.size ≠ w.heap.size + 1 by omega)).set 0 _).set 1 _).set 2 _
    · rw [hval.out.1, hval.out.2.1, hval.out.2.2, if_pos hr]
    · exact (((BW.out.setCell (p := ⟨w.heap.size + 1, 21, none⟩) (Nat.le_succ _) _).setCell (p := ⟨w.heap.size, 0, none⟩) (Nat.le_refl _) _).setCell (p := ⟨w.heap.size, 1, none⟩) (Nat.le_refl _) _).setCell (p := ⟨w.heap.size, 2, none⟩) (Nat.le_refl _) _
  · go_wp2
    refine bodyPost_ret (results_span (g := w.heap.size) (cs := [.int .i64 i, .int .i64 (max cs0 1), .int .i64 rs0]) rfl rfl rfl ?_) rfl ⟨?_, ?_⟩
    · exact ((K4.out.set 0 _).set 1 _).set 2 _
    · rw [hval.out.1, hval.out.2.1, hval.out.2.2, if_neg (by omega)]
    · exact ((BW.out.setCell (p := ⟨w.heap.size, 0, none⟩) (Nat.le_refl _) _).setCell (p := ⟨w.heap.size, 1, none⟩) (Nat.le_refl _) _).setCell (p := ⟨w.heap.size, 2, none⟩) (Nat.le_refl _) _
end Go.Proofs.Ytcgnldcdcbnofaa
