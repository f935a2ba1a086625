/- Contract of grid.Lay: the places of the cells of rows, for every rows and ends. -/
import Derived.Test.YtcgnldcdcbnofaaGLayP
import Derived.Test.YtcgnldcdcbnofaaGRight
import Derived.Test.YtcgnldcdcbnofaaRound
import Derived.Deep.RegionHeld3
namespace Go.Proofs.Ytcgnldcdcbnofaa
open Go.RowKit Go.Shelf
set_option linter.unusedVariables false
attribute [local go_sem] Oper.semAt_some

theorem Try.infoPl : (Try.prog.info? 52).map (fun i => (i.zero, i.size, i.bytes)) = some (some (.agg #[.int .i64 0, .int .i64 0, .int .i64 0, .int .i64 0, .int .i64 0]), 5, 40) := by kernel_rfl
/-- places, as their owner holds them -/
def OwnP (base : Nat) (X : World) (v : Value) (ps : List Pl) : Prop := X.ownsRow base 52 5 v ps.length (ps.flatMap Pl.cells)
def LayPost (rows : List (List Sp)) (ends : List Int) (w : World) (e : Ending) (W' : World) : Prop :=
  Below w.heap.size w W' ∧
    ((¬ RightQ rows ends ∧ e = .returned (.tuple #[.slice none 0 0, .int .i64 0, .int .i64 70])) ∨
     (RightQ rows ends ∧ layP rows ends = none ∧ e = .returned (.tuple #[.slice none 0 0, .int .i64 0, .int .i64 43])) ∨
     (RightQ rows ends ∧ ∃ s v', layP rows ends = some s ∧ e = .returned (.tuple #[v', .int .i64 (s.t.length : Int), .int .i64 0]) ∧ OwnP w.heap.size W' v' s.ps))
theorem results_cells3 {W : World} {g : Nat} {v : Value} {n e : Int} {tmps : Array Value} {fn : Func} (hf : fn.results = #[.cell 4 36, .cell 5 3, .cell 6 27])
    (h4 : tmps[4]? = some (.pointer (some ⟨g + 1, 0, none⟩))) (h5 : tmps[5]? = some (.pointer (some ⟨g + 1 + 1, 0, none⟩))) (h6 : tmps[6]? = some (.pointer (some ⟨g + 1 + 1 + 1, 0, none⟩)))
    (k4 : Whole W (g + 1) 36 [v]) (k5 : Whole W (g + 1 + 1) 3 [.int .i64 n]) (k6 : Whole W (g + 1 + 1 + 1) 27 [.int .i64 e]) (hv : ∃ p l c, v = .slice p l c) :
    (results fn tmps).run Try.prog W = .ok (.tuple #[v, .int .i64 n, .int .i64 e]) W := by
  obtain ⟨p, l, c, rfl⟩ := hv
  have c4 := k4.cellAt 0
  have c5 := k5.cellAt 0
  have c6 := k6.cellAt 0
  simp [results, hf, go_sem, h4, h5, h6, c4, c5, c6]
/-- the boxes of the call: the ends, and what is answered -/
structure Bx (N : Nat) (ev : Value) (X : World) : Prop where
  b0 : Whole X N 26 [ev]
  b1 : Whole X (N + 1) 36 [.slice none 0 0]
  b2 : Whole X (N + 1 + 1) 3 [.int .i64 0]
  b3 : Whole X (N + 1 + 1 + 1) 27 [.int .i64 0]
theorem Bx.new (w : World) (ev : Value) : Bx w.heap.size ev ((((w.alloc (.cells #[ev] 26)).alloc (.cells #[.slice none 0 0] 36)).alloc (.cells #[.int .i64 0] 3)).alloc (.cells #[.int .i64 0] 27)) :=
  ⟨(((whole_new w [ev] 26 _ rfl).alloc _).alloc _).alloc _, ((whole_new (w.alloc (.cells #[ev] 26)) [.slice none 0 0] 36 _ (by simp)).alloc _).alloc _,
    (whole_new ((w.alloc (.cells #[ev] 26)).alloc (.cells #[.slice none 0 0] 36)) [.int .i64 0] 3 _ (by simp)).alloc _,
    whole_new (((w.alloc (.cells #[ev] 26)).alloc (.cells #[.slice none 0 0] 36)).alloc (.cells #[.int .i64 0] 3)) [.int .i64 0] 27 _ (by simp)⟩
theorem Bx.keep {N : Nat} {ev : Value} {X Y : World} (h : Bx N ev X) (hb : ∀ k, k < N + 4 → Y.heap[k]? = X.heap[k]?) : Bx N ev Y :=
  ⟨(hb _ (by omega)).trans h.b0, (hb _ (by omega)).trans h.b1, (hb _ (by omega)).trans h.b2, (hb _ (by omega)).trans h.b3⟩
theorem Bx.below {N B : Nat} {ev : Value} {X Y : World} (h : Bx N ev X) (hb : Below B X Y) (hB : N + 4 ≤ B) : Bx N ev Y := h.keep fun k hk => hb.block k (by omega)
/-- an error is laid into the boxes -/
def errW (N : Nat) (e : Int) (X : World) : World := ((X.setCell ⟨N + 1, 0, none⟩ (.slice none 0 0)).setCell ⟨N + 1 + 1, 0, none⟩ (.int .i64 0)).setCell ⟨N + 1 + 1 + 1, 0, none⟩ (.int .i64 e)
structure BxE (N : Nat) (e : Int) (X : World) : Prop where
  b1 : Whole X (N + 1) 36 [.slice none 0 0]
  b2 : Whole X (N + 1 + 1) 3 [.int .i64 0]
  b3 : Whole X (N + 1 + 1 + 1) 27 [.int .i64 e]
theorem Bx.err {N : Nat} {ev : Value} {X : World} (h : Bx N ev X) (e : Int) : BxE N e (errW N e X) :=
  ⟨((h.b1.set 0 _).other _ _ (by first | (simp; done) | (simp; omega))).other _ _ (by first | (simp; done) | (simp; omega)), (((h.b2.other _ _ (by first | (simp; done) | (simp; omega)))).set 0 _).other _ _ (by first | (simp; done) | (simp; omega)), ((h.b3.other _ _ (by first | (simp; done) | (simp; omega))).other _ _ (by first | (simp; done) | (simp; omega))).set 0 _⟩
theorem errW_below {N : Nat} {e : Int} {w X : World} (h : Below N w X) : Below N w (errW N e X) :=
  ((h.setCell (p := ⟨N + 1, 0, none⟩) (by simp) _).setCell (p := ⟨N + 1 + 1, 0, none⟩) (show N ≤ N + 1 + 1 by omega) _).setCell (p := ⟨N + 1 + 1 + 1, 0, none⟩) (show N ≤ N + 1 + 1 + 1 by omega) _
theorem errW_kept {N : Nat} {e : Int} {X : World} : KeepsOthers X (errW N e X) := ((KeepsOthers.setCell _ _ _).trans (KeepsOthers.setCell _ _ _)).trans (KeepsOthers.setCell _ _ _)
theorem errW_res {N : Nat} {e : Int} {X : World} {tmps : Array Value} {fn : Func} (hf : fn.results = #[.cell 4 36, .cell 5 3, .cell 6 27])
    (h4 : tmps[4]? = some (.pointer (some ⟨N + 1, 0, none⟩))) (h5 : tmps[5]? = some (.pointer (some ⟨N + 1 + 1, 0, none⟩))) (h6 : tmps[6]? = some (.pointer (some ⟨N + 1 + 1 + 1, 0, none⟩)))
    (h : BxE N e X) : (results fn tmps).run Try.prog X = .ok (.tuple #[.slice none 0 0, .int .i64 0, .int .i64 e]) X :=
  results_cells3 hf h4 h5 h6 h.b1 h.b2 h.b3 ⟨_, _, _, rfl⟩
theorem BxE.kept {N : Nat} {e : Int} {X Y : World} (h : BxE N e X) (hk : CellsKept X Y) : BxE N e Y := ⟨hk _ _ h.b1 rfl, hk _ _ h.b2 rfl, hk _ _ h.b3 rfl⟩
theorem gcell {X : World} {N : Nat} {ev : Value} (h : Bx N ev X) : (X.cell? ⟨N, 0, none⟩ = some ev ∧ N < X.heap.size) ∧ (X.cell? ⟨N + 1, 0, none⟩ = some (.slice none 0 0) ∧ X.frozen? ⟨N + 1, 0, none⟩ = false ∧ N + 1 < X.heap.size) ∧
    (X.cell? ⟨N + 1 + 1, 0, none⟩ = some (.int .i64 0) ∧ X.frozen? ⟨N + 1 + 1, 0, none⟩ = false ∧ N + 1 + 1 < X.heap.size) ∧ (X.cell? ⟨N + 1 + 1 + 1, 0, none⟩ = some (.int .i64 0) ∧ X.frozen? ⟨N + 1 + 1 + 1, 0, none⟩ = false ∧ N + 1 + 1 + 1 < X.heap.size) :=
  ⟨⟨h.b0.cellAt 0, h.b0.lt⟩, ⟨h.b1.cellAt 0, h.b1.free 0, h.b1.lt⟩, ⟨h.b2.cellAt 0, h.b2.free 0, h.b2.lt⟩, ⟨h.b3.cellAt 0, h.b3.free 0, h.b3.lt⟩⟩
set_option maxHeartbeats 1000000 in
theorem lay_bad (p q : Option Addr) (m c m' c' : Nat) (w : World)
    (H : Hid (Calls Try.prog 25 #[.slice p m c, .slice q m' c'] ((((w.alloc (.cells #[.slice q m' c'] 26)).alloc (.cells #[.slice none 0 0] 36)).alloc (.cells #[.int .i64 0] 3)).alloc (.cells #[.int .i64 0] 27)) fun e W' => e = .returned (.bool false) ∧ Below (w.heap.size + 4) ((((w.alloc (.cells #[.slice q m' c'] 26)).alloc (.cells #[.slice none 0 0] 36)).alloc (.cells #[.int .i64 0] 3)).alloc (.cells #[.int .i64 0] 27)) W')) :
    Calls Try.prog 15 #[.slice p m c, .slice q m' c'] w fun e W' => e = .returned (.tuple #[.slice none 0 0, .int .i64 0, .int .i64 70]) ∧ Below w.heap.size w W' := by
  have hb := Bx.new w (.slice q m' c')
  have hB : Below w.heap.size w ((((w.alloc (.cells #[.slice q m' c'] 26)).alloc (.cells #[.slice none 0 0] 36)).alloc (.cells #[.int .i64 0] 3)).alloc (.cells #[.int .i64 0] 27)) :=
    ((((Below.refl _ w).alloc (Nat.le_refl _) _).alloc (by simp) _).alloc (by simp; omega) _).alloc (by simp; omega) _
  generalize hW0 : ((((w.alloc (.cells #[.slice q m' c'] 26)).alloc (.cells #[.slice none 0 0] 36)).alloc (.cells #[.int .i64 0] 3)).alloc (.cells #[.int .i64 0] 27)) = W0 at H hb hB
  have HB := Lib.hid (And.intro hb hB)
  obtain ⟨⟨c0, l0⟩, -, -, -⟩ := gcell hb
  clear hb hB
  refine (callsIn_wide (n := 3)).1 (callsIn_of_wp_marks Try.func15 rfl trivial (wpIn_wide.2 ?_) rfl)
  simp only [Try.ntmps15, List.size_toArray, List.length_cons, List.length_nil, Nat.reduceAdd, Nat.reduceSub, Array.replicate_succ, Array.replicate_zero, List.push_toArray, List.append_toArray, List.nil_append, List.cons_append]
  go_wp2_with (go_at_call 25; refine H.out.mono ?_; clear H; rintro e w1 ⟨rfl, hb1⟩; have K1 := Lib.hid (And.intro (HB.out.1.below hb1 (by omega)) (HB.out.2.trans (hb1.mono (by omega)))); obtain ⟨-, ⟨d1, f1, l1⟩, ⟨d2, f2, l2⟩, ⟨d3, f3, l3⟩⟩ := gcell K1.out.1; clear hb1)
  exact leaves_marks w.heap.size [] _ (Marks.nil _ _) (fun W' hck hbk => ⟨_, errW_res (N := w.heap.size) (e := 70) rfl rfl rfl rfl ((K1.out.1.err 70).kept hck), ⟨rfl, (errW_below K1.out.2).trans hbk⟩⟩)
def noPanG (Q : Exit → Act → World → Prop) : Exit → Act → World → Prop
  | .panic _, _, _ => False
  | e, a, w => Q e a w
theorem noPanG_le {Q : Exit → Act → World → Prop} (e : Exit) (a : Act) (w : World) (h : noPanG Q e a w) : Q e a w := by cases e <;> first | exact h | exact h.elim
theorem region_held_atG {P : Program} {ops : Array Oper} {Q : Exit → Act → World → Prop} {S : World → Prop} {id : Nat} {a : Act} {w : World} (hm : P.follows .mixedOrders = true)
    (h : ∀ w2 : World, w.drew = w2 → wpAnyH P .any ops (noPanG Q) S ops.size (Array.replicate ops.size false) a w2) : (Code.region id ops true).wp P Q a w :=
  (wpIn_wide (n := 0)).1 (wpIn_mono (wpIn_wide.2 (wp_region_held hm (h _ rfl))) noPanG_le)
/-- what lies in the call's memory between two rounds -/
structure LI (N M gb : Nat) (v ev : Value) (w : World) (s : LS) (vp vt : Value) (X : World) : Prop where
  bx : Bx N ev X
  k7 : Whole X M 36 [vp]
  k8 : Whole X (M + 1) 84 [vt]
  k9 : Whole X (M + 1 + 1) 52 s.last.cells
  kb : Whole X gb 25 [v]
  op : OwnP (M + 1 + 1 + 1 + 1) X vp s.ps
  ot : OwnT (M + 1 + 1 + 1 + 1) X vt s.t
  lo : Below N w X
  nm : N + 4 ≤ M
  gm : gb = M + 1 + 1 + 1
theorem LI.grown {N M gb : Nat} {v ev : Value} {w : World} {s : LS} {vp vt : Value} {X Y : World} {row : Option Nat} (h : LI N M gb v ev w s vp vt X) (hg : X.grownBy Y row) (hr : NoCells X row) (hN : N ≤ X.heap.size) (hl : ∀ k, row = some k → N ≤ k) : LI N M gb v ev w s vp vt Y :=
  ⟨⟨h.bx.b0.grown hg (h.bx.b0.ne hr), h.bx.b1.grown hg (h.bx.b1.ne hr), h.bx.b2.grown hg (h.bx.b2.ne hr), h.bx.b3.grown hg (h.bx.b3.ne hr)⟩, h.k7.grown hg (h.k7.ne hr), h.k8.grown hg (h.k8.ne hr), h.k9.grown hg (h.k9.ne hr), h.kb.grown hg (h.kb.ne hr), own_grown h.op hg hr, own_grown h.ot hg hr, h.lo.grown hg hN hl, h.nm, h.gm⟩
theorem LI.alloc {N M gb : Nat} {v ev : Value} {w : World} {s : LS} {vp vt : Value} {X : World} (h : LI N M gb v ev w s vp vt X) (o : Obj) : LI N M gb v ev w s vp vt (X.alloc o) :=
  h.grown (World.grownBy_alloc X o none) (fun _ e => by cases e) (Nat.le_of_lt h.bx.b0.lt) (fun _ e => by cases e)
theorem LI.below {N M gb : Nat} {v ev : Value} {w : World} {s : LS} {vp vt : Value} {X Y : World} (h : LI N M gb v ev w s vp vt X) (hb : Below X.heap.size X Y) : LI N M gb v ev w s vp vt Y :=
  h.grown (grown_of_below' hb) (fun _ e => by cases e) (Nat.le_of_lt h.bx.b0.lt) (fun _ e => by cases e)
theorem LI.kept {N M gb : Nat} {v ev : Value} {hv : Nat → Value} {rows : List (List Sp)} {w : World} {s s' : LS} {vp vt vp' vt' : Value} {X Y : World} (h : LI N M gb v ev w s vp vt X) (h' : LI N M gb v ev w s' vp' vt' Y) (hs : X.heap.size ≤ Y.heap.size) : KeepG (CellMem N gb v hv rows) X Y :=
  ⟨hs, fun hc => hc.keep hs (fun k hk => (h'.lo.block k hk).trans (h.lo.block k hk).symm) (Eq.trans h'.kb h.kb.symm)⟩
theorem Whole.oth {W : World} {g t : Nat} {xs : List Value} (h : Whole W g t xs) (b o : Nat) (v : Value) (hne : g ≠ b) : Whole (W.setCell ⟨b, o, none⟩ v) g t xs := h.other _ _ hne
theorem below_set_at {N : Nat} {w X : World} (h : Below N w X) (b o : Nat) (v : Value) (hb : N ≤ b) : Below N w (X.setCell ⟨b, o, none⟩ v) := h.setCell (p := ⟨b, o, none⟩) hb _
theorem own_kept_cells {X Y : World} {base b' e sz n : Nat} {v : Value} {xs : List Value} (h : X.ownsRow base e sz v n xs) (hk : CellsKept X Y) (hb' : b' ≤ base) : Y.ownsRow b' e sz v n xs := by
  refine ⟨h.1, h.2.imp id ?_⟩
  rintro ⟨g, cap, cur, rfl, hb, hg, rest⟩
  exact ⟨g, cap, cur, rfl, by omega, hk _ _ hg rfl, rest⟩
theorem own_low {X : World} {base e sz n g : Nat} {v : Value} {xs : List Value} (h : X.ownsRow base e sz v n xs) (hg : g < base) : v.ownBlock ≠ some g := fun hv => by have := (h.lt g hv).1; omega
theorem own_apart {X : World} {b1 b2 e1 e2 s1 s2 n1 n2 : Nat} {v1 v2 : Value} {xs ys : List Value} (h1 : X.ownsRow b1 e1 s1 v1 n1 xs) (h2 : X.ownsRow b2 e2 s2 v2 n2 ys) (hne : e1 ≠ e2) : v1.ownBlock = none ∨ v1.ownBlock ≠ v2.ownBlock := by
  cases hv : v1.ownBlock with
  | none => exact .inl rfl
  | some g =>
    refine .inr fun e => ?_
    obtain ⟨c1, k1⟩ := own_block_cells h1 hv
    obtain ⟨c2, k2⟩ := own_block_cells h2 e.symm
    rw [k1] at k2; cases k2; exact hne rfl
/-- a step that turns one block of cells that is none of the boxes -/
theorem LI.turn {N M gb : Nat} {v ev : Value} {w : World} {s : LS} {vp vt : Value} {X Y : World} {row : Option Nat} (h : LI N M gb v ev w s vp vt X) (hg : X.grownBy Y row) (hr : ∀ k, row = some k → M + 1 + 1 + 1 + 1 ≤ k) :
    Bx N ev Y ∧ Whole Y M 36 [vp] ∧ Whole Y (M + 1) 84 [vt] ∧ Whole Y (M + 1 + 1) 52 s.last.cells ∧ Whole Y gb 25 [v] ∧ Below N w Y := by
  have hne : ∀ g, g < M + 1 + 1 + 1 + 1 → row ≠ some g := fun g hg e => by have := hr g e; omega
  have h1 := h.nm
  have h2 := h.gm
  exact ⟨⟨h.bx.b0.grown hg (hne _ (by omega)), h.bx.b1.grown hg (hne _ (by omega)), h.bx.b2.grown hg (hne _ (by omega)), h.bx.b3.grown hg (hne _ (by omega))⟩, h.k7.grown hg (hne _ (by omega)), h.k8.grown hg (hne _ (by omega)), h.k9.grown hg (hne _ (by omega)), h.kb.grown hg (hne _ (by omega)), h.lo.grown hg (Nat.le_of_lt h.bx.b0.lt) (fun k e => by have := hr k e; omega)⟩
/-- a store into the box of the last place -/
theorem LI.set9 {N M gb : Nat} {v ev : Value} {w : World} {s : LS} {vp vt : Value} {X : World} (h : LI N M gb v ev w s vp vt X) (k : Nat) (u : Value) (p : Pl) (hp : p.cells = s.last.cells.set k u) : LI N M gb v ev w ⟨s.t, s.ps, p⟩ vp vt (X.setCell ⟨M + 1 + 1, k, none⟩ u) := by
  have h1 := h.nm
  have h2 := h.gm
  refine ⟨⟨h.bx.b0.oth _ _ _ (by omega), h.bx.b1.oth _ _ _ (by omega), h.bx.b2.oth _ _ _ (by omega), h.bx.b3.oth _ _ _ (by omega)⟩, h.k7.oth _ _ _ (by omega), h.k8.oth _ _ _ (by omega), ?_, h.kb.oth _ _ _ (by omega), own_setCell h.op (own_low h.op (by omega)), own_setCell h.ot (own_low h.ot (by omega)), below_set_at h.lo _ _ _ (by omega), h1, h2⟩
  show Whole _ _ _ p.cells
  rw [hp]
  exact h.k9.set k u
theorem LI.take {N M gb : Nat} {v ev : Value} {w : World} {s : LS} {vp vt v' : Value} {t' : List Nat} {X Y : World} (h : LI N M gb v ev w s vp vt X) (ho : OwnT (M + 1 + 1 + 1 + 1) Y v' t') (hl : Left vt X Y v') : LI N M gb v ev w ⟨t', s.ps, s.last⟩ vp v' (Y.setCell ⟨M + 1, 0, none⟩ v') := by
  have h1 := h.nm
  have h2 := h.gm
  obtain ⟨g0, g1, g2, g3, g4, g5⟩ := h.turn hl.grown (fun k e => (h.ot.lt k e).1)
  have gp : OwnP (M + 1 + 1 + 1 + 1) Y vp s.ps := World.ownsRow.kept h.op hl.grown (own_apart h.op h.ot (by decide))
  exact ⟨⟨g0.b0.oth _ _ _ (by omega), g0.b1.oth _ _ _ (by omega), g0.b2.oth _ _ _ (by omega), g0.b3.oth _ _ _ (by omega)⟩, g1.oth _ _ _ (by omega), g2.set 0 v', g3.oth _ _ _ (by omega), g4.oth _ _ _ (by omega), own_setCell gp (own_low gp (by omega)), own_setCell ho (own_low ho (by omega)), below_set_at g5 _ _ _ (by omega), h1, h2⟩
theorem flat_snoc (ps : List Pl) (p : Pl) : (ps ++ [p]).flatMap Pl.cells = ps.flatMap Pl.cells ++ p.cells := by simp
theorem LI.put {N M gb : Nat} {v ev : Value} {w : World} {s : LS} {vp vt v' : Value} {p : Pl} {X Y : World} {o : Obj} (h : LI N M gb v ev w s vp vt X) (ho : Y.ownsRow (M + 1 + 1 + 1 + 1) 52 5 v' (s.ps.length + 1) (s.ps.flatMap Pl.cells ++ p.cells)) (hg : (X.alloc o).grownBy Y vp.ownBlock) : LI N M gb v ev w ⟨s.t, s.ps ++ [p], s.last⟩ v' vt (Y.setCell ⟨M, 0, none⟩ v') := by
  have h1 := h.nm
  have h2 := h.gm
  have h' := h.alloc o
  obtain ⟨g0, g1, g2, g3, g4, g5⟩ := h'.turn hg (fun k e => (h'.op.lt k e).1)
  have gt : OwnT (M + 1 + 1 + 1 + 1) Y vt s.t := World.ownsRow.kept h'.ot hg (own_apart h'.ot h'.op (by decide))
  have gp : OwnP (M + 1 + 1 + 1 + 1) Y v' (s.ps ++ [p]) := by unfold OwnP; rw [flat_snoc, List.length_append]; exact ho
  exact ⟨⟨g0.b0.oth _ _ _ (by omega), g0.b1.oth _ _ _ (by omega), g0.b2.oth _ _ _ (by omega), g0.b3.oth _ _ _ (by omega)⟩, g1.set 0 v', g2.oth _ _ _ (by omega), g3.oth _ _ _ (by omega), g4.oth _ _ _ (by omega), own_setCell gp (own_low gp (by omega)), own_setCell gt (own_low gt (by omega)), below_set_at g5 _ _ _ (by omega), h1, h2⟩
def LInv (N M gb : Nat) (v ev : Value) (ends : List Int) (w : World) (pre : List (Nat × Sp)) (X : World) : Prop := ∃ s vp vt, runP ends pre LS.zero = some s ∧ LI N M gb v ev w s vp vt X
def LX (N : Nat) (none : Prop) (w : World) (c : Code) (pre : List (Nat × Sp)) (X : World) : Prop := c = .ret ∧ none ∧ BxE N 43 X ∧ Below N w X
theorem LInv.own (N M gb : Nat) (v ev : Value) (ends : List Int) (w : World) (K : Nat) (h1 : N ≤ w.heap.size) (h2 : N ≤ K) : OwnFrom K (LInv N M gb v ev ends w) := fun pre X Y row ⟨s, vp, vt, hr, h⟩ hg hrow =>
  ⟨s, vp, vt, hr, h.grown hg (fun r e => (hrow r e).2) (Nat.le_trans h1 h.lo.size) (fun k e => Nat.le_trans h2 (hrow k e).1)⟩
theorem LX.own (N : Nat) (none : Prop) (w : World) (K : Nat) (h1 : N ≤ w.heap.size) (h2 : N ≤ K) (c : Code) : OwnFrom K (LX N none w c) := fun pre X Y row ⟨hc, hn, hb, hlo⟩ hg hr =>
  ⟨hc, hn, ⟨hb.b1.grown hg (hb.b1.ne fun r e => (hr r e).2), hb.b2.grown hg (hb.b2.ne fun r e => (hr r e).2), hb.b3.grown hg (hb.b3.ne fun r e => (hr r e).2)⟩, (ownFrom_below (β := Unit) h1 h2) () X Y row hlo hg hr⟩
set_option maxRecDepth 100000 in
set_option maxHeartbeats 4000000 in
theorem lay_main (p q : Option Addr) (m c c' : Nat) (hv : Nat → Value) (rows : List (List Sp)) (ends : List Int) (w : World) (hQ : RightQ rows ends) (hl : rows.length = m) (hR : RowsIn w.heap.size w (.slice p m c) hv rows) (hE : Ints w (.slice q m c') ends) (hn : (cellsF 0 rows).length ≤ 1000000)
    (H : Hid (Calls Try.prog 25 #[.slice p m c, .slice q m c'] ((((w.alloc (.cells #[.slice q m c'] 26)).alloc (.cells #[.slice none 0 0] 36)).alloc (.cells #[.int .i64 0] 3)).alloc (.cells #[.int .i64 0] 27)) fun e W' => e = .returned (.bool true) ∧ Below (w.heap.size + 4) ((((w.alloc (.cells #[.slice q m c'] 26)).alloc (.cells #[.slice none 0 0] 36)).alloc (.cells #[.int .i64 0] 3)).alloc (.cells #[.int .i64 0] 27)) W')) :
    Calls Try.prog 15 #[.slice p m c, .slice q m c'] w (LayPost rows ends w) := by
  have HR := Lib.hid hR
  have HE := Lib.hid hE
  have HL := Lib.hid hl
  have HQ := Lib.hid hQ
  have HN := Lib.hid hn
  have hb := Bx.new w (.slice q m c')
  have hB : Below w.heap.size w ((((w.alloc (.cells #[.slice q m c'] 26)).alloc (.cells #[.slice none 0 0] 36)).alloc (.cells #[.int .i64 0] 3)).alloc (.cells #[.int .i64 0] 27)) :=
    ((((Below.refl _ w).alloc (Nat.le_refl _) _).alloc (by simp) _).alloc (by simp; omega) _).alloc (by simp; omega) _
  generalize hW0 : ((((w.alloc (.cells #[.slice q m c'] 26)).alloc (.cells #[.slice none 0 0] 36)).alloc (.cells #[.int .i64 0] 3)).alloc (.cells #[.int .i64 0] 27)) = W0 at H hb hB
  have HB := Lib.hid (And.intro hb hB)
  obtain ⟨⟨c0, l0⟩, -, -, -⟩ := gcell hb
  clear hb hB hR hE hl hQ hn
  refine (callsIn_wide (n := 3)).1 (callsIn_of_wp_marks Try.func15 rfl trivial (wpIn_wide.2 ?_) rfl)
  simp only [Try.ntmps15, List.size_toArray, List.length_cons, List.length_nil, Nat.reduceAdd, Nat.reduceSub, Array.replicate_succ, Array.replicate_zero, List.push_toArray, List.append_toArray, List.nil_append, List.cons_append]
  go_wp2_with (first
    | (go_at_call 25; refine H.out.mono ?_; clear H; rintro e w1 ⟨rfl, hb1⟩; have K1 := Lib.hid (And.intro (HB.out.1.below hb1 (by omega)) (HB.out.2.trans (hb1.mono (by omega)))); clear hb1)
    | (go_at_call 26; refine (gcellsF_any _ _ _ _).mono ?_; rintro e w' ⟨rfl, rfl⟩))
  obtain ⟨W2, hW2⟩ : ∃ W2, (((w1.alloc (.cells #[.slice none 0 0] 36)).alloc (.cells #[.slice none 0 0] 84)).alloc (.cells #[.int .i64 0, .int .i64 0, .int .i64 0, .int .i64 0, .int .i64 0] 52)).alloc (.cells #[.slice p m c] 25) = W2 := ⟨_, rfl⟩
  have hsz2 : W2.heap.size = w1.heap.size + 4 := by rw [← hW2]; simp
  have hLI : LI w.heap.size w1.heap.size (w1.heap.size + 1 + 1 + 1) (.slice p m c) (.slice q m c') w LS.zero (.slice none 0 0) (.slice none 0 0) W2 := by
    have b2 : Below w1.heap.size w1 W2 := by rw [← hW2]; exact ((((Below.refl _ w1).alloc (Nat.le_refl _) _).alloc (by simp) _).alloc (by simp; omega) _).alloc (by simp; omega) _
    refine ⟨K1.out.1.below b2 K1.out.1.b3.lt, ?_, ?_, ?_, ?_, World.ownsRow_nil _ _ _ _, World.ownsRow_nil _ _ _ _, K1.out.2.trans (b2.mono K1.out.2.size), by have := K1.out.1.b3.lt; omega, rfl⟩
    · rw [← hW2]; exact (((whole_new w1 [.slice none 0 0] 36 _ rfl).alloc _).alloc _).alloc _
    · rw [← hW2]; exact ((whole_new (w1.alloc (.cells #[.slice none 0 0] 36)) [.slice none 0 0] 84 _ (by simp)).alloc _).alloc _
    · rw [← hW2]; exact (whole_new ((w1.alloc (.cells #[.slice none 0 0] 36)).alloc (.cells #[.slice none 0 0] 84)) LS.zero.last.cells 52 _ (by simp)).alloc _
    · rw [← hW2]; exact whole_new (((w1.alloc (.cells #[.slice none 0 0] 36)).alloc (.cells #[.slice none 0 0] 84)).alloc (.cells #[.int .i64 0, .int .i64 0, .int .i64 0, .int .i64 0, .int .i64 0] 52)) [.slice p m c] 25 _ (by simp)
  have hcm : CellMem w.heap.size (w1.heap.size + 1 + 1 + 1) (.slice p m c) hv rows W2 := ⟨hLI.lo.size, by omega, hLI.kb.cellAt 0, HR.out.below hLI.lo⟩
  have HLI := Lib.hid hLI
  have HCM := Lib.hid hcm
  have hw1 := K1.out.2.size
  rw [hW2]
  clear hW2 hLI hcm hW0 HB c0 l0
  refine (wpIn_wide (n := 3)).1 (range_next (F := Fence.wide) rfl (by omega) (gf := 45) (lb := #[.pointer (some ⟨w1.heap.size + 1 + 1 + 1, 0, none⟩)]) rfl trivial (enters_of Try.func45 (by kernel_rfl) rfl)
    (Kp := KeepG (CellMem w.heap.size (w1.heap.size + 1 + 1 + 1) (.slice p m c) hv rows)) (fun _ _ _ h k => h.trans k) (fun W l o h1 h2 => ⟨by simp, fun h => h.keep (by simp) (fun k hk => World.putObj_heap_other (by omega)) (World.putObj_heap_other (by omega))⟩) (gcells_next _ (by omega) w.heap.size (w1.heap.size + 1 + 1 + 1) _ hv rows W2 HCM.out) (fun _ => rfl)
    (LInv w.heap.size w1.heap.size (w1.heap.size + 1 + 1 + 1) (.slice p m c) (.slice q m c') ends w) (LX w.heap.size (layP rows ends = none) w) (LInv.own _ _ _ _ _ _ _ _ (Nat.le_refl _) (by omega)) (fun c => LX.own _ _ _ _ (Nat.le_refl _) (by omega) c)
    ⟨LS.zero, _, _, rfl, HLI.out⟩ ?round ?done ?stop)
  case round =>
    rintro l pre x V hl ⟨s, vp, vt, hrun, hLI⟩ ⟨rest, hnx⟩
    obtain ⟨i, ⟨x1, x2, x3⟩⟩ := x
    have hmem : (i, (⟨x1, x2, x3⟩ : Sp)) ∈ cellsF 0 rows := by rw [hnx]; simp
    have him : i < m := by have := cellsF_row 0 rows _ hmem; have := HL.out; dsimp only at *; omega
    have hpl : pre.length < 1000000 := by have := congrArg List.length hnx; have := HN.out; simp at *; omega
    have hokc := HQ.out.cells _ hmem
    dsimp only [okC] at hokc
    rw [within_one, within_one] at hokc
    simp only [Bool.and_eq_true, decide_eq_true_eq] at hokc
    obtain ⟨⟨hx2, hx2'⟩, hx3, hx3'⟩ := hokc
    obtain ⟨xc, rfl⟩ : ∃ xc : Nat, x2 = (xc : Int) := ⟨x2.toNat, by omega⟩
    obtain ⟨ee, hee⟩ : ∃ ee, ends[i]? = some ee := ⟨_, List.getElem?_eq_getElem (by rw [HQ.out.len, HL.out]; exact him)⟩
    have hoke := HQ.out.ends i ee hee
    unfold okE at hoke
    rw [within_one] at hoke
    simp only [Bool.and_eq_true, decide_eq_true_eq] at hoke
    obtain ⟨en, rfl⟩ : ∃ en : Nat, ee = (en : Int) := ⟨ee.toNat, by omega⟩
    have hin : i + 1 ≤ en := by omega
    have hem : en ≤ m := by have := HL.out; omega
    have hmm : m ≤ 65536 := by have := HQ.out.many; rw [HL.out] at this; exact this
    have hend : endP ends i = en := by unfold endP; rw [hee]; rfl
    obtain ⟨hok, hpsl⟩ := runP_okay ends pre _ s Okay.zero hrun
    have HRUN := Lib.hid hrun
    have HNX := Lib.hid hnx
    obtain ⟨eb, eo, rfl, cee, leb⟩ : ∃ eb eo, q = some ⟨eb, eo, none⟩ ∧ w.cell? ⟨eb, eo + i, none⟩ = some (.int .i64 (en : Int)) ∧ eb < w.heap.size := by
      obtain ⟨_, ⟨_, _, _, h0⟩ | ⟨b, off, c2, h1, hce⟩⟩ := HE.out
      · rw [h0] at hee; simp at hee
      · injection h1 with h1 h2 h3
        have := hce i (by rw [← h2]; exact him)
        rw [hee] at this
        exact ⟨b, off, h1, this, cell_lt this⟩
    clear hmem hnx hrun hoke hee
    apply Exists.intro
    apply Exists.intro
    refine ⟨?_, ?_, ?_, ?_⟩
    · intro K hK
      dsimp only [encC]
      gi_wp2
      exact hK
    · exact (KeepsOthers.alloc V _).from _
    · exact ⟨by simp, fun h => h.below ((Below.refl _ V).alloc (Nat.le_refl _) _)⟩
    · intro V₂ hgV hnc' hbl
      have kc : Whole V₂ V.heap.size 48 [.int .i64 x1, .int .i64 (xc : Int), .int .i64 x3] := Whole.grown (whole_new V [.int .i64 x1, .int .i64 (xc : Int), .int .i64 x3] 48 _ rfl) hgV (Whole.ne (whole_new V [.int .i64 x1, .int .i64 (xc : Int), .int .i64 x3] 48 _ rfl) hnc')
      have hLI2 := (hLI.alloc (.cells #[.int .i64 x1, .int .i64 (xc : Int), .int .i64 x3] 48)).grown hgV hnc' (by have := hLI.lo.size; simp; omega) (fun k e => by cases e; omega)
      have hCB : w1.heap.size + 1 + 1 + 1 < V.heap.size := hLI.kb.lt
      clear hLI hgV hnc' hbl
      generalize V.heap.size = CB at kc hCB ⊢
      obtain ⟨t, ps, ⟨ln, lr, lc, lh, lw⟩⟩ := s
      by_cases hrow : i = lr
      · have hfrom : fromP ⟨t, ps, ⟨ln, lr, lc, lh, lw⟩⟩ i = lc + lw := by unfold fromP; rw [if_pos hrow]
        have hd : ((i : Int) == (lr : Int)) = true := by simp; omega
        have hfv : Value.int .i64 ((lc : Int) + (lw : Int)) = Value.int .i64 ((lc + lw : Nat) : Int) := by rw [show ((lc + lw : Nat) : Int) = (lc : Int) + (lw : Int) by omega]
        have hfl : (lc + lw) ≤ t.length := by have := hok.from _ i; rw [hfrom] at this; exact this
        have htl : t.length ≤ 10000 := hok.few
        have hll : lc + lw ≤ t.length := hok.last
        have hpsn : ps.length ≤ 1000000 := by have : ps.length = 0 + pre.length := hpsl; omega
        have r1 : V₂.cell? ⟨w1.heap.size + 1 + 1, 1, none⟩ = some (.int .i64 (lr : Int)) := hLI2.k9.cellAt 1
        have r2 : V₂.cell? ⟨w1.heap.size + 1 + 1, 2, none⟩ = some (.int .i64 (lc : Int)) := hLI2.k9.cellAt 2
        have r4 : V₂.cell? ⟨w1.heap.size + 1 + 1, 4, none⟩ = some (.int .i64 (lw : Int)) := hLI2.k9.cellAt 4
        have lr9 := hLI2.k9.lt
        have z0 := kc.cellAt 0
        have z1 := kc.cellAt 1
        have z2 := kc.cellAt 2
        have lcb := kc.lt
        obtain ⟨⟨e0, le0⟩, -, -, -⟩ := gcell hLI2.bx
        have ce2 := (hLI2.lo.cell (p := ⟨eb, eo + i, none⟩) leb).trans cee
        have leb2 : eb < V₂.heap.size := by have := hLI2.lo.size; omega
        have HKC := Lib.hid kc
        have HOK := Lib.hid hok
        have HFV := Lib.hid hfv
        have HFR := Lib.hid hfrom
        have hlo2 := hLI2.lo.size
        have CEE := Lib.hid cee
        obtain ⟨p0, c0, rfl⟩ := OwnT.form hLI2.ot
        obtain ⟨pp, pn, pc, rfl⟩ := own_slice hLI2.op
        have HLI2 := Lib.hid hLI2
        clear hLI2 kc hok hfv hfrom hpsl hrow cee
        gi_wp2
        refine wpIn_round_held (S := fun X => X.cell? ⟨CB, 0, none⟩ = some (.int .i64 x1) ∧ X.cell? ⟨CB, 1, none⟩ = some (.int .i64 (xc : Int)) ∧ X.cell? ⟨CB, 2, none⟩ = some (.int .i64 x3) ∧ X.cell? ⟨w.heap.size, 0, none⟩ = some (.slice (some ⟨eb, eo, none⟩) m c') ∧ X.cell? ⟨eb, eo + i, none⟩ = some (.int .i64 (en : Int))) (by kernel_rfl) (by kernel_rfl) ?_ ?_
        · rintro ⟨x, y, h⟩; exact h
        obtain ⟨V3, hV3⟩ : ∃ V3, V₂.drew = V3 := ⟨_, rfl⟩
        have SV : Hid (Below V₂.heap.size V₂ V3) := Lib.hid (by rw [← hV3]; exact below_dn _ V₂ 1)
        have sV3 : V3.heap.size ≤ V₂.heap.size ∧ V₂.heap.size ≤ V3.heap.size := by rw [← hV3]; exact ⟨Nat.le_refl _, Nat.le_refl _⟩
        have HS : Hid (∀ U : World, Below V3.heap.size V3 U → U.cell? ⟨CB, 0, none⟩ = some (.int .i64 x1) ∧ U.cell? ⟨CB, 1, none⟩ = some (.int .i64 (xc : Int)) ∧ U.cell? ⟨CB, 2, none⟩ = some (.int .i64 x3) ∧ U.cell? ⟨w.heap.size, 0, none⟩ = some (.slice (some ⟨eb, eo, none⟩) m c') ∧ U.cell? ⟨eb, eo + i, none⟩ = some (.int .i64 (en : Int))) := Lib.hid fun U hU => by
          have hb : Below V₂.heap.size V₂ U := SV.out.trans (hU.mono (by omega))
          exact ⟨(hb.cell (p := ⟨CB, 0, none⟩) lcb).trans z0, (hb.cell (p := ⟨CB, 1, none⟩) lcb).trans z1, (hb.cell (p := ⟨CB, 2, none⟩) lcb).trans z2, (hb.cell (p := ⟨w.heap.size, 0, none⟩) le0).trans e0, (hb.cell (p := ⟨eb, eo + i, none⟩) leb2).trans ce2⟩
        have hS3 := HS.out V3 (Below.refl _ _)
        rw [hV3]
        clear hV3 z0 z1 z2 e0 ce2 r1 r2 r4
        refine wpAnyH_take (i := 0) (v := .pointer (some ⟨CB, 0, none⟩)) rfl (by kernel_rfl) (by kernel_rfl) (by kernel_rfl) (fun _ _ _ h => h) (Or.inl ⟨by rfl, ?_⟩) hS3 ?_
        · intro X hX; obtain ⟨g0, g1, g2, g3, g4⟩ := hX; go_simp
        refine wpAnyH_take (i := 1) (v := .int .i64 x1) rfl (by kernel_rfl) (by kernel_rfl) (by kernel_rfl) (fun _ _ _ h => h) (Or.inl ⟨by rfl, ?_⟩) hS3 ?_
        · intro X hX; obtain ⟨g0, g1, g2, g3, g4⟩ := hX; go_simp
        refine wpAnyH_take (i := 2) (v := .int .i64 i) rfl (by kernel_rfl) (by kernel_rfl) (by kernel_rfl) (fun _ _ _ h => h) (Or.inl ⟨by rfl, ?_⟩) hS3 ?_
        · intro X hX; go_simp
        refine wpAnyH_take (i := 3) (v := .agg #[.int .i64 x1, .int .i64 (xc : Int), .int .i64 x3]) rfl (by kernel_rfl) (by kernel_rfl) (by kernel_rfl) (fun _ _ _ h => h) (Or.inl ⟨by rfl, ?_⟩) hS3 ?_
        · intro X hX; obtain ⟨g0, g1, g2, g3, g4⟩ := hX; go_simp
        refine wpAnyH_take (i := 4) (v := .slice (some ⟨eb, eo, none⟩) m c') rfl (by kernel_rfl) (by kernel_rfl) (by kernel_rfl) (fun _ _ _ h => h) (Or.inl ⟨by rfl, ?_⟩) hS3 ?_
        · intro X hX; obtain ⟨g0, g1, g2, g3, g4⟩ := hX; go_simp
        refine wpAnyH_take (i := 5) (v := .int .i64 i) rfl (by kernel_rfl) (by kernel_rfl) (by kernel_rfl) (fun _ _ _ h => h) (Or.inl ⟨by rfl, ?_⟩) hS3 ?_
        · intro X hX; go_simp
        refine wpAnyH_take (i := 6) (v := .pointer (some ⟨eb, eo + i, none⟩)) rfl (by kernel_rfl) (by kernel_rfl) (by kernel_rfl) (fun _ _ _ h => h) (Or.inl ⟨by rfl, ?_⟩) hS3 ?_
        · intro X hX; go_simp
        refine wpAnyH_take (i := 7) (v := .int .i64 (en : Int)) rfl (by kernel_rfl) (by kernel_rfl) (by kernel_rfl) (fun _ _ _ h => h) (Or.inl ⟨by rfl, ?_⟩) hS3 ?_
        · intro X hX; obtain ⟨g0, g1, g2, g3, g4⟩ := hX; go_simp
        refine wpAnyH_take (i := 8) (v := .int .i64 i) rfl (by kernel_rfl) (by kernel_rfl) (by kernel_rfl) (fun _ _ _ h => h) (Or.inl ⟨by rfl, ?_⟩) hS3 ?_
        · intro X hX; go_simp
        refine wpAnyH_take (i := 9) (v := .int .i64 ((en : Int) - (i : Int))) rfl (by kernel_rfl) (by kernel_rfl) (by kernel_rfl) (fun _ _ _ h => h) (Or.inl ⟨by rfl, ?_⟩) hS3 ?_
        · intro X hX; go_simp; exact IntWalk.i64_in _ (by omega)
        have HHI := Lib.hid (high_any x1 (xc : Int) x3 (en - i) V3 hx3)
        rw [show ((en - i : Nat) : Int) = (en : Int) - (i : Int) by omega] at HHI
        refine wpAnyH_all (rs := [10]) (by kernel_rfl) (by simp) ?_
        intro i2 hi2; obtain rfl : i2 = 10 := by simpa using hi2
        refine wpOp_step rfl (fun K hK => ?_)
        go_simp
        refine HHI.out.mono ?_
        rintro e w4 ⟨rfl, hb4⟩
        refine hK _ _ ⟨HS.out w4 hb4, ?_⟩
        clear hK K hi2 HHI
        obtain ⟨hh, hhh⟩ : ∃ hh, highF x3 (en - i) = hh := ⟨_, rfl⟩
        rw [hhh]
        have HHH := Lib.hid hhh
        have HLI4 := Lib.hid (HLI2.out.below (SV.out.trans (hb4.mono (by omega))))
        have hS4 := HS.out w4 hb4
        have f9 := HLI4.out.k9
        have HB4 := Lib.hid (SV.out.trans (hb4.mono (by omega)))
        have s4 : V₂.heap.size ≤ w4.heap.size := HB4.out.size
        clear hhh hb4 HS
        refine wpAnyH_all (rs := [11]) (by kernel_rfl) (by simp) ?_
        intro i2 hi2; obtain rfl : i2 = 11 := by simpa using hi2
        refine wpOp_step rfl (fun K hK => ?_)
        go_simp
        refine hK _ _ ⟨hS4, ?_⟩
        clear hK K hi2
        refine wpAnyH_all (rs := [12]) (by kernel_rfl) (by simp) ?_
        intro i2 hi2; obtain rfl : i2 = 12 := by simpa using hi2
        refine wpOp_step rfl (fun K hK => ?_)
        have y0 : w4.cell? ⟨w1.heap.size + 1 + 1, 0, none⟩ = some (.int .i64 ln) := f9.cellAt 0
        have y1 : w4.cell? ⟨w1.heap.size + 1 + 1, 1, none⟩ = some (.int .i64 (lr : Int)) := f9.cellAt 1
        have y2 : w4.cell? ⟨w1.heap.size + 1 + 1, 2, none⟩ = some (.int .i64 (lc : Int)) := f9.cellAt 2
        have y3 : w4.cell? ⟨w1.heap.size + 1 + 1, 3, none⟩ = some (.int .i64 (lh : Int)) := f9.cellAt 3
        have y4 : w4.cell? ⟨w1.heap.size + 1 + 1, 4, none⟩ = some (.int .i64 (lw : Int)) := f9.cellAt 4
        have v0 := f9.free 0
        have v1 := f9.free 1
        have v2 := f9.free 2
        have v3 := f9.free 3
        have v4 := f9.free 4
        go_simp
        obtain ⟨W5, hW5⟩ : ∃ W5, (((((w4.setCell ⟨w1.heap.size + 1 + 1, 0, none⟩ (.int .i64 x1)).setCell ⟨w1.heap.size + 1 + 1, 1, none⟩ (.int .i64 (i : Int))).setCell ⟨w1.heap.size + 1 + 1, 2, none⟩ (.int .i64 0)).setCell ⟨w1.heap.size + 1 + 1, 3, none⟩ (.int .i64 (hh : Int))).setCell ⟨w1.heap.size + 1 + 1, 4, none⟩ (.int .i64 0)) = W5 := ⟨_, rfl⟩
        have hL5 : LI w.heap.size w1.heap.size (w1.heap.size + 1 + 1 + 1) (.slice p m c) (.slice (some ⟨eb, eo, none⟩) m c') w ⟨t, ps, ⟨x1, i, 0, hh, 0⟩⟩ (.slice pp pn pc) (.slice p0 t.length c0) W5 :=
          hW5 ▸ ((((HLI4.out.set9 0 (.int .i64 x1) ⟨x1, lr, lc, lh, lw⟩ rfl).set9 1 (.int .i64 (i : Int)) ⟨x1, i, lc, lh, lw⟩ rfl).set9 2 (.int .i64 0) ⟨x1, i, 0, lh, lw⟩ rfl).set9 3 (.int .i64 (hh : Int)) ⟨x1, i, 0, hh, lw⟩ rfl).set9 4 (.int .i64 0) ⟨x1, i, 0, hh, 0⟩ rfl
        have hk5 : Whole W5 CB 48 [.int .i64 x1, .int .i64 (xc : Int), .int .i64 x3] :=
          hW5 ▸ (((((HKC.out.below HB4.out lcb).oth _ _ _ (by omega)).oth _ _ _ (by omega)).oth _ _ _ (by omega)).oth _ _ _ (by omega)).oth _ _ _ (by omega)
        have hko5 : KeepsOthers V₂ W5 := hW5 ▸ (((((kept_below HB4.out).trans (KeepsOthers.setCell _ _ _)).trans (KeepsOthers.setCell _ _ _)).trans (KeepsOthers.setCell _ _ _)).trans (KeepsOthers.setCell _ _ _)).trans (KeepsOthers.setCell _ _ _)
        have hS5 : W5.cell? ⟨CB, 0, none⟩ = some (.int .i64 x1) ∧ W5.cell? ⟨CB, 1, none⟩ = some (.int .i64 (xc : Int)) ∧ W5.cell? ⟨CB, 2, none⟩ = some (.int .i64 x3) ∧ W5.cell? ⟨w.heap.size, 0, none⟩ = some (.slice (some ⟨eb, eo, none⟩) m c') ∧ W5.cell? ⟨eb, eo + i, none⟩ = some (.int .i64 (en : Int)) :=
          ⟨hk5.cellAt 0, hk5.cellAt 1, hk5.cellAt 2, hL5.bx.b0.cellAt 0, (hL5.lo.cell (p := ⟨eb, eo + i, none⟩) leb).trans CEE.out⟩
        rw [hW5]
        refine hK _ _ ⟨hS5, ?_⟩
        clear hK K hi2 y0 y1 y2 y3 y4 v0 v1 v2 v3 v4 hS5 hS4 f9 hS3
        refine wpAnyH_done (by kernel_rfl) ?_ _
        clear hW5
        obtain ⟨cc, hcc⟩ : ∃ cc, firstF t i (lc + lw) = cc := ⟨_, rfl⟩
        obtain ⟨wd, hwd⟩ : ∃ wd, wideF t i cc xc = wd := ⟨_, rfl⟩
        have HG : Hid (Calls Try.prog 28 #[.slice p0 t.length c0, .int .i64 i, (.int .i64 ((lc : Int) + (lw : Int))), .int .i64 xc] W5 fun e w' => e = .returned (.tuple #[.int .i64 (cc : Int), .int .i64 (wd : Int)]) ∧ W5 = w') := Lib.hid (by
          rw [HFV.out]
          have := gap_at p0 t.length c0 t i (lc + lw) xc W5 rfl (by omega) hfl (by omega) (by omega) (hL5.ot.ints (by omega : t.length ≤ 1000000))
          rw [hcc, hwd] at this
          exact this)
        have hccl : cc ≤ t.length := by rw [← hcc]; exact firstF_le _ _ _ hfl
        have hwdl : wd ≤ xc := by rw [← hwd]; exact (wideF_spec _ _ _ _).1
        have hhl : hh ≤ 65536 := by
          have := HHH.out
          unfold highF at this
          split at this <;> omega
        obtain ⟨T2, hT2⟩ : ∃ T2, takeN t cc (i + hh) wd = T2 := ⟨_, rfl⟩
        have HSTEP : Hid (stepP ends ⟨t, ps, ⟨ln, lr, lc, lh, lw⟩⟩ (i, ⟨x1, (xc : Int), x3⟩) = ⟨T2, ps ++ [⟨x1, i, cc, hh, wd⟩], ⟨x1, i, cc, hh, wd⟩⟩) := Lib.hid (by
          have hp : placeP ends ⟨t, ps, ⟨ln, lr, lc, lh, lw⟩⟩ (i, ⟨x1, (xc : Int), x3⟩) = ⟨x1, i, cc, hh, wd⟩ := by
            unfold placeP
            dsimp only
            rw [HFR.out, hend, HHH.out, Int.toNat_natCast, hcc, hwd]
          unfold stepP
          rw [hp]
          dsimp only
          rw [hT2])
        have hL6 := (hL5.set9 2 (.int .i64 (cc : Int)) ⟨x1, i, cc, hh, 0⟩ rfl).set9 4 (.int .i64 (wd : Int)) ⟨x1, i, cc, hh, wd⟩ rfl
        dsimp only at hL6
        have hko6 : KeepsOthers V₂ ((W5.setCell ⟨w1.heap.size + 1 + 1, 2, none⟩ (.int .i64 (cc : Int))).setCell ⟨w1.heap.size + 1 + 1, 4, none⟩ (.int .i64 (wd : Int))) := (hko5.trans (KeepsOthers.setCell _ _ _)).trans (KeepsOthers.setCell _ _ _)
        have HT2 := Lib.hid hT2
        have HL6 := Lib.hid hL6
        have HK6 := Lib.hid hko6
        have a0 : W5.cell? ⟨w1.heap.size + 1 + 1, 0, none⟩ = some (.int .i64 x1) := hL5.k9.cellAt 0
        have a1 : W5.cell? ⟨w1.heap.size + 1 + 1, 1, none⟩ = some (.int .i64 (i : Int)) := hL5.k9.cellAt 1
        have a2 : W5.cell? ⟨w1.heap.size + 1 + 1, 2, none⟩ = some (.int .i64 0) := hL5.k9.cellAt 2
        have a3 : W5.cell? ⟨w1.heap.size + 1 + 1, 3, none⟩ = some (.int .i64 (hh : Int)) := hL5.k9.cellAt 3
        have a4 : W5.cell? ⟨w1.heap.size + 1 + 1, 4, none⟩ = some (.int .i64 0) := hL5.k9.cellAt 4
        have b2 := hL5.k9.free 2
        have b4 := hL5.k9.free 4
        have la := hL5.k9.lt
        have d8 : W5.cell? ⟨w1.heap.size + 1, 0, none⟩ = some (.slice p0 t.length c0) := hL5.k8.cellAt 0
        have l8 := hL5.k8.lt
        have z1 : W5.cell? ⟨CB, 1, none⟩ = some (.int .i64 (xc : Int)) := hk5.cellAt 1
        have lz := hk5.lt
        have hne2 : CB ≠ w1.heap.size + 1 + 1 := by omega
        clear hL5 hk5 hko5 hL6 hko6 hcc hwd hT2 HHH HFV HFR hend
        gi_wp2_with (refine ⟨trivial, ?_⟩; gi_at_call 28; refine (CallsIn.inRound l (callsIn_wide.2 HG.out)).mono ?_; clear HG; rintro e w' ⟨rfl, rfl⟩)
        refine ⟨trivial, (CallsIn.inRound l (callsIn_wide.2 (take_at (w1.heap.size + 1 + 1 + 1 + 1) (.slice p0 t.length c0) t x1 i cc hh wd _ ?_ HL6.out.ot hccl (by omega) (by omega) (by omega) (by omega)))).mono ?_⟩
        · have := HL6.out.kb.lt; have h2 := HL6.out.gm; omega
        rintro e w7 ⟨v7, rfl, ho7, hl7⟩
        rw [HT2.out] at ho7
        obtain ⟨p7, c7, rfl⟩ := OwnT.form ho7
        obtain ⟨n2, hn2⟩ : ∃ n2, T2.length = n2 := ⟨_, rfl⟩
        have hL8 := HL6.out.take ho7 hl7
        have hko7 := HK6.out.trans (own_keeps HL6.out.ot hl7.grown)
        obtain ⟨-, -, k87, -, -, -⟩ := HL6.out.turn hl7.grown (fun k e => (HL6.out.ot.lt k e).1)
        rw [hn2] at hL8 ⊢
        obtain ⟨W8, hW8⟩ : ∃ W8, w7.setCell ⟨w1.heap.size + 1, 0, none⟩ (.slice p7 n2 c7) = W8 := ⟨_, rfl⟩
        rw [hW8] at hL8
        have hko8 : KeepsOthers V₂ W8 := hW8 ▸ hko7.trans (KeepsOthers.setCell _ _ _)
        have f87 := k87.free 0
        have c87 := k87.cellAt 0
        have l87 := k87.lt
        have c88 : W8.cell? ⟨w1.heap.size + 1, 0, none⟩ = some (.slice p7 n2 c7) := hL8.k8.cellAt 0
        have l88 := hL8.k8.lt
        have HN2 := Lib.hid hn2
        have HK8 := Lib.hid hko8
        have HL8 := Lib.hid hL8
        clear ho7 hl7 hL8 hko7 hko8 hn2 k87 HL6 HK6 a0 a1 a2 a3 a4 b2 b4 la d8 l8 z1 lz
        by_cases hbig : 10000 < n2
        · obtain ⟨-, ⟨d1, f1, l1⟩, ⟨d2, f2, l2⟩, ⟨d3, f3, l3⟩⟩ := gcell HL8.out.bx
          have hnone : Hid (layP rows ends = none) := Lib.hid (by
            unfold layP
            rw [HNX.out, List.append_cons]
            refine runP_more _ _ _ _ ?_
            rw [runP_snoc _ _ _ _ _ HRUN.out, HSTEP.out, if_pos (by dsimp only; rw [HN2.out]; exact hbig)])
          gi_wp2
          exact ⟨(HK8.out.trans errW_kept).from _, rfl, hnone.out, HL8.out.bx.err 43, errW_below HL8.out.lo⟩
        · have hrun8 : Hid (runP ends (pre ++ [(i, (⟨x1, (xc : Int), x3⟩ : Sp))]) LS.zero = some ⟨T2, ps ++ [⟨x1, i, cc, hh, wd⟩], ⟨x1, i, cc, hh, wd⟩⟩) := Lib.hid (by
            rw [runP_snoc _ _ _ _ _ HRUN.out, HSTEP.out, if_neg (by dsimp only; rw [HN2.out]; exact hbig)])
          obtain ⟨i1, hi1, hz0', hz1', hz2'⟩ := info_parts Try.infoPl
          have HZ1 := Lib.hid hz0'
          have HZ2 := Lib.hid hz1'
          have HZ3 := Lib.hid hz2'
          have d7 : W8.cell? ⟨w1.heap.size, 0, none⟩ = some (.slice pp pn pc) := HL8.out.k7.cellAt 0
          have l7 := HL8.out.k7.lt
          have a0 : W8.cell? ⟨w1.heap.size + 1 + 1, 0, none⟩ = some (.int .i64 x1) := HL8.out.k9.cellAt 0
          have a1 : W8.cell? ⟨w1.heap.size + 1 + 1, 1, none⟩ = some (.int .i64 (i : Int)) := HL8.out.k9.cellAt 1
          have a2 : W8.cell? ⟨w1.heap.size + 1 + 1, 2, none⟩ = some (.int .i64 (cc : Int)) := HL8.out.k9.cellAt 2
          have a3 : W8.cell? ⟨w1.heap.size + 1 + 1, 3, none⟩ = some (.int .i64 (hh : Int)) := HL8.out.k9.cellAt 3
          have a4 : W8.cell? ⟨w1.heap.size + 1 + 1, 4, none⟩ = some (.int .i64 (wd : Int)) := HL8.out.k9.cellAt 4
          have la := HL8.out.k9.lt
          have hb8 : w1.heap.size + 1 + 1 + 1 + 1 ≤ W8.heap.size := by have := HL8.out.kb.lt; have h2 := HL8.out.gm; omega
          have HPUT := Lib.hid (fun (Y : World) (v' : Value) ho hg => LI.put (p := ⟨x1, i, cc, hh, wd⟩) (v' := v') (Y := Y) (o := .cells #[.int .i64 x1, .int .i64 (i : Int), .int .i64 (cc : Int), .int .i64 (hh : Int), .int .i64 (wd : Int)] 52) HL8.out ho hg)
          have hop8 : W8.ownsRow (w1.heap.size + 1 + 1 + 1 + 1) 52 5 (.slice pp pn pc) ps.length (ps.flatMap Pl.cells) := HL8.out.op
          have HO8 := Lib.hid hop8
          dsimp only at HPUT
          clear hz0' hz1' hz2' hop8
          gi_wp2_with (gi_at_builtin; refine wpListIn_append_own_at _ rfl _ _ 36 rfl (w1.heap.size + 1 + 1 + 1 + 1) 52 i1 (.agg #[.int .i64 0, .int .i64 0, .int .i64 0, .int .i64 0, .int .i64 0]) 5 40 Try.underlying36 hi1 HZ1.out HZ2.out HZ3.out rfl (by decide) (.slice pp pn pc) ps.length (ps.flatMap Pl.cells) rfl (HO8.out.alloc _) ⟨W8.heap.size, 0, none⟩ 1 1 [.int .i64 x1, .int .i64 (i : Int), .int .i64 (cc : Int), .int .i64 (hh : Int), .int .i64 (wd : Int)] rfl rfl (lay_newG _ [.int .i64 x1, .int .i64 (i : Int), .int .i64 (cc : Int), .int .i64 (hh : Int), .int .i64 (wd : Int)] 52 W8.heap.size rfl) (by simp [Value.oneCell']) (by unfold maxLen; omega) (by omega) (by simp; omega) ?_; intro v9 w9 hown9 hgrow9 _ hf9; obtain ⟨p9, n9, c9, rfl⟩ := own_slice hown9; have HO9 := Lib.hid (HPUT.out w9 _ hown9 hgrow9); have K9 := Lib.hid ((HK8.out.trans (KeepsOthers.alloc W8 _)).trans (own_keeps (HO8.out.alloc _) hgrow9)); have k79 := ((HL8.out.alloc (.cells #[.int .i64 x1, .int .i64 (i : Int), .int .i64 (cc : Int), .int .i64 (hh : Int), .int .i64 (wd : Int)] 52)).turn hgrow9 (fun k e => ((HO8.out.alloc (.cells #[.int .i64 x1, .int .i64 (i : Int), .int .i64 (cc : Int), .int .i64 (hh : Int), .int .i64 (wd : Int)] 52)).lt k e).1)).2.1; have f79 := k79.free 0; have c79 := k79.cellAt 0; have l79 := k79.lt; clear hown9 hgrow9 hf9 HPUT k79)
          have hfin := HO9.out
          exact ⟨(K9.out.trans (KeepsOthers.setCell _ _ _)).from _, LI.kept HLI2.out hfin (by have := (K9.out.trans (KeepsOthers.setCell w9 ⟨w1.heap.size, 0, none⟩ (.slice p9 n9 c9))).size; exact this), _, _, _, hrun8.out, hfin⟩
      · have hfrom : fromP ⟨t, ps, ⟨ln, lr, lc, lh, lw⟩⟩ i = 0 := by unfold fromP; rw [if_neg hrow]
        have hd : ((i : Int) == (lr : Int)) = false := by simp; omega
        have hfv : Value.int .i64 (0 : Int) = Value.int .i64 ((0 : Nat) : Int) := rfl
        have hfl : 0 ≤ t.length := by have := hok.from _ i; rw [hfrom] at this; exact this
        have htl : t.length ≤ 10000 := hok.few
        have hll : lc + lw ≤ t.length := hok.last
        have hpsn : ps.length ≤ 1000000 := by have : ps.length = 0 + pre.length := hpsl; omega
        have r1 : V₂.cell? ⟨w1.heap.size + 1 + 1, 1, none⟩ = some (.int .i64 (lr : Int)) := hLI2.k9.cellAt 1
        have r2 : V₂.cell? ⟨w1.heap.size + 1 + 1, 2, none⟩ = some (.int .i64 (lc : Int)) := hLI2.k9.cellAt 2
        have r4 : V₂.cell? ⟨w1.heap.size + 1 + 1, 4, none⟩ = some (.int .i64 (lw : Int)) := hLI2.k9.cellAt 4
        have lr9 := hLI2.k9.lt
        have z0 := kc.cellAt 0
        have z1 := kc.cellAt 1
        have z2 := kc.cellAt 2
        have lcb := kc.lt
        obtain ⟨⟨e0, le0⟩, -, -, -⟩ := gcell hLI2.bx
        have ce2 := (hLI2.lo.cell (p := ⟨eb, eo + i, none⟩) leb).trans cee
        have leb2 : eb < V₂.heap.size := by have := hLI2.lo.size; omega
        have HKC := Lib.hid kc
        have HOK := Lib.hid hok
        have HFV := Lib.hid hfv
        have HFR := Lib.hid hfrom
        have hlo2 := hLI2.lo.size
        have CEE := Lib.hid cee
        obtain ⟨p0, c0, rfl⟩ := OwnT.form hLI2.ot
        obtain ⟨pp, pn, pc, rfl⟩ := own_slice hLI2.op
        have HLI2 := Lib.hid hLI2
        clear hLI2 kc hok hfv hfrom hpsl hrow cee
        gi_wp2
        refine wpIn_round_held (S := fun X => X.cell? ⟨CB, 0, none⟩ = some (.int .i64 x1) ∧ X.cell? ⟨CB, 1, none⟩ = some (.int .i64 (xc : Int)) ∧ X.cell? ⟨CB, 2, none⟩ = some (.int .i64 x3) ∧ X.cell? ⟨w.heap.size, 0, none⟩ = some (.slice (some ⟨eb, eo, none⟩) m c') ∧ X.cell? ⟨eb, eo + i, none⟩ = some (.int .i64 (en : Int))) (by kernel_rfl) (by kernel_rfl) ?_ ?_
        · rintro ⟨x, y, h⟩; exact h
        obtain ⟨V3, hV3⟩ : ∃ V3, V₂.drew = V3 := ⟨_, rfl⟩
        have SV : Hid (Below V₂.heap.size V₂ V3) := Lib.hid (by rw [← hV3]; exact below_dn _ V₂ 1)
        have sV3 : V3.heap.size ≤ V₂.heap.size ∧ V₂.heap.size ≤ V3.heap.size := by rw [← hV3]; exact ⟨Nat.le_refl _, Nat.le_refl _⟩
        have HS : Hid (∀ U : World, Below V3.heap.size V3 U → U.cell? ⟨CB, 0, none⟩ = some (.int .i64 x1) ∧ U.cell? ⟨CB, 1, none⟩ = some (.int .i64 (xc : Int)) ∧ U.cell? ⟨CB, 2, none⟩ = some (.int .i64 x3) ∧ U.cell? ⟨w.heap.size, 0, none⟩ = some (.slice (some ⟨eb, eo, none⟩) m c') ∧ U.cell? ⟨eb, eo + i, none⟩ = some (.int .i64 (en : Int))) := Lib.hid fun U hU => by
          have hb : Below V₂.heap.size V₂ U := SV.out.trans (hU.mono (by omega))
          exact ⟨(hb.cell (p := ⟨CB, 0, none⟩) lcb).trans z0, (hb.cell (p := ⟨CB, 1, none⟩) lcb).trans z1, (hb.cell (p := ⟨CB, 2, none⟩) lcb).trans z2, (hb.cell (p := ⟨w.heap.size, 0, none⟩) le0).trans e0, (hb.cell (p := ⟨eb, eo + i, none⟩) leb2).trans ce2⟩
        have hS3 := HS.out V3 (Below.refl _ _)
        rw [hV3]
        clear hV3 z0 z1 z2 e0 ce2 r1 r2 r4
        refine wpAnyH_take (i := 0) (v := .pointer (some ⟨CB, 0, none⟩)) rfl (by kernel_rfl) (by kernel_rfl) (by kernel_rfl) (fun _ _ _ h => h) (Or.inl ⟨by rfl, ?_⟩) hS3 ?_
        · intro X hX; obtain ⟨g0, g1, g2, g3, g4⟩ := hX; go_simp
        refine wpAnyH_take (i := 1) (v := .int .i64 x1) rfl (by kernel_rfl) (by kernel_rfl) (by kernel_rfl) (fun _ _ _ h => h) (Or.inl ⟨by rfl, ?_⟩) hS3 ?_
        · intro X hX; obtain ⟨g0, g1, g2, g3, g4⟩ := hX; go_simp
        refine wpAnyH_take (i := 2) (v := .int .i64 i) rfl (by kernel_rfl) (by kernel_rfl) (by kernel_rfl) (fun _ _ _ h => h) (Or.inl ⟨by rfl, ?_⟩) hS3 ?_
        · intro X hX; go_simp
        refine wpAnyH_take (i := 3) (v := .agg #[.int .i64 x1, .int .i64 (xc : Int), .int .i64 x3]) rfl (by kernel_rfl) (by kernel_rfl) (by kernel_rfl) (fun _ _ _ h => h) (Or.inl ⟨by rfl, ?_⟩) hS3 ?_
        · intro X hX; obtain ⟨g0, g1, g2, g3, g4⟩ := hX; go_simp
        refine wpAnyH_take (i := 4) (v := .slice (some ⟨eb, eo, none⟩) m c') rfl (by kernel_rfl) (by kernel_rfl) (by kernel_rfl) (fun _ _ _ h => h) (Or.inl ⟨by rfl, ?_⟩) hS3 ?_
        · intro X hX; obtain ⟨g0, g1, g2, g3, g4⟩ := hX; go_simp
        refine wpAnyH_take (i := 5) (v := .int .i64 i) rfl (by kernel_rfl) (by kernel_rfl) (by kernel_rfl) (fun _ _ _ h => h) (Or.inl ⟨by rfl, ?_⟩) hS3 ?_
        · intro X hX; go_simp
        refine wpAnyH_take (i := 6) (v := .pointer (some ⟨eb, eo + i, none⟩)) rfl (by kernel_rfl) (by kernel_rfl) (by kernel_rfl) (fun _ _ _ h => h) (Or.inl ⟨by rfl, ?_⟩) hS3 ?_
        · intro X hX; go_simp
        refine wpAnyH_take (i := 7) (v := .int .i64 (en : Int)) rfl (by kernel_rfl) (by kernel_rfl) (by kernel_rfl) (fun _ _ _ h => h) (Or.inl ⟨by rfl, ?_⟩) hS3 ?_
        · intro X hX; obtain ⟨g0, g1, g2, g3, g4⟩ := hX; go_simp
        refine wpAnyH_take (i := 8) (v := .int .i64 i) rfl (by kernel_rfl) (by kernel_rfl) (by kernel_rfl) (fun _ _ _ h => h) (Or.inl ⟨by rfl, ?_⟩) hS3 ?_
        · intro X hX; go_simp
        refine wpAnyH_take (i := 9) (v := .int .i64 ((en : Int) - (i : Int))) rfl (by kernel_rfl) (by kernel_rfl) (by kernel_rfl) (fun _ _ _ h => h) (Or.inl ⟨by rfl, ?_⟩) hS3 ?_
        · intro X hX; go_simp; exact IntWalk.i64_in _ (by omega)
        have HHI := Lib.hid (high_any x1 (xc : Int) x3 (en - i) V3 hx3)
        rw [show ((en - i : Nat) : Int) = (en : Int) - (i : Int) by omega] at HHI
        refine wpAnyH_all (rs := [10]) (by kernel_rfl) (by simp) ?_
        intro i2 hi2; obtain rfl : i2 = 10 := by simpa using hi2
        refine wpOp_step rfl (fun K hK => ?_)
        go_simp
        refine HHI.out.mono ?_
        rintro e w4 ⟨rfl, hb4⟩
        refine hK _ _ ⟨HS.out w4 hb4, ?_⟩
        clear hK K hi2 HHI
        obtain ⟨hh, hhh⟩ : ∃ hh, highF x3 (en - i) = hh := ⟨_, rfl⟩
        rw [hhh]
        have HHH := Lib.hid hhh
        have HLI4 := Lib.hid (HLI2.out.below (SV.out.trans (hb4.mono (by omega))))
        have hS4 := HS.out w4 hb4
        have f9 := HLI4.out.k9
        have HB4 := Lib.hid (SV.out.trans (hb4.mono (by omega)))
        have s4 : V₂.heap.size ≤ w4.heap.size := HB4.out.size
        clear hhh hb4 HS
        refine wpAnyH_all (rs := [11]) (by kernel_rfl) (by simp) ?_
        intro i2 hi2; obtain rfl : i2 = 11 := by simpa using hi2
        refine wpOp_step rfl (fun K hK => ?_)
        go_simp
        refine hK _ _ ⟨hS4, ?_⟩
        clear hK K hi2
        refine wpAnyH_all (rs := [12]) (by kernel_rfl) (by simp) ?_
        intro i2 hi2; obtain rfl : i2 = 12 := by simpa using hi2
        refine wpOp_step rfl (fun K hK => ?_)
        have y0 : w4.cell? ⟨w1.heap.size + 1 + 1, 0, none⟩ = some (.int .i64 ln) := f9.cellAt 0
        have y1 : w4.cell? ⟨w1.heap.size + 1 + 1, 1, none⟩ = some (.int .i64 (lr : Int)) := f9.cellAt 1
        have y2 : w4.cell? ⟨w1.heap.size + 1 + 1, 2, none⟩ = some (.int .i64 (lc : Int)) := f9.cellAt 2
        have y3 : w4.cell? ⟨w1.heap.size + 1 + 1, 3, none⟩ = some (.int .i64 (lh : Int)) := f9.cellAt 3
        have y4 : w4.cell? ⟨w1.heap.size + 1 + 1, 4, none⟩ = some (.int .i64 (lw : Int)) := f9.cellAt 4
        have v0 := f9.free 0
        have v1 := f9.free 1
        have v2 := f9.free 2
        have v3 := f9.free 3
        have v4 := f9.free 4
        go_simp
        obtain ⟨W5, hW5⟩ : ∃ W5, (((((w4.setCell ⟨w1.heap.size + 1 + 1, 0, none⟩ (.int .i64 x1)).setCell ⟨w1.heap.size + 1 + 1, 1, none⟩ (.int .i64 (i : Int))).setCell ⟨w1.heap.size + 1 + 1, 2, none⟩ (.int .i64 0)).setCell ⟨w1.heap.size + 1 + 1, 3, none⟩ (.int .i64 (hh : Int))).setCell ⟨w1.heap.size + 1 + 1, 4, none⟩ (.int .i64 0)) = W5 := ⟨_, rfl⟩
        have hL5 : LI w.heap.size w1.heap.size (w1.heap.size + 1 + 1 + 1) (.slice p m c) (.slice (some ⟨eb, eo, none⟩) m c') w ⟨t, ps, ⟨x1, i, 0, hh, 0⟩⟩ (.slice pp pn pc) (.slice p0 t.length c0) W5 :=
          hW5 ▸ ((((HLI4.out.set9 0 (.int .i64 x1) ⟨x1, lr, lc, lh, lw⟩ rfl).set9 1 (.int .i64 (i : Int)) ⟨x1, i, lc, lh, lw⟩ rfl).set9 2 (.int .i64 0) ⟨x1, i, 0, lh, lw⟩ rfl).set9 3 (.int .i64 (hh : Int)) ⟨x1, i, 0, hh, lw⟩ rfl).set9 4 (.int .i64 0) ⟨x1, i, 0, hh, 0⟩ rfl
        have hk5 : Whole W5 CB 48 [.int .i64 x1, .int .i64 (xc : Int), .int .i64 x3] :=
          hW5 ▸ (((((HKC.out.below HB4.out lcb).oth _ _ _ (by omega)).oth _ _ _ (by omega)).oth _ _ _ (by omega)).oth _ _ _ (by omega)).oth _ _ _ (by omega)
        have hko5 : KeepsOthers V₂ W5 := hW5 ▸ (((((kept_below HB4.out).trans (KeepsOthers.setCell _ _ _)).trans (KeepsOthers.setCell _ _ _)).trans (KeepsOthers.setCell _ _ _)).trans (KeepsOthers.setCell _ _ _)).trans (KeepsOthers.setCell _ _ _)
        have hS5 : W5.cell? ⟨CB, 0, none⟩ = some (.int .i64 x1) ∧ W5.cell? ⟨CB, 1, none⟩ = some (.int .i64 (xc : Int)) ∧ W5.cell? ⟨CB, 2, none⟩ = some (.int .i64 x3) ∧ W5.cell? ⟨w.heap.size, 0, none⟩ = some (.slice (some ⟨eb, eo, none⟩) m c') ∧ W5.cell? ⟨eb, eo + i, none⟩ = some (.int .i64 (en : Int)) :=
          ⟨hk5.cellAt 0, hk5.cellAt 1, hk5.cellAt 2, hL5.bx.b0.cellAt 0, (hL5.lo.cell (p := ⟨eb, eo + i, none⟩) leb).trans CEE.out⟩
        rw [hW5]
        refine hK _ _ ⟨hS5, ?_⟩
        clear hK K hi2 y0 y1 y2 y3 y4 v0 v1 v2 v3 v4 hS5 hS4 f9 hS3
        refine wpAnyH_done (by kernel_rfl) ?_ _
        clear hW5
        obtain ⟨cc, hcc⟩ : ∃ cc, firstF t i 0 = cc := ⟨_, rfl⟩
        obtain ⟨wd, hwd⟩ : ∃ wd, wideF t i cc xc = wd := ⟨_, rfl⟩
        have HG : Hid (Calls Try.prog 28 #[.slice p0 t.length c0, .int .i64 i, (.int .i64 0), .int .i64 xc] W5 fun e w' => e = .returned (.tuple #[.int .i64 (cc : Int), .int .i64 (wd : Int)]) ∧ W5 = w') := Lib.hid (by
          rw [HFV.out]
          have := gap_at p0 t.length c0 t i 0 xc W5 rfl (by omega) hfl (by omega) (by omega) (hL5.ot.ints (by omega : t.length ≤ 1000000))
          rw [hcc, hwd] at this
          exact this)
        have hccl : cc ≤ t.length := by rw [← hcc]; exact firstF_le _ _ _ hfl
        have hwdl : wd ≤ xc := by rw [← hwd]; exact (wideF_spec _ _ _ _).1
        have hhl : hh ≤ 65536 := by
          have := HHH.out
          unfold highF at this
          split at this <;> omega
        obtain ⟨T2, hT2⟩ : ∃ T2, takeN t cc (i + hh) wd = T2 := ⟨_, rfl⟩
        have HSTEP : Hid (stepP ends ⟨t, ps, ⟨ln, lr, lc, lh, lw⟩⟩ (i, ⟨x1, (xc : Int), x3⟩) = ⟨T2, ps ++ [⟨x1, i, cc, hh, wd⟩], ⟨x1, i, cc, hh, wd⟩⟩) := Lib.hid (by
          have hp : placeP ends ⟨t, ps, ⟨ln, lr, lc, lh, lw⟩⟩ (i, ⟨x1, (xc : Int), x3⟩) = ⟨x1, i, cc, hh, wd⟩ := by
            unfold placeP
            dsimp only
            rw [HFR.out, hend, HHH.out, Int.toNat_natCast, hcc, hwd]
          unfold stepP
          rw [hp]
          dsimp only
          rw [hT2])
        have hL6 := (hL5.set9 2 (.int .i64 (cc : Int)) ⟨x1, i, cc, hh, 0⟩ rfl).set9 4 (.int .i64 (wd : Int)) ⟨x1, i, cc, hh, wd⟩ rfl
        dsimp only at hL6
        have hko6 : KeepsOthers V₂ ((W5.setCell ⟨w1.heap.size + 1 + 1, 2, none⟩ (.int .i64 (cc : Int))).setCell ⟨w1.heap.size + 1 + 1, 4, none⟩ (.int .i64 (wd : Int))) := (hko5.trans (KeepsOthers.setCell _ _ _)).trans (KeepsOthers.setCell _ _ _)
        have HT2 := Lib.hid hT2
        have HL6 := Lib.hid hL6
        have HK6 := Lib.hid hko6
        have a0 : W5.cell? ⟨w1.heap.size + 1 + 1, 0, none⟩ = some (.int .i64 x1) := hL5.k9.cellAt 0
        have a1 : W5.cell? ⟨w1.heap.size + 1 + 1, 1, none⟩ = some (.int .i64 (i : Int)) := hL5.k9.cellAt 1
        have a2 : W5.cell? ⟨w1.heap.size + 1 + 1, 2, none⟩ = some (.int .i64 0) := hL5.k9.cellAt 2
        have a3 : W5.cell? ⟨w1.heap.size + 1 + 1, 3, none⟩ = some (.int .i64 (hh : Int)) := hL5.k9.cellAt 3
        have a4 : W5.cell? ⟨w1.heap.size + 1 + 1, 4, none⟩ = some (.int .i64 0) := hL5.k9.cellAt 4
        have b2 := hL5.k9.free 2
        have b4 := hL5.k9.free 4
        have la := hL5.k9.lt
        have d8 : W5.cell? ⟨w1.heap.size + 1, 0, none⟩ = some (.slice p0 t.length c0) := hL5.k8.cellAt 0
        have l8 := hL5.k8.lt
        have z1 : W5.cell? ⟨CB, 1, none⟩ = some (.int .i64 (xc : Int)) := hk5.cellAt 1
        have lz := hk5.lt
        have hne2 : CB ≠ w1.heap.size + 1 + 1 := by omega
        clear hL5 hk5 hko5 hL6 hko6 hcc hwd hT2 HHH HFV HFR hend
        gi_wp2_with (refine ⟨trivial, ?_⟩; gi_at_call 28; refine (CallsIn.inRound l (callsIn_wide.2 HG.out)).mono ?_; clear HG; rintro e w' ⟨rfl, rfl⟩)
        refine ⟨trivial, (CallsIn.inRound l (callsIn_wide.2 (take_at (w1.heap.size + 1 + 1 + 1 + 1) (.slice p0 t.length c0) t x1 i cc hh wd _ ?_ HL6.out.ot hccl (by omega) (by omega) (by omega) (by omega)))).mono ?_⟩
        · have := HL6.out.kb.lt; have h2 := HL6.out.gm; omega
        rintro e w7 ⟨v7, rfl, ho7, hl7⟩
        rw [HT2.out] at ho7
        obtain ⟨p7, c7, rfl⟩ := OwnT.form ho7
        obtain ⟨n2, hn2⟩ : ∃ n2, T2.length = n2 := ⟨_, rfl⟩
        have hL8 := HL6.out.take ho7 hl7
        have hko7 := HK6.out.trans (own_keeps HL6.out.ot hl7.grown)
        obtain ⟨-, -, k87, -, -, -⟩ := HL6.out.turn hl7.grown (fun k e => (HL6.out.ot.lt k e).1)
        rw [hn2] at hL8 ⊢
        obtain ⟨W8, hW8⟩ : ∃ W8, w7.setCell ⟨w1.heap.size + 1, 0, none⟩ (.slice p7 n2 c7) = W8 := ⟨_, rfl⟩
        rw [hW8] at hL8
        have hko8 : KeepsOthers V₂ W8 := hW8 ▸ hko7.trans (KeepsOthers.setCell _ _ _)
        have f87 := k87.free 0
        have c87 := k87.cellAt 0
        have l87 := k87.lt
        have c88 : W8.cell? ⟨w1.heap.size + 1, 0, none⟩ = some (.slice p7 n2 c7) := hL8.k8.cellAt 0
        have l88 := hL8.k8.lt
        have HN2 := Lib.hid hn2
        have HK8 := Lib.hid hko8
        have HL8 := Lib.hid hL8
        clear ho7 hl7 hL8 hko7 hko8 hn2 k87 HL6 HK6 a0 a1 a2 a3 a4 b2 b4 la d8 l8 z1 lz
        by_cases hbig : 10000 < n2
        · obtain ⟨-, ⟨d1, f1, l1⟩, ⟨d2, f2, l2⟩, ⟨d3, f3, l3⟩⟩ := gcell HL8.out.bx
          have hnone : Hid (layP rows ends = none) := Lib.hid (by
            unfold layP
            rw [HNX.out, List.append_cons]
            refine runP_more _ _ _ _ ?_
            rw [runP_snoc _ _ _ _ _ HRUN.out, HSTEP.out, if_pos (by dsimp only; rw [HN2.out]; exact hbig)])
          gi_wp2
          exact ⟨(HK8.out.trans errW_kept).from _, rfl, hnone.out, HL8.out.bx.err 43, errW_below HL8.out.lo⟩
        · have hrun8 : Hid (runP ends (pre ++ [(i, (⟨x1, (xc : Int), x3⟩ : Sp))]) LS.zero = some ⟨T2, ps ++ [⟨x1, i, cc, hh, wd⟩], ⟨x1, i, cc, hh, wd⟩⟩) := Lib.hid (by
            rw [runP_snoc _ _ _ _ _ HRUN.out, HSTEP.out, if_neg (by dsimp only; rw [HN2.out]; exact hbig)])
          obtain ⟨i1, hi1, hz0', hz1', hz2'⟩ := info_parts Try.infoPl
          have HZ1 := Lib.hid hz0'
          have HZ2 := Lib.hid hz1'
          have HZ3 := Lib.hid hz2'
          have d7 : W8.cell? ⟨w1.heap.size, 0, none⟩ = some (.slice pp pn pc) := HL8.out.k7.cellAt 0
          have l7 := HL8.out.k7.lt
          have a0 : W8.cell? ⟨w1.heap.size + 1 + 1, 0, none⟩ = some (.int .i64 x1) := HL8.out.k9.cellAt 0
          have a1 : W8.cell? ⟨w1.heap.size + 1 + 1, 1, none⟩ = some (.int .i64 (i : Int)) := HL8.out.k9.cellAt 1
          have a2 : W8.cell? ⟨w1.heap.size + 1 + 1, 2, none⟩ = some (.int .i64 (cc : Int)) := HL8.out.k9.cellAt 2
          have a3 : W8.cell? ⟨w1.heap.size + 1 + 1, 3, none⟩ = some (.int .i64 (hh : Int)) := HL8.out.k9.cellAt 3
          have a4 : W8.cell? ⟨w1.heap.size + 1 + 1, 4, none⟩ = some (.int .i64 (wd : Int)) := HL8.out.k9.cellAt 4
          have la := HL8.out.k9.lt
          have hb8 : w1.heap.size + 1 + 1 + 1 + 1 ≤ W8.heap.size := by have := HL8.out.kb.lt; have h2 := HL8.out.gm; omega
          have HPUT := Lib.hid (fun (Y : World) (v' : Value) ho hg => LI.put (p := ⟨x1, i, cc, hh, wd⟩) (v' := v') (Y := Y) (o := .cells #[.int .i64 x1, .int .i64 (i : Int), .int .i64 (cc : Int), .int .i64 (hh : Int), .int .i64 (wd : Int)] 52) HL8.out ho hg)
          have hop8 : W8.ownsRow (w1.heap.size + 1 + 1 + 1 + 1) 52 5 (.slice pp pn pc) ps.length (ps.flatMap Pl.cells) := HL8.out.op
          have HO8 := Lib.hid hop8
          dsimp only at HPUT
          clear hz0' hz1' hz2' hop8
          gi_wp2_with (gi_at_builtin; refine wpListIn_append_own_at _ rfl _ _ 36 rfl (w1.heap.size + 1 + 1 + 1 + 1) 52 i1 (.agg #[.int .i64 0, .int .i64 0, .int .i64 0, .int .i64 0, .int .i64 0]) 5 40 Try.underlying36 hi1 HZ1.out HZ2.out HZ3.out rfl (by decide) (.slice pp pn pc) ps.length (ps.flatMap Pl.cells) rfl (HO8.out.alloc _) ⟨W8.heap.size, 0, none⟩ 1 1 [.int .i64 x1, .int .i64 (i : Int), .int .i64 (cc : Int), .int .i64 (hh : Int), .int .i64 (wd : Int)] rfl rfl (lay_newG _ [.int .i64 x1, .int .i64 (i : Int), .int .i64 (cc : Int), .int .i64 (hh : Int), .int .i64 (wd : Int)] 52 W8.heap.size rfl) (by simp [Value.oneCell']) (by unfold maxLen; omega) (by omega) (by simp; omega) ?_; intro v9 w9 hown9 hgrow9 _ hf9; obtain ⟨p9, n9, c9, rfl⟩ := own_slice hown9; have HO9 := Lib.hid (HPUT.out w9 _ hown9 hgrow9); have K9 := Lib.hid ((HK8.out.trans (KeepsOthers.alloc W8 _)).trans (own_keeps (HO8.out.alloc _) hgrow9)); have k79 := ((HL8.out.alloc (.cells #[.int .i64 x1, .int .i64 (i : Int), .int .i64 (cc : Int), .int .i64 (hh : Int), .int .i64 (wd : Int)] 52)).turn hgrow9 (fun k e => ((HO8.out.alloc (.cells #[.int .i64 x1, .int .i64 (i : Int), .int .i64 (cc : Int), .int .i64 (hh : Int), .int .i64 (wd : Int)] 52)).lt k e).1)).2.1; have f79 := k79.free 0; have c79 := k79.cellAt 0; have l79 := k79.lt; clear hown9 hgrow9 hf9 HPUT k79)
          have hfin := HO9.out
          exact ⟨(K9.out.trans (KeepsOthers.setCell _ _ _)).from _, LI.kept HLI2.out hfin (by have := (K9.out.trans (KeepsOthers.setCell w9 ⟨w1.heap.size, 0, none⟩ (.slice p9 n9 c9))).size; exact this), _, _, _, hrun8.out, hfin⟩
  case done =>
    rintro D xs V hD rfl ⟨s, vp, vt, hrun, hLI⟩ hK
    obtain ⟨p0, c0, rfl⟩ := OwnT.form hLI.ot
    obtain ⟨pp, pn, pc, rfl⟩ := own_slice hLI.op
    obtain ⟨n2, hn2⟩ : ∃ n2, s.t.length = n2 := ⟨_, rfl⟩
    obtain ⟨-, ⟨d1, f1, l1⟩, ⟨d2, f2, l2⟩, ⟨d3, f3, l3⟩⟩ := gcell hLI.bx
    have d7 : V.cell? ⟨w1.heap.size, 0, none⟩ = some (.slice pp pn pc) := hLI.k7.cellAt 0
    have l7 := hLI.k7.lt
    have d8 : V.cell? ⟨w1.heap.size + 1, 0, none⟩ = some (.slice p0 n2 c0) := by rw [← hn2]; exact hLI.k8.cellAt 0
    have l8 := hLI.k8.lt
    have HV := Lib.hid hLI
    have HRUN := Lib.hid hrun
    have HN2 := Lib.hid hn2
    have HKK := Lib.hid hK
    clear hLI hrun hn2 hK
    gi_wp2
    go_wp2
    refine region_held_atG (S := fun X => X.cell? ⟨w1.heap.size, 0, none⟩ = some (.slice pp pn pc) ∧ X.cell? ⟨w1.heap.size + 1, 0, none⟩ = some (.slice p0 n2 c0)) (by kernel_rfl) (fun W6 hW6 => ?_)
    have SV : Hid (Below V.heap.size V W6) := by apply Lib.hid; rw [← hW6]; exact below_dn _ V 1
    have hL6 := HV.out.below SV.out
    have hN6 : s.t.length = n2 := HN2.out
    have hK6 : W6.heap[D]? = some (.deferred (some [])) := (SV.out.block D (Array.getElem?_eq_some_iff.1 HKK.out).1).trans HKK.out
    have hS6 : W6.cell? ⟨w1.heap.size, 0, none⟩ = some (.slice pp pn pc) ∧ W6.cell? ⟨w1.heap.size + 1, 0, none⟩ = some (.slice p0 n2 c0) := ⟨hL6.k7.cellAt 0, by rw [← hN6]; exact hL6.k8.cellAt 0⟩
    obtain ⟨-, ⟨y1, g1, m1⟩, ⟨y2, g2, m2⟩, ⟨y3, g3, m3⟩⟩ := gcell hL6.bx
    have hnm := hL6.nm
    have HL6 := Lib.hid hL6
    have HK6 := Lib.hid hK6
    clear hW6 d1 f1 l1 d2 f2 l2 d3 f3 l3 d7 l7 d8 l8 hL6 hN6 hK6
    refine wpAnyH_take (i := 0) (v := .slice pp pn pc) rfl (by kernel_rfl) (by kernel_rfl) (by kernel_rfl) (fun _ _ _ h => h) (Or.inl ⟨by rfl, ?_⟩) hS6 ?_
    · intro X hX; obtain ⟨q0, q1⟩ := hX; go_simp
    refine wpAnyH_take (i := 1) (v := .slice p0 n2 c0) rfl (by kernel_rfl) (by kernel_rfl) (by kernel_rfl) (fun _ _ _ h => h) (Or.inl ⟨by rfl, ?_⟩) hS6 ?_
    · intro X hX; obtain ⟨q0, q1⟩ := hX; go_simp
    refine wpAnyH_take (i := 2) (v := .int .i64 n2) rfl (by kernel_rfl) (by kernel_rfl) (by kernel_rfl) (fun _ _ _ h => h) (Or.inl ⟨by rfl, ?_⟩) hS6 ?_
    · intro X hX; go_simp
    obtain ⟨s0, s1⟩ := hS6
    have HST : Hid (∀ (U : World) (g : Nat) (u : Value), g < w1.heap.size → (U.cell? ⟨w1.heap.size, 0, none⟩ = some (.slice pp pn pc) ∧ U.cell? ⟨w1.heap.size + 1, 0, none⟩ = some (.slice p0 n2 c0)) → ((U.setCell ⟨g, 0, none⟩ u).cell? ⟨w1.heap.size, 0, none⟩ = some (.slice pp pn pc) ∧ (U.setCell ⟨g, 0, none⟩ u).cell? ⟨w1.heap.size + 1, 0, none⟩ = some (.slice p0 n2 c0))) := Lib.hid fun U g u hg hU => by
      have e1 : (U.setCell ⟨g, 0, none⟩ u).heap[w1.heap.size]? = U.heap[w1.heap.size]? := Below.heap_setCell _ _ _ _ (by show w1.heap.size ≠ g; omega)
      have e2 : (U.setCell ⟨g, 0, none⟩ u).heap[w1.heap.size + 1]? = U.heap[w1.heap.size + 1]? := Below.heap_setCell _ _ _ _ (by show w1.heap.size + 1 ≠ g; omega)
      exact ⟨by have := hU.1; simp only [World.cell?] at this ⊢; rw [e1]; exact this, by have := hU.2; simp only [World.cell?] at this ⊢; rw [e2]; exact this⟩
    refine wpAnyH_all (rs := [3]) (by kernel_rfl) (by simp) ?_
    intro i2 hi2; obtain rfl : i2 = 3 := by simpa using hi2
    refine wpOp_step rfl (fun K hK => ?_)
    go_simp
    have t1 := HST.out W6 (w.heap.size + 1) (.slice pp pn pc) (by omega) ⟨s0, s1⟩
    refine hK _ _ ⟨t1, ?_⟩
    clear hK K hi2
    refine wpAnyH_all (rs := [4]) (by kernel_rfl) (by simp) ?_
    intro i2 hi2; obtain rfl : i2 = 4 := by simpa using hi2
    refine wpOp_step rfl (fun K hK => ?_)
    go_simp
    have t2 := HST.out _ (w.heap.size + 1 + 1) (.int .i64 (n2 : Int)) (by omega) t1
    refine hK _ _ ⟨t2, ?_⟩
    clear hK K hi2
    refine wpAnyH_all (rs := [5]) (by kernel_rfl) (by simp) ?_
    intro i2 hi2; obtain rfl : i2 = 5 := by simpa using hi2
    refine wpOp_step rfl (fun K hK => ?_)
    go_simp
    have t3 := HST.out _ (w.heap.size + 1 + 1 + 1) (.int .i64 0) (by omega) t2
    refine hK _ _ ⟨t3, ?_⟩
    clear hK K hi2
    refine wpAnyH_done (by kernel_rfl) ?_ _
    simp only [noPanG]
    clear t1 t2 t3 s0 s1 HST y1 y2 y3 g1 g2 g3 m1 m2 m3
    go_wp2
    have k1 : Whole (((W6.setCell ⟨w.heap.size + 1, 0, none⟩ (.slice pp pn pc)).setCell ⟨w.heap.size + 1 + 1, 0, none⟩ (.int .i64 (n2 : Int))).setCell ⟨w.heap.size + 1 + 1 + 1, 0, none⟩ (.int .i64 0)) (w.heap.size + 1) 36 [.slice pp pn pc] := ((HL6.out.bx.b1.set 0 _).oth _ _ _ (by omega)).oth _ _ _ (by omega)
    have k2 : Whole (((W6.setCell ⟨w.heap.size + 1, 0, none⟩ (.slice pp pn pc)).setCell ⟨w.heap.size + 1 + 1, 0, none⟩ (.int .i64 (n2 : Int))).setCell ⟨w.heap.size + 1 + 1 + 1, 0, none⟩ (.int .i64 0)) (w.heap.size + 1 + 1) 3 [.int .i64 (n2 : Int)] := ((HL6.out.bx.b2.oth _ _ _ (by omega)).set 0 _).oth _ _ _ (by omega)
    have k3 : Whole (((W6.setCell ⟨w.heap.size + 1, 0, none⟩ (.slice pp pn pc)).setCell ⟨w.heap.size + 1 + 1, 0, none⟩ (.int .i64 (n2 : Int))).setCell ⟨w.heap.size + 1 + 1 + 1, 0, none⟩ (.int .i64 0)) (w.heap.size + 1 + 1 + 1) 27 [.int .i64 0] := ((HL6.out.bx.b3.oth _ _ _ (by omega)).oth _ _ _ (by omega)).set 0 _
    have k4 : Below w.heap.size w (((W6.setCell ⟨w.heap.size + 1, 0, none⟩ (.slice pp pn pc)).setCell ⟨w.heap.size + 1 + 1, 0, none⟩ (.int .i64 (n2 : Int))).setCell ⟨w.heap.size + 1 + 1 + 1, 0, none⟩ (.int .i64 0)) := below_set_at (below_set_at (below_set_at HL6.out.lo _ _ _ (by omega)) _ _ _ (by omega)) _ _ _ (by omega)
    have k5 : OwnP (w1.heap.size + 1 + 1 + 1 + 1) (((W6.setCell ⟨w.heap.size + 1, 0, none⟩ (.slice pp pn pc)).setCell ⟨w.heap.size + 1 + 1, 0, none⟩ (.int .i64 (n2 : Int))).setCell ⟨w.heap.size + 1 + 1 + 1, 0, none⟩ (.int .i64 0)) (.slice pp pn pc) s.ps := own_setCell (own_setCell (own_setCell HL6.out.op (own_low HL6.out.op (by omega))) (own_low HL6.out.op (by omega))) (own_low HL6.out.op (by omega))
    have k6 : (((W6.setCell ⟨w.heap.size + 1, 0, none⟩ (.slice pp pn pc)).setCell ⟨w.heap.size + 1 + 1, 0, none⟩ (.int .i64 (n2 : Int))).setCell ⟨w.heap.size + 1 + 1 + 1, 0, none⟩ (.int .i64 0)).heap[D]? = some (.deferred (some [])) := (Below.heap_setCell _ _ _ _ (by show D ≠ w.heap.size + 1 + 1 + 1; omega)).trans ((Below.heap_setCell _ _ _ _ (by show D ≠ w.heap.size + 1 + 1; omega)).trans ((Below.heap_setCell _ _ _ _ (by show D ≠ w.heap.size + 1; omega)).trans HK6.out))
    refine leaves_marks w.heap.size [D] _ ((Marks.nil w.heap.size _).cons (D := D) (by omega) k6 (fun E hE => by cases hE)) (fun W' hck hbk => ⟨_, results_cells3 (g := w.heap.size) (v := .slice pp pn pc) (n := (n2 : Int)) (e := 0) rfl rfl rfl rfl (hck _ _ k1 rfl) (hck _ _ k2 rfl) (hck _ _ k3 rfl) ⟨_, _, _, rfl⟩, k4.trans hbk, .inr (.inr ⟨HQ.out, s, .slice pp pn pc, HRUN.out, by rw [HN2.out], ?_⟩)⟩)
    exact own_kept_cells k5 hck (by omega)
  case stop =>
    rintro D c pre V hD _ ⟨rfl, hnone, hbx, hbV⟩ hK
    have HQ2 := Lib.hid hnone
    have HM := Lib.hid ((Marks.nil w.heap.size V).cons (D := D) (by omega) hK (fun E hE => by cases hE))
    have HV := Lib.hid (And.intro hbx hbV)
    clear hbx hbV hK hnone
    gi_wp2
    exact leaves_marks w.heap.size [D] _ HM.out (fun W' hck hbk => ⟨_, errW_res (N := w.heap.size) (e := 43) rfl rfl rfl rfl (HV.out.1.kept hck), HV.out.2.trans hbk, .inr (.inl ⟨HQ.out, HQ2.out, rfl⟩)⟩)
theorem lay_any (v ev : Value) (hv : Nat → Value) (rows : List (List Sp)) (ends : List Int) (w : World) (hR : RowsIn w.heap.size w v hv rows) (hE : Ints w ev ends) (hn : (cellsF 0 rows).length ≤ 1000000) :
    Calls Try.prog 15 #[v, ev] w (LayPost rows ends w) := by
  have hB : Below w.heap.size w ((((w.alloc (.cells #[ev] 26)).alloc (.cells #[.slice none 0 0] 36)).alloc (.cells #[.int .i64 0] 3)).alloc (.cells #[.int .i64 0] 27)) :=
    ((((Below.refl _ w).alloc (Nat.le_refl _) _).alloc (by simp) _).alloc (by simp; omega) _).alloc (by simp; omega) _
  have H := gright_any v ev hv rows ends _ ((hR.below hB).mono hB.size) (hE.below hB)
  have hsz : ((((w.alloc (.cells #[ev] 26)).alloc (.cells #[.slice none 0 0] 36)).alloc (.cells #[.int .i64 0] 3)).alloc (.cells #[.int .i64 0] 27)).heap.size = w.heap.size + 4 := by simp
  rw [hsz] at H
  obtain ⟨p, c, rfl⟩ := hR.form
  obtain ⟨q, c', rfl⟩ : ∃ q c', ev = .slice q ends.length c' := by
    obtain ⟨_, ⟨a, c', rfl, rfl⟩ | ⟨b, off, c', rfl, _⟩⟩ := hE
    · exact ⟨_, _, rfl⟩
    · exact ⟨_, _, rfl⟩
  by_cases hq : RightQ rows ends
  · have H2 := Lib.hid (H.mono (R' := fun e W' => e = .returned (.bool true) ∧ Below (w.heap.size + 4) _ W') (by rintro e W' ⟨b, rfl, hb, hbw⟩; exact ⟨by rw [hb.2 hq], hbw⟩))
    have hm := hq.len
    rw [hm] at hE H2 ⊢
    exact lay_main p q rows.length c c' hv rows ends w hq rfl hR hE hn H2
  · have H2 := Lib.hid (H.mono (R' := fun e W' => e = .returned (.bool false) ∧ Below (w.heap.size + 4) _ W') (by
      rintro e W' ⟨b, rfl, hb, hbw⟩
      cases b with
      | true => exact absurd (hb.1 rfl) hq
      | false => exact ⟨rfl, hbw⟩))
    refine (lay_bad p q rows.length c ends.length c' w H2).mono ?_
    rintro e W' ⟨rfl, hb⟩
    exact ⟨hb, .inl ⟨hq, rfl⟩⟩
end Go.Proofs.Ytcgnldcdcbnofaa
