/- Contract of grid.Lay: the places of the cells of rows, for every rows and ends. -/
/- The document's Same of two lists of places; the answers of grid.Lay, one by one; the law's own check of a known grid. -/
/- Contracts of grid.lies and grid.rightSize. -/
import Derived.Test.YtceippgkmoijdaaGRight
import Derived.Test.YtceippgkmoijdaaRound
import Derived.Deep.RegionHeld3
import Derived.Test.YtceippgkmoijdaaGSlotI
namespace Go.Proofs.Ytceippgkmoijdaa
open Go.RowKit Go.Shelf
set_option linter.unusedVariables false
attribute [local go_sem] Oper.semAt_some

theorem Try.infoPl : (Try.prog.info? 52).map (fun i => (i.zero, i.size, i.bytes)) = some (some (.agg #[.int .i64 0, .int .i64 0, .int .i64 0, .int .i64 0, .int .i64 0]), 5, 40) := by kernel_rfl
/-- places, as their owner holds them -/
def OwnP (base : Nat) (X : World) (v : Value) (ps : List Pl) : Prop := X.ownsRow base 52 5 v ps.length (ps.flatMap Pl.cells)
def LayPost (rows : List (List Sp)) (ends : List Int) (w : World) (e : Ending) (W' : World) : Prop :=
  Below w.heap.size w W' ∧
    ((¬ RightQ rows ends ∧ e = .returned (.tuple #[.slice none 0 0, .int .i64 0, .int .i64 70])) ∨
     (RightQ rows ends ∧ layP rows ends = none ∧ e = .returned (.tuple #[.slice none 0 0, .int .i64 0, .int .i64 43])) ∨
     (RightQ rows ends ∧ ∃ s v', layP rows ends = some s ∧ e = .returned (.tuple #[v', .int .i64 (s.t.length : Int), .int .i64 0]) ∧ OwnP w.heap.size W' v' s.ps))
theorem results_cells3 {W : World} {g : Nat} {v : Value} {n e : Int} {tmps : Array Value} {fn : Func} (hf : fn.results = #[.cell 4 22, .cell 5 3, .cell 6 36])
    (h4 : tmps[4]? = some (.pointer (some ⟨g + 1, 0, none⟩))) (h5 : tmps[5]? = some (.pointer (some ⟨g + 1 + 1, 0, none⟩))) (h6 : tmps[6]? = some (.pointer (some ⟨g + 1 + 1 + 1, 0, none⟩)))
    (k4 : Whole W (g + 1) 22 [v]) (k5 : Whole W (g + 1 + 1) 3 [.int .i64 n]) (k6 : Whole W (g + 1 + 1 + 1) 36 [.int .i64 e]) (hv : ∃ p l c, v = .slice p l c) :
    (results fn tmps).run Try.prog W = .ok (.tuple #[v, .int .i64 n, .int .i64 e]) W := by
  obtain ⟨p, l, c, rfl⟩ := hv
  have c4 := k4.cellAt 0
  have c5 := k5.cellAt 0
  have c6 := k6.cellAt 0
  simp [results, hf, go_sem, h4, h5, h6, c4, c5, c6]
/-- the boxes of the call: the ends, and what is answered -/
structure Bx (N : Nat) (ev : Value) (X : World) : Prop where
  b0 : Whole X N 95 [ev]
  b1 : Whole X (N + 1) 22 [.slice none 0 0]
  b2 : Whole X (N + 1 + 1) 3 [.int .i64 0]
  b3 : Whole X (N + 1 + 1 + 1) 36 [.int .i64 0]
theorem Bx.new (w : World) (ev : Value) : Bx w.heap.size ev ((((w.alloc (.cells #[ev] 95)).alloc (.cells #[.slice none 0 0] 22)).alloc (.cells #[.int .i64 0] 3)).alloc (.cells #[.int .i64 0] 36)) :=
  ⟨(((whole_new w [ev] 95 _ rfl).alloc _).alloc _).alloc _, ((whole_new (w.alloc (.cells #[ev] 95)) [.slice none 0 0] 22 _ (by simp)).alloc _).alloc _,
    (whole_new ((w.alloc (.cells #[ev] 95)).alloc (.cells #[.slice none 0 0] 22)) [.int .i64 0] 3 _ (by simp)).alloc _,
    whole_new (((w.alloc (.cells #[ev] 95)).alloc (.cells #[.slice none 0 0] 22)).alloc (.cells #[.int .i64 0] 3)) [.int .i64 0] 36 _ (by simp)⟩
theorem Bx.keep {N : Nat} {ev : Value} {X Y : World} (h : Bx N ev X) (hb : ∀ k, k < N + 4 → Y.heap[k]? = X.heap[k]?) : Bx N ev Y :=
  ⟨(hb _ (by omega)).trans h.b0, (hb _ (by omega)).trans h.b1, (hb _ (by omega)).trans h.b2, (hb _ (by omega)).trans h.b3⟩
theorem Bx.below {N B : Nat} {ev : Value} {X Y : World} (h : Bx N ev X) (hb : Below B X Y) (hB : N + 4 ≤ B) : Bx N ev Y := h.keep fun k hk => hb.block k (by omega)
/-- an error is laid into the boxes -/
def errW (N : Nat) (e : Int) (X : World) : World := ((X.setCell ⟨N + 1, 0, none⟩ (.slice none 0 0)).setCell ⟨N + 1 + 1, 0, none⟩ (.int .i64 0)).setCell ⟨N + 1 + 1 + 1, 0, none⟩ (.int .i64 e)
structure BxE (N : Nat) (e : Int) (X : World) : Prop where
  b1 : Whole X (N + 1) 22 [.slice none 0 0]
  b2 : Whole X (N + 1 + 1) 3 [.int .i64 0]
  b3 : Whole X (N + 1 + 1 + 1) 36 [.int .i64 e]
theorem Bx.err {N : Nat} {ev : Value} {X : World} (h : Bx N ev X) (e : Int) : BxE N e (errW N e X) :=
  ⟨((h.b1.set 0 _).other _ _ (by first | (simp; done) | (simp; omega))).other _ _ (by first | (simp; done) | (simp; omega)), (((h.b2.other _ _ (by first | (simp; done) | (simp; omega)))).set 0 _).other _ _ (by first | (simp; done) | (simp; omega)), ((h.b3.other _ _ (by first | (simp; done) | (simp; omega))).other _ _ (by first | (simp; done) | (simp; omega))).set 0 _⟩
theorem errW_below {N : Nat} {e : Int} {w X : World} (h : Below N w X) : Below N w (errW N e X) :=
  ((h.setCell (p := ⟨N + 1, 0, none⟩) (by simp) _).setCell (p := ⟨N + 1 + 1, 0, none⟩) (show N ≤ N + 1 + 1 by omega) _).setCell (p := ⟨N + 1 + 1 + 1, 0, none⟩) (show N ≤ N + 1 + 1 + 1 by omega) _
theorem errW_kept {N : Nat} {e : Int} {X : World} : KeepsOthers X (errW N e X) := ((KeepsOthers.setCell _ _ _).trans (KeepsOthers.setCell _ _ _)).trans (KeepsOthers.setCell _ _ _)
theorem errW_res {N : Nat} {e : Int} {X : World} {tmps : Array Value} {fn : Func} (hf : fn.results = #[.cell 4 22, .cell 5 3, .cell 6 36])
    (h4 : tmps[4]? = some (.pointer (some ⟨N + 1, 0, none⟩))) (h5 : tmps[5]? = some (.pointer (some ⟨N + 1 + 1, 0, none⟩))) (h6 : tmps[6]? = some (.pointer (some ⟨N + 1 + 1 + 1, 0, none⟩)))
    (h : BxE N e X) : (results fn tmps).run Try.prog X = .ok (.tuple #[.slice none 0 0, .int .i64 0, .int .i64 e]) X :=
  results_cells3 hf h4 h5 h6 h.b1 h.b2 h.b3 ⟨_, _, _, rfl⟩
theorem BxE.kept {N : Nat} {e : Int} {X Y : World} (h : BxE N e X) (hk : CellsKept X Y) : BxE N e Y := ⟨hk _ _ h.b1 rfl, hk _ _ h.b2 rfl, hk _ _ h.b3 rfl⟩
theorem gcell {X : World} {N : Nat} {ev : Value} (h : Bx N ev X) : (X.cell? ⟨N, 0, none⟩ = some ev ∧ N < X.heap.size) ∧ (X.cell? ⟨N + 1, 0, none⟩ = some (.slice none 0 0) ∧ X.frozen? ⟨N + 1, 0, none⟩ = false ∧ N + 1 < X.heap.size) ∧
    (X.cell? ⟨N + 1 + 1, 0, none⟩ = some (.int .i64 0) ∧ X.frozen? ⟨N + 1 + 1, 0, none⟩ = false ∧ N + 1 + 1 < X.heap.size) ∧ (X.cell? ⟨N + 1 + 1 + 1, 0, none⟩ = some (.int .i64 0) ∧ X.frozen? ⟨N + 1 + 1 + 1, 0, none⟩ = false ∧ N + 1 + 1 + 1 < X.heap.size) :=
  ⟨⟨h.b0.cellAt 0, h.b0.lt⟩, ⟨h.b1.cellAt 0, h.b1.free 0, h.b1.lt⟩, ⟨h.b2.cellAt 0, h.b2.free 0, h.b2.lt⟩, ⟨h.b3.cellAt 0, h.b3.free 0, h.b3.lt⟩⟩
def noPanG (Q : Exit → Act → World → Prop) : Exit → Act → World → Prop
  | .panic _, _, _ => False
  | e, a, w => Q e a w
theorem noPanG_le {Q : Exit → Act → World → Prop} (e : Exit) (a : Act) (w : World) (h : noPanG Q e a w) : Q e a w := by cases e <;> first | exact h | exact h.elim
theorem region_held_atG {P : Program} {ops : Array Oper} {Q : Exit → Act → World → Prop} {S : World → Prop} {id : Nat} {a : Act} {w : World} (hm : P.follows .mixedOrders = true)
    (h : ∀ w2 : World, w.drew = w2 → wpAnyH P .any ops (noPanG Q) S ops.size (Array.replicate ops.size false) a w2) : (Code.region id ops true).wp P Q a w :=
  (wpIn_wide (n := 0)).1 (wpIn_mono (wpIn_wide.2 (wp_region_held hm (h _ rfl))) noPanG_le)
theorem Whole.oth {W : World} {g t : Nat} {xs : List Value} (h : Whole W g t xs) (b o : Nat) (v : Value) (hne : g ≠ b) : Whole (W.setCell ⟨b, o, none⟩ v) g t xs := h.other _ _ hne
theorem below_set_at {N : Nat} {w X : World} (h : Below N w X) (b o : Nat) (v : Value) (hb : N ≤ b) : Below N w (X.setCell ⟨b, o, none⟩ v) := h.setCell (p := ⟨b, o, none⟩) hb _
theorem own_kept_cells {X Y : World} {base b' e sz n : Nat} {v : Value} {xs : List Value} (h : X.ownsRow base e sz v n xs) (hk : CellsKept X Y) (hb' : b' ≤ base) : Y.ownsRow b' e sz v n xs := by
  refine ⟨h.1, h.2.imp id ?_⟩
  rintro ⟨g, cap, cur, rfl, hb, hg, rest⟩
  exact ⟨g, cap, cur, rfl, by omega, hk _ _ hg rfl, rest⟩
theorem own_low {X : World} {base e sz n g : Nat} {v : Value} {xs : List Value} (h : X.ownsRow base e sz v n xs) (hg : g < base) : v.ownBlock ≠ some g := fun hv => by have := (h.lt g hv).1; omega
theorem own_apart {X : World} {b1 b2 e1 e2 s1 s2 n1 n2 : Nat} {v1 v2 : Value} {xs ys : List Value} (h1 : X.ownsRow b1 e1 s1 v1 n1 xs) (h2 : X.ownsRow b2 e2 s2 v2 n2 ys) (hne : e1 ≠ e2) : v1.ownBlock = none ∨ v1.ownBlock ≠ v2.ownBlock := by
  cases hv : v1.ownBlock with
  | none => exact .inl rfl
  | some g =>
    refine .inr fun e => ?_
    obtain ⟨c1, k1⟩ := own_block_cells h1 hv
    obtain ⟨c2, k2⟩ := own_block_cells h2 e.symm
    rw [k1] at k2; cases k2; exact hne rfl
theorem flat_snoc (ps : List Pl) (p : Pl) : (ps ++ [p]).flatMap Pl.cells = ps.flatMap Pl.cells ++ p.cells := by simp
def LX (N : Nat) (none : Prop) (w : World) (c : Code) (pre : List (Nat × Sp)) (X : World) : Prop := c = .ret ∧ none ∧ BxE N 43 X ∧ Below N w X
theorem LX.own (N : Nat) (none : Prop) (w : World) (K : Nat) (h1 : N ≤ w.heap.size) (h2 : N ≤ K) (c : Code) : OwnFrom K (LX N none w c) := fun pre X Y row ⟨hc, hn, hb, hlo⟩ hg hr =>
  ⟨hc, hn, ⟨hb.b1.grown hg (hb.b1.ne fun r e => (hr r e).2), hb.b2.grown hg (hb.b2.ne fun r e => (hr r e).2), hb.b3.grown hg (hb.b3.ne fun r e => (hr r e).2)⟩, (ownFrom_below (β := Unit) h1 h2) () X Y row hlo hg hr⟩
end Go.Proofs.Ytceippgkmoijdaa

namespace Go.Proofs.Ytceippgkmoijdaa
open Go.RowKit Go.Shelf
set_option linter.unusedVariables false
attribute [local go_sem] Oper.semAt_some

/-- a place, of whatever numbers -/
structure Pz where
  n : Int
  r : Int
  c : Int
  h : Int
  w : Int
deriving DecidableEq
def Pz.cells (p : Pz) : List Value := [.int .i64 p.n, .int .i64 p.r, .int .i64 p.c, .int .i64 p.h, .int .i64 p.w]
def Pl.z (p : Pl) : Pz := ⟨p.n, p.r, p.c, p.h, p.w⟩
/-- places lie in memory -/
def PsAt (W : World) (v : Value) (L : List Pz) : Prop :=
  L.length ≤ 9223372036854775807 ∧ ((∃ a c, v = .slice a 0 c ∧ L = []) ∨ ∃ b off c, v = .slice (some ⟨b, off, none⟩) L.length c ∧ ∀ i x, L[i]? = some x →
    W.cell? ⟨b, off + i * 5, none⟩ = some (.int .i64 x.n) ∧ W.cell? ⟨b, off + i * 5 + 1, none⟩ = some (.int .i64 x.r) ∧ W.cell? ⟨b, off + i * 5 + 2, none⟩ = some (.int .i64 x.c) ∧ W.cell? ⟨b, off + i * 5 + 3, none⟩ = some (.int .i64 x.h) ∧ W.cell? ⟨b, off + i * 5 + 4, none⟩ = some (.int .i64 x.w))
theorem PsAt.below {W W' : World} {v : Value} {L : List Pz} (h : PsAt W v L) (hb : Below W.heap.size W W') : PsAt W' v L := by
  refine ⟨h.1, h.2.imp id ?_⟩
  rintro ⟨b, off, c, e, hc⟩
  refine ⟨b, off, c, e, fun i x hx => ?_⟩
  obtain ⟨c0, c1, c2, c3, c4⟩ := hc i x hx
  have hl := cell_lt c0
  have hq : ∀ o, W'.cell? ⟨b, o, none⟩ = W.cell? ⟨b, o, none⟩ := fun o => hb.cell (p := ⟨b, o, none⟩) hl
  rw [hq, hq, hq, hq, hq]
  exact ⟨c0, c1, c2, c3, c4⟩
theorem PsAt.form {W : World} {v : Value} {L : List Pz} (h : PsAt W v L) : ∃ p c, v = .slice p L.length c := by
  rcases h.2 with ⟨a, c, rfl, rfl⟩ | ⟨b, off, c, e, _⟩
  · exact ⟨_, _, rfl⟩
  · exact ⟨_, _, e⟩
theorem PsAt.at {W : World} {p : Option Addr} {l c : Nat} {L : List Pz} (h : PsAt W (.slice p l c) L) (i : Nat) (x : Pz) (hx : L[i]? = some x) : ∃ b off, p = some ⟨b, off, none⟩ ∧ b < W.heap.size ∧
    W.cell? ⟨b, off + i * 5, none⟩ = some (.int .i64 x.n) ∧ W.cell? ⟨b, off + i * 5 + 1, none⟩ = some (.int .i64 x.r) ∧ W.cell? ⟨b, off + i * 5 + 2, none⟩ = some (.int .i64 x.c) ∧ W.cell? ⟨b, off + i * 5 + 3, none⟩ = some (.int .i64 x.h) ∧ W.cell? ⟨b, off + i * 5 + 4, none⟩ = some (.int .i64 x.w) := by
  rcases h.2 with ⟨a, c, _, rfl⟩ | ⟨b, off, c, e, hc⟩
  · simp at hx
  · injection e with e1 e2 e3
    exact ⟨b, off, e1, cell_lt (hc i x hx).1, hc i x hx⟩
theorem flat5_get : ∀ (L : List Pz) (i : Nat) (x : Pz) (j : Nat) (u : Value), L[i]? = some x → x.cells[j]? = some u → (L.flatMap Pz.cells)[i * 5 + j]? = some u
  | [], i, x, j, u, h, _ => by simp at h
  | y :: L, 0, x, j, u, h, hu => by
    simp at h; subst h
    rw [List.flatMap_cons, Nat.zero_mul, Nat.zero_add, List.getElem?_append_left (List.getElem?_eq_some_iff.1 hu).1]; exact hu
  | y :: L, i + 1, x, j, u, h, hu => by
    have ih := flat5_get L i x j u (by simpa using h) hu
    have hl : y.cells.length = 5 := rfl
    rw [List.flatMap_cons, List.getElem?_append_right (by rw [hl]; omega), hl, show (i + 1) * 5 + j - 5 = i * 5 + j by omega]
    exact ih
theorem places_lit {W : World} {g c : Nat} {t : Nat} {L : List Pz} (hc : ∀ j u, (L.flatMap Pz.cells)[j]? = some u → W.cell? ⟨g, j, none⟩ = some u) (hl : L.length ≤ 9223372036854775807) : PsAt W (.slice (some ⟨g, 0, none⟩) L.length c) L :=
  ⟨hl, .inr ⟨g, 0, c, rfl, fun i x hx => by
    rw [Nat.zero_add]
    exact ⟨hc _ _ (flat5_get L i x 0 _ hx rfl), hc _ _ (flat5_get L i x 1 _ hx rfl), hc _ _ (flat5_get L i x 2 _ hx rfl), hc _ _ (flat5_get L i x 3 _ hx rfl), hc _ _ (flat5_get L i x 4 _ hx rfl)⟩⟩⟩
theorem places_whole {W : World} {g c : Nat} {t : Nat} {L : List Pz} (h : Whole W g t (L.flatMap Pz.cells)) (hl : L.length ≤ 9223372036854775807) : PsAt W (.slice (some ⟨g, 0, none⟩) L.length c) L :=
  places_lit (t := t) (fun j u hu => by rw [h.cellAt]; exact hu) hl
theorem flat_z (ps : List Pl) : (ps.map Pl.z).flatMap Pz.cells = ps.flatMap Pl.cells := by
  induction ps with
  | nil => rfl
  | cons p ps ih => rw [List.map_cons, List.flatMap_cons, List.flatMap_cons, ih]; rfl
theorem OwnP.places {base : Nat} {X : World} {v : Value} {ps : List Pl} (h : OwnP base X v ps) (hl : ps.length ≤ 9223372036854775807) : PsAt X v (ps.map Pl.z) := by
  rcases h.2 with ⟨rfl, h0⟩ | ⟨g, cap, cur, rfl, hb, hg, _, _, hcs, htk⟩
  · have : ps = [] := List.length_eq_zero_iff.1 h0
    rw [this]; exact ⟨by simp, .inl ⟨none, 0, rfl, rfl⟩⟩
  · have e := places_lit (W := X) (g := g) (c := cap) (t := 0) (L := ps.map Pl.z) (fun j u hu => by
      rw [flat_z, ← htk] at hu
      have hj := (List.getElem?_eq_some_iff.1 hu).1
      rw [List.length_take] at hj
      rw [List.getElem?_take_of_lt (by omega)] at hu
      simp only [World.cell?, hg]
      rw [← Array.getElem?_toList]; exact hu) (by simpa using hl)
    rw [List.length_map] at e
    exact e
theorem pz_eql (x y : Pz) (X : World) : (binOp .neq 52 (.agg #[.int .i64 x.n, .int .i64 x.r, .int .i64 x.c, .int .i64 x.h, .int .i64 x.w]) (.agg #[.int .i64 y.n, .int .i64 y.r, .int .i64 y.c, .int .i64 y.h, .int .i64 y.w])).run Try.prog X = .ok (.bool (!decide (x = y))) X := by
  obtain ⟨a, b, c, d, e⟩ := x
  obtain ⟨a', b', c', d', e'⟩ := y
  dsimp only
  by_cases h1 : a = a'
  · by_cases h2 : b = b'
    · by_cases h3 : c = c'
      · by_cases h4 : d = d'
        · by_cases h5 : e = e'
          · subst h1 h2 h3 h4 h5; go_simp
          · subst h1 h2 h3 h4; go_simp
        · subst h1 h2 h3; go_simp
      · subst h1 h2; go_simp
    · subst h1; go_simp
  · go_simp
theorem list_ne {α : Type} {xs ys : List α} (h : xs.length = ys.length) (h' : xs ≠ ys) : ∃ (k : Nat) (x y : α), k < xs.length ∧ xs[k]? = some x ∧ ys[k]? = some y ∧ x ≠ y := by
  apply Classical.byContradiction
  intro hn
  apply h'
  apply List.ext_getElem h
  intro i h1 h2
  apply Classical.byContradiction
  intro hd
  exact hn ⟨i, _, _, h1, List.getElem?_eq_getElem h1, List.getElem?_eq_getElem h2, hd⟩
end Go.Proofs.Ytceippgkmoijdaa

namespace Go.Proofs.Ytceippgkmoijdaa
open Go.RowKit Go.Shelf
set_option linter.unusedVariables false
attribute [local go_sem] Oper.semAt_some

def liesB (f m : Int) (a : Nat) : Bool := decide (0 ≤ f) && decide (1 ≤ m) && decide (f + m ≤ a)
theorem lies_eq (f m : Int) (a : Nat) (ha : a ≤ 65536) (hf : -9223372036854775808 ≤ f ∧ f ≤ 9223372036854775807) (hm : -9223372036854775808 ≤ m ∧ m ≤ 9223372036854775807) :
    (!([f, wrap64 (m - 1), wrap64 (wrap64 (f + m) - 1)].any (outB 0 ((a : Int) - 1)))) = liesB f m a := by
  rw [Bool.eq_iff_iff]
  unfold liesB wrap64
  simp [outB]
  omega
set_option maxHeartbeats 1000000 in
theorem lies_any (f m : Int) (a : Nat) (ha : a ≤ 65536) (hf : -9223372036854775808 ≤ f ∧ f ≤ 9223372036854775807) (hm : -9223372036854775808 ≤ m ∧ m ≤ 9223372036854775807) (w : World) :
    Calls Try.prog 82 #[.int .i64 f, .int .i64 m, .int .i64 (a : Int)] w fun e W' => e = .returned (.bool (liesB f m a)) ∧ Below w.heap.size w W' := by
  have HQ := Lib.hid (lies_eq f m a ha hf hm)
  clear hf hm
  go_enter Try.func82, Try.ntmps82
  go_wp2_with fail
  refine (gwithin_any_k 0 ((a : Int) - 1) _ [f, wrap64 (m - 1), wrap64 (wrap64 (f + m) - 1)] _ (Ints.whole (t := 3) (whole_new w [.int .i64 f, .int .i64 (wrap64 (m - 1)), .int .i64 (wrap64 (wrap64 (f + m) - 1))] 3 _ rfl) rfl (by simp))).mono ?_
  rintro e w3 ⟨rfl, hb3⟩
  rw [HQ.out]
  have HB := Lib.hid (((Below.refl _ w).alloc (Nat.le_refl _) (.cells #[.int .i64 f, .int .i64 (wrap64 (m - 1)), .int .i64 (wrap64 (wrap64 (f + m) - 1))] 3)).trans (hb3.mono (by simp)))
  clear hb3
  go_wp2
  go_ret
  exact ⟨rfl, HB.out⟩
def SizeQ (r c : Int) : Prop := (0 ≤ r ∧ r ≤ 65536) ∧ (0 ≤ c ∧ c ≤ 10000) ∧ r * c ≤ 1000000
set_option maxHeartbeats 1000000 in
theorem rightSize_any (r c : Int) (w : World) :
    Calls Try.prog 81 #[.int .i64 r, .int .i64 c] w fun e W' => ∃ b, e = .returned (.bool b) ∧ (b = true ↔ SizeQ r c) ∧ Below w.heap.size w W' := by
  have W1 := Lib.hid (fun X sv h => gwithin_any_k 0 65536 sv [r] X h)
  have W2 := Lib.hid (fun X sv h => gwithin_any_k 0 10000 sv [c] X h)
  simp only [within_one] at W1 W2
  by_cases h1 : 0 ≤ r ∧ r ≤ 65536
  · have e1 : (decide (0 ≤ r) && decide (r ≤ 65536)) = true := by simp [h1]
    rw [e1] at W1
    by_cases h2 : 0 ≤ c ∧ c ≤ 10000
    · have e2 : (decide (0 ≤ c) && decide (c ≤ 10000)) = true := by simp [h2]
      rw [e2] at W2
      obtain ⟨rn, rfl⟩ : ∃ rn : Nat, r = (rn : Int) := ⟨r.toNat, by omega⟩
      obtain ⟨cn, rfl⟩ : ∃ cn : Nat, c = (cn : Int) := ⟨c.toNat, by omega⟩
      obtain ⟨P, hP⟩ : ∃ P : Nat, rn * cn = P := ⟨_, rfl⟩
      have hPI : (rn : Int) * (cn : Int) = (P : Int) := by rw [← hP]; simp
      have hP2 : P ≤ 655360000 := by rw [← hP]; exact Nat.le_trans (Nat.mul_le_mul (show rn ≤ 65536 by omega) (show cn ≤ 10000 by omega)) (by omega)
      have HQ : Hid (SizeQ (rn : Int) (cn : Int) ↔ P ≤ 1000000) := Lib.hid (by unfold SizeQ; rw [hPI]; omega)
      clear e1 e2 hP h1 h2
      by_cases h3 : P ≤ 1000000
      · have d3 : decide ((P : Int) ≤ 1000000) = true := by simp; omega
        go_enter Try.func81, Try.ntmps81
        go_wp2_with (first
          | (go_at_call 93; refine (W1.out _ _ (Ints.whole (t := 3) (whole_new w [.int .i64 (rn : Int)] 3 _ rfl) rfl (by simp))).mono ?_; clear W1; rintro e w3 ⟨rfl, hb3⟩; have B3 := Lib.hid (((Below.refl _ w).alloc (Nat.le_refl _) (.cells #[.int .i64 (rn : Int)] 3)).trans (hb3.mono (by simp))); clear hb3)
          | (go_at_call 93; refine (W2.out _ _ (Ints.whole (t := 3) (whole_new w3 [.int .i64 (cn : Int)] 3 _ rfl) rfl (by simp))).mono ?_; clear W2; rintro e w4 ⟨rfl, hb4⟩; have B4 := Lib.hid (B3.out.trans ((((Below.refl _ w3).alloc (Nat.le_refl _) (.cells #[.int .i64 (cn : Int)] 3)).trans (hb4.mono (by simp))).mono B3.out.size)); clear hb4))
        go_ret
        exact ⟨true, by simp, by simp [HQ.out, h3], B4.out⟩
      · have d3 : decide ((P : Int) ≤ 1000000) = false := by simp; omega
        go_enter Try.func81, Try.ntmps81
        go_wp2_with (first
          | (go_at_call 93; refine (W1.out _ _ (Ints.whole (t := 3) (whole_new w [.int .i64 (rn : Int)] 3 _ rfl) rfl (by simp))).mono ?_; clear W1; rintro e w3 ⟨rfl, hb3⟩; have B3 := Lib.hid (((Below.refl _ w).alloc (Nat.le_refl _) (.cells #[.int .i64 (rn : Int)] 3)).trans (hb3.mono (by simp))); clear hb3)
          | (go_at_call 93; refine (W2.out _ _ (Ints.whole (t := 3) (whole_new w3 [.int .i64 (cn : Int)] 3 _ rfl) rfl (by simp))).mono ?_; clear W2; rintro e w4 ⟨rfl, hb4⟩; have B4 := Lib.hid (B3.out.trans ((((Below.refl _ w3).alloc (Nat.le_refl _) (.cells #[.int .i64 (cn : Int)] 3)).trans (hb4.mono (by simp))).mono B3.out.size)); clear hb4))
        go_ret
        exact ⟨false, by simp, by simp [HQ.out, h3], B4.out⟩
    · have e2 : (decide (0 ≤ c) && decide (c ≤ 10000)) = false := by simp; omega
      rw [e2] at W2
      have HQ : Hid (¬ SizeQ r c) := Lib.hid fun h => h2 h.2.1
      clear e1 e2 h1 h2
      go_enter Try.func81, Try.ntmps81
      go_wp2_with (first
        | (go_at_call 93; refine (W1.out _ _ (Ints.whole (t := 3) (whole_new w [.int .i64 r] 3 _ rfl) rfl (by simp))).mono ?_; clear W1; rintro e w3 ⟨rfl, hb3⟩; have B3 := Lib.hid (((Below.refl _ w).alloc (Nat.le_refl _) (.cells #[.int .i64 r] 3)).trans (hb3.mono (by simp))); clear hb3)
        | (go_at_call 93; refine (W2.out _ _ (Ints.whole (t := 3) (whole_new w3 [.int .i64 c] 3 _ rfl) rfl (by simp))).mono ?_; clear W2; rintro e w4 ⟨rfl, hb4⟩; have B4 := Lib.hid (B3.out.trans ((((Below.refl _ w3).alloc (Nat.le_refl _) (.cells #[.int .i64 c] 3)).trans (hb4.mono (by simp))).mono B3.out.size)); clear hb4))
      go_ret
      exact ⟨false, by simp, by simp [HQ.out], B4.out⟩
  · have e1 : (decide (0 ≤ r) && decide (r ≤ 65536)) = false := by simp; omega
    rw [e1] at W1
    have HQ : Hid (¬ SizeQ r c) := Lib.hid fun h => h1 h.1
    clear e1 h1 W2
    go_enter Try.func81, Try.ntmps81
    go_wp2_with (go_at_call 93; refine (W1.out _ _ (Ints.whole (t := 3) (whole_new w [.int .i64 r] 3 _ rfl) rfl (by simp))).mono ?_; clear W1; rintro e w3 ⟨rfl, hb3⟩; have B3 := Lib.hid (((Below.refl _ w).alloc (Nat.le_refl _) (.cells #[.int .i64 r] 3)).trans (hb3.mono (by simp))); clear hb3)
    go_ret
    exact ⟨false, by simp, by simp [HQ.out], B3.out⟩
end Go.Proofs.Ytceippgkmoijdaa
