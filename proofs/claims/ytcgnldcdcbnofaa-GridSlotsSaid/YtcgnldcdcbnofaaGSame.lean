/- The document's Same of two lists of places; the answers of grid.Lay, one by one; the law's own check of a known grid. -/
import Derived.Test.YtcgnldcdcbnofaaGLay
namespace Go.Proofs.Ytcgnldcdcbnofaa
open Go.RowKit Go.Shelf
set_option linter.unusedVariables false
attribute [local go_sem] Oper.semAt_some

theorem lay_good (v ev : Value) (hv : Nat → Value) (rows : List (List Sp)) (ends : List Int) (w : World) (hR : RowsIn w.heap.size w v hv rows) (hE : Ints w ev ends) (hn : (cellsF 0 rows).length ≤ 1000000) (hQ : RightQ rows ends) (s : LS) (hs : layP rows ends = some s) :
    Calls Try.prog 15 #[v, ev] w fun e W' => ∃ v', e = .returned (.tuple #[v', .int .i64 (s.t.length : Int), .int .i64 0]) ∧ OwnP w.heap.size W' v' s.ps ∧ Below w.heap.size w W' := by
  refine (lay_any v ev hv rows ends w hR hE hn).mono ?_
  rintro e W' ⟨hb, ⟨h1, _⟩ | ⟨_, h2, _⟩ | ⟨_, s', v', h3, rfl, h4⟩⟩
  · exact absurd hQ h1
  · rw [hs] at h2; cases h2
  · rw [hs] at h3; cases h3; exact ⟨v', rfl, h4, hb⟩
theorem lay_full (v ev : Value) (hv : Nat → Value) (rows : List (List Sp)) (ends : List Int) (w : World) (hR : RowsIn w.heap.size w v hv rows) (hE : Ints w ev ends) (hn : (cellsF 0 rows).length ≤ 1000000) (hQ : RightQ rows ends) (hs : layP rows ends = none) :
    Calls Try.prog 15 #[v, ev] w fun e W' => e = .returned (.tuple #[.slice none 0 0, .int .i64 0, .int .i64 43]) ∧ Below w.heap.size w W' := by
  refine (lay_any v ev hv rows ends w hR hE hn).mono ?_
  rintro e W' ⟨hb, ⟨h1, _⟩ | ⟨_, h2, rfl⟩ | ⟨_, s', v', h3, rfl, h4⟩⟩
  · exact absurd hQ h1
  · exact ⟨rfl, hb⟩
  · rw [hs] at h3; cases h3
theorem lay_wrong (v ev : Value) (hv : Nat → Value) (rows : List (List Sp)) (ends : List Int) (w : World) (hR : RowsIn w.heap.size w v hv rows) (hE : Ints w ev ends) (hn : (cellsF 0 rows).length ≤ 1000000) (hQ : ¬ RightQ rows ends) :
    Calls Try.prog 15 #[v, ev] w fun e W' => e = .returned (.tuple #[.slice none 0 0, .int .i64 0, .int .i64 70]) ∧ Below w.heap.size w W' := by
  refine (lay_any v ev hv rows ends w hR hE hn).mono ?_
  rintro e W' ⟨hb, ⟨h1, rfl⟩ | ⟨h2, _⟩ | ⟨h2, _⟩⟩
  · exact ⟨rfl, hb⟩
  · exact absurd h2 hQ
  · exact absurd h2 hQ
/-- a place, of whatever numbers -/
structure Pz where
  n : Int
  r : Int
  c : Int
  h : Int
  w : Int
deriving DecidableEq
def Pz.cells (p : Pz) : List Value := [.int .i64 p.n, .int .i64 p.r, .int .i64 p.c, .int .i64 p.h, .int .i64 p.w]
def Pl.z (p : Pl) : Pz := ⟨p.n, p.r, p.c, p.h, p.w⟩
/-- places lie in memory -/
def PsAt (W : World) (v : Value) (L : List Pz) : Prop :=
  L.length ≤ 9223372036854775807 ∧ ((∃ a c, v = .slice a 0 c ∧ L = []) ∨ ∃ b off c, v = .slice (some ⟨b, off, none⟩) L.length c ∧ ∀ i x, L[i]? = some x →
    W.cell? ⟨b, off + i * 5, none⟩ = some (.int .i64 x.n) ∧ W.cell? ⟨b, off + i * 5 + 1, none⟩ = some (.int .i64 x.r) ∧ W.cell? ⟨b, off + i * 5 + 2, none⟩ = some (.int .i64 x.c) ∧ W.cell? ⟨b, off + i * 5 + 3, none⟩ = some (.int .i64 x.h) ∧ W.cell? ⟨b, off + i * 5 + 4, none⟩ = some (.int .i64 x.w))
theorem PsAt.below {W W' : World} {v : Value} {L : List Pz} (h : PsAt W v L) (hb : Below W.heap.size W W') : PsAt W' v L := by
  refine ⟨h.1, h.2.imp id ?_⟩
  rintro ⟨b, off, c, e, hc⟩
  refine ⟨b, off, c, e, fun i x hx => ?_⟩
  obtain ⟨c0, c1, c2, c3, c4⟩ := hc i x hx
  have hl := cell_lt c0
  have hq : ∀ o, W'.cell? ⟨b, o, none⟩ = W.cell? ⟨b, o, none⟩ := fun o => hb.cell (p := ⟨b, o, none⟩) hl
  rw [hq, hq, hq, hq, hq]
  exact ⟨c0, c1, c2, c3, c4⟩
theorem PsAt.form {W : World} {v : Value} {L : List Pz} (h : PsAt W v L) : ∃ p c, v = .slice p L.length c := by
  rcases h.2 with ⟨a, c, rfl, rfl⟩ | ⟨b, off, c, e, _⟩
  · exact ⟨_, _, rfl⟩
  · exact ⟨_, _, e⟩
theorem PsAt.at {W : World} {p : Option Addr} {l c : Nat} {L : List Pz} (h : PsAt W (.slice p l c) L) (i : Nat) (x : Pz) (hx : L[i]? = some x) : ∃ b off, p = some ⟨b, off, none⟩ ∧ b < W.heap.size ∧
    W.cell? ⟨b, off + i * 5, none⟩ = some (.int .i64 x.n) ∧ W.cell? ⟨b, off + i * 5 + 1, none⟩ = some (.int .i64 x.r) ∧ W.cell? ⟨b, off + i * 5 + 2, none⟩ = some (.int .i64 x.c) ∧ W.cell? ⟨b, off + i * 5 + 3, none⟩ = some (.int .i64 x.h) ∧ W.cell? ⟨b, off + i * 5 + 4, none⟩ = some (.int .i64 x.w) := by
  rcases h.2 with ⟨a, c, _, rfl⟩ | ⟨b, off, c, e, hc⟩
  · simp at hx
  · injection e with e1 e2 e3
    exact ⟨b, off, e1, cell_lt (hc i x hx).1, hc i x hx⟩
theorem flat5_get : ∀ (L : List Pz) (i : Nat) (x : Pz) (j : Nat) (u : Value), L[i]? = some x → x.cells[j]? = some u → (L.flatMap Pz.cells)[i * 5 + j]? = some u
  | [], i, x, j, u, h, _ => by simp at h
  | y :: L, 0, x, j, u, h, hu => by
    simp at h; subst h
    rw [List.flatMap_cons, Nat.zero_mul, Nat.zero_add, List.getElem?_append_left (List.getElem?_eq_some_iff.1 hu).1]; exact hu
  | y :: L, i + 1, x, j, u, h, hu => by
    have ih := flat5_get L i x j u (by simpa using h) hu
    have hl : y.cells.length = 5 := rfl
    rw [List.flatMap_cons, List.getElem?_append_right (by rw [hl]; omega), hl, show (i + 1) * 5 + j - 5 = i * 5 + j by omega]
    exact ih
theorem places_lit {W : World} {g c : Nat} {t : Nat} {L : List Pz} (hc : ∀ j u, (L.flatMap Pz.cells)[j]? = some u → W.cell? ⟨g, j, none⟩ = some u) (hl : L.length ≤ 9223372036854775807) : PsAt W (.slice (some ⟨g, 0, none⟩) L.length c) L :=
  ⟨hl, .inr ⟨g, 0, c, rfl, fun i x hx => by
    rw [Nat.zero_add]
    exact ⟨hc _ _ (flat5_get L i x 0 _ hx rfl), hc _ _ (flat5_get L i x 1 _ hx rfl), hc _ _ (flat5_get L i x 2 _ hx rfl), hc _ _ (flat5_get L i x 3 _ hx rfl), hc _ _ (flat5_get L i x 4 _ hx rfl)⟩⟩⟩
theorem places_whole {W : World} {g c : Nat} {t : Nat} {L : List Pz} (h : Whole W g t (L.flatMap Pz.cells)) (hl : L.length ≤ 9223372036854775807) : PsAt W (.slice (some ⟨g, 0, none⟩) L.length c) L :=
  places_lit (t := t) (fun j u hu => by rw [h.cellAt]; exact hu) hl
theorem flat_z (ps : List Pl) : (ps.map Pl.z).flatMap Pz.cells = ps.flatMap Pl.cells := by
  induction ps with
  | nil => rfl
  | cons p ps ih => rw [List.map_cons, List.flatMap_cons, List.flatMap_cons, ih]; rfl
theorem OwnP.places {base : Nat} {X : World} {v : Value} {ps : List Pl} (h : OwnP base X v ps) (hl : ps.length ≤ 9223372036854775807) : PsAt X v (ps.map Pl.z) := by
  rcases h.2 with ⟨rfl, h0⟩ | ⟨g, cap, cur, rfl, hb, hg, _, _, hcs, htk⟩
  · have : ps = [] := List.length_eq_zero_iff.1 h0
    rw [this]; exact ⟨by simp, .inl ⟨none, 0, rfl, rfl⟩⟩
  · have e := places_lit (W := X) (g := g) (c := cap) (t := 0) (L := ps.map Pl.z) (fun j u hu => by
      rw [flat_z, ← htk] at hu
      have hj := (List.getElem?_eq_some_iff.1 hu).1
      rw [List.length_take] at hj
      rw [List.getElem?_take_of_lt (by omega)] at hu
      simp only [World.cell?, hg]
      rw [← Array.getElem?_toList]; exact hu) (by simpa using hl)
    rw [List.length_map] at e
    exact e
theorem pz_eql (x y : Pz) (X : World) : (binOp .neq 52 (.agg #[.int .i64 x.n, .int .i64 x.r, .int .i64 x.c, .int .i64 x.h, .int .i64 x.w]) (.agg #[.int .i64 y.n, .int .i64 y.r, .int .i64 y.c, .int .i64 y.h, .int .i64 y.w])).run Try.prog X = .ok (.bool (!decide (x = y))) X := by
  obtain ⟨a, b, c, d, e⟩ := x
  obtain ⟨a', b', c', d', e'⟩ := y
  dsimp only
  by_cases h1 : a = a'
  · by_cases h2 : b = b'
    · by_cases h3 : c = c'
      · by_cases h4 : d = d'
        · by_cases h5 : e = e'
          · subst h1 h2 h3 h4 h5; go_simp
          · subst h1 h2 h3 h4; go_simp
        · subst h1 h2 h3; go_simp
      · subst h1 h2; go_simp
    · subst h1; go_simp
  · go_simp
theorem list_ne {α : Type} {xs ys : List α} (h : xs.length = ys.length) (h' : xs ≠ ys) : ∃ (k : Nat) (x y : α), k < xs.length ∧ xs[k]? = some x ∧ ys[k]? = some y ∧ x ≠ y := by
  apply Classical.byContradiction
  intro hn
  apply h'
  apply List.ext_getElem h
  intro i h1 h2
  apply Classical.byContradiction
  intro hd
  exact hn ⟨i, _, _, h1, List.getElem?_eq_getElem h1, List.getElem?_eq_getElem h2, hd⟩
set_option maxHeartbeats 400000 in
theorem gsame_lens (a b : Option Addr) (n m c d : Nat) (w : World) (h : n ≠ m) (hn : n ≤ 9223372036854775807) (hm : m ≤ 9223372036854775807) :
    Calls Try.prog 16 #[.slice a n c, .slice b m d] w fun e w' => e = .returned (.bool false) ∧ w = w' := by
  have h' : ((n : Int) == (m : Int)) = false := by simp; omega
  have h'' : ((n : Int) != (m : Int)) = true := by simp; omega
  go_enter Try.func16, Try.ntmps16
  go_wp2
  go_ret
  exact ⟨rfl, rfl⟩
set_option maxHeartbeats 1000000 in
theorem gsame_some (p q : Option Addr) (cap cap' : Nat) (xs ys : List Pz) (m : Nat) (w : World) (hm : m ≤ 9223372036854775807) (hx0 : xs.length = m) (hy0 : ys.length = m)
    (hx : PsAt w (.slice p m cap) xs) (hy : PsAt w (.slice q m cap') ys) (same : Bool) (hs : Hid (decide (xs = ys) = same)) :
    Calls Try.prog 16 #[.slice p m cap, .slice q m cap'] w fun e w' => e = .returned (.bool same) ∧ Below w.heap.size w w' := by
  have HX := Lib.hid hx
  have HY := Lib.hid hy
  have HX0 := Lib.hid hx0
  have HY0 := Lib.hid hy0
  clear hx hy hx0 hy0
  go_enter Try.func16, Try.ntmps16
  go_wp2
  go_loopw [5] (fun i wr => ∃ k n : Nat, k ≤ m ∧ i = .int .i64 k ∧ Hid (∀ (j : Nat) (x y : Pz), j < k → xs[j]? = some x → ys[j]? = some y → x = y) ∧ wr = w.drewN n) (fun i _ => m - (intOf i).toNat)
  case atStart => exact ⟨0, 0, Nat.zero_le _, rfl, Lib.hid (fun j x y hj => by omega), rfl⟩
  case round =>
    obtain ⟨k, n, hk, rfl, hj, rfl⟩ := hrel
    by_cases hlt : k < m
    · obtain ⟨x, ex⟩ : ∃ x, xs[k]? = some x := ⟨_, List.getElem?_eq_getElem (by rw [HX0.out]; exact hlt)⟩
      obtain ⟨y, ey⟩ : ∃ y, ys[k]? = some y := ⟨_, List.getElem?_eq_getElem (by rw [HY0.out]; exact hlt)⟩
      obtain ⟨b, off, rfl, lb, cx0, cx1, cx2, cx3, cx4⟩ := HX.out.at k x ex
      obtain ⟨b', off', rfl, lb', cy0, cy1, cy2, cy3, cy4⟩ := HY.out.at k y ey
      have EX := Lib.hid ex
      have EY := Lib.hid ey
      clear ex ey
      by_cases he : x = y
      · have hE : ∀ X : World, (binOp .neq 52 (.agg #[.int .i64 x.n, .int .i64 x.r, .int .i64 x.c, .int .i64 x.h, .int .i64 x.w]) (.agg #[.int .i64 y.n, .int .i64 y.r, .int .i64 y.c, .int .i64 y.h, .int .i64 y.w])).run Try.prog X = .ok (.bool false) X := fun X => by rw [pz_eql]; simp [he]
        have HJ : Hid (∀ (j : Nat) (x y : Pz), j < k + 1 → xs[j]? = some x → ys[j]? = some y → x = y) := Lib.hid (fun j x' y' h1 h2 h3 => by
          by_cases hjk : j < k
          · exact hj.out j x' y' hjk h2 h3
          · obtain rfl : j = k := by omega
            rw [EX.out] at h2; rw [EY.out] at h3
            injection h2 with h2; injection h3 with h3
            rw [← h2, ← h3]; exact he)
        clear he hj
        go_wp2
        go_quiet (fail)
        go_wp2
        go_roundw
        case rel => exact ⟨k + 1, _, by omega, by go_num, HJ, rfl⟩
        case measure => simp [intOf]; omega
      · have hE : ∀ X : World, (binOp .neq 52 (.agg #[.int .i64 x.n, .int .i64 x.r, .int .i64 x.c, .int .i64 x.h, .int .i64 x.w]) (.agg #[.int .i64 y.n, .int .i64 y.r, .int .i64 y.c, .int .i64 y.h, .int .i64 y.w])).run Try.prog X = .ok (.bool true) X := fun X => by rw [pz_eql, decide_eq_false he]; rfl
        have hf : same = false := by
          rw [← hs.out]
          refine decide_eq_false (fun h => he ?_)
          have h1 := EX.out
          have h2 := EY.out
          rw [h, h2] at h1
          injection h1 with h1
          exact h1.symm
        clear he hj hs
        subst hf
        go_wp2
        go_quiet (fail)
        go_wp2
        go_ret
        exact ⟨rfl, (below_dn w.heap.size w n).trans (below_dn w.heap.size _ _)⟩
    · have ht : same = true := by
        rw [← hs.out]
        refine decide_eq_true ?_
        apply Classical.byContradiction
        intro hne
        obtain ⟨i, x, y, hi, h1, h2, h3⟩ := list_ne (by rw [HX0.out, HY0.out]) hne
        exact h3 (hj.out i x y (by have := HX0.out; omega) h1 h2)
      clear hk hs hj
      subst ht
      go_wp2
      go_ret
      exact ⟨rfl, below_dn _ _ _⟩
theorem gsame_any (v v' : Value) (E E' : List Pz) (w : World) (h : PsAt w v E) (h' : PsAt w v' E') :
    Calls Try.prog 16 #[v, v'] w fun e w' => e = .returned (.bool (decide (E = E'))) ∧ Below w.heap.size w w' := by
  obtain ⟨p, c, rfl⟩ := h.form
  obtain ⟨p', c', rfl⟩ := h'.form
  by_cases hl : E.length = E'.length
  · rw [← hl] at h' ⊢
    exact gsame_some p p' c c' E E' _ w h.1 rfl hl.symm h h' _ rfl
  · have hd : decide (E = E') = false := decide_eq_false (fun e => hl (by rw [e]))
    rw [hd]
    refine (gsame_lens p p' _ _ c c' w hl h.1 h'.1).mono ?_
    rintro e w' ⟨rfl, rfl⟩
    exact ⟨rfl, Below.refl _ _⟩
end Go.Proofs.Ytcgnldcdcbnofaa
