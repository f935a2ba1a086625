/- The document's Same for lines; the law's own check of known lines is true. Written by mk_LnShown.py. -/
import Derived.Test.YthgkjgaebgpplaaLnLaw
namespace Go.Proofs.Ythgkjgaebgpplaa
open Go.RowKit Go.Shelf
set_option linter.unusedVariables false
attribute [local go_sem] Oper.semAt_some

/-- lines in memory -/
def LnsAt (W : World) (v : Value) (Ls : List (Nat × Nat)) : Prop :=
  Ls.length ≤ 9223372036854775807 ∧ ((∃ a c, v = .slice a 0 c ∧ Ls = []) ∨ ∃ b off c, v = .slice (some ⟨b, off, none⟩) Ls.length c ∧
    ∀ i x, Ls[i]? = some x → W.cell? ⟨b, off + i * 2, none⟩ = some (.int .i64 (x.1 : Int)) ∧ W.cell? ⟨b, off + i * 2 + 1, none⟩ = some (.int .i64 (x.2 : Int)))
theorem LnsAt.below {W W' : World} {v : Value} {Ls : List (Nat × Nat)} (h : LnsAt W v Ls) (hb : Below W.heap.size W W') : LnsAt W' v Ls := by
  refine ⟨h.1, h.2.imp id ?_⟩
  rintro ⟨b, off, c, e, hc⟩
  refine ⟨b, off, c, e, fun i x hx => ?_⟩
  obtain ⟨h1, h2⟩ := hc i x hx
  have hlt := cell_lt h1
  exact ⟨(hb.cell (p := ⟨b, off + i * 2, none⟩) hlt).trans h1, (hb.cell (p := ⟨b, off + i * 2 + 1, none⟩) hlt).trans h2⟩
theorem LnsAt.form {W : World} {v : Value} {Ls : List (Nat × Nat)} (h : LnsAt W v Ls) : ∃ p c, v = .slice p Ls.length c := by
  rcases h.2 with ⟨a, c, rfl, rfl⟩ | ⟨b, off, c, rfl, _⟩
  · exact ⟨_, _, rfl⟩
  · exact ⟨_, _, rfl⟩
theorem LnsAt.at {W : World} {p : Option Addr} {l c : Nat} {Ls : List (Nat × Nat)} (h : LnsAt W (.slice p l c) Ls) (i : Nat) (x : Nat × Nat) (hx : Ls[i]? = some x) :
    ∃ b off, p = some ⟨b, off, none⟩ ∧ b < W.heap.size ∧ W.cell? ⟨b, off + i * 2, none⟩ = some (.int .i64 (x.1 : Int)) ∧ W.cell? ⟨b, off + i * 2 + 1, none⟩ = some (.int .i64 (x.2 : Int)) := by
  rcases h.2 with ⟨a, c', _, rfl⟩ | ⟨b, off, c', e, hc⟩
  · simp at hx
  · injection e with e1 e2 e3
    exact ⟨b, off, e1, cell_lt (hc i x hx).1, hc i x hx⟩
theorem flatLn_get : ∀ (L : List (Nat × Nat)) (i : Nat) (x : Nat × Nat) (j : Nat) (u : Value), L[i]? = some x → (lnCells x)[j]? = some u → (flatLn L)[i * 2 + j]? = some u
  | [], i, x, j, u, h, _ => by simp at h
  | y :: L, 0, x, j, u, h, hu => by
    simp at h; subst h
    unfold flatLn
    rw [List.flatMap_cons, Nat.zero_mul, Nat.zero_add, List.getElem?_append_left (List.getElem?_eq_some_iff.1 hu).1]; exact hu
  | y :: L, i + 1, x, j, u, h, hu => by
    have ih := flatLn_get L i x j u (by simpa using h) hu
    have hl : (lnCells y).length = 2 := rfl
    unfold flatLn at ih ⊢
    rw [List.flatMap_cons, List.getElem?_append_right (by rw [hl]; omega), hl, show (i + 1) * 2 + j - 2 = i * 2 + j by omega]
    exact ih
theorem lns_lit {W : World} {g c : Nat} {L : List (Nat × Nat)} (hc : ∀ j u, (flatLn L)[j]? = some u → W.cell? ⟨g, j, none⟩ = some u) (hl : L.length ≤ 9223372036854775807) : LnsAt W (.slice (some ⟨g, 0, none⟩) L.length c) L :=
  ⟨hl, .inr ⟨g, 0, c, rfl, fun i x hx => by
    rw [Nat.zero_add]
    exact ⟨hc _ _ (flatLn_get L i x 0 _ hx rfl), hc _ _ (flatLn_get L i x 1 _ hx rfl)⟩⟩⟩
theorem OwnL.lns {base : Nat} {X : World} {v : Value} {Ls : List (Nat × Nat)} (h : OwnL base X v Ls) (hl : Ls.length ≤ 9223372036854775807) : LnsAt X v Ls := by
  rcases h.2 with ⟨rfl, h0⟩ | ⟨g, cap, cur, rfl, hb, hg, _, _, hcs, htk⟩
  · have : Ls = [] := List.length_eq_zero_iff.1 h0
    rw [this]; exact ⟨by simp, .inl ⟨none, 0, rfl, rfl⟩⟩
  · exact lns_lit (fun j u hu => by
      rw [← htk] at hu
      have hj := (List.getElem?_eq_some_iff.1 hu).1
      rw [List.length_take] at hj
      rw [List.getElem?_take_of_lt (by omega)] at hu
      simp only [World.cell?, hg]
      rw [← Array.getElem?_toList]; exact hu) hl
set_option maxHeartbeats 1000000 in
theorem lnsame_at (p q : Option Addr) (cap cap' : Nat) (xs : List (Nat × Nat)) (m : Nat) (w : World) (hm : m ≤ 9223372036854775807) (hx0 : xs.length = m)
    (hx : LnsAt w (.slice p m cap) xs) (hy : LnsAt w (.slice q m cap') xs) :
    Calls Try.prog 16 #[.slice p m cap, .slice q m cap'] w fun e w' => e = .returned (.bool true) ∧ Below w.heap.size w w' := by
  have HX := Lib.hid hx
  have HY := Lib.hid hy
  have HX0 := Lib.hid hx0
  clear hx hy hx0
  go_enter Try.func16, Try.ntmps16
  go_wp2
  go_loopw [5] (fun i wr => ∃ k n : Nat, k ≤ m ∧ i = .int .i64 k ∧ wr = w.drewN n) (fun i _ => m - (intOf i).toNat)
  case atStart => exact ⟨0, 0, Nat.zero_le _, rfl, rfl⟩
  case round =>
    obtain ⟨k, n, hk, rfl, rfl⟩ := hrel
    by_cases hlt : k < m
    · obtain ⟨x, ex⟩ : ∃ x, xs[k]? = some x := ⟨_, List.getElem?_eq_getElem (by rw [HX0.out]; exact hlt)⟩
      obtain ⟨b, off, rfl, lb, cx0, cx1⟩ := HX.out.at k x ex
      obtain ⟨b', off', rfl, lb', cy0, cy1⟩ := HY.out.at k x ex
      obtain ⟨x1, x2⟩ := x
      dsimp only at cx0 cx1 cy0 cy1
      have hE : ∀ X : World, (binOp .neq 57 (.agg #[.int .i64 (x1 : Int), .int .i64 (x2 : Int)]) (.agg #[.int .i64 (x1 : Int), .int .i64 (x2 : Int)])).run Try.prog X = .ok (.bool false) X := fun X => two_neq _ _ _ _ _ (by simp) X
      have hE2 := two_eqr (x1 : Int) (x2 : Int) (x1 : Int) (x2 : Int) true (by simp)
      clear ex
      go_wp2
      go_quiet (fail)
      go_wp2
      go_roundw
      case rel => exact ⟨k + 1, _, by omega, by go_num, rfl⟩
      case measure => simp [intOf]; omega
    · clear hk
      go_wp2
      go_ret
      exact ⟨rfl, below_dn _ _ _⟩
theorem lnsame_any (v v' : Value) (E : List (Nat × Nat)) (w : World) (h : LnsAt w v E) (h' : LnsAt w v' E) :
    Calls Try.prog 16 #[v, v'] w fun e w' => e = .returned (.bool true) ∧ Below w.heap.size w w' := by
  obtain ⟨p, c, rfl⟩ := h.form
  obtain ⟨p', c', rfl⟩ := h'.form
  exact lnsame_at p p' c c' E _ w h.1 rfl h h'
def shNd (w : World) : Nd := ⟨1, .slice none 0 0, [], Sty.zero, .slice (some ⟨w.heap.size, 0, none⟩) 3 3, [3, 4, 5], 1, 8⟩
theorem sh_line1 : IsLine 1 8 [3, 4, 5] 0 2 := by
  refine ⟨by decide, by decide, fun m h1 h2 => ?_, fun _ => by decide⟩
  obtain rfl : m = 2 := by omega
  decide
theorem sh_line2 : IsLine 1 8 [3, 4, 5] 2 3 := by
  refine ⟨by decide, by decide, fun m h1 h2 => by omega, fun h => absurd h (by decide)⟩
theorem sh_lines : Broke (IsLine 1 8 [3, 4, 5]) 0 [(0, 2), (2, 3)] 3 := ⟨rfl, sh_line1, rfl, sh_line2, rfl⟩
theorem sh_flat : flatLn [(0, 2), (2, 3)] = [.int .i64 0, .int .i64 2, .int .i64 2, .int .i64 3] := rfl
theorem sh_lns (w : World) : LnsAt (w.alloc (.cells #[.int .i64 0, .int .i64 2, .int .i64 2, .int .i64 3] 57)) (.slice (some ⟨w.heap.size, 0, none⟩) 2 2) [(0, 2), (2, 3)] :=
  lns_lit (L := [(0, 2), (2, 3)]) (fun j u hu => by
    rw [sh_flat] at hu
    exact ((whole_new w [.int .i64 0, .int .i64 2, .int .i64 2, .int .i64 3] 57 _ rfl).cellAt j).trans hu) (by simp)
theorem sh_box (w : World) : boxOf (shNd w) [(0, 2), (2, 3)] = boxCells 5 14 16 6 true := by rfl
theorem sh_text (w : World) : textB (shNd w) = true := by rfl
theorem shz_most : mostV ndZL = .tuple #[.int .i64 0, .int .i64 90] := by rfl
theorem sh_lit (w : World) : (shNd w).cells.toArray = #[.int .i64 1, .slice none 0 0, .int .i64 0, .int .i64 0, .int .i64 0, .int .i64 0, .int .i64 0, .int .i64 0, .int .i64 0, .int .i64 0, .int .i64 0, .int .i64 0, .int .u32 0, .int .i64 0, .int .i64 0, .int .u32 0, .int .i64 0, .int .i64 0, .int .u32 0, .int .i64 0, .int .i64 0, .int .u32 0, .int .i64 0, .int .i64 0, .int .i64 0, .bool false, .bool false, .int .i64 0, .int .i64 0, .bool false, .bool false, .slice (some ⟨w.heap.size, 0, none⟩) 3 3, .int .i64 1, .int .i64 8] := rfl
theorem shz_cells : ndZL.cells.toArray = #[.int .i64 0, .slice none 0 0, .int .i64 0, .int .i64 0, .int .i64 0, .int .i64 0, .int .i64 0, .int .i64 0, .int .i64 0, .int .i64 0, .int .i64 0, .int .i64 0, .int .u32 0, .int .i64 0, .int .i64 0, .int .u32 0, .int .i64 0, .int .i64 0, .int .u32 0, .int .i64 0, .int .i64 0, .int .u32 0, .int .i64 0, .int .i64 0, .int .i64 0, .bool false, .bool false, .int .i64 0, .int .i64 0, .bool false, .bool false, .slice none 0 0, .int .i64 0, .int .i64 0] := rfl
theorem sh_one (w : World) : (#[.int .i64 1, .slice none 0 0, .int .i64 0, .int .i64 0, .int .i64 0, .int .i64 0, .int .i64 0, .int .i64 0, .int .i64 0, .int .i64 0, .int .i64 0, .int .i64 0, .int .u32 0, .int .i64 0, .int .i64 0, .int .u32 0, .int .i64 0, .int .i64 0, .int .u32 0, .int .i64 0, .int .i64 0, .int .u32 0, .int .i64 0, .int .i64 0, .int .i64 0, .bool false, .bool false, .int .i64 0, .int .i64 0, .bool false, .bool false, .slice (some ⟨w.heap.size, 0, none⟩) 3 3, .int .i64 1, .int .i64 8] : Array Value).all (·.oneCell') = true := by simp [Value.oneCell']
theorem sh_zero (w : World) : Whole ((w.alloc (.cells #[.int .i64 3, .int .i64 4, .int .i64 5] 2)).alloc (.cells #[.int .i64 0, .slice none 0 0, .int .i64 0, .int .i64 0, .int .i64 0, .int .i64 0, .int .i64 0, .int .i64 0, .int .i64 0, .int .i64 0, .int .i64 0, .int .i64 0, .int .u32 0, .int .i64 0, .int .i64 0, .int .u32 0, .int .i64 0, .int .i64 0, .int .u32 0, .int .i64 0, .int .i64 0, .int .u32 0, .int .i64 0, .int .i64 0, .int .i64 0, .bool false, .bool false, .int .i64 0, .int .i64 0, .bool false, .bool false, .slice none 0 0, .int .i64 0, .int .i64 0] 35)) (w.heap.size + 1) 35 ndZL.cells := by
  rw [← shz_cells]; exact whole_new (w.alloc (.cells #[.int .i64 3, .int .i64 4, .int .i64 5] 2)) ndZL.cells 35 _ (by simp)
theorem sh_mem (w W1 : World) (hW1 : ((w.alloc (.cells #[.int .i64 3, .int .i64 4, .int .i64 5] 2)).alloc (.cells #[.int .i64 0, .slice none 0 0, .int .i64 0, .int .i64 0, .int .i64 0, .int .i64 0, .int .i64 0, .int .i64 0, .int .i64 0, .int .i64 0, .int .i64 0, .int .i64 0, .int .u32 0, .int .i64 0, .int .i64 0, .int .u32 0, .int .i64 0, .int .i64 0, .int .u32 0, .int .i64 0, .int .i64 0, .int .u32 0, .int .i64 0, .int .i64 0, .int .i64 0, .bool false, .bool false, .int .i64 0, .int .i64 0, .bool false, .bool false, .slice none 0 0, .int .i64 0, .int .i64 0] 35)).setRow (w.heap.size + 1) #[.int .i64 1, .slice none 0 0, .int .i64 0, .int .i64 0, .int .i64 0, .int .i64 0, .int .i64 0, .int .i64 0, .int .i64 0, .int .i64 0, .int .i64 0, .int .i64 0, .int .u32 0, .int .i64 0, .int .i64 0, .int .u32 0, .int .i64 0, .int .i64 0, .int .u32 0, .int .i64 0, .int .i64 0, .int .u32 0, .int .i64 0, .int .i64 0, .int .i64 0, .bool false, .bool false, .int .i64 0, .int .i64 0, .bool false, .bool false, .slice (some ⟨w.heap.size, 0, none⟩) 3 3, .int .i64 1, .int .i64 8] = W1) : NdIn (shNd w) (w.heap.size + 1) W1 ∧ Below w.heap.size w W1 := by
  have hb : Below w.heap.size w W1 := by rw [← hW1]; exact (((Below.refl _ w).alloc (Nat.le_refl _) _).alloc (by simp) _).trans (below_rowL _ _ _ (by omega))
  refine ⟨⟨?_, ?_⟩, hb⟩
  · rw [← hW1, ← sh_lit]; exact whole_rowL (sh_zero w) _
  · have hI : Ints W1 (.slice (some ⟨w.heap.size, 0, none⟩) 3 3) [3, 4, 5] := by
      have h0 : Whole W1 w.heap.size 2 [.int .i64 3, .int .i64 4, .int .i64 5] := by
        rw [← hW1]
        exact (setRow_other _ _ _ _ (by omega)).trans ((whole_new w [.int .i64 3, .int .i64 4, .int .i64 5] 2 _ rfl).alloc _)
      exact Ints.whole (t := 2) h0 rfl (by omega)
    exact ⟨⟨by simp [shNd], .inl ⟨none, 0, rfl, rfl⟩⟩, hI, ⟨none, 0, 0, rfl, by omega, by omega⟩, ⟨_, _, _, rfl, by omega, by omega⟩⟩
theorem sh_break (w X : World) (cs : Array Value) (hcs : (shNd w).cells.toArray = cs) (h : (shNd w).ok X) : Calls Try.prog 12 #[.agg cs, .int .i64 8] X (BrPost (shNd w) 8 X) := by
  have := break_main (shNd w) X _ 3 3 8 1 h (sh_text w) rfl rfl (by omega) rfl
  rwa [show (shNd w).val = .agg (shNd w).cells.toArray from rfl, hcs] at this
theorem sh_least (w : World) : leastW (shNd w).ws = 5 := by rfl
theorem sh_wide (w : World) : wideW (shNd w).b (shNd w).ws 0 (shNd w).ws.length = 14 := by rfl
theorem sh_boxc (w X : World) (cs : Array Value) (hcs : (shNd w).cells.toArray = cs) (h : (shNd w).ok X) : Calls Try.prog 13 #[.agg cs, .int .i64 8] X fun e W' => e = .returned (.tuple #[.agg #[.int .i64 5, .int .i64 14, .int .i64 16, .int .i64 6, .bool true], .int .i64 0]) ∧ Below X.heap.size X W' := by
  have := box_good (shNd w) X 8 _ 3 3 8 5 14 h (sh_text w) rfl rfl (by omega) rfl (sh_least w) (sh_wide w)
  rw [show (shNd w).val = .agg (shNd w).cells.toArray from rfl, hcs] at this
  refine this.mono fun e W' ⟨Ls, h1, h2, h3⟩ => ⟨?_, h3⟩
  have h4 : Ls = [(0, 2), (2, 3)] := Broke.same h2 sh_lines
  rw [h1, h4, sh_box]; rfl
theorem shz_lit : ndZL.val = .agg #[.int .i64 0, .slice none 0 0, .int .i64 0, .int .i64 0, .int .i64 0, .int .i64 0, .int .i64 0, .int .i64 0, .int .i64 0, .int .i64 0, .int .i64 0, .int .i64 0, .int .u32 0, .int .i64 0, .int .i64 0, .int .u32 0, .int .i64 0, .int .i64 0, .int .u32 0, .int .i64 0, .int .i64 0, .int .u32 0, .int .i64 0, .int .i64 0, .int .i64 0, .bool false, .bool false, .int .i64 0, .int .i64 0, .bool false, .bool false, .slice none 0 0, .int .i64 0, .int .i64 0] := rfl
theorem sh_most (X : World) : Calls Try.prog 21 #[.agg #[.int .i64 0, .slice none 0 0, .int .i64 0, .int .i64 0, .int .i64 0, .int .i64 0, .int .i64 0, .int .i64 0, .int .i64 0, .int .i64 0, .int .i64 0, .int .i64 0, .int .u32 0, .int .i64 0, .int .i64 0, .int .u32 0, .int .i64 0, .int .i64 0, .int .u32 0, .int .i64 0, .int .i64 0, .int .u32 0, .int .i64 0, .int .i64 0, .int .i64 0, .bool false, .bool false, .int .i64 0, .int .i64 0, .bool false, .bool false, .slice none 0 0, .int .i64 0, .int .i64 0]] X fun e W' => e = .returned (.tuple #[.int .i64 0, .int .i64 90]) ∧ Below X.heap.size X W' := by
  have := most_any ndZL X (ndZL_ok X)
  rw [shz_most, shz_lit] at this
  exact this
set_option maxRecDepth 100000 in
set_option maxHeartbeats 2000000 in
theorem shown8_any (w : World) : Calls Try.prog 10 #[] w fun e W' => e = .returned (.bool true) ∧ Below w.heap.size w W' := by
  obtain ⟨W1, hW1⟩ : ∃ W1, ((w.alloc (.cells #[.int .i64 3, .int .i64 4, .int .i64 5] 2)).alloc (.cells #[.int .i64 0, .slice none 0 0, .int .i64 0, .int .i64 0, .int .i64 0, .int .i64 0, .int .i64 0, .int .i64 0, .int .i64 0, .int .i64 0, .int .i64 0, .int .i64 0, .int .u32 0, .int .i64 0, .int .i64 0, .int .u32 0, .int .i64 0, .int .i64 0, .int .u32 0, .int .i64 0, .int .i64 0, .int .u32 0, .int .i64 0, .int .i64 0, .int .i64 0, .bool false, .bool false, .int .i64 0, .int .i64 0, .bool false, .bool false, .slice none 0 0, .int .i64 0, .int .i64 0] 35)).setRow (w.heap.size + 1) #[.int .i64 1, .slice none 0 0, .int .i64 0, .int .i64 0, .int .i64 0, .int .i64 0, .int .i64 0, .int .i64 0, .int .i64 0, .int .i64 0, .int .i64 0, .int .i64 0, .int .u32 0, .int .i64 0, .int .i64 0, .int .u32 0, .int .i64 0, .int .i64 0, .int .u32 0, .int .i64 0, .int .i64 0, .int .u32 0, .int .i64 0, .int .i64 0, .int .i64 0, .bool false, .bool false, .int .i64 0, .int .i64 0, .bool false, .bool false, .slice (some ⟨w.heap.size, 0, none⟩) 3 3, .int .i64 1, .int .i64 8] = W1 := ⟨_, rfl⟩
  obtain ⟨HN0, hb1⟩ := sh_mem w W1 hW1
  have HNH := Lib.hid HN0
  have HZ := Lib.hid (sh_zero w)
  obtain ⟨cs, hcs⟩ : ∃ cs, (shNd w).cells.toArray = cs := ⟨_, rfl⟩
  have HLN := Lib.hid (fun (X : World) (hX : NdIn (shNd w) (w.heap.size + 1) X) => hX.cells' cs hcs)
  have iN : Hid ((Try.prog.info? 35).map (·.size) = some cs.size) := Lib.hid (by rw [← hcs]; exact nd_info (shNd w))
  have HW1 := Lib.hid hW1
  have HBR := Lib.hid (sh_break w W1 cs hcs HN0.ok)
  have HBX := Lib.hid (fun (X : World) (h : (shNd w).ok X) => sh_boxc w X cs hcs h)
  have HMO := Lib.hid sh_most
  have HB1 := Lib.hid hb1
  have iL : Hid ((Try.prog.info? 35).map (·.size) = some (#[.int .i64 1, .slice none 0 0, .int .i64 0, .int .i64 0, .int .i64 0, .int .i64 0, .int .i64 0, .int .i64 0, .int .i64 0, .int .i64 0, .int .i64 0, .int .i64 0, .int .u32 0, .int .i64 0, .int .i64 0, .int .u32 0, .int .i64 0, .int .i64 0, .int .u32 0, .int .i64 0, .int .i64 0, .int .u32 0, .int .i64 0, .int .i64 0, .int .i64 0, .bool false, .bool false, .int .i64 0, .int .i64 0, .bool false, .bool false, .slice (some ⟨w.heap.size, 0, none⟩) 3 3, .int .i64 1, .int .i64 8] : Array Value).size) := Lib.hid (by rw [Try.infoNd]; rfl)
  have zL : Hid (ndZL.cells.toArray.size = (#[.int .i64 1, .slice none 0 0, .int .i64 0, .int .i64 0, .int .i64 0, .int .i64 0, .int .i64 0, .int .i64 0, .int .i64 0, .int .i64 0, .int .i64 0, .int .i64 0, .int .u32 0, .int .i64 0, .int .i64 0, .int .u32 0, .int .i64 0, .int .i64 0, .int .u32 0, .int .i64 0, .int .i64 0, .int .u32 0, .int .i64 0, .int .i64 0, .int .i64 0, .bool false, .bool false, .int .i64 0, .int .i64 0, .bool false, .bool false, .slice (some ⟨w.heap.size, 0, none⟩) 3 3, .int .i64 1, .int .i64 8] : Array Value).size) := Lib.hid rfl
  have oL := Lib.hid (sh_one w)
  clear HN0 hcs hW1 hb1
  go_enter Try.func10, Try.ntmps10
  go_wp2_with (first
    | (refine wpList_store_row rfl 35 (.tmp 1) (.tmp 9) rfl _ #[.int .i64 1, .slice none 0 0, .int .i64 0, .int .i64 0, .int .i64 0, .int .i64 0, .int .i64 0, .int .i64 0, .int .i64 0, .int .i64 0, .int .i64 0, .int .i64 0, .int .u32 0, .int .i64 0, .int .i64 0, .int .u32 0, .int .i64 0, .int .i64 0, .int .u32 0, .int .i64 0, .int .i64 0, .int .u32 0, .int .i64 0, .int .i64 0, .int .i64 0, .bool false, .bool false, .int .i64 0, .int .i64 0, .bool false, .bool false, .slice (some ⟨w.heap.size, 0, none⟩) 3 3, .int .i64 1, .int .i64 8] rfl rfl 35 ndZL.cells.toArray HZ.out iL.out zL.out oL.out ?_; rw [HW1.out]; clear HZ)
    | (with_reducible refine wpList_load_at rfl 35 (.tmp 1) rfl _ rfl cs _ (HLN.out _ HNH.out) Try.underlying35 rfl iN.out ?_)
    | (go_at_call 12; refine HBR.out.mono ?_; clear HBR; rintro e w2 ⟨lv, Ls, rfl, hbr, hol, hb2⟩; refine Hid.out ?_))
  refine Lib.hid ?_
  obtain rfl : Ls = [(0, 2), (2, 3)] := Broke.same hbr sh_lines
  have HLV := Lib.hid (hol.lns (by simp))
  have HN2 := Lib.hid (HNH.out.below hb2)
  have HB2 := Lib.hid (HB1.out.trans (hb2.mono HB1.out.size))
  obtain ⟨lp, lc, rfl⟩ := hol.form
  dsimp only [List.length_cons, List.length_nil, Nat.reduceAdd] at HLV ⊢
  clear hbr hol hb2
  go_wp2_with (first
    | (with_reducible refine wpList_load_at rfl 35 (.tmp 1) rfl _ rfl cs _ (HLN.out _ HN2.out) Try.underlying35 rfl iN.out ?_)
    | (go_at_call 13; refine (HBX.out _ HN2.out.ok).mono ?_; clear HBX; rintro e w3 ⟨rfl, hb3⟩; have HB3 := Lib.hid (HB2.out.trans (hb3.mono HB2.out.size)); have HL3 := Lib.hid (HLV.out.below hb3); clear hb3; have hk4 := whole_new w3 [.int .i64 5, .int .i64 14, .int .i64 16, .int .i64 6, .bool true] 43 _ rfl; have HK4 := Lib.hid hk4; clear hk4)
    | (go_at_call 21; refine (HMO.out _).mono ?_; clear HMO; rintro e w4 ⟨rfl, hb4⟩; refine Hid.out ?_))
  refine Lib.hid ?_
  --X
  have hk := HK4.out.below hb4 HK4.out.lt
  have c0 := hk.cellAt 0
  have c1 := hk.cellAt 1
  have c2 := hk.cellAt 2
  have c3 := hk.cellAt 3
  have c4 := hk.cellAt 4
  have l4 := hk.lt
  have hz3 := HB3.out.size
  have HB4 := Lib.hid ((HB3.out.alloc HB3.out.size (.cells #[.int .i64 5, .int .i64 14, .int .i64 16, .int .i64 6, .bool true] 43)).trans (hb4.mono (by simp; omega)))
  have HL4 := Lib.hid ((HL3.out.below ((Below.refl _ w3).alloc (Nat.le_refl _) (.cells #[.int .i64 5, .int .i64 14, .int .i64 16, .int .i64 6, .bool true] 43))).below hb4)
  have KW := Lib.hid hk
  clear hk hb4
  go_wp2_with (go_at_call 16; refine (lnsame_any _ _ [(0, 2), (2, 3)] _ (HL4.out.below ((Below.refl _ w4).alloc (Nat.le_refl _) _)) (sh_lns w4)).mono ?_; rintro e w5 ⟨rfl, hb5⟩; have hk5 := (KW.out.alloc (.cells #[.int .i64 0, .int .i64 2, .int .i64 2, .int .i64 3] 57)).below hb5 (KW.out.alloc (.cells #[.int .i64 0, .int .i64 2, .int .i64 2, .int .i64 3] 57)).lt; have y0 := hk5.cellAt 0; have y1 := hk5.cellAt 1; have y2 := hk5.cellAt 2; have y3 := hk5.cellAt 3; have y4 := hk5.cellAt 4; have l5 := hk5.lt; have HB5 := Lib.hid ((HB4.out.alloc HB4.out.size (.cells #[.int .i64 0, .int .i64 2, .int .i64 2, .int .i64 3] 57)).trans (hb5.mono (by have := HB4.out.size; simp; omega))); clear hk5 hb5 c0 c1 c2 c3 c4)
  go_ret
  exact ⟨rfl, HB5.out⟩
end Go.Proofs.Ythgkjgaebgpplaa
