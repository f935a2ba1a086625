/- Lists of rectangles in memory; contract of the document's Same of two lists that have the same rectangles. -/
import Derived.Test.YtncgmfdmkjlmaaaEGut
namespace Go.Proofs.Ytncgmfdmkjlmaaa
open Go.RowKit Go.Shelf
set_option linter.unusedVariables false
set_option linter.unusedSimpArgs false
attribute [local go_sem] Oper.semAt_some

/-- rectangles lie in memory -/
def RowE (X : World) (v : Value) (L : List RR.R) : Prop := (v = .slice none 0 0 ∧ L = []) ∨ ∃ g cap, v = .slice (some ⟨g, 0, none⟩) L.length cap ∧ g < X.heap.size ∧ L.length ≤ cap ∧ cap ≤ 9223372036854775807 ∧
  ∀ k q, L[k]? = some q → X.cell? ⟨g, k * 4, none⟩ = some (.int .i64 q.x) ∧ X.cell? ⟨g, k * 4 + 1, none⟩ = some (.int .i64 q.y) ∧ X.cell? ⟨g, k * 4 + 2, none⟩ = some (.int .i64 q.w) ∧ X.cell? ⟨g, k * 4 + 3, none⟩ = some (.int .i64 q.h)
theorem RowE.below {X Y : World} {v : Value} {L : List RR.R} (h : RowE X v L) (hb : Below X.heap.size X Y) : RowE Y v L := by
  refine h.imp id ?_
  rintro ⟨g, cap, e, hl, h1, h2, hc⟩
  refine ⟨g, cap, e, Nat.lt_of_lt_of_le hl hb.size, h1, h2, fun k q hq => ?_⟩
  obtain ⟨a, b, c, d⟩ := hc k q hq
  exact ⟨(hb.cell (p := ⟨g, k * 4, none⟩) hl).trans a, (hb.cell (p := ⟨g, k * 4 + 1, none⟩) hl).trans b, (hb.cell (p := ⟨g, k * 4 + 2, none⟩) hl).trans c, (hb.cell (p := ⟨g, k * 4 + 3, none⟩) hl).trans d⟩
theorem RowE.atg {X : World} {g n c : Nat} {L : List RR.R} (h : RowE X (.slice (some ⟨g, 0, none⟩) n c) L) (k : Nat) (q : RR.R) (hq : L[k]? = some q) : g < X.heap.size ∧ X.cell? ⟨g, k * 4, none⟩ = some (.int .i64 q.x) ∧ X.cell? ⟨g, k * 4 + 1, none⟩ = some (.int .i64 q.y) ∧ X.cell? ⟨g, k * 4 + 2, none⟩ = some (.int .i64 q.w) ∧ X.cell? ⟨g, k * 4 + 3, none⟩ = some (.int .i64 q.h) := by
  rcases h with ⟨e, _⟩ | ⟨g', cap, e, l1, _, _, f1⟩
  · cases e
  · injection e with e _ _
    injection e with e
    injection e with e _
    subst e
    exact ⟨l1, f1 k q hq⟩
theorem flatE_at : ∀ (L : List RR.R) (k : Nat) (q : RR.R), L[k]? = some q → ∀ i, i < 4 → (flatE L)[k * 4 + i]? = q.cells[i]?
  | [], k, q, h, i, _ => by simp at h
  | a :: L, 0, q, h, i, hi => by
    simp at h; subst h
    rw [flatE, List.flatMap_cons, List.getElem?_append_left (by simp [RR.R.cells]; omega)]; simp
  | a :: L, k + 1, q, h, i, hi => by
    have := flatE_at L k q (by simpa using h) i hi
    rw [flatE, List.flatMap_cons, List.getElem?_append_right (by simp [RR.R.cells]; omega), show (k + 1) * 4 + i - a.cells.length = k * 4 + i by simp [RR.R.cells]; omega]
    exact this
theorem flatE_len (L : List RR.R) : (flatE L).length = L.length * 4 := by
  induction L with
  | nil => rfl
  | cons a L ih => rw [flatE, List.flatMap_cons, List.length_append, show (L.flatMap RR.R.cells).length = L.length * 4 from ih]; simp [RR.R.cells]; omega
theorem own_rowE {X : World} {base n : Nat} {v : Value} {L : List RR.R} (h : X.ownsRow base 51 4 v n (flatE L)) (hn : L.length = n) : RowE X v L := by
  subst hn
  obtain ⟨hl, ⟨rfl, hz⟩ | ⟨g, cap, cur, rfl, hb, hg, hnc, hcm, hcs, htk⟩⟩ := h
  · exact .inl ⟨rfl, List.length_eq_zero_iff.1 hz⟩
  · unfold maxLen at hcm
    refine .inr ⟨g, cap, rfl, (Array.getElem?_eq_some_iff.1 hg).1, hnc, by omega, fun k q hq => ?_⟩
    have hk := (List.getElem?_eq_some_iff.1 hq).1
    have key : ∀ i, i < 4 → X.cell? ⟨g, k * 4 + i, none⟩ = q.cells[i]? := fun i hi => by
      rw [← flatE_at L k q hq i hi, ← htk, List.getElem?_take_of_lt (by omega)]
      simp [World.cell?, hg]
    exact ⟨key 0 (by omega), key 1 (by omega), key 2 (by omega), key 3 (by omega)⟩
theorem rect_eqlE (a b c d : Int) (X : World) : (binOp .neq 51 (.agg #[.int .i64 a, .int .i64 b, .int .i64 c, .int .i64 d]) (.agg #[.int .i64 a, .int .i64 b, .int .i64 c, .int .i64 d])).run Try.prog X = .ok (.bool false) X := by go_simp
set_option maxRecDepth 100000 in
set_option maxHeartbeats 2000000 in
theorem rsame_any (v1 v2 : Value) (L : List RR.R) (w : World) (h1 : RowE w v1 L) (h2 : RowE w v2 L) (hL : L.length ≤ 1000000000) :
    Calls Try.prog 23 #[v1, v2] w fun e w' => e = .returned (.bool true) ∧ Below w.heap.size w w' := by
  obtain ⟨m, hm⟩ : ∃ m, L.length = m := ⟨_, rfl⟩
  have HM := Lib.hid hm
  by_cases h0 : m = 0
  · have e1 : ∃ a c, v1 = .slice a 0 c := by
      rcases h1 with ⟨e, _⟩ | ⟨g, cap, e, _⟩
      · exact ⟨_, _, e⟩
      · rw [hm, h0] at e; exact ⟨_, _, e⟩
    have e2 : ∃ a c, v2 = .slice a 0 c := by
      rcases h2 with ⟨e, _⟩ | ⟨g, cap, e, _⟩
      · exact ⟨_, _, e⟩
      · rw [hm, h0] at e; exact ⟨_, _, e⟩
    obtain ⟨a1, c1, rfl⟩ := e1
    obtain ⟨a2, c2, rfl⟩ := e2
    clear h1 h2
    go_enter Try.func23, Try.ntmps23
    go_wp2
    refine wp_loop_rounds 1 ?_
    rw [rounds_succ]
    go_wp2
    go_ret
    exact ⟨rfl, Below.refl _ _⟩
  · have e1 : ∃ g cap, v1 = .slice (some ⟨g, 0, none⟩) m cap := by
      rcases h1 with ⟨_, e⟩ | ⟨g, cap, e, _⟩
      · subst e; simp at hm; omega
      · rw [hm] at e; exact ⟨_, _, e⟩
    have e2 : ∃ g cap, v2 = .slice (some ⟨g, 0, none⟩) m cap := by
      rcases h2 with ⟨_, e⟩ | ⟨g, cap, e, _⟩
      · subst e; simp at hm; omega
      · rw [hm] at e; exact ⟨_, _, e⟩
    obtain ⟨g1, c1, rfl⟩ := e1
    obtain ⟨g2, c2, rfl⟩ := e2
    have H1 := Lib.hid h1
    have H2 := Lib.hid h2
    have hmk : m ≤ 1000000000 := by omega
    clear h1 h2 hm hL
    go_enter Try.func23, Try.ntmps23
    go_wp2
    go_loopw [5] (fun s5 X => ∃ k : Nat, k ≤ m ∧ s5 = .int .i64 (k : Int) ∧ Hid (Below w.heap.size w X)) (fun s5 _ => m - (intOf s5).toNat)
    case atStart => exact ⟨0, Nat.zero_le _, rfl, Lib.hid (Below.refl _ _)⟩
    case round =>
      obtain ⟨k, hk, rfl, HB⟩ := hrel
      by_cases hlt : k < m
      · obtain ⟨q, hq⟩ : ∃ q, L[k]? = some q := ⟨_, List.getElem?_eq_getElem (by rw [HM.out]; exact hlt)⟩
        obtain ⟨l1, a0, a1, a2, a3⟩ := (H1.out.below HB.out).atg k q hq
        obtain ⟨l2, b0, b1, b2, b3⟩ := (H2.out.below HB.out).atg k q hq
        obtain ⟨x, y, u, v⟩ := q
        dsimp only at a0 a1 a2 a3 b0 b1 b2 b3
        have hneq := rect_eqlE x y u v
        clear hq
        go_wp2
        go_quiet (fail)
        go_wp2
        go_roundw
        case rel => exact ⟨k + 1, by omega, by go_num, Lib.hid (HB.out.trans (below_dn _ _ _))⟩
        case measure => simp [intOf]; omega
      · go_wp2
        go_ret
        exact ⟨rfl, HB.out⟩
end Go.Proofs.Ytncgmfdmkjlmaaa
