/- Contract of purflingref06.Same: are two lists of lanes the same? -/
import Derived.Test.YtgeciomehldjdaaLRows
import Derived.Test.YtgeciomehldjdaaTInts
import Derived.Test.YtgeciomehldjdaaTOrder
namespace Go.Proofs.Ytgeciomehldjdaa
open Go.RowKit Go.Shelf Go.Maps
set_option linter.unusedVariables false
attribute [local go_sem] Oper.semAt_some

/-- a slice of lanes lies in memory -/
def LanesAt (W : World) (v : Value) (E : List (Int × Int)) : Prop :=
  E.length ≤ 9223372036854775807 ∧ ((∃ a c, v = .slice a 0 c ∧ E = []) ∨ ∃ b off c, v = .slice (some ⟨b, off, none⟩) E.length c ∧ ∀ i x, E[i]? = some x → W.cell? ⟨b, off + i * 2, none⟩ = some (.int .i64 x.1) ∧ W.cell? ⟨b, off + i * 2 + 1, none⟩ = some (.int .i64 x.2))
theorem encL_get : ∀ (E : List (Int × Int)) (i : Nat) (x : Int × Int), E[i]? = some x → (E.flatMap encL)[i * 2]? = some (.int .i64 x.1) ∧ (E.flatMap encL)[i * 2 + 1]? = some (.int .i64 x.2)
  | [], i, x, h => by simp at h
  | y :: E, 0, x, h => by simp at h; subst h; exact ⟨rfl, rfl⟩
  | y :: E, i + 1, x, h => by
    have ih := encL_get E i x (by simpa using h)
    rw [List.flatMap_cons]
    have e : (encL y).length = 2 := rfl
    rw [List.getElem?_append_right (by rw [e]; omega), List.getElem?_append_right (by rw [e]; omega), e, show (i + 1) * 2 - 2 = i * 2 by omega, show (i + 1) * 2 + 1 - 2 = i * 2 + 1 by omega]
    exact ih
theorem OwnL.lanes {W : World} {base : Nat} {v : Value} {E : List (Int × Int)} (h : OwnL base W v E) : LanesAt W v E := by
  have h' := h
  obtain ⟨hl, ⟨rfl, hn⟩ | ⟨g, cap, cur, rfl, hb, hg, hnc, hcm, hcs, htk⟩⟩ := h
  · exact ⟨by omega, .inl ⟨none, 0, rfl, List.eq_nil_of_length_eq_zero hn⟩⟩
  · unfold maxLen at hcm
    refine ⟨by omega, .inr ⟨g, 0, cap, rfl, fun i x hx => ?_⟩⟩
    have hc := h'.cells (g := g) rfl
    obtain ⟨h1, h2⟩ := encL_get E i x hx
    have c1 := hc _ _ h1
    have c2 := hc _ _ h2
    rw [add_plain] at c1 c2
    exact ⟨c1, by rw [Nat.add_assoc]; exact c2⟩
theorem LanesAt.below {W W' : World} {v : Value} {E : List (Int × Int)} (h : LanesAt W v E) (hb : Below W.heap.size W W') : LanesAt W' v E := by
  obtain ⟨h1, h2 | ⟨b, off, c, e, hc⟩⟩ := h
  · exact ⟨h1, .inl h2⟩
  · refine ⟨h1, .inr ⟨b, off, c, e, fun i x hx => ?_⟩⟩
    obtain ⟨c1, c2⟩ := hc i x hx
    have hl := cell_lt c1
    exact ⟨(hb.cell (p := ⟨b, off + i * 2, none⟩) hl).trans c1, (hb.cell (p := ⟨b, off + i * 2 + 1, none⟩) hl).trans c2⟩
theorem LanesAt.form {W : World} {v : Value} {E : List (Int × Int)} (h : LanesAt W v E) : ∃ p c, v = .slice p E.length c := by
  obtain ⟨h1, ⟨a, c, rfl, rfl⟩ | ⟨b, off, c, e, hc⟩⟩ := h
  · exact ⟨_, _, rfl⟩
  · exact ⟨_, _, e⟩
theorem lanes_lit {W : World} {g c : Nat} {t : Nat} {E : List (Int × Int)} (h : Whole W g t (E.flatMap encL)) (hl : E.length ≤ 9223372036854775807) : LanesAt W (.slice (some ⟨g, 0, none⟩) E.length c) E :=
  ⟨hl, .inr ⟨g, 0, c, rfl, fun i x hx => by
    obtain ⟨h1, h2⟩ := encL_get E i x hx
    rw [Nat.zero_add]
    exact ⟨by rw [h.cellAt]; exact h1, by rw [h.cellAt]; exact h2⟩⟩⟩
set_option maxHeartbeats 400000 in
theorem lsame_lens (a b : Option Addr) (n m c d : Nat) (w : World) (h : n ≠ m) (hn : n ≤ 9223372036854775807) (hm : m ≤ 9223372036854775807) :
    Calls Try.prog 10 #[.slice a n c, .slice b m d] w fun e w' => e = .returned (.bool false) ∧ w = w' := by
  have h' : ((n : Int) == (m : Int)) = false := by simp; omega
  have h'' : ((n : Int) != (m : Int)) = true := by simp; omega
  go_enter Try.func10, Try.ntmps10
  go_wp2
  go_ret
  exact ⟨rfl, rfl⟩
theorem lpair_ne {xs ys : List (Int × Int)} (h : xs.length = ys.length) (h' : xs ≠ ys) : ∃ k x y, k < xs.length ∧ xs[k]? = some x ∧ ys[k]? = some y ∧ x ≠ y := by
  apply Classical.byContradiction
  intro hn
  apply h'
  apply List.ext_getElem h
  intro i h1 h2
  apply Classical.byContradiction
  intro hd
  exact hn ⟨i, _, _, h1, List.getElem?_eq_getElem h1, List.getElem?_eq_getElem h2, hd⟩
theorem pair_eql (a b c d : Int) (X : World) : (binOp .neq 49 (.agg #[.int .i64 a, .int .i64 b]) (.agg #[.int .i64 c, .int .i64 d])).run Try.prog X = .ok (.bool (!decide (((a, b) : Int × Int) = (c, d)))) X := by
  by_cases h1 : a = c
  · by_cases h2 : b = d
    · subst h1 h2; go_simp
    · subst h1; go_simp
  · go_simp
set_option maxHeartbeats 1000000 in
theorem lsame_some (b off cap b' off' cap' : Nat) (xs ys : List (Int × Int)) (m : Nat) (w : World) (hm : m ≤ 9223372036854775807) (hx0 : xs.length = m) (hy0 : ys.length = m)
    (hx : ∀ i x, xs[i]? = some x → w.cell? ⟨b, off + i * 2, none⟩ = some (.int .i64 x.1) ∧ w.cell? ⟨b, off + i * 2 + 1, none⟩ = some (.int .i64 x.2))
    (hy : ∀ i x, ys[i]? = some x → w.cell? ⟨b', off' + i * 2, none⟩ = some (.int .i64 x.1) ∧ w.cell? ⟨b', off' + i * 2 + 1, none⟩ = some (.int .i64 x.2)) (same : Bool) (hs : Hid (decide (xs = ys) = same)) :
    Calls Try.prog 10 #[.slice (some ⟨b, off, none⟩) m cap, .slice (some ⟨b', off', none⟩) m cap'] w fun e w' => e = .returned (.bool same) ∧ Below w.heap.size w w' := by
  have HX := Lib.hid hx
  have HY := Lib.hid hy
  have HX0 := Lib.hid hx0
  have HY0 := Lib.hid hy0
  clear hx hy hx0 hy0
  go_enter Try.func10, Try.ntmps10
  go_wp2
  go_loopw [5] (fun i wr => ∃ k n : Nat, k ≤ m ∧ i = .int .i64 k ∧ Hid (∀ j x y, j < k → xs[j]? = some x → ys[j]? = some y → x = y) ∧ wr = w.drewN n) (fun i _ => m - (intOf i).toNat)
  case atStart => exact ⟨0, 0, Nat.zero_le _, rfl, Lib.hid (fun j x y hj => by omega), rfl⟩
  case round =>
    obtain ⟨k, n, hk, rfl, hj, rfl⟩ := hrel
    by_cases hlt : k < m
    · obtain ⟨⟨x1, x2⟩, ex⟩ : ∃ x, xs[k]? = some x := ⟨_, List.getElem?_eq_getElem (by rw [HX0.out]; exact hlt)⟩
      obtain ⟨⟨y1, y2⟩, ey⟩ : ∃ y, ys[k]? = some y := ⟨_, List.getElem?_eq_getElem (by rw [HY0.out]; exact hlt)⟩
      obtain ⟨cx1, cx2⟩ := HX.out k _ ex
      obtain ⟨cy1, cy2⟩ := HY.out k _ ey
      dsimp only at cx1 cx2 cy1 cy2
      have EX := Lib.hid ex
      have EY := Lib.hid ey
      clear ex ey
      by_cases he : ((x1, x2) : Int × Int) = (y1, y2)
      · have hE : ∀ X : World, (binOp .neq 49 (.agg #[.int .i64 x1, .int .i64 x2]) (.agg #[.int .i64 y1, .int .i64 y2])).run Try.prog X = .ok (.bool false) X := fun X => by rw [pair_eql]; simp [he]
        have HJ : Hid (∀ j x y, j < k + 1 → xs[j]? = some x → ys[j]? = some y → x = y) := Lib.hid (fun j x y h1 h2 h3 => by
          by_cases hjk : j < k
          · exact hj.out j x y hjk h2 h3
          · obtain rfl : j = k := by omega
            rw [EX.out] at h2; rw [EY.out] at h3
            injection h2 with h2; injection h3 with h3
            rw [← h2, ← h3]; exact he)
        clear he hj
        go_wp2
        go_quiet (fail)
        go_wp2
        go_roundw
        case rel => exact ⟨k + 1, _, by omega, by go_num, HJ, rfl⟩
        case measure => simp [intOf]; omega
      · have hE : ∀ X : World, (binOp .neq 49 (.agg #[.int .i64 x1, .int .i64 x2]) (.agg #[.int .i64 y1, .int .i64 y2])).run Try.prog X = .ok (.bool true) X := fun X => by rw [pair_eql, decide_eq_false he]; rfl
        have hf : same = false := by
          rw [← hs.out]
          refine decide_eq_false (fun h => he ?_)
          have h1 := EX.out
          have h2 := EY.out
          rw [h, h2] at h1
          injection h1 with h1
          exact h1.symm
        clear he hj hs
        subst hf
        go_wp2
        go_quiet (fail)
        go_wp2
        go_ret
        exact ⟨rfl, (below_dn w.heap.size w n).trans (below_dn w.heap.size _ _)⟩
    · have ht : same = true := by
        rw [← hs.out]
        refine decide_eq_true ?_
        apply Classical.byContradiction
        intro hne
        obtain ⟨i, x, y, hi, h1, h2, h3⟩ := lpair_ne (by rw [HX0.out, HY0.out]) hne
        exact h3 (hj.out i x y (by have := HX0.out; omega) h1 h2)
      clear hk hs hj
      subst ht
      go_wp2
      go_ret
      exact ⟨rfl, below_dn _ _ _⟩
set_option maxHeartbeats 400000 in
theorem lsame_none (u v : Option Addr) (c d : Nat) (w : World) : Calls Try.prog 10 #[.slice u 0 c, .slice v 0 d] w fun e w' => e = .returned (.bool true) ∧ Below w.heap.size w w' := by
  go_enter Try.func10, Try.ntmps10
  go_wp2
  go_loop [5] (fun i => i = .int .i64 0) (fun _ => 0)
  case atStart => exact rfl
  case round =>
    obtain rfl := hrel
    go_wp2
    go_ret
    exact ⟨rfl, Below.refl _ _⟩
theorem lsame_any (v v' : Value) (E E' : List (Int × Int)) (w : World) (h : LanesAt w v E) (h' : LanesAt w v' E') :
    Calls Try.prog 10 #[v, v'] w fun e w' => e = .returned (.bool (decide (E = E'))) ∧ Below w.heap.size w w' := by
  by_cases hl : E.length = E'.length
  · obtain ⟨hm, ⟨a, c, rfl, rfl⟩ | ⟨b, off, c, rfl, hc⟩⟩ := h
    · obtain rfl : E' = [] := List.eq_nil_of_length_eq_zero (by simpa using hl.symm)
      obtain ⟨p, c', rfl⟩ := h'.form
      exact lsame_none _ _ _ _ w
    · obtain ⟨hm', ⟨a, c', rfl, rfl⟩ | ⟨b', off', c', rfl, hc'⟩⟩ := h'
      · obtain rfl : E = [] := List.eq_nil_of_length_eq_zero (by simpa using hl)
        exact lsame_none _ _ _ _ w
      · rw [← hl]
        exact lsame_some b off c b' off' c' E E' _ w hm rfl hl.symm hc hc' _ rfl
  · have hd : decide (E = E') = false := decide_eq_false (fun e => hl (by rw [e]))
    obtain ⟨p, c, rfl⟩ := h.form
    obtain ⟨p', c', rfl⟩ := h'.form
    rw [hd]
    refine (lsame_lens p p' _ _ c c' w hl h.1 h'.1).mono ?_
    rintro e w' ⟨rfl, rfl⟩
    exact ⟨rfl, Below.refl _ _⟩
end Go.Proofs.Ytgeciomehldjdaa

namespace Go.Proofs.Ytgeciomehldjdaa
open Go.RowKit Go.Shelf Go.Maps
set_option linter.unusedVariables false
attribute [local go_sem] Oper.semAt_some

theorem Fine.ok {ns : List Nd} (F : Fine ns) (hK : ∀ n ∈ ns, n.ks.length ≤ 70000) : PageOk ns := ⟨F.len2, hK, fun n hn z hz => by have := F.link n hn z hz; omega⟩
/-- a page and a place of a table -/
theorem lchk_ok {ns : List Nd} {p : Int} (h : lchkP ns p = 0) : Fine ns ∧ ∃ j : Nat, p = (j : Int) ∧ j < ns.length ∧ kdOf ns j = 2 := by
  unfold lchkP at h
  by_cases hc : (checkP ns).2 = 0
  · rw [if_pos hc] at h
    by_cases ht : isTab ns p = true
    · unfold isTab at ht
      simp only [Bool.and_eq_true, decide_eq_true_eq, beq_iff_eq] at ht
      refine ⟨fine_of hc, p.toNat, by omega, by omega, ht.2.2⟩
    · rw [if_neg ht] at h; cases h
  · rw [if_neg hc] at h; exact absurd h hc
theorem lchk_fine {ns : List Nd} (F : Fine ns) {j : Nat} (hj : j < ns.length) (hk : kdOf ns j = 2) : lchkP ns j = 0 := by
  unfold lchkP
  rw [if_pos (by rw [fine_check F])]
  rw [if_pos (by unfold isTab; simp [hj, hk])]
theorem rowsF_good (lv : Value) (p : Nat) (ns : List Nd) (w : World) (hP : PageAt w lv ns) (hK : ∀ n ∈ ns, n.ks.length ≤ 70000) (F : Fine ns) (hp : p < ns.length) (ht : kdOf ns p = 2) :
    Calls Try.prog 11 #[lv, .int .i64 p] w fun e W' => ∃ v, e = .returned (.tuple #[v, .int .i64 0]) ∧ OwnL w.heap.size W' v (rowsP ns p) ∧ Below w.heap.size w W' := by
  obtain ⟨_, _, ⟨a, cap, e, rfl⟩ | ⟨b, off, cap, rfl, hc⟩⟩ := (id hP)
  · simp at hp
  · refine rows_ok b off cap _ p ns w rfl (F.ok hK) hP hp (Lib.hid fun X hX => ?_)
    have := lchk_any (.slice (some ⟨b, off, none⟩) ns.length cap) p ns X (hP.below hX) hK
    rwa [lchk_fine F hp ht] at this
theorem rowsF_not (lv : Value) (p : Int) (ns : List Nd) (w : World) (hP : PageAt w lv ns) (hK : ∀ n ∈ ns, n.ks.length ≤ 70000) (h : lchkP ns p ≠ 0) :
    Calls Try.prog 11 #[lv, .int .i64 p] w fun e W' => e = .returned (.tuple #[.slice none 0 0, .int .i64 (lchkP ns p)]) ∧ Below w.heap.size w W' := by
  obtain ⟨q, cap, rfl⟩ := hP.form
  exact rows_bad q _ cap p w _ h (Lib.hid fun X hX => lchk_any _ p ns X (hP.below hX) hK)
def captP (ns : List Nd) (p : Nat) : List Int := kindK ns 3 p
end Go.Proofs.Ytgeciomehldjdaa
