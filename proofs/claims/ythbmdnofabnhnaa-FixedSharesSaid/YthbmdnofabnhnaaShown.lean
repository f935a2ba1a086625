/- The shares that every statement of layer 1 asks for first are known. -/
import Derived.Test.YthbmdnofabnhnaaShare
import Derived.Test.YthbmdnofabnhnaaPart
import Derived.Test.YthbmdnofabnhnaaMul
namespace Go.Proofs.Ythbmdnofabnhnaa
open Go.RowKit Go.Shelf Go.Sort Go.Lib
set_option linter.unusedVariables false
section
variable {α : Type} [Inhabited α]
theorem insInner_false (lt : α → α → Bool) (h : ∀ x y, lt x y = false) (a j : Nat) (d : Array α) : insInner lt a j d = d := insInner_stop _ _ _ _ (.inr (h _ _))
theorem insOuter_false (lt : α → α → Bool) (h : ∀ x y, lt x y = false) (a b : Nat) : ∀ (k i : Nat) (d : Array α), b - i = k → insOuter lt a b i d = d := by
  intro k
  induction k with
  | zero => intro i d hk; rw [insOuter, if_neg (by omega)]
  | succ k ih => intro i d hk; rw [insOuter, if_pos (by omega), insInner_false lt h, ih _ _ (by omega)]
end
theorem ord_111 : (ordArr [1, 1, 1] 2).toList.map (·.val) = [0, 1, 2] := by
  unfold ordArr insertionSort
  rw [insOuter_false _ (by decide) _ _ _ _ _ rfl]
  decide
theorem share_111 : shareL (fun rs => (ordArr rs 2).toList.map (·.val)) 10 (counted [1, 1, 1]) = [4, 3, 3] := by
  have e1 : counted [1, 1, 1] = [1, 1, 1] := by decide
  have e2 : restL 10 [1, 1, 1] = [1, 1, 1] := by decide
  have e3 : baseL 10 [1, 1, 1] = [3, 3, 3] := by decide
  have e4 : leftZ 10 [1, 1, 1] = 1 := by decide
  unfold shareL
  rw [e1, e2, e3, e4]
  show incL [3, 3, 3] (List.take 1 ((ordArr [1, 1, 1] 2).toList.map (·.val))) = _
  rw [ord_111]; decide
theorem nums_lit {k : IntKind} {W : World} {g t n : Nat} {zs : List Int} (h : Whole W g t (zs.map (Value.int k))) (hn : zs.length = n) (hm : n ≤ 10000) : Nums k W (.slice (some ⟨g, 0, none⟩) n n) zs :=
  ⟨by omega, .inr ⟨g, 0, n, by rw [hn], by omega, by omega, fun j hj => by rw [Nat.zero_add, h.cellAt]; simp [hj]⟩⟩
theorem whole_new (W : World) (xs : List Value) (t g : Nat) (h : g = W.heap.size) : Whole (W.alloc (.cells xs.toArray t)) g t xs := by
  subst h; exact World.alloc_heap_new _ _
theorem same_true (x y : Value) (xs : List Int) (w : World) (hx : Nums .i64 w x xs) (hy : Nums .i64 w y xs) : Calls Try.prog 10 #[x, y] w fun e w' => e = .returned (.bool true) ∧ ∃ n, w' = w.drewN n := by
  have := same_any x y xs xs w hx hy
  rwa [show decide (xs = xs) = true by simp] at this
set_option maxHeartbeats 600000 in
theorem shown_any (w : World) : Calls Try.prog 6 #[] w fun e w' => e = .returned (.bool true) ∧ Below w.heap.size w w' := by
  have g1 := fun X => share_good (fun rs => (ordArr rs 2).toList.map (·.val)) (some ⟨w.heap.size, 0, none⟩) 3 10 [1, 1, 1] X (order_small_at 2 (by decide))
  have G1 := Lib.hid g1
  have G2 := Lib.hid share_bad1
  clear g1
  go_enter Try.func6, Try.ntmps6
  go_wp2_with fail
  refine (G1.out _ (nums_lit (t := 2) (World.alloc_heap_new w _) rfl (by decide)) rfl (okw_ones 3)).mono ?_
  rintro e w1 ⟨⟨v, rfl, hv⟩, hb1⟩
  rw [share_111] at hv
  have hn1 : Nums .i64 w1 v [4, 3, 3] := hv.nums (by decide)
  have hbw : Below w.heap.size w w1 := ((Below.refl w.heap.size w).alloc (Nat.le_refl _) _).trans (hb1.mono (by simp))
  clear hv hb1 G1
  have HN := Lib.hid hn1
  have HB := Lib.hid hbw
  clear hn1 hbw
  go_wp2_with fail
  refine (G2.out (some ⟨w1.heap.size, 0, none⟩) 1 1 (-1) _ (by decide) (by decide)).mono ?_
  rintro e w2 ⟨rfl, rfl⟩
  go_wp2_with fail
  refine (same_true v _ [4, 3, 3] _ ?_ (nums_lit (k := .i64) (t := 2) (zs := [4, 3, 3]) (whole_new _ _ _ _ (by simp)) rfl (by decide))).mono ?_
  · exact (HN.out.below ((Below.refl w1.heap.size w1).alloc (Nat.le_refl _) _)).below ((Below.refl _ _).alloc (Nat.le_refl _) _)
  rintro e w' ⟨rfl, n1, rfl⟩
  go_wp2_with fail
  refine (part_any 3333 100 _ (by decide) (by decide)).mono ?_
  rintro e w' ⟨rfl, n2, rfl⟩
  rw [show part 3333 100 = 33 by decide]
  go_wp2_with fail
  refine (add_any _ [4611686018427387904, 4611686018427387904] _ (nums_lit (t := 2) (whole_new _ _ _ _ (by simp)) rfl (by decide)) ?_).mono ?_
  · intro j hj
    have : j = 0 ∨ j = 1 := by simp at hj; omega
    rcases this with rfl | rfl <;> decide
  rintro e w' ⟨rfl, rfl⟩
  rw [show addS [4611686018427387904, 4611686018427387904] = 9223372036854775807 by decide]
  go_wp2
  go_ret
  have hs := HB.out.size
  exact ⟨rfl, (((HB.out.alloc hs _).alloc (by simp; omega) _).trans (below_dn _ _ _)).alloc (by simp; omega) _⟩
end Go.Proofs.Ythbmdnofabnhnaa
