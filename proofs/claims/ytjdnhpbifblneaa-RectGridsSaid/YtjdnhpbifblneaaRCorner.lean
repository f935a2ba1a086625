/- Contracts of the order of corners (cmp.Compare, cmp.Or, the order that rect.cancel sorts by). -/
import Derived.Test.YtjdnhpbifblneaaRRect
import Derived.Test.YtjdnhpbifblneaaRFloat
import Derived.StillTailTactics
import Derived.Deep.RegionHeld3
namespace Go.Proofs.Ytjdnhpbifblneaa
open Go.RowKit Go.Shelf Go.Lib Go.Sort
set_option linter.unusedVariables false

/-- how two whole numbers stand to each other -/
def cmpN (i j : Nat) : Int := if i < j then -1 else if j < i then 1 else 0
theorem cmpN_bd (i j : Nat) : -1 ≤ cmpN i j ∧ cmpN i j ≤ 1 := by unfold cmpN; split <;> (try split) <;> omega
theorem isNaN_any (i : Nat) (w : World) (hi : i < 2048) : Calls Try.prog 42 #[.float .f64 (FN i)] w fun e w' => e = .returned (.bool false) ∧ w = w' := by
  have h : (FloatKind.f64.format.order (FN i) (FN i) != some .eq) = false := by rw [bne, FN_eq hi hi]; simp
  obtain ⟨x, hx⟩ : ∃ x, FN i = x := ⟨_, rfl⟩
  rw [hx] at h ⊢
  have h' := Lib.hid h
  clear h hx
  go_enter Try.func42, Try.ntmps42
  go_wp2
  go_ret
  exact ⟨by first | (rw [h'.out]; done) | (simp; exact h'.out) | (simpa using h'.out), rfl⟩
set_option maxHeartbeats 400000 in
theorem compareF_any (i j : Nat) (w : World) (hi : i < 2048) (hj : j < 2048) : Calls Try.prog 31 #[.float .f64 (FN i), .float .f64 (FN j)] w fun e w' => e = .returned (.int .i64 (cmpN i j)) ∧ w = w' := by
  have h1 := FN_lt hi hj
  have h2 := FN_gt hi hj
  have n1 := fun X => isNaN_any i X hi
  have n2 := fun X => isNaN_any j X hj
  obtain ⟨x, hx⟩ : ∃ x, FN i = x := ⟨_, rfl⟩
  obtain ⟨y, hy⟩ : ∃ y, FN j = y := ⟨_, rfl⟩
  rw [hx, hy] at h1 h2
  rw [hx] at n1
  rw [hy] at n2
  rw [hx, hy]
  have N1 := Lib.hid n1
  have N2 := Lib.hid n2
  clear hx hy n1 n2
  rcases Nat.lt_trichotomy i j with h | h | h
  · have hv : Hid (cmpN i j = -1) := by apply Lib.hid; unfold cmpN; rw [if_pos h]
    rw [show decide (i < j) = true by simpa using h] at h1
    clear h2
    go_enter Try.func31, Try.ntmps31
    go_wp2_with fail
    refine (N1.out _).mono ?_
    rintro e w' ⟨rfl, rfl⟩
    go_wp2_with fail
    refine (N2.out _).mono ?_
    rintro e w' ⟨rfl, rfl⟩
    go_wp2
    go_ret
    exact ⟨by rw [hv.out] <;> rfl, rfl⟩
  · have hv : Hid (cmpN i j = 0) := by apply Lib.hid; unfold cmpN; rw [if_neg (by omega), if_neg (by omega)]
    rw [show decide (i < j) = false by simp; omega] at h1
    rw [show decide (j < i) = false by simp; omega] at h2
    go_enter Try.func31, Try.ntmps31
    go_wp2_with fail
    refine (N1.out _).mono ?_
    rintro e w' ⟨rfl, rfl⟩
    go_wp2_with fail
    refine (N2.out _).mono ?_
    rintro e w' ⟨rfl, rfl⟩
    go_wp2
    go_ret
    exact ⟨by rw [hv.out] <;> rfl, rfl⟩
  · have hv : Hid (cmpN i j = 1) := by apply Lib.hid; unfold cmpN; rw [if_neg (by omega), if_pos h]
    rw [show decide (i < j) = false by simp; omega] at h1
    rw [show decide (j < i) = true by simpa using h] at h2
    go_enter Try.func31, Try.ntmps31
    go_wp2_with fail
    refine (N1.out _).mono ?_
    rintro e w' ⟨rfl, rfl⟩
    go_wp2_with fail
    refine (N2.out _).mono ?_
    rintro e w' ⟨rfl, rfl⟩
    go_wp2
    go_ret
    exact ⟨by rw [hv.out] <;> rfl, rfl⟩
def orI (a b : Int) : Int := if a = 0 then b else a
set_option maxHeartbeats 400000 in
theorem or_any (a b : Int) (g t : Nat) (w : World) (hk : Whole w g t [.int .i64 a, .int .i64 b]) : Calls Try.prog 30 #[.slice (some ⟨g, 0, none⟩) 2 2] w fun e w' => e = .returned (.int .i64 (orI a b)) ∧ w = w' := by
  have c0 : w.cell? ⟨g, 0, none⟩ = some (.int .i64 a) := hk.cellAt 0
  have c1 : w.cell? ⟨g, 1, none⟩ = some (.int .i64 b) := hk.cellAt 1
  clear hk
  by_cases ha : a = 0
  · have hv : Hid (orI a b = b) := by apply Lib.hid; unfold orI; rw [if_pos ha]
    rw [ha] at c0 
    by_cases hb : b = 0
    · rw [hb] at c1
      have hv' : Hid (orI a b = 0) := by rw [hv.out, hb]; exact Lib.hid rfl
      clear hv ha hb
      go_enter Try.func30, Try.ntmps30
      go_wp2
      refine wp_loop_rounds 3 ?_
      rw [rounds_succ]
      go_wp2
      rw [rounds_succ]
      go_wp2
      rw [rounds_succ]
      go_wp2
      go_ret
      exact ⟨by rw [hv'.out] <;> rfl, rfl⟩
    · have hb' : (b != 0) = true := by simpa using hb
      clear ha hb
      go_enter Try.func30, Try.ntmps30
      go_wp2
      refine wp_loop_rounds 2 ?_
      rw [rounds_succ]
      go_wp2
      rw [rounds_succ]
      go_wp2
      go_ret
      exact ⟨by rw [hv.out] <;> rfl, rfl⟩
  · have hv : Hid (orI a b = a) := by apply Lib.hid; unfold orI; rw [if_neg ha]
    have ha' : (a != 0) = true := by simpa using ha
    clear ha
    go_enter Try.func30, Try.ntmps30
    go_wp2
    refine wp_loop_rounds 1 ?_
    rw [rounds_succ]
    go_wp2
    go_ret
    exact ⟨by rw [hv.out] <;> rfl, rfl⟩

theorem region_still_tail {P : Program} {id : Nat} {Q : Exit → Act → World → Prop} {a : Act} {w : World} {l : List Oper} (n : Nat) (hm : P.follows .mixedOrders = true) (hB : Region.lexTailB .any l.toArray n = true)
    (h : ∀ w2 : World, w.drew = w2 → wpStill P l.toArray w2 (fun a' => wpList P l.toArray Q (l.drop n) a' w2) (l.take n) a) : (Code.region id l.toArray true).wp P Q a w :=
  wp_region_still_tail n hm hB (h _ rfl)
theorem three_grown (W : World) (A B C : Obj) : ((W.alloc A).alloc B).drew.alloc C = grow (W.drewN 1) #[A, B, C] := by
  rw [show ((W.alloc A).alloc B).drew = ((W.drewN 1).alloc A).alloc B from rfl, alloc_eq_grow, alloc_eq_grow, alloc_eq_grow, grow_grow, grow_grow]; rfl
theorem cell_drew' (X : World) (a : Addr) : X.drew.cell? a = X.cell? a := rfl
theorem box_first (W w2 : World) (v x : Value) (xs : List Value) (o : Obj) (t : Nat) (h : ((W.alloc (.cells (x :: xs).toArray t)).alloc o).drew = w2) : w2.cell? ⟨W.heap.size, 0, none⟩ = some x := by
  rw [← h, cell_drew']
  exact (Whole.alloc (whole_new W (x :: xs) t _ rfl) o).cellAt 0
theorem box_second (W w2 : World) (x : Value) (xs : List Value) (o : Obj) (t : Nat) (h : ((W.alloc o).alloc (.cells (x :: xs).toArray t)).drew = w2) : w2.cell? ⟨W.heap.size + 1, 0, none⟩ = some x := by
  rw [← h, cell_drew']
  exact (whole_new (W.alloc o) (x :: xs) t _ (by simp)).cellAt 0
/-- a corner: the numbers of its lines, and how often it counts -/
structure Cor where
  i : Fin 2048
  j : Fin 2048
  t : Int
  deriving DecidableEq
instance : Inhabited Cor := ⟨⟨0, 0, 0⟩⟩
def Cor.cells (c : Cor) : List Value := [.complex .f64 (FN c.i) (FN c.j), .int .i64 c.t]
def corCmp (a b : Cor) : Int := orI (cmpN a.i b.i) (cmpN a.j b.j)
set_option maxRecDepth 100000 in
set_option maxHeartbeats 1000000 in
theorem corCmp_any (a b : Cor) (W : World) : Calls Try.prog 29 #[.agg #[.complex .f64 (FN a.i) (FN a.j), .int .i64 a.t], .agg #[.complex .f64 (FN b.i) (FN b.j), .int .i64 b.t]] W fun e w' => e = .returned (.int .i64 (corCmp a b)) ∧ ∃ q os', w' = grow (W.drewN q) os' := by
  obtain ⟨⟨i, hi⟩, ⟨j, hj⟩, t⟩ := a
  obtain ⟨⟨k, hk⟩, ⟨l, hl⟩, u⟩ := b
  have c1 := fun X => compareF_any i k X hi hk
  have c2 := fun X => compareF_any j l X hj hl
  unfold corCmp
  dsimp only
  generalize cmpN i k = p at *
  generalize cmpN j l = q at *
  generalize FN i = x1 at *
  generalize FN j = y1 at *
  generalize FN k = x2 at *
  generalize FN l = y2 at *
  have C1 := Lib.hid c1
  have C2 := Lib.hid c2
  clear c1 c2
  go_enter Try.func29, Try.ntmps29
  go_wp2_with fail
  refine region_still_tail 14 (by kernel_rfl) (by decide +kernel) (fun w2 hw2 => ?_)
  simp only [List.take_succ_cons, List.take_zero, List.drop_succ_cons, List.drop_zero]
  have d0 : w2.cell? ⟨W.heap.size, 0, none⟩ = some (.complex .f64 x1 y1) := box_first W w2 undef _ _ _ _ hw2
  have d1 : w2.cell? ⟨W.heap.size + 1, 0, none⟩ = some (.complex .f64 x2 y2) := box_second W w2 _ _ _ _ hw2
  have HW := Lib.hid hw2
  clear hw2
  repeat still_step
  still_call ((C1.out _).mono fun _ _ h => ⟨h.1, h.2.symm⟩)
  repeat still_step
  still_call ((C2.out _).mono fun _ _ h => ⟨h.1, h.2.symm⟩)
  repeat still_step
  refine wpStill_nil ?_
  clear d0 d1
  go_wp2_with fail
  refine (or_any p q _ 3 _ (whole_new _ _ _ _ rfl)).mono ?_
  rintro e w' ⟨rfl, rfl⟩
  go_wp2
  go_ret
  exact ⟨by first | rfl | (simp; done), 1, _, by rw [← HW.out]; exact three_grown _ _ _ _⟩
end Go.Proofs.Ytjdnhpbifblneaa
