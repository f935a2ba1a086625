/- Ranks of sides, held against each other: contracts of contest.class, rankOf, order, and of slices.Compare and cmp.Compare at int64. -/
import Derived.Test.YtceippgkmoijdaaCMm
import Derived.Test.YtceippgkmoijdaaRound
import Derived.StillTail
import Derived.StillTailTactics
import Derived.OrdersHeld
import Derived.Laws.ResultCell
import Derived.Sort.Grow
import Derived.Laws.Rows
import Derived.Laws.Tables
namespace Go.Proofs.Ytceippgkmoijdaa
open Go.RowKit Go.Shelf Go.Sort
set_option linter.unusedVariables false
set_option linter.unusedSimpArgs false

/-- memory has grown, and nothing that was there has changed; the draws are no fewer -/
structure Grew (w w' : World) : Prop where
  lo : Below w.heap.size w w'
  dr : w.drawn ≤ w'.drawn
theorem Grew.refl (w : World) : Grew w w := ⟨Below.refl _ _, Nat.le_refl _⟩
theorem Grew.trans {a b c : World} (h : Grew a b) (k : Grew b c) : Grew a c := ⟨h.lo.trans (k.lo.mono h.lo.size), Nat.le_trans h.dr k.dr⟩
theorem Grew.alloc {a b : World} (h : Grew a b) (o : Obj) : Grew a (b.alloc o) := ⟨h.lo.alloc h.lo.size o, h.dr⟩
theorem Grew.drew {a b : World} (h : Grew a b) : Grew a b.drew := ⟨⟨h.lo.os, h.lo.tape, h.lo.output, h.lo.size, h.lo.block⟩, Nat.le_succ_of_le h.dr⟩
theorem Grew.drewN {a b : World} (h : Grew a b) (n : Nat) : Grew a (b.drewN n) := ⟨⟨h.lo.os, h.lo.tape, h.lo.output, h.lo.size, h.lo.block⟩, Nat.le_add_right_of_le h.dr⟩
theorem Grew.row {a b : World} (h : Grew a b) (g : Nat) (cs : Array Value) (hg : a.heap.size ≤ g) : Grew a (b.setRow g cs) :=
  ⟨⟨h.lo.os, h.lo.tape, h.lo.output, by simp; exact h.lo.size, fun k hk => (setRow_other b g k cs (by omega)).trans (h.lo.block k hk)⟩, h.dr⟩
theorem Grew.set {a b : World} (h : Grew a b) (p : Addr) (v : Value) (hg : a.heap.size ≤ p.block) : Grew a (b.setCell p v) := ⟨h.lo.setCell hg v, h.dr⟩
theorem Grew.grow {w w' : World} (h : Grew w w') : ∃ q os', w' = grow (w.drewN q) os' := by
  refine ⟨w'.drawn - w.drawn, w'.heap.extract w.heap.size w'.heap.size, ?_⟩
  obtain ⟨hp, tp, dr, os, ou⟩ := w
  obtain ⟨hp', tp', dr', os', ou'⟩ := w'
  obtain ⟨⟨h1, h2, h3, h4, h5⟩, h6⟩ := h
  dsimp only at *
  subst h1 h2 h3
  have e1 : dr + (dr' - dr) = dr' := by omega
  have e2 : hp' = hp ++ hp'.extract hp.size hp'.size := by
    apply Array.ext_getElem?
    intro i
    by_cases hi : i < hp.size
    · rw [h5 i hi, Array.getElem?_append_left hi]
    · rw [Array.getElem?_append_right (by omega), Array.getElem?_extract]
      split
      · rw [show hp.size + (i - hp.size) = i by omega]
      · rw [Array.getElem?_eq_none (by omega)]
  show (World.mk hp' tp' dr' os' ou') = World.mk (hp ++ hp'.extract hp.size hp'.size) tp' (dr + (dr' - dr)) os' ou'
  rw [e1, ← e2]

def cmpI (x y : Int) : Int := if x < y then -1 else if y < x then 1 else 0
/-- two rows of numbers held against each other -/
def cmpL : List Int → List Int → Int
  | x :: xs, y :: ys => if cmpI x y = 0 then cmpL xs ys else cmpI x y
  | _, _ => 0
theorem cmpL_drop (xs ys : List Int) (k : Nat) (x y : Int) (hx : xs[k]? = some x) (hy : ys[k]? = some y) : cmpL (xs.drop k) (ys.drop k) = if cmpI x y = 0 then cmpL (xs.drop (k + 1)) (ys.drop (k + 1)) else cmpI x y := by
  have h1 := (List.getElem?_eq_some_iff.1 hx)
  have h2 := (List.getElem?_eq_some_iff.1 hy)
  obtain ⟨l1, e1⟩ := h1
  obtain ⟨l2, e2⟩ := h2
  rw [List.drop_eq_getElem_cons l1, List.drop_eq_getElem_cons l2, e1, e2]
  rfl
set_option maxHeartbeats 400000 in
theorem nan_any (x : Int) (w : World) : Calls Try.prog 108 #[.int .i64 x] w fun e w' => e = .returned (.bool false) ∧ w = w' := by
  go_enter Try.func108, Try.ntmps108
  go_wp2
  go_ret
  exact ⟨by first | rfl | (simp; done), rfl⟩
set_option maxHeartbeats 400000 in
theorem cmpI_any (x y : Int) (w : World) : Calls Try.prog 106 #[.int .i64 x, .int .i64 y] w fun e w' => e = .returned (.int .i64 (cmpI x y)) ∧ w = w' := by
  rcases Int.lt_trichotomy x y with h | h | h
  · have hv : Hid (cmpI x y = -1) := Lib.hid (by unfold cmpI; rw [if_pos h])
    go_enter Try.func106, Try.ntmps106
    go_wp2_with (go_at_call 108; refine (nan_any _ _).mono ?_; rintro e w' ⟨rfl, rfl⟩)
    go_ret
    exact ⟨by rw [hv.out] <;> rfl, rfl⟩
  · subst h
    have hv : Hid (cmpI x x = 0) := Lib.hid (by unfold cmpI; simp)
    go_enter Try.func106, Try.ntmps106
    go_wp2_with (go_at_call 108; refine (nan_any _ _).mono ?_; rintro e w' ⟨rfl, rfl⟩)
    go_ret
    exact ⟨by rw [hv.out] <;> rfl, rfl⟩
  · have hv : Hid (cmpI x y = 1) := Lib.hid (by unfold cmpI; rw [if_neg (by omega), if_pos h])
    have hn : ¬ x < y := by omega
    go_enter Try.func106, Try.ntmps106
    go_wp2_with (go_at_call 108; refine (nan_any _ _).mono ?_; rintro e w' ⟨rfl, rfl⟩)
    go_ret
    exact ⟨by rw [hv.out] <;> rfl, rfl⟩
set_option maxHeartbeats 1000000 in
theorem compare_any (b1 b2 t : Nat) (xs ys : List Int) (w : World) (h1 : Whole w b1 t (xs.map (Value.int .i64))) (h2 : Whole w b2 t (ys.map (Value.int .i64))) (hx : xs.length = 7) (hy : ys.length = 7) :
    Calls Try.prog 99 #[.slice (some ⟨b1, 0, none⟩) 7 7, .slice (some ⟨b2, 0, none⟩) 7 7] w fun e w' => e = .returned (.int .i64 (cmpL xs ys)) ∧ w = w' := by
  have H1 := Lib.hid h1
  have H2 := Lib.hid h2
  have HX := Lib.hid hx
  have HY := Lib.hid hy
  clear h1 h2 hx hy
  go_enter Try.func99, Try.ntmps99
  go_wp2
  go_loopg [5, 6, 7, 8, 11] 7 (fun gg _ _ _ _ s11 wr => ∃ kk : Nat, kk ≤ 7 ∧ 7 - kk ≤ gg ∧ s11 = .int .i64 kk ∧ w = wr ∧ Hid (cmpL xs ys = cmpL (xs.drop kk) (ys.drop kk)))
  case atStart => exact ⟨0, by omega, by omega, rfl, rfl, Lib.hid (by simp)⟩
  case round =>
    obtain ⟨kk, hkk, hg, rfl, rfl, A⟩ := hrel
    by_cases hlt : kk < 7
    · obtain ⟨x, hx⟩ : ∃ x, xs[kk]? = some x := ⟨_, List.getElem?_eq_getElem (by have := HX.out; omega)⟩
      obtain ⟨y, hy⟩ : ∃ y, ys[kk]? = some y := ⟨_, List.getElem?_eq_getElem (by have := HY.out; omega)⟩
      have c1 : w.cell? ⟨b1, kk, none⟩ = some (.int .i64 x) := by rw [H1.out.cellAt]; simp [hx]
      have c2 : w.cell? ⟨b2, kk, none⟩ = some (.int .i64 y) := by rw [H2.out.cellAt]; simp [hy]
      have R := Lib.hid (cmpL_drop xs ys kk x y hx hy)
      have HC := Lib.hid (fun X => cmpI_any x y X)
      clear hx hy
      obtain ⟨c, hc⟩ : ∃ c, cmpI x y = c := ⟨_, rfl⟩
      rw [hc] at R HC
      clear hc
      by_cases h0 : c = 0
      · have R' := Lib.hid (A.out.trans (R.out.trans (if_pos h0)))
        subst h0
        clear R A
        go_wp2_with (go_at_call 106; refine (HC.out _).mono ?_; rintro e w' ⟨rfl, rfl⟩)
        go_roundg (7 - (kk + 1))
        case measure => omega
        case rel => exact ⟨kk + 1, by omega, by omega, by go_num, rfl, R'⟩
      · have R' := Lib.hid (A.out.trans (R.out.trans (if_neg h0)))
        have hb : (c != 0) = true := by simpa using h0
        clear R A h0
        go_wp2_with (go_at_call 106; refine (HC.out _).mono ?_; rintro e w' ⟨rfl, rfl⟩)
        go_ret
        exact ⟨by rw [R'.out] <;> rfl, rfl⟩
    · have R : Hid (cmpL xs ys = 0) := Lib.hid (by rw [A.out, List.drop_eq_nil_of_le (by have := HX.out; omega)]; rfl)
      go_wp2
      go_ret
      exact ⟨by rw [R.out] <;> rfl, rfl⟩

/-- hidden ahead of all, none behind all -/
def clsI (st : Int) : Int := if st = 1 then 0 else if st = 0 then 2 else 1
set_option maxHeartbeats 400000 in
theorem class_any (st : Int) (w : World) : Calls Try.prog 105 #[.int .i64 st] w fun e w' => e = .returned (.int .i64 (clsI st)) ∧ w = w' := by
  rcases (show st = 0 ∨ st = 1 ∨ ((st == 1) = false ∧ (st == 0) = false ∧ clsI st = 1) by unfold clsI; simp; omega) with rfl | rfl | ⟨h1, h0, hv⟩
  · go_enter Try.func105, Try.ntmps105
    go_wp2
    go_ret
    exact ⟨rfl, rfl⟩
  · go_enter Try.func105, Try.ntmps105
    go_wp2
    go_ret
    exact ⟨rfl, rfl⟩
  · have HV := Lib.hid hv
    clear hv
    go_enter Try.func105, Try.ntmps105
    go_wp2
    go_ret
    exact ⟨by rw [HV.out] <;> rfl, rfl⟩
/-- what decides, in its order -/
def rankL (s : Si) : List Int := [clsI s.st, -s.wd, s.st, s.bb, s.ro, s.cl, s.co]
/-- less than 0 where the first one wins -/
def cmpS (a b : Si) : Int := cmpL (rankL a) (rankL b)
/-- a right side, its colour a colour -/
def Fit (s : Si) : Prop := rightS s = true ∧ 0 ≤ s.co ∧ s.co ≤ 4294967295
theorem cell_drewC (X : World) (a : Addr) : X.drew.cell? a = X.cell? a := rfl
theorem rank_box (W w2 : World) (xs : List Value) (o : Obj) (t : Nat) (h : ((W.alloc (.cells xs.toArray t)).alloc o).drew = w2) (j : Nat) : w2.cell? ⟨W.heap.size, j, none⟩ = xs[j]? := by
  rw [← h, cell_drewC]
  exact (Whole.alloc (whole_new W xs t _ rfl) o).cellAt j
theorem rank_new (W w2 : World) (xs ys : List Value) (t t' : Nat) (h : ((W.alloc (.cells xs.toArray t)).alloc (.cells ys.toArray t')).drew = w2) : Whole w2 (W.heap.size + 1) t' ys := by
  rw [← h]; exact whole_new (W.alloc (.cells xs.toArray t)) ys t' _ (by simp)
theorem region_still_tailC {P : Program} {id : Nat} {Q : Exit → Act → World → Prop} {a : Act} {w : World} {l : List Oper} (n : Nat) (hm : P.follows .mixedOrders = true) (hB : Region.lexTailB .any l.toArray n = true)
    (h : ∀ w2 : World, w.drew = w2 → wpStill P l.toArray w2 (fun a' => wpList P l.toArray Q (l.drop n) a' w2) (l.take n) a) : (Code.region id l.toArray true).wp P Q a w :=
  wp_region_still_tail n hm hB (h _ rfl)
theorem whole_rowC {W : World} {g t : Nat} {xs : List Value} (h : Whole W g t xs) (ys : List Value) : Whole (W.setRow g ys.toArray) g t ys := setRow_heap W g xs.toArray ys.toArray t (0, 0) h
set_option maxRecDepth 100000 in
set_option maxHeartbeats 2000000 in
theorem rankOf_any (s : Si) (hs : Fit s) (W : World) :
    Calls Try.prog 98 #[s.val] W fun e W' => e = .returned (.agg ((rankL s).map (Value.int .i64)).toArray) ∧ Grew W W' := by
  have hw := rightS_width hs.1
  obtain ⟨_, hc0, hc1⟩ := hs
  obtain ⟨st, wd, co, bb, ro, cl⟩ := s
  dsimp only at *
  unfold Si.val rankL
  simp only [List.map_cons, List.map_nil]
  have HC := Lib.hid (fun X => class_any st X)
  generalize clsI st = k at *
  go_enter Try.func98, Try.ntmps98
  go_wp2_with fail
  refine region_still_tailC 22 (by kernel_rfl) (by decide +kernel) (fun w2 hw2 => ?_)
  simp only [List.take_succ_cons, List.take_zero, List.drop_succ_cons, List.drop_zero]
  have d0 : w2.cell? ⟨W.heap.size, 0, none⟩ = some (.int .i64 st) := rank_box W w2 _ _ _ hw2 0
  have d1 : w2.cell? ⟨W.heap.size, 1, none⟩ = some (.int .i64 wd) := rank_box W w2 _ _ _ hw2 1
  have d2 : w2.cell? ⟨W.heap.size, 2, none⟩ = some (.int .u32 co) := rank_box W w2 _ _ _ hw2 2
  have d3 : w2.cell? ⟨W.heap.size, 3, none⟩ = some (.int .i64 bb) := rank_box W w2 _ _ _ hw2 3
  have d4 : w2.cell? ⟨W.heap.size, 4, none⟩ = some (.int .i64 ro) := rank_box W w2 _ _ _ hw2 4
  have d5 : w2.cell? ⟨W.heap.size, 5, none⟩ = some (.int .i64 cl) := rank_box W w2 _ _ _ hw2 5
  have KW := Lib.hid (rank_new W w2 _ [.int .i64 0, .int .i64 0, .int .i64 0, .int .i64 0, .int .i64 0, .int .i64 0, .int .i64 0] _ _ hw2)
  have lt2 : W.heap.size < w2.heap.size := by rw [← hw2]; simp; omega
  have HG := Lib.hid (show Grew W w2 by rw [← hw2]; exact (((Grew.refl W).alloc _).alloc _).drew)
  clear hw2
  repeat still_step
  still_call ((HC.out _).mono fun _ _ h => ⟨h.1, h.2.symm⟩)
  repeat still_step
  refine wpStill_nil ?_
  have e1 : IntKind.i64.wrap (-wd) = -wd := by simp [IntKind.wrap, IntKind.bits, IntKind.signed]; omega
  have e2 : IntKind.i64.wrap co = co := by simp [IntKind.wrap, IntKind.bits, IntKind.signed]; omega
  rw [e1, e2]
  clear e1 e2 d0 d1 d2 d3 d4 d5
  have h7 : (Try.prog.info? 161).map (·.size) = some 7 := by kernel_rfl
  obtain ⟨rs, hrs⟩ : ∃ rs, #[Value.int .i64 k, Value.int .i64 (-wd), Value.int .i64 st, Value.int .i64 bb, Value.int .i64 ro, Value.int .i64 cl, Value.int .i64 co] = rs := ⟨_, rfl⟩
  have IR : Hid ((Try.prog.info? 161).map (·.size) = some rs.size) := Lib.hid (by rw [← hrs]; exact h7)
  have ZR : Hid ((#[Value.int .i64 0, Value.int .i64 0, Value.int .i64 0, Value.int .i64 0, Value.int .i64 0, Value.int .i64 0, Value.int .i64 0] : Array Value).size = rs.size) := Lib.hid (by rw [← hrs]; rfl)
  have OR : Hid (rs.all (·.oneCell') = true) := Lib.hid (by rw [← hrs]; simp [Value.oneCell'])
  rw [hrs]
  have HRS := Lib.hid hrs
  clear hrs h7
  refine wpList_store_row rfl 161 (.tmp 2) (.tmp 24) rfl _ rs rfl rfl 161 _ KW.out IR.out ZR.out OR.out ?_
  have KX : Hid (Whole (w2.setRow (W.heap.size + 1) rs) (W.heap.size + 1) 161 rs.toList) := Lib.hid (setRow_heap w2 (W.heap.size + 1) _ rs _ (0, 0) KW.out)
  have HG2 := Lib.hid (HG.out.row (W.heap.size + 1) rs (by omega))
  generalize w2.setRow (W.heap.size + 1) rs = w3 at KX HG2 ⊢
  clear KW HG lt2
  go_wp2
  exact bodyPost_ret (results_cell_row rfl _ _ (W.heap.size + 1) 161 rs (0, 0) _ rfl KX.out Try.underlying161 rfl IR.out) rfl ⟨by rw [HRS.out], HG2.out⟩
end Go.Proofs.Ytceippgkmoijdaa
