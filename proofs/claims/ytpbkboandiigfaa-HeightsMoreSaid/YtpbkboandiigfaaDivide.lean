/- Contract of the division of a length by weights (fixed.divide): the shares rounded down, and the remainders. -/
import Derived.Test.YtpbkboandiigfaaArith
import Derived.Test.YtpbkboandiigfaaWeigh
import Derived.Test.YtpbkboandiigfaaDiv
import Derived.Test.YtpbkboandiigfaaRound
namespace Go.Proofs.Ytpbkboandiigfaa
open Go.RowKit Go.Shelf
set_option linter.unusedVariables false
attribute [local go_sem] Oper.semAt_some

theorem Try.infoU64 : (Try.prog.info? 68).map (fun i => (i.zero, i.size, i.bytes)) = some (some (.int .u64 0), 1, 8) := by kernel_rfl

/-- the weights that come: their place, and that they are at most the sum -/
def WAt (n : Nat) (sum : Int) : Type := { x : Nat × Int // x.1 < n ∧ 0 ≤ x.2 ∧ x.2 ≤ sum }
noncomputable def wAt (zs : List Int) (sum : Int) (hn0 : 1 ≤ zs.length) (hs : 0 ≤ sum) (hz : ∀ j, j < zs.length → 0 ≤ zs[j]?.getD 0 ∧ zs[j]?.getD 0 ≤ sum) (j : Nat) : WAt zs.length sum :=
  if h : j < zs.length then ⟨(j, zs[j]?.getD 0), h, hz j h⟩ else ⟨(0, 0), hn0, by omega, hs⟩
def setS (t sum : Int) (l : List Value) (x : Nat × Int) : List Value := l.set x.1 (.int .i64 (t * x.2 / sum))
def setR (t sum : Int) (l : List Value) (x : Nat × Int) : List Value := l.set x.1 (.int .u64 (t * x.2 % sum))
def stS (t sum : Int) (n : Nat) (pre : List (WAt n sum)) : List Value := pre.foldl (fun l x => setS t sum l x.1) (List.replicate n (.int .i64 0))
def stR (t sum : Int) (n : Nat) (pre : List (WAt n sum)) : List Value := pre.foldl (fun l x => setR t sum l x.1) (List.replicate n (.int .u64 0))
theorem stS_length (t sum : Int) (n : Nat) (pre : List (WAt n sum)) : (stS t sum n pre).length = n := by
  unfold stS
  suffices ∀ (l : List Value), l.length = n → (pre.foldl (fun l x => setS t sum l x.1) l).length = n from this _ (by simp)
  induction pre with
  | nil => exact fun _ h => h
  | cons a pre ih => exact fun l h => ih _ (by simp [setS, h])
theorem stR_length (t sum : Int) (n : Nat) (pre : List (WAt n sum)) : (stR t sum n pre).length = n := by
  unfold stR
  suffices ∀ (l : List Value), l.length = n → (pre.foldl (fun l x => setR t sum l x.1) l).length = n from this _ (by simp)
  induction pre with
  | nil => exact fun _ h => h
  | cons a pre ih => exact fun l h => ih _ (by simp [setR, h])

theorem Whole.grownC {W W' : World} {row : Option Nat} {g t : Nat} {xs : List Value} (h : Whole W g t xs) (hg : W.grownBy W' row) (hr : ∀ r, row = some r → ∃ o : Obj, W.heap[r]? = some o ∧ o.isCells = false) : Whole W' g t xs := by
  refine (hg.block g h.lt (fun e => ?_)).trans h
  obtain ⟨o, ho, hc⟩ := hr g e.symm
  rw [show W.heap[g]? = _ from h] at ho; cases ho; cases hc
theorem Whole.made {W : World} {base E g : Nat} {n : Nat} {xs : List Value} (h : W.ownsRow base E 1 (.slice (some ⟨g, 0, none⟩) n n) n xs) : Whole W g E xs := (own_block h).1

theorem keeps_dn (V : World) (n : Nat) : KeepsOthers V (V.drewN n) := ⟨Nat.le_refl _, fun _ _ h _ => h⟩
theorem stS_snoc (t sum : Int) (n : Nat) (pre : List (WAt n sum)) (x : WAt n sum) : stS t sum n (pre ++ [x]) = setS t sum (stS t sum n pre) x.1 := by simp [stS]
theorem stR_snoc (t sum : Int) (n : Nat) (pre : List (WAt n sum)) (x : WAt n sum) : stR t sum n (pre ++ [x]) = setR t sum (stR t sum n pre) x.1 := by simp [stR]
theorem fill_all {n : Nat} (g : Nat → Value) (d : Value) (st : Nat → List Value) (h0 : st 0 = List.replicate n d) (hs : ∀ k, k < n → st (k + 1) = (st k).set k (g k)) : st n = (List.range n).map g := by
  have key : ∀ k, k ≤ n → st k = (List.range k).map g ++ List.replicate (n - k) d := by
    intro k
    induction k with
    | zero => intro _; simpa using h0
    | succ k ih =>
      intro hk
      rw [hs k (by omega), ih (by omega), List.set_append_right _ _ (by simp)]
      simp only [List.length_map, List.length_range, Nat.sub_self, List.range_succ, List.map_append, List.map_cons, List.map_nil, List.append_assoc, List.singleton_append]
      congr 1
      obtain ⟨e, he⟩ : ∃ e, n - k = e + 1 := ⟨n - k - 1, by omega⟩
      rw [he, show n - (k + 1) = e by omega]; rfl
  have := key n (Nat.le_refl _)
  simpa using this
theorem stS_all (t sum : Int) (zs : List Int) (hn0 : 1 ≤ zs.length) (hs : 0 ≤ sum) (hz) : stS t sum zs.length (upto (wAt zs sum hn0 hs hz) zs.length) = zs.map (fun z => .int .i64 (t * z / sum)) := by
  rw [fill_all (fun j => .int .i64 (t * (zs[j]?.getD 0) / sum)) (.int .i64 0) (fun k => stS t sum zs.length (upto (wAt zs sum hn0 hs hz) k)) (by simp [stS, upto]) (fun k hk => by rw [upto_succ, stS_snoc]; simp [setS, wAt, hk])]
  apply List.ext_getElem
  · simp
  · intro i h1 h2
    have : i < zs.length := by simpa using h2
    simp [this]
theorem stR_all (t sum : Int) (zs : List Int) (hn0 : 1 ≤ zs.length) (hs : 0 ≤ sum) (hz) : stR t sum zs.length (upto (wAt zs sum hn0 hs hz) zs.length) = zs.map (fun z => .int .u64 (t * z % sum)) := by
  rw [fill_all (fun j => .int .u64 (t * (zs[j]?.getD 0) % sum)) (.int .u64 0) (fun k => stR t sum zs.length (upto (wAt zs sum hn0 hs hz) k)) (by simp [stR, upto]) (fun k hk => by rw [upto_succ, stR_snoc]; simp [setR, wAt, hk])]
  apply List.ext_getElem
  · simp
  · intro i h1 h2
    have : i < zs.length := by simpa using h2
    simp [this]
def DividePost (t sum : Int) (zs : List Int) (w : World) (e : Ending) (W' : World) : Prop :=
  Below w.heap.size w W' ∧ ∃ A C : Nat, e = .returned (.tuple #[.slice (some ⟨A, 0, none⟩) zs.length zs.length, .slice (some ⟨C, 0, none⟩) zs.length zs.length]) ∧
    Whole W' A 2 (zs.map fun z => .int .i64 (t * z / sum)) ∧ Whole W' C 68 (zs.map fun z => .int .u64 (t * z % sum)) ∧ w.heap.size ≤ A ∧ w.heap.size ≤ C ∧ A ≠ C
def DI (t sum : Int) (n : Nat) (B A C b8 b9 b3 b5 : Nat) (w : World) (pre : List (WAt n sum)) (W : World) : Prop :=
  (Whole W A 2 (stS t sum n pre) ∧ Whole W C 68 (stR t sum n pre) ∧ Whole W b8 22 [.slice (some ⟨A, 0, none⟩) n n] ∧ Whole W b9 70 [.slice (some ⟨C, 0, none⟩) n n] ∧
    Whole W b3 2 [.int .i64 t] ∧ Whole W b5 68 [.int .u64 sum]) ∧ Below B w W
theorem DI.own (t sum : Int) (n : Nat) (B A C b8 b9 b3 b5 : Nat) (w : World) (K : Nat) (h1 : B ≤ w.heap.size) (h2 : B ≤ K) : OwnFrom K (DI t sum n B A C b8 b9 b3 b5 w) :=
  OwnFrom.and (Own.from (fun s X Y row hs hg hr => ⟨hs.1.grownC hg hr, hs.2.1.grownC hg hr, hs.2.2.1.grownC hg hr, hs.2.2.2.1.grownC hg hr, hs.2.2.2.2.1.grownC hg hr, hs.2.2.2.2.2.grownC hg hr⟩) _) (ownFrom_below h1 h2)

set_option maxHeartbeats 1000000 in
theorem divide_any (t sum : Int) (a0 : Option Addr) (cap0 : Nat) (zs : List Int) (w : World) (hI : Nums .i64 w (.slice a0 zs.length cap0) zs) (hn : zs.length ≤ 10000) (hn0 : 1 ≤ zs.length)
    (t0 : 0 ≤ t) (t1 : t ≤ 1152921504606846975) (s0 : 0 < sum) (s1 : sum ≤ 11258999068426230000) (hz : Hid (∀ j, j < zs.length → 0 ≤ zs[j]?.getD 0 ∧ zs[j]?.getD 0 ≤ sum)) :
    Calls Try.prog 70 #[.int .i64 t, .slice a0 zs.length cap0, .int .u64 sum] w (DividePost t sum zs w) := by
  obtain ⟨i0, hi, hz0, hz1, hz2⟩ := info_parts Try.infoI64
  obtain ⟨i1, hi', hy0, hy1, hy2⟩ := info_parts Try.infoU64
  refine (callsIn_wide (n := 3)).1 (callsIn_of_wp_marks Try.func70 rfl trivial (wpIn_wide.2 ?_) rfl)
  simp only [Try.ntmps70, List.size_toArray, List.length_cons, List.length_nil, Nat.reduceAdd, Nat.reduceSub, Array.replicate_succ, Array.replicate_zero, List.push_toArray, List.append_toArray, List.nil_append, List.cons_append]
  go_wp2_with (first
    | (at_make; refine wpList_make_full _ rfl _ _ 22 rfl w.heap.size 2 i0 (.int .i64 0) 1 Try.underlying22 hi hz0 hz1 .i64 .i64 _ _ zs.length rfl rfl rfl rfl (by rw [hz2]; omega) (by unfold maxLen; omega) (by simp; omega) ?_; intro w1 hown1 hgrow1)
    | (at_make; refine wpList_make_full _ rfl _ _ 70 rfl w.heap.size 68 i1 (.int .u64 0) 1 Try.underlying70 hi' hy0 hy1 .i64 .i64 _ _ zs.length rfl rfl rfl rfl (by rw [hy2]; omega) (by unfold maxLen; omega) (by have := hgrow1.size; simp at this ⊢; omega) ?_; intro w2 hown2 hgrow2)
    | (go_at_call 78; refine (all_any _ _ _ _).mono ?_; rintro e w' ⟨rfl, rfl⟩))
  have e1 : (madeCells (Value.int IntKind.i64 0).cells (zs.length * 1)).toList = List.replicate zs.length (.int .i64 0) := by
    rw [show (Value.int IntKind.i64 0).cells = #[Value.int .i64 0] from rfl, toList_madeCells_one]; simp
  have e2 : (madeCells (Value.int IntKind.u64 0).cells (zs.length * 1)).toList = List.replicate zs.length (.int .u64 0) := by
    rw [show (Value.int IntKind.u64 0).cells = #[Value.int .u64 0] from rfl, toList_madeCells_one]; simp
  rw [e1] at hown1; rw [e2] at hown2
  clear e1 e2
  have g1 := hgrow1.size
  have g2 := hgrow2.size
  simp only [World.size_alloc] at g1 g2
  have nn : ∀ {X : World} (r : Nat), (none : Option Nat) = some r → ∃ o : Obj, X.heap[r]? = some o ∧ o.isCells = false := fun r e => by cases e
  have k3 : Whole w1 w.heap.size 2 [.int .i64 t] := Whole.grownC ((show Whole _ _ _ _ from Boxed.new w 2 (.int .i64 t)).alloc _) hgrow1 nn
  have k5 : Whole w1 (w.heap.size + 1) 68 [.int .u64 sum] := by
    have := Boxed.new (w.alloc (.cells #[.int .i64 t] 2)) 68 (.int .u64 sum)
    rw [World.size_alloc] at this
    exact Whole.grownC this hgrow1 nn
  have kA := Whole.made hown1
  simp only [World.size_alloc] at kA
  have k8 : Whole w2 w1.heap.size 22 [.slice (some ⟨w.heap.size + 1 + 1, 0, none⟩) zs.length zs.length] := Whole.grownC (Boxed.new w1 22 _) hgrow2 nn
  have kC := Whole.made hown2
  simp only [World.size_alloc] at kC
  have k9 : Whole ((w2.alloc (.cells #[.slice (some ⟨w1.heap.size + 1, 0, none⟩) zs.length zs.length] 70)).alloc (.cells #[.slice a0 zs.length cap0] 22)) w2.heap.size 70 [.slice (some ⟨w1.heap.size + 1, 0, none⟩) zs.length zs.length] := Whole.alloc (Boxed.new w2 70 _) _
  have kN := Boxed.new (w2.alloc (.cells #[.slice (some ⟨w1.heap.size + 1, 0, none⟩) zs.length zs.length] 70)) 22 (.slice a0 zs.length cap0)
  rw [World.size_alloc] at kN
  have k3' : Whole ((w2.alloc (.cells #[.slice (some ⟨w1.heap.size + 1, 0, none⟩) zs.length zs.length] 70)).alloc (.cells #[.slice a0 zs.length cap0] 22)) w.heap.size 2 [.int .i64 t] := ((Whole.grownC (k3.alloc _) hgrow2 nn).alloc _).alloc _
  have k5' : Whole ((w2.alloc (.cells #[.slice (some ⟨w1.heap.size + 1, 0, none⟩) zs.length zs.length] 70)).alloc (.cells #[.slice a0 zs.length cap0] 22)) (w.heap.size + 1) 68 [.int .u64 sum] := ((Whole.grownC (k5.alloc _) hgrow2 nn).alloc _).alloc _
  have kA' : Whole ((w2.alloc (.cells #[.slice (some ⟨w1.heap.size + 1, 0, none⟩) zs.length zs.length] 70)).alloc (.cells #[.slice a0 zs.length cap0] 22)) (w.heap.size + 1 + 1) 2 (List.replicate zs.length (.int .i64 0)) := ((Whole.grownC (kA.alloc _) hgrow2 nn).alloc _).alloc _
  have k8' : Whole ((w2.alloc (.cells #[.slice (some ⟨w1.heap.size + 1, 0, none⟩) zs.length zs.length] 70)).alloc (.cells #[.slice a0 zs.length cap0] 22)) w1.heap.size 22 [.slice (some ⟨w.heap.size + 1 + 1, 0, none⟩) zs.length zs.length] := (k8.alloc _).alloc _
  have kC' : Whole ((w2.alloc (.cells #[.slice (some ⟨w1.heap.size + 1, 0, none⟩) zs.length zs.length] 70)).alloc (.cells #[.slice a0 zs.length cap0] 22)) (w1.heap.size + 1) 68 (List.replicate zs.length (.int .u64 0)) := (kC.alloc _).alloc _
  have kAlt := kA.lt
  have kClt := kC.lt
  have hB : Below w.heap.size w ((w2.alloc (.cells #[.slice (some ⟨w1.heap.size + 1, 0, none⟩) zs.length zs.length] 70)).alloc (.cells #[.slice a0 zs.length cap0] 22)) :=
    ((((((((Below.refl _ w).alloc (Nat.le_refl _) _).alloc (by simp) _).grown hgrow1 (by simp; omega) (fun k e => by cases e)).alloc (by omega) _).grown hgrow2 (by simp; omega) (fun k e => by cases e)).alloc (by omega) _).alloc (by simp; omega) _)
  have hsz : ((w2.alloc (.cells #[.slice (some ⟨w1.heap.size + 1, 0, none⟩) zs.length zs.length] 70)).alloc (.cells #[.slice a0 zs.length cap0] 22)).heap.size = w2.heap.size + 2 := by simp
  obtain ⟨W3, hW3⟩ : ∃ W3, ((w2.alloc (.cells #[.slice (some ⟨w1.heap.size + 1, 0, none⟩) zs.length zs.length] 70)).alloc (.cells #[.slice a0 zs.length cap0] 22)) = W3 := ⟨_, rfl⟩
  rw [hW3] at k9 kN k3' k5' kA' k8' kC' hB hsz ⊢
  clear hW3 hown1 hown2 hgrow1 hgrow2 nn k3 k5 kA k8 kC
  generalize w1.heap.size = b8 at *
  generalize w2.heap.size = b9 at *
  have hL := hI.lies.2
  have hIB := hL.below hB
  refine (wpIn_wide (n := 3)).1 (wpIn_rangeFunc_ownG (F := Fence.wide) rfl (by omega) (gf := 86) (lb := #[.pointer (some ⟨b9 + 1, 0, none⟩)]) rfl trivial (enters_of Try.func86 (by kernel_rfl) rfl)
    (all_stops Fence.wide _ trivial rfl (by omega) (b9 + 1) w.heap.size (.slice a0 zs.length cap0) zs.length (by omega) W3 (by omega) (by omega) (wAt zs sum hn0 (by omega) hz.out) (fun x => #[.int .i64 (x.1.1 : Int), .int .i64 x.1.2]) (fun j => .int .i64 (zs[j]?.getD 0)) (fun j hj => by simp [wAt, hj]) kN.cell hIB) belowK_t (belowK_b (by omega)) (Below.refl _ _) (fun _ => rfl)
    (DI t sum zs.length w.heap.size (w.heap.size + 1 + 1) (b8 + 1) b8 b9 w.heap.size (w.heap.size + 1) w) (fun _ _ _ => False) (DI.own _ _ _ _ _ _ _ _ _ _ _ _ (Nat.le_refl _) (by omega)) (fun _ _ _ _ _ hs _ _ => hs) ⟨⟨kA', kC', k8', k9, k3', k5'⟩, hB⟩
    (fun x => { tmps := #[.int .i64 t, .slice a0 zs.length cap0, .int .u64 sum, .pointer (some ⟨w.heap.size, 0, none⟩), undef, .pointer (some ⟨w.heap.size + 1, 0, none⟩), .slice none 0 0, .slice none 0 0, .pointer (some ⟨b8, 0, none⟩), .pointer (some ⟨b9, 0, none⟩), .int .i64 (x.1.1 : Int), .int .i64 x.1.2, undef, undef, undef, undef, .slice a0 zs.length cap0, .int .i64 (zs.length : Int), .slice (some ⟨w.heap.size + 1 + 1, 0, none⟩) zs.length zs.length, .slice a0 zs.length cap0, .int .i64 (zs.length : Int), .slice (some ⟨b8 + 1, 0, none⟩) zs.length zs.length, .slice a0 zs.length cap0, .func (.func 86) #[] #[.pointer (some ⟨b9 + 1, 0, none⟩)], .int .i64 (x.1.1 : Int), .int .i64 x.1.2, undef, undef, undef, undef, undef, undef, undef, undef, undef, undef, undef, undef, undef, undef, undef, undef, undef, undef, undef, undef, undef, undef, undef, undef, undef, undef], defers := [] }) ?assign ?body ?done ?stop)
  case assign =>
    intro l x V K hK
    gi_wp2
    exact hK
  case body =>
    rintro l pre ⟨⟨j, z⟩, hj, z0, zs1⟩ V ⟨⟨qA, qC, q8, q9, q3, q5⟩, hb⟩ hlen
    dsimp only at hj z0 zs1 ⊢
    have c3 : V.cell? ⟨w.heap.size, 0, none⟩ = some (.int .i64 t) := q3.cellAt 0
    have c5 : V.cell? ⟨w.heap.size + 1, 0, none⟩ = some (.int .u64 sum) := q5.cellAt 0
    have c8 : V.cell? ⟨b8, 0, none⟩ = some (.slice (some ⟨w.heap.size + 1 + 1, 0, none⟩) zs.length zs.length) := q8.cellAt 0
    have c9 : V.cell? ⟨b9, 0, none⟩ = some (.slice (some ⟨b8 + 1, 0, none⟩) zs.length zs.length) := q9.cellAt 0
    have lA := stS_length t sum zs.length pre
    have lC := stR_length t sum zs.length pre
    obtain ⟨vA, cA⟩ : ∃ v, V.cell? ⟨w.heap.size + 1 + 1, j, none⟩ = some v := ⟨_, by rw [qA.cellAt, List.getElem?_eq_getElem (by omega)]⟩
    obtain ⟨vC, cC⟩ : ∃ v, V.cell? ⟨b8 + 1, j, none⟩ = some v := ⟨_, by rw [qC.cellAt, List.getElem?_eq_getElem (by omega)]⟩
    have fA := qA.free j
    have fC := qC.free j
    have p0 : 0 ≤ t * z := Int.mul_nonneg t0 z0
    have p1 : t * z ≤ t * sum := Int.mul_le_mul_of_nonneg_left zs1 t0
    have p2 : t * sum ≤ 1152921504606846975 * sum := Int.mul_le_mul_of_nonneg_right t1 (by omega)
    have q1 : t * z / sum ≤ t := Int.ediv_le_of_le_mul s0 p1
    have q0 : 0 ≤ t * z / sum := Int.ediv_nonneg p0 (by omega)
    have r0 := Int.emod_nonneg (t * z) (b := sum) (by omega)
    have r1 := Int.emod_lt_of_pos (t * z) s0
    have hdiv : (t * z / 18446744073709551616 * 18446744073709551616 + t * z % 18446744073709551616) = t * z := by omega
    have hH : t * z / 18446744073709551616 < sum := by omega
    have hH0 : 0 ≤ t * z / 18446744073709551616 := by omega
    have hL0 : 0 ≤ t * z % 18446744073709551616 ∧ t * z % 18446744073709551616 < 18446744073709551616 := by omega
    have m1 := mul64_of t z _ _ V t0 (by omega) z0 (by omega) rfl rfl
    have m2 := fun X => div64_of (t * z / 18446744073709551616) (t * z % 18446744073709551616) sum (t * z / sum) (t * z % sum) X hH0 hH (by omega) hL0.1 hL0.2 (by rw [hdiv]) (by rw [hdiv])
    have zb : z ≤ 11258999068426230000 := by omega
    obtain ⟨HH, hHH⟩ : ∃ H, t * z / 18446744073709551616 = H := ⟨_, rfl⟩
    obtain ⟨LL, hLL⟩ : ∃ L, t * z % 18446744073709551616 = L := ⟨_, rfl⟩
    obtain ⟨q, hq⟩ : ∃ q, t * z / sum = q := ⟨_, rfl⟩
    obtain ⟨r, hr⟩ : ∃ r, t * z % sum = r := ⟨_, rfl⟩
    rw [hHH, hLL] at m1; rw [hHH, hLL, hq, hr] at m2
    rw [hq] at q0 q1; rw [hr] at r0 r1
    have M1 := Lib.hid m1
    have M2 := Lib.hid m2
    have HQ := Lib.hid hq
    have HR := Lib.hid hr
    have q2 : q ≤ 1152921504606846975 := by omega
    have r2 : r ≤ 11258999068426230000 := by omega
    have hone : 1 ≤ 3 - 1 - 1 := by omega
    have mixed : Try.prog.follows .mixedOrders = true := by kernel_rfl
    clear m1 m2 hq hr hHH hLL hdiv hH hH0 hL0 p0 p1 p2 q1 r1 lA lC hlen k3' k5' kA' k8' kC' k9 kN hB hIB hL hI hz0 hz1 hz2 hy0 hy1 hy2 hi hi' g1 g2 hsz
    gi_wp2_with (first
      | (refine ⟨trivial, ?_⟩; gi_at_call 54; refine (CallsIn.inRound l (callsIn_wide.2 M1.out)).mono ?_; rintro e w' ⟨rfl, rfl⟩)
      | (refine ⟨trivial, ?_⟩; gi_at_call 55; refine (CallsIn.inRound l (callsIn_wide.2 (M2.out _))).mono ?_; rintro e w' ⟨rfl, nn, rfl⟩))
    have d8 : (V.drewN nn).cell? ⟨b8, 0, none⟩ = some (.slice (some ⟨w.heap.size + 1 + 1, 0, none⟩) zs.length zs.length) := c8
    have d9 : (V.drewN nn).cell? ⟨b9, 0, none⟩ = some (.slice (some ⟨b8 + 1, 0, none⟩) zs.length zs.length) := c9
    have dA : (V.drewN nn).cell? ⟨w.heap.size + 1 + 1, j, none⟩ = some vA := cA
    have dC : (V.drewN nn).cell? ⟨b8 + 1, j, none⟩ = some vC := cC
    have gA : (V.drewN nn).frozen? ⟨w.heap.size + 1 + 1, j, none⟩ = false := fA
    have gC : (V.drewN nn).frozen? ⟨b8 + 1, j, none⟩ = false := fC
    have n1 : ¬ (w.heap.size + 1 + 1 = b8 + 1) := by omega
    have n2 : ¬ (b8 + 1 = w.heap.size + 1 + 1) := by omega
    have n3 : ¬ (w.heap.size + 1 + 1 = b9) := by omega
    have n4 : ¬ (b9 = w.heap.size + 1 + 1) := by omega
    have n5 : ¬ (w.heap.size + 1 + 1 = b8) := by omega
    have n6 : ¬ (b8 = w.heap.size + 1 + 1) := by omega
    have hlen1 : zs.length ≤ 10000 := hn
    have hwq : IntKind.i64.wrap q = q := by simp [IntKind.wrap, IntKind.bits, IntKind.signed]; omega
    refine wpIn_round_held (fun X => X.cell? ⟨b8, 0, none⟩ = some (.slice (some ⟨w.heap.size + 1 + 1, 0, none⟩) zs.length zs.length) ∧ X.cell? ⟨b9, 0, none⟩ = some (.slice (some ⟨b8 + 1, 0, none⟩) zs.length zs.length)) (by kernel_rfl) (by kernel_rfl) (fun ⟨_, _, h⟩ => h) ?_
    refine wpAnyH_take (i := 0) (v := .slice (some ⟨w.heap.size + 1 + 1, 0, none⟩) zs.length zs.length) rfl (by kernel_rfl) (by kernel_rfl) (by kernel_rfl) (fun _ _ _ h => h) (Or.inl ⟨by rfl, ?_⟩) ⟨d8, d9⟩ ?_
    · rintro X ⟨x8, x9⟩; clear d8 d9 dA dC gA gC; go_simp
    refine wpAnyH_take (i := 1) (v := .int .i64 (j : Int)) rfl (by kernel_rfl) (by kernel_rfl) (by kernel_rfl) (fun _ _ _ h => h) (Or.inl ⟨by rfl, ?_⟩) ⟨d8, d9⟩ ?_
    · rintro X ⟨x8, x9⟩; clear d8 d9 dA dC gA gC; go_simp
    refine wpAnyH_take (i := 2) (v := .slice (some ⟨b8 + 1, 0, none⟩) zs.length zs.length) rfl (by kernel_rfl) (by kernel_rfl) (by kernel_rfl) (fun _ _ _ h => h) (Or.inl ⟨by rfl, ?_⟩) ⟨d8, d9⟩ ?_
    · rintro X ⟨x8, x9⟩; clear d8 d9 dA dC gA gC; go_simp
    refine wpAnyH_take (i := 3) (v := .int .i64 (j : Int)) rfl (by kernel_rfl) (by kernel_rfl) (by kernel_rfl) (fun _ _ _ h => h) (Or.inl ⟨by rfl, ?_⟩) ⟨d8, d9⟩ ?_
    · rintro X ⟨x8, x9⟩; clear d8 d9 dA dC gA gC; go_simp
    refine wpAnyH_take (i := 4) (v := .int .u64 q) rfl (by kernel_rfl) (by kernel_rfl) (by kernel_rfl) (fun _ _ _ h => h) (Or.inl ⟨by rfl, ?_⟩) ⟨d8, d9⟩ ?_
    · rintro X ⟨x8, x9⟩; clear d8 d9 dA dC gA gC; go_simp
    refine wpAnyH_take (i := 5) (v := .int .i64 q) rfl (by kernel_rfl) (by kernel_rfl) (by kernel_rfl) (fun _ _ _ h => h) (Or.inl ⟨by rfl, ?_⟩) ⟨d8, d9⟩ ?_
    · rintro X ⟨x8, x9⟩; clear d8 d9 dA dC gA gC; go_simp
    refine wpAnyH_take (i := 6) (v := .int .u64 r) rfl (by kernel_rfl) (by kernel_rfl) (by kernel_rfl) (fun _ _ _ h => h) (Or.inl ⟨by rfl, ?_⟩) ⟨d8, d9⟩ ?_
    · rintro X ⟨x8, x9⟩; clear d8 d9 dA dC gA gC; go_simp
    refine wpAnyH_all (rs := [7]) (by kernel_rfl) (by simp) ?_
    intro i hi; obtain rfl : i = 7 := by simpa using hi
    refine wpOp_step rfl (fun K hK => ?_)
    go_simp
    refine hK _ _ ⟨⟨d8, d9⟩, ?_⟩
    clear hK K hi
    refine wpAnyH_all (rs := [8]) (by kernel_rfl) (by simp) ?_
    intro i hi; obtain rfl : i = 8 := by simpa using hi
    refine wpOp_step rfl (fun K hK => ?_)
    go_simp
    refine hK _ _ ⟨⟨?_, ?_⟩, ?_⟩
    · go_simp
    · go_simp
    clear hK K hi
    refine wpAnyH_all (rs := [9]) (by kernel_rfl) (by simp) ?_
    intro i hi; obtain rfl : i = 9 := by simpa using hi
    refine wpOp_step rfl (fun K hK => ?_)
    go_simp
    refine hK _ _ ⟨⟨?_, ?_⟩, ?_⟩
    · go_simp
    · go_simp
    clear hK K hi
    refine wpAnyH_all (rs := [10]) (by kernel_rfl) (by simp) ?_
    intro i hi; obtain rfl : i = 10 := by simpa using hi
    refine wpOp_step rfl (fun K hK => ?_)
    go_simp
    refine hK _ _ ⟨⟨?_, ?_⟩, ?_⟩
    · go_simp
    · go_simp
    clear hK K hi
    refine wpAnyH_done (by kernel_rfl) ?_ _
    clear d8 d9 dA dC gA gC
    refine ⟨((keeps_dn V (nn + 1)).trans ((KeepsOthers.setCell _ _ _).trans (KeepsOthers.setCell _ _ _))).from _, ((below_dn _ V (nn + 1)).setCell (p := ⟨w.heap.size + 1 + 1, j, none⟩) (by simp; omega) _).setCell (p := ⟨b8 + 1, j, none⟩) (by simp; omega) _,
      ⟨?_, ?_, ?_, ?_, ?_, ?_⟩, ((hb.trans (below_dn _ V (nn + 1))).setCell (p := ⟨w.heap.size + 1 + 1, j, none⟩) (by simp; omega) _).setCell (p := ⟨b8 + 1, j, none⟩) (by simp; omega) _⟩
    · have := ((show Whole (V.drewN (nn + 1)) _ _ _ from qA).set j (.int .i64 q)).other ⟨b8 + 1, j, none⟩ (.int .u64 r) n1
      have e := stS_snoc t sum zs.length pre ⟨(j, z), hj, z0, zs1⟩
      simp only [setS] at e; rw [HQ.out] at e
      exact Eq.mpr (congrArg (Whole _ _ _) e) this
    · have := ((show Whole (V.drewN (nn + 1)) _ _ _ from qC).other ⟨w.heap.size + 1 + 1, j, none⟩ (.int .i64 q) n2).set j (.int .u64 r)
      have e := stR_snoc t sum zs.length pre ⟨(j, z), hj, z0, zs1⟩
      simp only [setR] at e; rw [HR.out] at e
      exact Eq.mpr (congrArg (Whole _ _ _) e) this
    · exact ((show Whole (V.drewN (nn + 1)) _ _ _ from q8).other ⟨w.heap.size + 1 + 1, j, none⟩ (.int .i64 q) n6).other ⟨b8 + 1, j, none⟩ (.int .u64 r) (by simp)
    · exact ((show Whole (V.drewN (nn + 1)) _ _ _ from q9).other ⟨w.heap.size + 1 + 1, j, none⟩ (.int .i64 q) n4).other ⟨b8 + 1, j, none⟩ (.int .u64 r) (by simp; omega)
    · exact ((show Whole (V.drewN (nn + 1)) _ _ _ from q3).other ⟨w.heap.size + 1 + 1, j, none⟩ (.int .i64 q) (by simp; omega)).other ⟨b8 + 1, j, none⟩ (.int .u64 r) (by simp; omega)
    · exact ((show Whole (V.drewN (nn + 1)) _ _ _ from q5).other ⟨w.heap.size + 1 + 1, j, none⟩ (.int .i64 q) (by simp)).other ⟨b8 + 1, j, none⟩ (.int .u64 r) (by simp; omega)
  case done =>
    rintro D ys V hD rfl ⟨⟨qA, qC, q8, q9, q3, q5⟩, hb⟩ hK
    have c8 : V.cell? ⟨b8, 0, none⟩ = some (.slice (some ⟨w.heap.size + 1 + 1, 0, none⟩) zs.length zs.length) := q8.cellAt 0
    have c9 : V.cell? ⟨b9, 0, none⟩ = some (.slice (some ⟨b8 + 1, 0, none⟩) zs.length zs.length) := q9.cellAt 0
    rw [stS_all] at qA; rw [stR_all] at qC
    have HA := Lib.hid qA
    have HC := Lib.hid qC
    have HB := Lib.hid hb
    have HM := Lib.hid ((Marks.nil w.heap.size V).cons (D := D) (by omega) hK (fun E hE => by cases hE))
    clear qA qC q8 q9 q3 q5 hb hK k3' k5' kA' k8' kC' k9 kN hB hIB hL hI hz0 hz1 hz2 hy0 hy1 hy2 hi hi' g1 g2
    go_wp2
    go_quiet (fail)
    go_wp2
    refine leaves_marks w.heap.size [D] _ (HM.out.drewN _) (fun W' hck hbk => ⟨_, results_tmp2 rfl _ _ _, ?_⟩)
    refine ⟨(HB.out.trans (below_dn _ _ _)).trans hbk, w.heap.size + 1 + 1, b8 + 1, rfl, hck _ _ HA.out rfl, hck _ _ HC.out rfl, by omega, by omega, by omega⟩
  case stop =>
    rintro D c pre W _ _ h _
    exact h.elim
end Go.Proofs.Ytpbkboandiigfaa
