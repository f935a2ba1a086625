/- Contract of (lines).corners: four corners for each rectangle. -/
import Derived.Test.YtjdnhpbifblneaaRPlace
import Derived.Test.YtjdnhpbifblneaaRound
namespace Go.Proofs.Ytjdnhpbifblneaa
open Go.RowKit Go.Shelf Go.Sort Go.Lib
set_option linter.unusedVariables false
attribute [local go_sem] Oper.semAt_some

theorem Try.infoCor : (Try.prog.info? 59).map (fun i => (i.zero, i.size, i.bytes)) = some (some (.agg #[.complex .f64 0 0, .int .i64 0]), 2, 24) := by kernel_rfl
def fin (n : Nat) : Fin 2048 := if h : n < 2048 then ⟨n, h⟩ else 0
theorem fin_val {n : Nat} (h : n < 2048) : (fin n : Nat) = n := by unfold fin; rw [dif_pos h]
/-- the four corners of a rectangle -/
def cornersR (xs ys : List Int) (t : Int) (r : R) : List Cor :=
  [⟨fin (rank xs r.x), fin (rank ys r.y), t⟩, ⟨fin (rank xs (r.x + r.w)), fin (rank ys r.y), -t⟩, ⟨fin (rank xs r.x), fin (rank ys (r.y + r.h)), -t⟩, ⟨fin (rank xs (r.x + r.w)), fin (rank ys (r.y + r.h)), t⟩]
def cornersL (xs ys : List Int) (t : Int) (rs : List R) : List Cor := rs.flatMap (cornersR xs ys t)
def encC (cs : List Cor) : List Value := cs.flatMap Cor.cells
theorem encC_append (a b : List Cor) : encC (a ++ b) = encC a ++ encC b := by simp [encC]
theorem cornersL_len (xs ys : List Int) (t : Int) (rs : List R) : (cornersL xs ys t rs).length = 4 * rs.length := by
  unfold cornersL
  induction rs with
  | nil => rfl
  | cons a l ih => rw [List.flatMap_cons, List.length_append, ih]; simp [cornersR]; omega
theorem list_new (w : World) (xs : List Value) (t : Nat) : ∀ j u, xs[j]? = some u → (w.alloc (.cells xs.toArray t)).cell? ((⟨w.heap.size, 0, none⟩ : Addr).add j) = some u := by
  intro j u hj
  have h := (whole_new w xs t _ rfl).cellAt j
  rw [show (⟨w.heap.size, 0, none⟩ : Addr).add j = ⟨w.heap.size, j, none⟩ by unfold Addr.add; split <;> simp_all]
  exact h.trans hj
def CorI (xs ys : List Int) (t : Int) (sx sy : Value) (B base : Nat) (w : World) (pre : List RR) (W : World) : Prop :=
  (∃ v, Whole W (B + 2) 44 [v] ∧ W.ownsRow base 59 2 v (4 * pre.length) (encC (cornersL xs ys t (vals pre)))) ∧
  (Whole W B 41 [sx, sy] ∧ Whole W (B + 1) 3 [.int .i64 t]) ∧ Below B w W ∧ base ≤ W.heap.size
theorem CorI.own (xs ys : List Int) (t : Int) (sx sy : Value) (B base : Nat) (w : World) (K : Nat) (h1 : B ≤ w.heap.size) (h2 : B ≤ K) : OwnFrom K (CorI xs ys t sx sy B base w) :=
  OwnFrom.and (Own.from (fun s X Y row ⟨v, hs, ho⟩ hg hr => ⟨v, hs.grown hg (hs.ne fun r e => hr r e), own_grown ho hg fun r e => hr r e⟩) _)
    (OwnFrom.and (Own.from (fun s X Y row hs hg hr => ⟨hs.1.grown hg (hs.1.ne fun r e => hr r e), hs.2.grown hg (hs.2.ne fun r e => hr r e)⟩) _)
      (OwnFrom.and (ownFrom_below h1 h2) (fun s X Y row hs hg hr => Nat.le_trans hs hg.size)))
theorem CorI.later {xs ys : List Int} {t : Int} {sx sy : Value} {B base : Nat} {w : World} {pre : List RR} {V W : World} (h : CorI xs ys t sx sy B base w pre V) (hb : Below V.heap.size V W) (hB : B ≤ V.heap.size) : CorI xs ys t sx sy B base w pre W := by
  obtain ⟨⟨v, h1, h2⟩, ⟨h3, h4⟩, h5, h6⟩ := h
  have hg : V.grownBy W none := ⟨hb.os, hb.tape, hb.output, hb.size, fun k hk _ => hb.block k hk⟩
  exact ⟨⟨v, h1.grown hg (by simp), h2.kept hg (by cases v.ownBlock <;> simp)⟩, ⟨h3.grown hg (by simp), h4.grown hg (by simp)⟩, h5.trans (hb.mono hB), Nat.le_trans h6 hb.size⟩
def CorS (V : World) (B g : Nat) (sx sy : Value) (x y u v : Int) (X : World) : Prop :=
  X.cell? ⟨B, 0, none⟩ = some sx ∧ X.cell? ⟨B, 1, none⟩ = some sy ∧ X.cell? ⟨g, 0, none⟩ = some (.int .i64 x) ∧ X.cell? ⟨g, 1, none⟩ = some (.int .i64 y) ∧ X.cell? ⟨g, 2, none⟩ = some (.int .i64 u) ∧ X.cell? ⟨g, 3, none⟩ = some (.int .i64 v) ∧ Hid (Below V.heap.size V X)
theorem CorS.later {V X X' : World} {B g : Nat} {sx sy : Value} {x y u v : Int} (h : CorS V B g sx sy x y u v X) (hb : Below X.heap.size X X') : CorS V B g sx sy x y u v X' := by
  obtain ⟨h0, h1, h2, h3, h4, h5, h6⟩ := h
  have go : ∀ {a b : Nat} {v : Value}, X.cell? ⟨a, b, none⟩ = some v → X'.cell? ⟨a, b, none⟩ = some v := fun {a b v} h => (hb.cell (p := ⟨a, b, none⟩) (cell_lt h)).trans h
  exact ⟨go h0, go h1, go h2, go h3, go h4, go h5, Lib.hid (h6.out.trans (hb.mono h6.out.size))⟩
def CornersPost (xs ys : List Int) (t : Int) (rs : List R) (w : World) (e : Ending) (W' : World) : Prop :=
  ∃ v, e = .returned v ∧ W'.ownsRow w.heap.size 59 2 v (4 * rs.length) (encC (cornersL xs ys t rs)) ∧ Below w.heap.size w W'
set_option maxRecDepth 100000 in
set_option maxHeartbeats 1000000 in
theorem corners_any (sx sy sv : Value) (xs ys : List Int) (t : Int) (rs : List RR) (w : World) (hI : Rects w sv (vals rs)) (hn : rs.length ≤ 500) (ht : t = 1 ∨ t = -1)
    (hX : Ints w sx xs) (hY : Ints w sy ys) (hx : xs.Pairwise (· ≤ ·)) (hy : ys.Pairwise (· ≤ ·)) (lx : 1 ≤ xs.length ∧ xs.length < 2048) (ly : 1 ≤ ys.length ∧ ys.length < 2048) :
    Calls Try.prog 15 #[.agg #[sx, sy], .int .i64 t, sv] w (CornersPost xs ys t (vals rs) w) := by
  obtain ⟨i0, hi, hz0, hz1, hz2⟩ := info_parts Try.infoCor
  obtain ⟨a0, len0, cap0, rfl⟩ : ∃ a len cap, sv = .slice a len cap := by
    obtain ⟨_, ⟨a, cap, rfl, _⟩ | ⟨b, off, cap, rfl, _⟩⟩ := hI <;> exact ⟨_, _, _, rfl⟩
  have ht1 : -1 ≤ t := by omega
  have ht2 : t ≤ 1 := by omega
  have rX := fun z => Nat.lt_of_le_of_lt (rank_le xs z) lx.2
  have rY := fun z => Nat.lt_of_le_of_lt (rank_le ys z) ly.2
  have PL := Lib.hid (fun x y V hX' hY' => place_any sx sy xs ys x y V hX' hY' hx hy lx ly)
  obtain ⟨ax, nx, cx, rfl⟩ : ∃ a n c, sx = .slice a n c := by obtain ⟨_, ⟨a, cap, rfl, _⟩ | ⟨b, off, cap, rfl, _⟩⟩ := hX <;> exact ⟨_, _, _, rfl⟩
  obtain ⟨ay, ny, cy, rfl⟩ : ∃ a n c, sy = .slice a n c := by obtain ⟨_, ⟨a, cap, rfl, _⟩ | ⟨b, off, cap, rfl, _⟩⟩ := hY <;> exact ⟨_, _, _, rfl⟩
  have HX := Lib.hid hX
  have HY := Lib.hid hY
  clear hx hy lx ly hX hY ht
  refine (callsIn_wide (n := 3)).1 (callsIn_of_wp_marks Try.func15 rfl trivial (wpIn_wide.2 ?_) rfl)
  simp only [Try.ntmps15, List.size_toArray, List.length_cons, List.length_nil, Nat.reduceAdd, Nat.reduceSub, Array.replicate_succ, Array.replicate_zero, List.push_toArray, List.append_toArray, List.nil_append, List.cons_append]
  go_wp2_with (go_at_call 26; refine (values_any _ _ _ _).mono ?_; rintro e w' ⟨rfl, rfl⟩)
  have hB : Below w.heap.size w ((((w.alloc (.cells #[.slice ax nx cx, .slice ay ny cy] 41)).alloc (.cells #[.int .i64 t] 3)).alloc (.cells #[.slice none 0 0] 44)).alloc (.cells #[.slice a0 len0 cap0] 24)) :=
    ((((Below.refl _ w).alloc (Nat.le_refl _) _).alloc (by simp) _).alloc (by simp <;> omega) _).alloc (by simp <;> omega) _
  have k3 : Whole ((((w.alloc (.cells #[.slice ax nx cx, .slice ay ny cy] 41)).alloc (.cells #[.int .i64 t] 3)).alloc (.cells #[.slice none 0 0] 44)).alloc (.cells #[.slice a0 len0 cap0] 24)) w.heap.size 41 [.slice ax nx cx, .slice ay ny cy] := (((whole_new w [.slice ax nx cx, .slice ay ny cy] 41 _ rfl).alloc _).alloc _).alloc _
  have k4 : Whole ((((w.alloc (.cells #[.slice ax nx cx, .slice ay ny cy] 41)).alloc (.cells #[.int .i64 t] 3)).alloc (.cells #[.slice none 0 0] 44)).alloc (.cells #[.slice a0 len0 cap0] 24)) (w.heap.size + 1) 3 [.int .i64 t] := ((whole_new (w.alloc (.cells #[.slice ax nx cx, .slice ay ny cy] 41)) [.int .i64 t] 3 _ (by simp)).alloc _).alloc _
  have k7 : Whole ((((w.alloc (.cells #[.slice ax nx cx, .slice ay ny cy] 41)).alloc (.cells #[.int .i64 t] 3)).alloc (.cells #[.slice none 0 0] 44)).alloc (.cells #[.slice a0 len0 cap0] 24)) (w.heap.size + 2) 44 [.slice none 0 0] := (whole_new ((w.alloc (.cells #[.slice ax nx cx, .slice ay ny cy] 41)).alloc (.cells #[.int .i64 t] 3)) [.slice none 0 0] 44 _ (by simp)).alloc _
  have ks : Whole ((((w.alloc (.cells #[.slice ax nx cx, .slice ay ny cy] 41)).alloc (.cells #[.int .i64 t] 3)).alloc (.cells #[.slice none 0 0] 44)).alloc (.cells #[.slice a0 len0 cap0] 24)) (w.heap.size + 1 + 1 + 1) 24 [.slice a0 len0 cap0] := whole_new (((w.alloc (.cells #[.slice ax nx cx, .slice ay ny cy] 41)).alloc (.cells #[.int .i64 t] 3)).alloc (.cells #[.slice none 0 0] 44)) [.slice a0 len0 cap0] 24 _ (by simp)
  have hsz : ((((w.alloc (.cells #[.slice ax nx cx, .slice ay ny cy] 41)).alloc (.cells #[.int .i64 t] 3)).alloc (.cells #[.slice none 0 0] 44)).alloc (.cells #[.slice a0 len0 cap0] 24)).heap.size = w.heap.size + 4 := by simp
  obtain ⟨W1, hW1⟩ : ∃ W1, (((w.alloc (.cells #[.slice ax nx cx, .slice ay ny cy] 41)).alloc (.cells #[.int .i64 t] 3)).alloc (.cells #[.slice none 0 0] 44)).alloc (.cells #[.slice a0 len0 cap0] 24) = W1 := ⟨_, rfl⟩
  rw [hW1] at hB k3 k4 k7 ks hsz ⊢
  clear hW1
  have hsz1 : w.heap.size + 4 ≤ W1.heap.size := by omega
  clear hsz
  refine (wpIn_wide (n := 3)).1 (wpIn_rangeFunc_ownH (F := Fence.wide) rfl (by omega) (gf := 38) (lb := #[.pointer (some ⟨w.heap.size + 1 + 1 + 1, 0, none⟩)]) rfl trivial (enters_of Try.func38 (by kernel_rfl) rfl)
    (values_stops Fence.wide _ trivial rfl (by omega) (w.heap.size + 1 + 1 + 1) (.slice a0 len0 cap0) Subtype.val rs W1 w (by omega) (ks.cellAt 0) hI hB) belowK_t (belowK_b (by omega)) (Below.refl _ _) (fun _ => rfl)
    (CorI xs ys t (.slice ax nx cx) (.slice ay ny cy) w.heap.size W1.heap.size w) (fun _ _ _ => False) (CorI.own _ _ _ _ _ _ _ _ _ (Nat.le_refl _) (by omega)) (fun _ _ _ _ _ hs _ _ => hs)
    ⟨⟨_, k7, World.ownsRow_nil _ _ _ _⟩, ⟨k3, k4⟩, hB, Nat.le_refl _⟩
    (fun x a' W' => ∃ g, a' = { tmps := #[.agg #[.slice ax nx cx, .slice ay ny cy], .int .i64 t, .slice a0 len0 cap0, .pointer (some ⟨w.heap.size, 0, none⟩), .pointer (some ⟨w.heap.size + 1, 0, none⟩), undef, .slice none 0 0, .pointer (some ⟨w.heap.size + 1 + 1, 0, none⟩), .pointer (some ⟨g, 0, none⟩), undef, undef, .slice a0 len0 cap0, .func (.func 38) #[] #[.pointer (some ⟨w.heap.size + 1 + 1 + 1, 0, none⟩)], x.1.val, undef, undef, undef, undef, undef, undef, undef, undef, undef, undef, undef, undef, undef, undef, undef, undef, undef, undef, undef, undef, undef, undef, undef, undef, undef, undef, undef, undef, undef, undef, undef, undef, undef, undef, undef, undef, undef, undef, undef, undef, undef, undef, undef, undef], defers := [] } ∧ W1.heap.size ≤ g ∧ Whole W' g 23 x.1.cells) ?hax ?assign ?body ?done ?stop)
  case hax =>
    rintro x a' s X Y row ⟨g, he, hg, hk⟩ hgr hr
    exact ⟨g, he, hg, hk.grown hgr (hk.ne fun r e => (hr r e).2)⟩
  case assign =>
    rintro l pre ⟨⟨x, y, u, v⟩, hx⟩ V K hi' hK
    have hbase := hi'.2.2.2
    have hB' := Lib.hid hi'
    have hval : R.val ⟨x, y, u, v⟩ = .agg #[.int .i64 x, .int .i64 y, .int .i64 u, .int .i64 v] := rfl
    clear hi' k3 k4 k7 ks hB hI hi hz0 hz1 hz2 rX rY
    gi_wp2
    refine hK _ _ ((KeepsOthers.alloc V _).from _) ((Below.refl _ V).alloc (by omega) _) ((CorI.own _ _ _ _ _ _ _ _ W1.heap.size (Nat.le_refl _) (by omega)).alloc _ hB'.out) ⟨V.heap.size, by simp [hval], hbase, ?_⟩
    exact whole_new V [.int .i64 x, .int .i64 y, .int .i64 u, .int .i64 v] 23 _ rfl
  case body =>
    rintro l pre ⟨⟨x, y, u, v⟩, hx⟩ a' V hl hlr hCI ⟨g, rfl, hg, hk⟩ hlen
    have hR := (rightB_iff _).1 hx
    dsimp only at hR
    obtain ⟨⟨x1, x2⟩, ⟨y1, y2⟩, ⟨u1, u2⟩, v1, v2⟩ := hR
    have hval : R.val ⟨x, y, u, v⟩ = .agg #[.int .i64 x, .int .i64 y, .int .i64 u, .int .i64 v] := rfl
    replace hk : Whole V g 23 [.int .i64 x, .int .i64 y, .int .i64 u, .int .i64 v] := hk
    have hCI' := hCI
    obtain ⟨_, ⟨b3, b4⟩, hbV, hbs⟩ := hCI'
    have hS0 : CorS V w.heap.size g (.slice ax nx cx) (.slice ay ny cy) x y u v V := ⟨b3.cellAt 0, b3.cellAt 1, hk.cellAt 0, hk.cellAt 1, hk.cellAt 2, hk.cellAt 3, Lib.hid (Below.refl _ _)⟩
    have hS : CorS V w.heap.size g (.slice ax nx cx) (.slice ay ny cy) x y u v V.drew := hS0.later (below_dn _ V 1)
    have CI := Lib.hid hCI
    have IXY := Lib.hid (fun X (h : CorS V w.heap.size g (.slice ax nx cx) (.slice ay ny cy) x y u v X) => (⟨HX.out.below (hbV.trans (h.2.2.2.2.2.2.out.mono (by have := hbV.size; omega))), HY.out.below (hbV.trans (h.2.2.2.2.2.2.out.mono (by have := hbV.size; omega)))⟩ : Ints X (.slice ax nx cx) xs ∧ Ints X (.slice ay ny cy) ys))
    have sum1 : IntKind.i64.wrap (x + u) = x + u := by simp [IntKind.wrap, IntKind.bits, IntKind.signed]; omega
    have sum2 : IntKind.i64.wrap (y + v) = y + v := by simp [IntKind.wrap, IntKind.bits, IntKind.signed]; omega
    have hbVs := hbV.size
    clear k3 k4 k7 ks hB hI hlr hS0 hk hCI b3 b4 hbV
    gi_wp2
    refine wpIn_round_held (CorS V w.heap.size g (.slice ax nx cx) (.slice ay ny cy) x y u v) (by kernel_rfl) (by kernel_rfl) (fun ⟨_, _, h⟩ => h) ?_
    refine wpAnyH_take (i := 0) (v := .agg #[.slice ax nx cx, .slice ay ny cy]) rfl (by kernel_rfl) (by kernel_rfl) (by kernel_rfl) (fun _ _ _ h => h) (Or.inl ⟨by rfl, ?_⟩) hS ?_
    · rintro X ⟨s0, s1, r0, r1, r2, r3, _⟩; go_simp
    refine wpAnyH_take (i := 1) (v := .pointer (some ⟨g, 0, none⟩)) rfl (by kernel_rfl) (by kernel_rfl) (by kernel_rfl) (fun _ _ _ h => h) (Or.inl ⟨by rfl, ?_⟩) hS ?_
    · rintro X ⟨s0, s1, r0, r1, r2, r3, _⟩; go_simp
    refine wpAnyH_take (i := 2) (v := .int .i64 x) rfl (by kernel_rfl) (by kernel_rfl) (by kernel_rfl) (fun _ _ _ h => h) (Or.inl ⟨by rfl, ?_⟩) hS ?_
    · rintro X ⟨s0, s1, r0, r1, r2, r3, _⟩; go_simp
    refine wpAnyH_take (i := 3) (v := .pointer (some ⟨g, 1, none⟩)) rfl (by kernel_rfl) (by kernel_rfl) (by kernel_rfl) (fun _ _ _ h => h) (Or.inl ⟨by rfl, ?_⟩) hS ?_
    · rintro X ⟨s0, s1, r0, r1, r2, r3, _⟩; go_simp
    refine wpAnyH_take (i := 4) (v := .int .i64 y) rfl (by kernel_rfl) (by kernel_rfl) (by kernel_rfl) (fun _ _ _ h => h) (Or.inl ⟨by rfl, ?_⟩) hS ?_
    · rintro X ⟨s0, s1, r0, r1, r2, r3, _⟩; go_simp
    refine wpAnyH_take (i := 6) (v := .agg #[.slice ax nx cx, .slice ay ny cy]) rfl (by kernel_rfl) (by kernel_rfl) (by kernel_rfl) (fun _ _ _ h => h) (Or.inl ⟨by rfl, ?_⟩) hS ?_
    · rintro X ⟨s0, s1, r0, r1, r2, r3, _⟩; go_simp
    refine wpAnyH_take (i := 7) (v := .pointer (some ⟨g, 0, none⟩)) rfl (by kernel_rfl) (by kernel_rfl) (by kernel_rfl) (fun _ _ _ h => h) (Or.inl ⟨by rfl, ?_⟩) hS ?_
    · rintro X ⟨s0, s1, r0, r1, r2, r3, _⟩; go_simp
    refine wpAnyH_take (i := 8) (v := .int .i64 x) rfl (by kernel_rfl) (by kernel_rfl) (by kernel_rfl) (fun _ _ _ h => h) (Or.inl ⟨by rfl, ?_⟩) hS ?_
    · rintro X ⟨s0, s1, r0, r1, r2, r3, _⟩; go_simp
    refine wpAnyH_take (i := 9) (v := .pointer (some ⟨g, 2, none⟩)) rfl (by kernel_rfl) (by kernel_rfl) (by kernel_rfl) (fun _ _ _ h => h) (Or.inl ⟨by rfl, ?_⟩) hS ?_
    · rintro X ⟨s0, s1, r0, r1, r2, r3, _⟩; go_simp
    refine wpAnyH_take (i := 10) (v := .int .i64 u) rfl (by kernel_rfl) (by kernel_rfl) (by kernel_rfl) (fun _ _ _ h => h) (Or.inl ⟨by rfl, ?_⟩) hS ?_
    · rintro X ⟨s0, s1, r0, r1, r2, r3, _⟩; go_simp
    refine wpAnyH_take (i := 11) (v := .int .i64 (x + u)) rfl (by kernel_rfl) (by kernel_rfl) (by kernel_rfl) (fun _ _ _ h => h) (Or.inl ⟨by rfl, ?_⟩) hS ?_
    · rintro X ⟨s0, s1, r0, r1, r2, r3, _⟩; go_simp
    refine wpAnyH_take (i := 12) (v := .pointer (some ⟨g, 1, none⟩)) rfl (by kernel_rfl) (by kernel_rfl) (by kernel_rfl) (fun _ _ _ h => h) (Or.inl ⟨by rfl, ?_⟩) hS ?_
    · rintro X ⟨s0, s1, r0, r1, r2, r3, _⟩; go_simp
    refine wpAnyH_take (i := 13) (v := .int .i64 y) rfl (by kernel_rfl) (by kernel_rfl) (by kernel_rfl) (fun _ _ _ h => h) (Or.inl ⟨by rfl, ?_⟩) hS ?_
    · rintro X ⟨s0, s1, r0, r1, r2, r3, _⟩; go_simp
    refine wpAnyH_take (i := 14) (v := .pointer (some ⟨g, 3, none⟩)) rfl (by kernel_rfl) (by kernel_rfl) (by kernel_rfl) (fun _ _ _ h => h) (Or.inl ⟨by rfl, ?_⟩) hS ?_
    · rintro X ⟨s0, s1, r0, r1, r2, r3, _⟩; go_simp
    refine wpAnyH_take (i := 15) (v := .int .i64 v) rfl (by kernel_rfl) (by kernel_rfl) (by kernel_rfl) (fun _ _ _ h => h) (Or.inl ⟨by rfl, ?_⟩) hS ?_
    · rintro X ⟨s0, s1, r0, r1, r2, r3, _⟩; go_simp
    refine wpAnyH_take (i := 16) (v := .int .i64 (y + v)) rfl (by kernel_rfl) (by kernel_rfl) (by kernel_rfl) (fun _ _ _ h => h) (Or.inl ⟨by rfl, ?_⟩) hS ?_
    · rintro X ⟨s0, s1, r0, r1, r2, r3, _⟩; go_simp
    refine wpAnyH_all (rs := [5]) (by kernel_rfl) (by simp) ?_
    intro i hi'; obtain rfl : i = 5 := by simpa using hi'
    refine wpOp_step rfl (fun K hK => ?_)
    go_simp
    refine (PL.out x y _ (IXY.out _ hS).1 (IXY.out _ hS).2).mono ?_
    rintro e w1 ⟨rfl, hb1⟩
    have hS1 := hS.later hb1
    refine hK _ _ ⟨hS1, ?_⟩
    clear hK K hi' hb1
    refine wpAnyH_all (rs := [17]) (by kernel_rfl) (by simp) ?_
    intro i hi'; obtain rfl : i = 17 := by simpa using hi'
    refine wpOp_step rfl (fun K hK => ?_)
    go_simp
    refine (PL.out (x + u) (y + v) _ (IXY.out _ hS1).1 (IXY.out _ hS1).2).mono ?_
    rintro e w2 ⟨rfl, hb2⟩
    have hS2 := hS1.later hb2
    refine hK _ _ ⟨hS2, ?_⟩
    clear hK K hi' hb2
    refine wpAnyH_take (i := 18) (v := .complex .f64 (FN (rank xs x)) (FN (rank ys y))) rfl (by kernel_rfl) (by kernel_rfl) (by kernel_rfl) (fun _ _ _ h => h) (Or.inl ⟨by rfl, ?_⟩) hS2 ?_
    · rintro X ⟨s0, s1, r0, r1, r2, r3, _⟩; go_simp
    refine wpAnyH_take (i := 19) (v := .complex .f64 (FN (rank xs (x + u))) (FN (rank ys (y + v)))) rfl (by kernel_rfl) (by kernel_rfl) (by kernel_rfl) (fun _ _ _ h => h) (Or.inl ⟨by rfl, ?_⟩) hS2 ?_
    · rintro X ⟨s0, s1, r0, r1, r2, r3, _⟩; go_simp
    refine wpAnyH_done (by kernel_rfl) ?_ _
    have hVw := hS2.2.2.2.2.2.2.out
    obtain ⟨⟨vv, b7, ho⟩, ⟨b3, b4⟩, hbw, hbs2⟩ := CI.out.later hVw (by omega)
    have KV : Hid (KeepsOthers V w2) := Lib.hid ⟨hVw.size, fun k o hk ho' => (hVw.block k (Array.getElem?_eq_some_iff.1 hk).1).trans hk⟩
    have BV := Lib.hid (hVw.mono hbVs)
    obtain ⟨va, vn, vc, rfl⟩ := own_slice ho
    have c7 : w2.cell? ⟨w.heap.size + 2, 0, none⟩ = some (.slice va vn vc) := b7.cellAt 0
    have c4 : w2.cell? ⟨w.heap.size + 1, 0, none⟩ = some (.int .i64 t) := b4.cellAt 0
    have f7 : w2.frozen? ⟨w.heap.size + 2, 0, none⟩ = false := b7.free 0
    have I1 := rX x
    have I2 := rY y
    have I3 := rX (x + u)
    have I4 := rY (y + v)
    have hcs : Hid (cornersR xs ys t ⟨x, y, u, v⟩ = [⟨fin (rank xs x), fin (rank ys y), t⟩, ⟨fin (rank xs (x + u)), fin (rank ys y), -t⟩, ⟨fin (rank xs x), fin (rank ys (y + v)), -t⟩, ⟨fin (rank xs (x + u)), fin (rank ys (y + v)), t⟩]) := Lib.hid rfl
    have F1 := Lib.hid (fin_val I1)
    have F2 := Lib.hid (fin_val I2)
    have F3 := Lib.hid (fin_val I3)
    have F4 := Lib.hid (fin_val I4)
    clear I1 I2 I3 I4 rX rY
    have hcv : Hid (encC (cornersR xs ys t ⟨x, y, u, v⟩) = [.complex .f64 (FN (rank xs x)) (FN (rank ys y)), .int .i64 t, .complex .f64 (FN (rank xs (x + u))) (FN (rank ys y)), .int .i64 (-t), .complex .f64 (FN (rank xs x)) (FN (rank ys (y + v))), .int .i64 (-t), .complex .f64 (FN (rank xs (x + u))) (FN (rank ys (y + v))), .int .i64 t]) := by
      apply Lib.hid
      rw [hcs.out]
      simp only [encC, List.flatMap_cons, List.flatMap_nil, Cor.cells, F1.out, F2.out, F3.out, F4.out]
      rfl
    generalize FN (rank xs x) = p1 at *
    generalize FN (rank ys y) = p2 at *
    generalize FN (rank xs (x + u)) = p3 at *
    generalize FN (rank ys (y + v)) = p4 at *
    have HO := Lib.hid ho
    have H7 := Lib.hid b7
    have H3 := Lib.hid b3
    have H4 := Lib.hid b4
    have neg1 : IntKind.i64.wrap (-t) = -t := by simp [IntKind.wrap, IntKind.bits, IntKind.signed]; omega
    have bw2 := hbw.size
    have HBW := Lib.hid hbw
    clear hS hS1 hS2 hVw b7 ho b3 b4 hbw F1 F2 F3 F4 hcs CI IXY sum1 sum2 PL HX HY
    gi_wp2_with (gi_at_builtin; refine wpListIn_append_own_at _ rfl _ _ 44 rfl W1.heap.size 59 i0 (.agg #[.complex .f64 0 0, .int .i64 0]) 2 24 Try.underlying44 hi hz0 hz1 hz2 rfl (by decide) (.slice va vn vc) (4 * pre.length) _ rfl (HO.out.alloc _) ⟨w2.heap.size, 0, none⟩ 4 4 [.complex .f64 p1 p2, .int .i64 t, .complex .f64 p3 p2, .int .i64 (-t), .complex .f64 p1 p4, .int .i64 (-t), .complex .f64 p3 p4, .int .i64 t] rfl rfl (list_new _ _ _) (by simp [Value.oneCell']) (by unfold maxLen; omega) (by omega) (by simp <;> omega) ?_)
    intro v' w3 hown3 hgrow3 _ hf3
    obtain ⟨pa, pn, pc, rfl⟩ := own_slice hown3
    have B3 := Lib.hid (step_below (b := w.heap.size + 2) (off := 0) (v' := .slice pa pn pc) (Below.refl w.heap.size w2) HO.out hgrow3 (by omega) (by omega) (by omega))
    have K3 := Lib.hid (step_keeps (b := w.heap.size + 2) (off := 0) (v' := .slice pa pn pc) HO.out hgrow3)
    have b7' := H7.out.app HO.out (by decide) hgrow3
    have G3 := Lib.hid ((H3.out.app HO.out (by decide) hgrow3).other ⟨w.heap.size + 2, 0, none⟩ (.slice pa pn pc) (by simp))
    have G4 := Lib.hid ((H4.out.app HO.out (by decide) hgrow3).other ⟨w.heap.size + 2, 0, none⟩ (.slice pa pn pc) (by simp))
    have G7 := Lib.hid (b7'.set 0 (.slice pa pn pc))
    have GO := Lib.hid (own_setCell (o := 0) (u := .slice pa pn pc) hown3 (whole_own b7' hown3 (by decide)))
    have z3 := hgrow3.size
    simp only [World.size_alloc] at z3
    have c7' : w3.cell? ⟨w.heap.size + 2, 0, none⟩ = some (.slice va vn vc) := b7'.cellAt 0
    have f7' : w3.frozen? ⟨w.heap.size + 2, 0, none⟩ = false := b7'.free 0
    clear c7 c4 f7 hown3 hgrow3 hf3 b7' HO H7 H3 H4 hi hz0 hz1 hz2
    gi_wp2
    refine ⟨(KV.out.trans K3.out).from _, BV.out.trans B3.out, ⟨.slice pa pn pc, G7.out, ?_⟩, ⟨G3.out, G4.out⟩, HBW.out.trans B3.out, ?_⟩
    · have h := GO.out
      rw [← hcv.out] at h
      rw [show cornersL xs ys t (vals (pre ++ [⟨⟨x, y, u, v⟩, hx⟩])) = cornersL xs ys t (vals pre) ++ cornersR xs ys t ⟨x, y, u, v⟩ by simp [cornersL, vals], encC_append,
        show 4 * (pre ++ [(⟨⟨x, y, u, v⟩, hx⟩ : RR)]).length = 4 * pre.length + 4 by simp; omega]
      exact h
    · simp <;> omega
  case done =>
    rintro D cs V hD rfl ⟨⟨v, b7, ho⟩, ⟨b3, b4⟩, hb, hbs⟩ hK
    obtain ⟨pa, pn, pc, rfl⟩ := own_slice ho
    have c7 : V.cell? ⟨w.heap.size + 2, 0, none⟩ = some (.slice pa pn pc) := b7.cellAt 0
    have CP : Hid (∀ e W', (∃ v, e = .returned v ∧ W'.ownsRow w.heap.size 59 2 v (4 * (vals cs).length) (encC (cornersL xs ys t (vals cs))) ∧ Below w.heap.size w W') → CornersPost xs ys t (vals cs) w e W') := Lib.hid fun _ _ h => h
    rw [show (vals cs).length = cs.length by simp [vals]] at CP
    have HM := Lib.hid ((Marks.nil w.heap.size V).cons (D := D) (by omega) hK (fun E hE => by cases hE))
    have HO := Lib.hid ho
    have HB := Lib.hid hb
    generalize encC (cornersL xs ys t (vals cs)) = enc at *
    clear k3 k4 k7 ks hB hI hi hz0 hz1 hz2 b7 b3 b4 ho hb hK rX rY PL HX HY
    go_wp2
    refine leaves_marks w.heap.size [D] _ HM.out (fun W' hck hbk => ⟨_, results_tmp rfl _ _ _, ?_⟩)
    refine CP.out _ _ ⟨_, rfl, ?_, HB.out.trans hbk⟩
    have h := HO.out
    refine ⟨h.1, ?_⟩
    rcases h.2 with hn | ⟨g', cap, cur, e1, hb', hgg, rest⟩
    · exact .inl hn
    · exact .inr ⟨g', cap, cur, e1, by omega, hck _ _ hgg rfl, rest⟩
  case stop =>
    rintro D c pre W _ _ h _
    exact h.elim
end Go.Proofs.Ytjdnhpbifblneaa
