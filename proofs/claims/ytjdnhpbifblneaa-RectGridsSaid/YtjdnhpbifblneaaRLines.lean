/- Contract of rect.linesOf: the places at which rectangles begin and end, sorted. -/
import Derived.Test.YtjdnhpbifblneaaRValues
import Derived.Test.YtjdnhpbifblneaaROwn
import Derived.Test.YtjdnhpbifblneaaMarks
namespace Go.Proofs.Ytjdnhpbifblneaa
open Go.RowKit Go.Shelf Go.Sort
set_option linter.unusedVariables false
attribute [local go_sem] Oper.semAt_some

theorem Try.infoI64 : (Try.prog.info? 2).map (fun i => (i.zero, i.size, i.bytes)) = some (some (.int .i64 0), 1, 8) := by kernel_rfl
/-- right rectangles -/
abbrev RR : Type := { r : R // rightB r = true }
def vals (rs : List RR) : List R := rs.map Subtype.val
def edgX (r : R) : List Int := [r.x, r.x + r.w]
def edgY (r : R) : List Int := [r.y, r.y + r.h]
def edgesX (rs : List R) : List Int := rs.flatMap edgX
def edgesY (rs : List R) : List Int := rs.flatMap edgY
def msort (zs : List Int) : List Int := zs.mergeSort fun x y => decide (x ≤ y)
def encI (zs : List Int) : List Value := zs.map (Value.int .i64)
theorem edges_len (f : R → List Int) (hf : ∀ r, (f r).length = 2) (rs : List R) : (rs.flatMap f).length = 2 * rs.length := by
  induction rs with
  | nil => rfl
  | cons a l ih => rw [List.flatMap_cons, List.length_append, hf, ih, List.length_cons]; omega
/-- what holds when the rectangles pre have been noted -/
def LinesI (B base b3 : Nat) (w : World) (pre : List RR) (W : World) : Prop :=
  (∃ vx vy, Grow2 base 2 41 b3 vx vy (2 * pre.length) (2 * pre.length) (encI (edgesX (vals pre))) (encI (edgesY (vals pre))) W) ∧ Below B w W ∧ base ≤ W.heap.size ∧ Whole W B 41 [.slice none 0 0, .slice none 0 0]
theorem LinesI.own (B base b3 : Nat) (w : World) (K : Nat) (h1 : B ≤ w.heap.size) (h2 : B ≤ K) : OwnFrom K (LinesI B base b3 w) :=
  OwnFrom.and (Own.from (fun s X Y row ⟨vx, vy, hs⟩ hg hr => ⟨vx, vy, hs.grown hg (fun r e => (hr r e))⟩) _) (OwnFrom.and (ownFrom_below h1 h2) (OwnFrom.and (fun s X Y row hs hg hr => Nat.le_trans hs hg.size) (fun s X Y row hs hg hr => Whole.grown hs hg (Whole.ne hs fun r e => (hr r e).2))))
theorem edges_snoc (f : R → List Int) (pre : List RR) (x : RR) : encI ((vals (pre ++ [x])).flatMap f) = encI ((vals pre).flatMap f) ++ encI (f x.1) := by
  simp [encI, vals]
theorem putInts_take (cur : Array Value) (ts : List Int) (h : ts.length ≤ cur.size) : (putCells (Value.int .i64) 0 ts.toArray cur).toList.take ts.length = encI ts := by
  apply List.ext_getElem?
  intro j
  by_cases hj : j < ts.length
  · rw [List.getElem?_take_of_lt hj, Array.getElem?_toList]
    simp [encI, putCells, hj, show j < cur.size by omega]
  · rw [List.getElem?_take_eq_none (by omega), List.getElem?_eq_none (by simp [encI]; omega)]
/-- slices.Sort of a slice that the call itself has made -/
theorem sort_own (base : Nat) (v : Value) (zs : List Int) (W : World) (h : W.ownsRow base 2 1 v zs.length (encI zs)) (h1 : 1 ≤ zs.length) (h2 : zs.length < 4611686018427387904) :
    Calls Try.prog 27 #[v] W fun e W' => e = .returned (.tuple #[]) ∧ W'.ownsRow base 2 1 v zs.length (encI (msort zs)) ∧ W.grownBy W' v.ownBlock := by
  obtain ⟨hl, ⟨rfl, hn⟩ | ⟨g, cap, cur, rfl, hb, hg, hnc, hcm, hcs, htk⟩⟩ := h
  · omega
  rw [Nat.mul_one] at htk hcs
  have hH : Holds (Value.int .i64) W g 0 zs.toArray := by
    intro j hj
    have hj' : j < zs.length := by simpa using hj
    refine ⟨?_, by simp [World.frozen?, hg]⟩
    have h1 : (cur.toList.take zs.length)[j]? = (encI zs)[j]? := by rw [htk]
    rw [List.getElem?_take_of_lt hj'] at h1
    simp only [World.cell?, hg, Nat.zero_add]
    simp only [Option.isSome_none, Bool.false_eq_true, if_false]
    rw [← Array.getElem?_toList, h1]
    simp [encI, hj']
  have hlt : g < W.heap.size := (Array.getElem?_eq_some_iff.1 hg).1
  refine (AnyG.slices_Sort_int Try.sortI g 0 cap zs W hH hlt h2).mono ?_
  rintro e W' ⟨he, n, os, rfl⟩
  have hm : (msort zs).length = zs.length := by simp [msort]
  refine ⟨he, ⟨by simp [encI, hm], .inr ⟨g, cap, putCells (Value.int .i64) 0 (msort zs).toArray cur, rfl, hb, ?_, hnc, hcm, by simp [putCells, hcs], ?_⟩⟩, ?_⟩
  · rw [heap_grow_old _ _ (by simpa using hlt)]
    simp [putRow, mapBlock, Sort.ahead, Array.getElem?_modify, hg, onCells, msort]
  · rw [Nat.mul_one, ← hm]; exact putInts_take cur _ (by rw [hm]; omega)
  · refine ⟨rfl, rfl, rfl, by simp, fun k hk hne => ?_⟩
    rw [heap_grow_old _ _ (by simpa using hk)]
    have : g ≠ k := fun e => hne (by simp [Value.ownBlock, e])
    simp [putRow, mapBlock, Sort.ahead, Array.getElem?_modify, this]
theorem own_ints {W : World} {base e n : Nat} {v : Value} {zs : List Int} (h : W.ownsRow base e 1 v n (encI zs)) : Ints W v zs := by
  have h' := h
  obtain ⟨hl, ⟨rfl, hn⟩ | ⟨g, cap, cur, rfl, hb, hg, hnc, hcm, hcs, htk⟩⟩ := h
  · refine ⟨?_, .inl ⟨none, 0, rfl, ?_⟩⟩
    · simp [encI] at hl; omega
    · simp [encI] at hl; exact List.length_eq_zero_iff.1 (by omega)
  · have hn : n = zs.length := by simp [encI] at hl; omega
    unfold maxLen at hcm
    refine ⟨by omega, .inr ⟨g, 0, cap, by rw [hn], fun j hj => ?_⟩⟩
    have := World.ownsRow.cellAt h' j (by omega)
    rw [Nat.zero_add, this]; simp [encI, hj]
def LinesPost (rs : List R) (w : World) (e : Ending) (W' : World) : Prop :=
  ∃ vx vy, e = .returned (.agg #[vx, vy]) ∧ Ints W' vx (msort (edgesX rs)) ∧ Ints W' vy (msort (edgesY rs)) ∧ Below w.heap.size w W'
set_option maxRecDepth 100000 in
set_option maxHeartbeats 1000000 in
theorem lines_any (sv : Value) (rs : List RR) (w : World) (hI : Rects w sv (vals rs)) (hn : rs.length ≤ 500) (hn1 : 1 ≤ rs.length) :
    Calls Try.prog 13 #[sv] w (LinesPost (vals rs) w) := by
  obtain ⟨i0, hi, hz0, hz1, hz2⟩ := info_parts Try.infoI64
  obtain ⟨a0, len0, cap0, rfl⟩ : ∃ a len cap, sv = .slice a len cap := by
    obtain ⟨_, ⟨a, cap, rfl, _⟩ | ⟨b, off, cap, rfl, _⟩⟩ := hI <;> exact ⟨_, _, _, rfl⟩
  refine (callsIn_wide (n := 3)).1 (callsIn_of_wp_marks Try.func13 rfl trivial (wpIn_wide.2 ?_) rfl)
  simp only [Try.ntmps13, List.size_toArray, List.length_cons, List.length_nil, Nat.reduceAdd, Nat.reduceSub, Array.replicate_succ, Array.replicate_zero, List.push_toArray, List.append_toArray, List.nil_append, List.cons_append]
  go_wp2_with (go_at_call 26; refine (values_any _ _ _ _).mono ?_; rintro e w' ⟨rfl, rfl⟩)
  have hB : Below w.heap.size w (((w.alloc (.cells #[.slice none 0 0, .slice none 0 0] 41)).alloc (.cells #[.slice none 0 0, .slice none 0 0] 41)).alloc (.cells #[.slice a0 len0 cap0] 24)) :=
    (((Below.refl _ w).alloc (Nat.le_refl _) _).alloc (by simp) _).alloc (by simp <;> omega) _
  have kb : Whole (((w.alloc (.cells #[.slice none 0 0, .slice none 0 0] 41)).alloc (.cells #[.slice none 0 0, .slice none 0 0] 41)).alloc (.cells #[.slice a0 len0 cap0] 24)) (w.heap.size + 1) 41 [.slice none 0 0, .slice none 0 0] :=
    (whole_new (w.alloc (.cells #[.slice none 0 0, .slice none 0 0] 41)) [.slice none 0 0, .slice none 0 0] 41 _ (by simp)).alloc _
  have kr : Whole (((w.alloc (.cells #[.slice none 0 0, .slice none 0 0] 41)).alloc (.cells #[.slice none 0 0, .slice none 0 0] 41)).alloc (.cells #[.slice a0 len0 cap0] 24)) w.heap.size 41 [.slice none 0 0, .slice none 0 0] :=
    ((whole_new w [.slice none 0 0, .slice none 0 0] 41 _ rfl).alloc _).alloc _
  have ks : Whole (((w.alloc (.cells #[.slice none 0 0, .slice none 0 0] 41)).alloc (.cells #[.slice none 0 0, .slice none 0 0] 41)).alloc (.cells #[.slice a0 len0 cap0] 24)) (w.heap.size + 1 + 1) 24 [.slice a0 len0 cap0] :=
    whole_new ((w.alloc (.cells #[.slice none 0 0, .slice none 0 0] 41)).alloc (.cells #[.slice none 0 0, .slice none 0 0] 41)) [.slice a0 len0 cap0] 24 _ (by simp)
  have hsz : (((w.alloc (.cells #[.slice none 0 0, .slice none 0 0] 41)).alloc (.cells #[.slice none 0 0, .slice none 0 0] 41)).alloc (.cells #[.slice a0 len0 cap0] 24)).heap.size = w.heap.size + 3 := by simp
  obtain ⟨W1, hW1⟩ : ∃ W1, (((w.alloc (.cells #[.slice none 0 0, .slice none 0 0] 41)).alloc (.cells #[.slice none 0 0, .slice none 0 0] 41)).alloc (.cells #[.slice a0 len0 cap0] 24)) = W1 := ⟨_, rfl⟩
  rw [hW1] at hB kb kr ks hsz ⊢
  clear hW1
  have hsz1 : w.heap.size + 3 ≤ W1.heap.size := by omega
  clear hsz
  refine (wpIn_wide (n := 3)).1 (wpIn_rangeFunc_ownH (F := Fence.wide) rfl (by omega) (gf := 38) (lb := #[.pointer (some ⟨w.heap.size + 1 + 1, 0, none⟩)]) rfl trivial (enters_of Try.func38 (by kernel_rfl) rfl)
    (values_stops Fence.wide _ trivial rfl (by omega) (w.heap.size + 1 + 1) (.slice a0 len0 cap0) Subtype.val rs W1 w (by omega) (ks.cellAt 0) hI hB) belowK_t (belowK_b (by omega)) (Below.refl _ _) (fun _ => rfl)
    (LinesI w.heap.size W1.heap.size (w.heap.size + 1) w) (fun _ _ _ => False) (LinesI.own _ _ _ _ _ (Nat.le_refl _) (by omega)) (fun _ _ _ _ _ hs _ _ => hs)
    ⟨⟨_, _, kb, World.ownsRow_nil _ _ _ _, World.ownsRow_nil _ _ _ _, .inl ⟨rfl, rfl⟩⟩, hB, Nat.le_refl _, kr⟩
    (fun x a' W' => ∃ g, a' = { tmps := #[.slice a0 len0 cap0, undef, .pointer (some ⟨w.heap.size, 0, none⟩), .pointer (some ⟨w.heap.size + 1, 0, none⟩), .pointer (some ⟨g, 0, none⟩), .slice a0 len0 cap0, .func (.func 38) #[] #[.pointer (some ⟨w.heap.size + 1 + 1, 0, none⟩)], x.1.val, undef, undef, undef, undef, undef, undef, undef, undef, undef, undef, undef, undef, undef, undef, undef, undef, undef, undef, undef, undef, undef, undef, undef, undef, undef, undef, undef, undef, undef, undef, undef], defers := [] } ∧ W1.heap.size ≤ g ∧ Whole W' g 23 x.1.cells) ?hax ?assign ?body ?done ?stop)
  case hax =>
    rintro x a' s X Y row ⟨g, he, hg, hk⟩ hgr hr
    exact ⟨g, he, hg, hk.grown hgr (hk.ne fun r e => (hr r e).2)⟩
  case assign =>
    rintro l pre ⟨⟨x, y, u, v⟩, hx⟩ V K hi' hK
    have hbase := hi'.2.2.1
    have hB' := Lib.hid hi'
    have hval : R.val ⟨x, y, u, v⟩ = .agg #[.int .i64 x, .int .i64 y, .int .i64 u, .int .i64 v] := rfl
    clear hi' kb kr ks hB hI hi hz0 hz1 hz2
    gi_wp2
    refine hK _ _ ((KeepsOthers.alloc V _).from _) ((Below.refl _ V).alloc (by omega) _) ((LinesI.own _ _ _ _ W1.heap.size (Nat.le_refl _) (by omega)).alloc _ hB'.out) ⟨V.heap.size, by simp [hval], hbase, ?_⟩
    exact whole_new V [.int .i64 x, .int .i64 y, .int .i64 u, .int .i64 v] 23 _ rfl
  case body =>
    rintro l pre ⟨⟨x, y, u, v⟩, hx⟩ a' V hl hlr ⟨⟨vx, vy, G⟩, hb, hbs, kr'⟩ ⟨g, rfl, hg, hk⟩ hlen
    have hR := (rightB_iff _).1 hx
    dsimp only at hR
    obtain ⟨⟨x1, x2⟩, ⟨y1, y2⟩, ⟨u1, u2⟩, v1, v2⟩ := hR
    have hval : R.val ⟨x, y, u, v⟩ = .agg #[.int .i64 x, .int .i64 y, .int .i64 u, .int .i64 v] := rfl
    replace hk : Whole V g 23 [.int .i64 x, .int .i64 y, .int .i64 u, .int .i64 v] := hk
    have r0 : V.cell? ⟨g, 0, none⟩ = some (.int .i64 x) := hk.cellAt 0
    have r1 : V.cell? ⟨g, 1, none⟩ = some (.int .i64 y) := hk.cellAt 1
    have r2 : V.cell? ⟨g, 2, none⟩ = some (.int .i64 u) := hk.cellAt 2
    have r3 : V.cell? ⟨g, 3, none⟩ = some (.int .i64 v) := hk.cellAt 3
    have c0 : V.cell? ⟨w.heap.size + 1, 0, none⟩ = some vx := G.box.cellAt 0
    have tok1 : True := trivial
    clear kb kr ks hB hI hlr
    have hne : g ≠ w.heap.size + 1 := by omega
    have hne' : w.heap.size + 1 ≠ g := by omega
    gi_wp2_with (gi_at_builtin; refine wpListIn_append_own_at _ rfl _ _ 31 rfl W1.heap.size 2 i0 (.int .i64 0) 1 8 Try.underlying31 hi hz0 hz1 hz2 rfl (by decide) vx (2 * pre.length) _ rfl (G.ox.alloc _) ⟨V.heap.size, 0, none⟩ 2 2 [.int .i64 x, .int .i64 (x + u)] rfl rfl (two_new _ _ _ _) (by simp [Value.oneCell']) (by unfold maxLen; omega) (by omega) (by simp <;> omega) ?_)
    intro v' w1 hown1 hgrow1 _ hf1
    obtain ⟨pa, pn, pc, rfl⟩ := own_slice hown1
    have G1 := G.stepX (by decide) hown1 hgrow1 hf1
    have kb1 : Whole w1 (w.heap.size + 1) 41 [vx, vy] := G.box.app G.ox (by decide) hgrow1
    have hk1 : Whole w1 g 23 [.int .i64 x, .int .i64 y, .int .i64 u, .int .i64 v] := hk.app G.ox (by decide) hgrow1
    have B1 := Lib.hid (step_below (b := w.heap.size + 1) (off := 0) (v' := .slice pa pn pc) (Below.refl w.heap.size V) G.ox hgrow1 (by omega) (by omega) (by omega))
    have K1 := Lib.hid (step_keeps (b := w.heap.size + 1) (off := 0) (v' := .slice pa pn pc) G.ox hgrow1)
    have z1 := hgrow1.size
    simp only [World.size_alloc] at z1
    have d0 : w1.cell? ⟨w.heap.size + 1, 0, none⟩ = some vx := kb1.cellAt 0
    have d1 : w1.cell? ⟨w.heap.size + 1, 1, none⟩ = some vy := kb1.cellAt 1
    have e0 : w1.frozen? ⟨w.heap.size + 1, 0, none⟩ = false := kb1.free 0
    have s1 : w1.cell? ⟨g, 1, none⟩ = some (.int .i64 y) := hk1.cellAt 1
    have s3 : w1.cell? ⟨g, 3, none⟩ = some (.int .i64 v) := hk1.cellAt 3
    have kr1 := Lib.hid ((kr'.app G.ox (by decide) hgrow1).other ⟨w.heap.size + 1, 0, none⟩ (.slice pa pn pc) (by simp))
    have HG1 := Lib.hid G1
    clear kr' r0 r1 r2 r3 c0 hk hk1 kb1 hown1 hgrow1 hf1 G1 G tok1
    gi_wp2_with (gi_at_builtin; refine wpListIn_append_own_at _ rfl _ _ 31 rfl W1.heap.size 2 i0 (.int .i64 0) 1 8 Try.underlying31 hi hz0 hz1 hz2 rfl (by decide) vy (2 * pre.length) _ rfl (HG1.out.oy.alloc _) ⟨w1.heap.size, 0, none⟩ 2 2 [.int .i64 y, .int .i64 (y + v)] rfl rfl ?c1 (by simp [Value.oneCell']) (by unfold maxLen; omega) (by omega) (by simp <;> omega) ?_)
    case c1 =>
      have := two_new (w1.setCell ⟨w.heap.size + 1, 0, none⟩ (.slice pa pn pc)) (.int .i64 y) (.int .i64 (y + v)) 2
      simpa using this
    intro v' w2 hown2 hgrow2 _ hf2
    obtain ⟨pa', pn', pc', rfl⟩ := own_slice hown2
    have G1 := HG1.out
    have G2 := G1.stepY (by decide) hown2 hgrow2 (by simpa using hf2)
    have kb2 : Whole w2 (w.heap.size + 1) 41 [.slice pa pn pc, vy] := G1.box.app G1.oy (by decide) hgrow2
    have B2 := Lib.hid (step_below (b := w.heap.size + 1) (off := 1) (v' := .slice pa' pn' pc') B1.out G1.oy hgrow2 (by omega) (by omega) (by simp <;> omega))
    have K2 := Lib.hid (K1.out.trans (step_keeps (b := w.heap.size + 1) (off := 1) (v' := .slice pa' pn' pc') G1.oy hgrow2))
    have z2 := hgrow2.size
    simp only [World.size_alloc, World.size_setCell] at z2
    have d0' : w2.cell? ⟨w.heap.size + 1, 1, none⟩ = some vy := kb2.cellAt 1
    have e0' : w2.frozen? ⟨w.heap.size + 1, 1, none⟩ = false := kb2.free 1
    have kr2 := Lib.hid ((kr1.out.app G1.oy (by decide) hgrow2).other ⟨w.heap.size + 1, 1, none⟩ (.slice pa' pn' pc') (by simp))
    have HG2 := Lib.hid G2
    clear kr1 d0 d1 e0 s1 s3 kb2 hown2 hgrow2 hf2 G1 G2 HG1 B1 K1
    gi_wp2
    refine ⟨K2.out.from _, B2.out, ⟨.slice pa pn pc, .slice pa' pn' pc', ?_⟩, hb.trans B2.out, ?_, kr2.out⟩
    · have h := HG2.out
      rw [show edgesX (vals (pre ++ [⟨⟨x, y, u, v⟩, hx⟩])) = (vals (pre ++ [⟨⟨x, y, u, v⟩, hx⟩])).flatMap edgX from rfl, show edgesY (vals (pre ++ [⟨⟨x, y, u, v⟩, hx⟩])) = (vals (pre ++ [⟨⟨x, y, u, v⟩, hx⟩])).flatMap edgY from rfl, edges_snoc, edges_snoc,
        show 2 * (pre ++ [(⟨⟨x, y, u, v⟩, hx⟩ : RR)]).length = 2 * pre.length + 2 by simp; omega]
      exact h
    · simp <;> omega
  case done =>
    rintro D ys V hD rfl ⟨⟨vx, vy, G⟩, hb, hbs, hres⟩ hK
    have eX : (edgesX (vals ys)).length = 2 * ys.length := by rw [edgesX, edges_len edgX (fun _ => rfl)]; simp [vals]
    have eY : (edgesY (vals ys)).length = 2 * ys.length := by rw [edgesY, edges_len edgY (fun _ => rfl)]; simp [vals]
    have LP : Hid (∀ e W', (∃ vx vy, e = .returned (.agg #[vx, vy]) ∧ Ints W' vx (msort (edgesX (vals ys))) ∧ Ints W' vy (msort (edgesY (vals ys))) ∧ Below w.heap.size w W') → LinesPost (vals ys) w e W') := Lib.hid fun _ _ h => h
    generalize edgesX (vals ys) = zx at *
    generalize edgesY (vals ys) = zy at *
    have ox : V.ownsRow W1.heap.size 2 1 vx zx.length (encI zx) := by rw [eX]; exact G.ox
    have oy : V.ownsRow W1.heap.size 2 1 vy zy.length (encI zy) := by rw [eY]; exact G.oy
    obtain ⟨pa, pn, pc, rfl⟩ := own_slice ox
    obtain ⟨pa', pn', pc', rfl⟩ := own_slice oy
    have lx1 : 1 ≤ zx.length := by omega
    have lx2 : zx.length < 4611686018427387904 := by omega
    have ly1 : 1 ≤ zy.length := by omega
    have ly2 : zy.length < 4611686018427387904 := by omega
    have bV := hb.size
    clear eX eY
    have two := Lib.hid G.two
    have box := Lib.hid G.box
    have c0 : V.cell? ⟨w.heap.size + 1, 0, none⟩ = some (.slice pa pn pc) := G.box.cellAt 0
    have OX := Lib.hid ox
    have OY := Lib.hid oy
    have HB := Lib.hid hb
    have HK := Lib.hid hK
    have HR := Lib.hid hres
    clear G hb hK kb kr ks hB hI hi hz0 hz1 hz2 ox oy hres
    go_wp2_with fail
    refine (sort_own _ (.slice pa pn pc) zx V OX.out lx1 lx2).mono ?_
    rintro e w1 ⟨rfl, ox1, hg1⟩
    have OX1 := Lib.hid ox1
    have OY1 := Lib.hid (OY.out.kept hg1 two.out.kept)
    have box1 := Lib.hid (box.out.grown hg1 (whole_own box.out OX.out (by decide)))
    have HR1 := Lib.hid (HR.out.grown hg1 (whole_own HR.out OX.out (by decide)))
    have HB1 := Lib.hid (own_below HB.out OX.out (by omega) hg1 (by omega))
    have HK1 : Hid (w1.heap[D]? = some (.deferred (some []))) := by
      apply Lib.hid
      have hD' : D < V.heap.size := (Array.getElem?_eq_some_iff.1 HK.out).1
      rw [hg1.block D hD' fun e => ?_]; exact HK.out
      obtain ⟨cur, hc⟩ := own_block_cells OX.out e.symm
      rw [HK.out] at hc; cases hc
    have bw1 := HB1.out.size
    have c1 : w1.cell? ⟨w.heap.size + 1, 1, none⟩ = some (.slice pa' pn' pc') := box1.out.cellAt 1
    clear ox1 hg1 c0 OX OY box HR HB HK
    go_wp2_with fail
    refine (sort_own _ (.slice pa' pn' pc') zy w1 OY1.out ly1 ly2).mono ?_
    rintro e w2 ⟨rfl, oy2, hg2⟩
    have OX2 := Lib.hid (OX1.out.kept hg2 two.out.symm.kept)
    have OY2 := Lib.hid oy2
    have box2 := Lib.hid (box1.out.grown hg2 (whole_own box1.out OY1.out (by decide)))
    have HR2 := Lib.hid (HR1.out.grown hg2 (whole_own HR1.out OY1.out (by decide)))
    have HB2 := Lib.hid (own_below HB1.out OY1.out (by omega) hg2 (by omega))
    have HK2 : Hid (w2.heap[D]? = some (.deferred (some []))) := by
      apply Lib.hid
      have hD' : D < w1.heap.size := (Array.getElem?_eq_some_iff.1 HK1.out).1
      rw [hg2.block D hD' fun e => ?_]; exact HK1.out
      obtain ⟨cur, hc⟩ := own_block_cells OY1.out e.symm
      rw [HK1.out] at hc; cases hc
    have bw2 := HB2.out.size
    have d0 : w2.cell? ⟨w.heap.size + 1, 0, none⟩ = some (.slice pa pn pc) := box2.out.cellAt 0
    have d1 : w2.cell? ⟨w.heap.size + 1, 1, none⟩ = some (.slice pa' pn' pc') := box2.out.cellAt 1
    have r0 : w2.cell? ⟨w.heap.size, 0, none⟩ = some (.slice none 0 0) := HR2.out.cellAt 0
    have r1 : w2.cell? ⟨w.heap.size, 1, none⟩ = some (.slice none 0 0) := HR2.out.cellAt 1
    have f0 := HR2.out.free
    clear oy2 hg2 c1 OX1 OY1 box1 HR1 HB1 HK1
    go_wp2
    have hDne : D ≠ w.heap.size := fun e => by
      have h1 := HR2.out
      have h2 := HK2.out
      rw [e] at h2; rw [show w2.heap[w.heap.size]? = _ from h1] at h2; cases h2
    clear d0 d1 r0 r1 f0
    have nX := whole_own HR2.out OX2.out (by decide)
    have nY := whole_own HR2.out OY2.out (by decide)
    have HR3 := Lib.hid ((HR2.out.set 0 (.slice pa pn pc)).set 1 (.slice pa' pn' pc'))
    have OX3 := Lib.hid (own_setCell (o := 1) (u := .slice pa' pn' pc') (own_setCell (o := 0) (u := .slice pa pn pc) OX2.out nX) nX)
    have OY3 := Lib.hid (own_setCell (o := 1) (u := .slice pa' pn' pc') (own_setCell (o := 0) (u := .slice pa pn pc) OY2.out nY) nY)
    have HB3 := Lib.hid ((HB2.out.setCell (p := ⟨w.heap.size, 0, none⟩) (Nat.le_refl _) (.slice pa pn pc)).setCell (p := ⟨w.heap.size, 1, none⟩) (Nat.le_refl _) (.slice pa' pn' pc'))
    have HK3 : Hid (((w2.setCell ⟨w.heap.size, 0, none⟩ (.slice pa pn pc)).setCell ⟨w.heap.size, 1, none⟩ (.slice pa' pn' pc')).heap[D]? = some (.deferred (some []))) := by
      apply Lib.hid
      rw [Below.heap_setCell _ _ _ D hDne, Below.heap_setCell _ _ _ D hDne]; exact HK2.out
    clear HK2 nX nY OX2 OY2 HR2 HB2 box2
    generalize (w2.setCell ⟨w.heap.size, 0, none⟩ (.slice pa pn pc)).setCell ⟨w.heap.size, 1, none⟩ (.slice pa' pn' pc') = w3 at *
    refine leaves_marks w.heap.size [D] _ ((Marks.nil w.heap.size w3).cons (D := D) (by omega) HK3.out (fun E hE => by cases hE)) (fun W' hck hbk => ?_)
    have hR : Whole W' w.heap.size 41 [.slice pa pn pc, .slice pa' pn' pc'] := hck _ _ HR3.out rfl
    have q0 : W'.cell? ⟨w.heap.size, 0, none⟩ = some (.slice pa pn pc) := hR.cellAt 0
    have q1 : W'.cell? ⟨w.heap.size, 1, none⟩ = some (.slice pa' pn' pc') := hR.cellAt 1
    have ownW : ∀ {v : Value} {n : Nat} {xs : List Value}, w3.ownsRow W1.heap.size 2 1 v n xs → W'.ownsRow W1.heap.size 2 1 v n xs := by
      intro v n xs h
      refine ⟨h.1, ?_⟩
      rcases h.2 with hn | ⟨g', cap, cur, rfl, hb', hgg, rest⟩
      · exact .inl hn
      · exact .inr ⟨g', cap, cur, rfl, hb', hck _ _ hgg rfl, rest⟩
    refine ⟨.agg #[.slice pa pn pc, .slice pa' pn' pc'], ?_, LP.out _ _ ⟨_, _, rfl, own_ints (ownW OX3.out), own_ints (ownW OY3.out), HB3.out.trans hbk⟩⟩
    clear OX3 OY3 HB3 HK3 HR3 hR hck hbk ownW LP
    simp [results, Try.results13, go_sem, q0, q1]
  case stop =>
    rintro D c pre W _ _ h _
    exact h.elim
end Go.Proofs.Ytjdnhpbifblneaa
