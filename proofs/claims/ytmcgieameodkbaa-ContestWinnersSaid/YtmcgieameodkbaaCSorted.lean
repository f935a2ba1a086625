/- Sides collected from an iterator, and sorted: contracts of slices.AppendSeq, Collect, SortedFunc, and of contest.Sorted. -/
import Derived.Test.YtmcgieameodkbaaCVal
import Derived.Test.YtmcgieameodkbaaCSort
import Derived.Test.YtmcgieameodkbaaROwn
namespace Go.Proofs.Ytmcgieameodkbaa
open Go.RowKit Go.Shelf Go.Sort Go.Lib
set_option linter.unusedVariables false
set_option linter.unusedSimpArgs false
attribute [local go_sem] Oper.semAt_some

theorem Try.infoSide3 : (Try.prog.info? 26).map (fun i => (i.zero, i.size, i.bytes)) = some (some (.agg #[.int .i64 0, .int .i64 0, .int .u32 0, .int .i64 0, .int .i64 0, .int .i64 0]), 6, 48) := by kernel_rfl
theorem info_threeC {t : Nat} {z : Option Value} {s b : Nat} (h : (Try.prog.info? t).map (fun i => (i.zero, i.size, i.bytes)) = some (z, s, b)) : ∃ i, Try.prog.info? t = some i ∧ i.zero = z ∧ i.size = s ∧ i.bytes = b := by
  cases hi : Try.prog.info? t with
  | none => rw [hi] at h; cases h
  | some i =>
    rw [hi] at h
    simp only [Option.map_some, Option.some.injEq, Prod.mk.injEq] at h
    exact ⟨i, rfl, h.1, h.2.1, h.2.2⟩
theorem lay_newC (w : World) (xs : List Value) (t g : Nat) (hg : g = w.heap.size) : ∀ j u, xs[j]? = some u → (w.alloc (.cells xs.toArray t)).cell? ((⟨g, 0, none⟩ : Addr).add j) = some u := by
  intro j u hj
  have h := (whole_new w xs t g hg).cellAt j
  rw [add_plainC, Nat.zero_add]
  exact h.trans hj
/-- what holds when the sides pre have been collected -/
def ApI (B base : Nat) (w : World) (pre : List Si) (W : World) : Prop :=
  (∃ v, Whole W B 33 [v] ∧ W.ownsRow base 26 6 v pre.length (pre.flatMap Si.cells)) ∧ Below B w W ∧ base ≤ W.heap.size
theorem ApI.own (B base : Nat) (w : World) (K : Nat) (h1 : B ≤ w.heap.size) (h2 : B ≤ K) : OwnFrom K (ApI B base w) :=
  OwnFrom.and (fun s X Y row ⟨v, hb, ho⟩ hg hr => ⟨v, hb.grown hg (hb.ne fun r e => (hr r e).2), own_grown ho hg fun r e => (hr r e).2⟩) (OwnFrom.and (ownFrom_below h1 h2) (fun s X Y row hs hg hr => Nat.le_trans hs hg.size))
theorem flat_snoc (pre : List Si) (x : Si) : (pre ++ [x]).flatMap Si.cells = pre.flatMap Si.cells ++ x.cells := by simp
set_option maxRecDepth 100000 in
set_option maxHeartbeats 4000000 in
theorem append_any (Bs : Nat) (sv : Value) (zs : List Si) (w : World) (hBs : w.cell? ⟨Bs, 0, none⟩ = some sv) (hI : Sides w sv zs) (hn : zs.length ≤ 1000000) :
    Calls Try.prog 49 #[.slice none 0 0, .func (.func 42) #[] #[.pointer (some ⟨Bs, 0, none⟩)]] w
      fun e W' => ∃ v, e = .returned v ∧ W'.ownsRow w.heap.size 26 6 v zs.length (zs.flatMap Si.cells) ∧ Below w.heap.size w W' := by
  obtain ⟨i0, hi, hz0, hz1, hz2⟩ := info_threeC Try.infoSide3
  have hBl := cell_lt hBs
  refine (callsIn_wide (n := 3)).1 (callsIn_of_wp_marks Try.func49 rfl trivial (wpIn_wide.2 ?_) rfl)
  simp only [Try.ntmps49, List.size_toArray, List.length_cons, List.length_nil, Nat.reduceAdd, Nat.reduceSub, Array.replicate_succ, Array.replicate_zero, List.push_toArray, List.append_toArray, List.nil_append, List.cons_append]
  go_wp2
  have hB : Below w.heap.size w (w.alloc (.cells #[.slice none 0 0] 33)) := (Below.refl _ w).alloc (Nat.le_refl _) _
  have kb := whole_new w [.slice none 0 0] 33 w.heap.size rfl
  have hsz : (w.alloc (.cells #[.slice none 0 0] 33)).heap.size = w.heap.size + 1 := by simp
  have hc1 : (w.alloc (.cells #[.slice none 0 0] 33)).cell? ⟨Bs, 0, none⟩ = some sv := (hB.cell (p := ⟨Bs, 0, none⟩) hBl).trans hBs
  obtain ⟨W1, hW1⟩ : ∃ W1, w.alloc (.cells #[.slice none 0 0] 33) = W1 := ⟨_, rfl⟩
  replace kb : Whole W1 w.heap.size 33 [.slice none 0 0] := by rw [← hW1]; exact kb
  rw [hW1] at hB hsz hc1 ⊢
  clear hW1
  have hsz1 : w.heap.size + 1 ≤ W1.heap.size := by omega
  clear hsz
  refine (wpIn_wide (n := 3)).1 (wpIn_rangeFunc_ownH (F := Fence.wide) rfl (by omega) (gf := 42) (lb := #[.pointer (some ⟨Bs, 0, none⟩)]) rfl trivial (enters_of Try.func42 (by kernel_rfl) rfl)
    (valuesC_stops Fence.wide _ trivial rfl (by omega) Bs sv id zs W1 w (by omega) hc1 (by simpa using hI) hB) belowK_t (belowK_b (by omega)) (Below.refl _ _) (fun _ => rfl)
    (ApI w.heap.size W1.heap.size w) (fun _ _ _ => False) (ApI.own _ _ _ _ (Nat.le_refl _) (by omega)) (fun _ _ _ _ _ hs _ _ => hs)
    ⟨⟨_, kb, World.ownsRow_nil _ _ _ _⟩, hB, Nat.le_refl _⟩
    (fun x a' W' => ∃ g, a' = { tmps := #[.slice none 0 0, .func (.func 42) #[] #[.pointer (some ⟨Bs, 0, none⟩)], .pointer (some ⟨w.heap.size, 0, none⟩), undef, .slice none 0 0, .pointer (some ⟨g, 0, none⟩), .func (.func 42) #[] #[.pointer (some ⟨Bs, 0, none⟩)], x.val, undef, undef, undef, undef, undef], defers := [] } ∧ W1.heap.size ≤ g ∧ Whole W' g 26 x.cells) ?hax ?assign ?body ?done ?stop)
  case hax =>
    rintro x a' s X Y row ⟨g, he, hg, hk⟩ hgr hr
    exact ⟨g, he, hg, hk.grown hgr (hk.ne fun r e => (hr r e).2)⟩
  case assign =>
    rintro l pre ⟨st, wd, co, bb, ro, cl⟩ V K hi' hK
    have hbase := hi'.2.2
    have hB' := Lib.hid hi'
    clear hi' kb hB hI hi hz0 hz1 hz2 hc1 hBs
    dsimp only [id, Si.val]
    gi_wp2
    refine hK _ _ ((KeepsOthers.alloc V _).from _) ((Below.refl _ V).alloc (by omega) _) ((ApI.own _ _ _ W1.heap.size (Nat.le_refl _) (by omega)).alloc _ hB'.out) ⟨V.heap.size, rfl, hbase, ?_⟩
    exact whole_new V (Si.cells ⟨st, wd, co, bb, ro, cl⟩) 26 _ rfl
  case body =>
    rintro l pre ⟨st, wd, co, bb, ro, cl⟩ a' V hl hlr ⟨⟨v, hbx, ho⟩, hb, hbs⟩ ⟨g, rfl, hg, hk⟩ hlen
    have c0 : V.cell? ⟨w.heap.size, 0, none⟩ = some v := hbx.cellAt 0
    have r0 : V.cell? ⟨g, 0, none⟩ = some (.int .i64 st) := hk.cellAt 0
    have r1 : V.cell? ⟨g, 1, none⟩ = some (.int .i64 wd) := hk.cellAt 1
    have r2 : V.cell? ⟨g, 2, none⟩ = some (.int .u32 co) := hk.cellAt 2
    have r3 : V.cell? ⟨g, 3, none⟩ = some (.int .i64 bb) := hk.cellAt 3
    have r4 : V.cell? ⟨g, 4, none⟩ = some (.int .i64 ro) := hk.cellAt 4
    have r5 : V.cell? ⟨g, 5, none⟩ = some (.int .i64 cl) := hk.cellAt 5
    clear kb hB hI hlr hc1 hBs
    dsimp only [Si.val]
    gi_wp2_with (gi_at_builtin; refine wpListIn_append_own_at _ rfl _ _ 33 rfl W1.heap.size 26 i0 (.agg #[.int .i64 0, .int .i64 0, .int .u32 0, .int .i64 0, .int .i64 0, .int .i64 0]) 6 48 Try.underlying33 hi hz0 hz1 hz2 rfl (by decide) v pre.length _ rfl (ho.alloc _) ⟨V.heap.size, 0, none⟩ 1 1 [.int .i64 st, .int .i64 wd, .int .u32 co, .int .i64 bb, .int .i64 ro, .int .i64 cl] rfl rfl (lay_newC _ _ _ _ rfl) (by simp [Value.oneCell']) (by unfold maxLen; omega) (by omega) (by simp <;> omega) ?_)
    intro v' w1 hown1 hgrow1 _ hf1
    obtain ⟨pa, pn, pc, rfl⟩ := own_slice hown1
    have kb1 : Whole w1 w.heap.size 33 [v] := hbx.app ho (by decide) hgrow1
    have B1 := Lib.hid (step_below (b := w.heap.size) (off := 0) (v' := .slice pa pn pc) (Below.refl w.heap.size V) ho hgrow1 (by omega) (by omega) (by omega))
    have K1 := Lib.hid (step_keeps (b := w.heap.size) (off := 0) (v' := .slice pa pn pc) ho hgrow1)
    have z1 := hgrow1.size
    simp only [World.size_alloc] at z1
    have d0 : w1.cell? ⟨w.heap.size, 0, none⟩ = some v := kb1.cellAt 0
    have e0 : w1.frozen? ⟨w.heap.size, 0, none⟩ = false := kb1.free 0
    have ll := kb1.lt
    have HO := Lib.hid hown1
    have KB := Lib.hid kb1
    clear r0 r1 r2 r3 r4 r5 c0 hk hown1 hgrow1 hf1 kb1
    gi_wp2
    have hne := whole_own KB.out HO.out (by decide)
    refine ⟨K1.out.from _, B1.out, ⟨.slice pa pn pc, KB.out.set 0 _, ?_⟩, hb.trans B1.out, ?_⟩
    · have h := own_setCell (o := 0) (u := .slice pa pn pc) HO.out hne
      rw [flat_snoc, List.length_append]
      exact h
    · simp <;> omega
  case done =>
    rintro D ys V hD rfl ⟨⟨v, hbx, ho⟩, hb, hbs⟩ hK
    have c0 : V.cell? ⟨w.heap.size, 0, none⟩ = some v := hbx.cellAt 0
    have l0 := hbx.lt
    have HO := Lib.hid ho
    have HB := Lib.hid hb
    have HK := Lib.hid hK
    clear ho hb hK kb hB hI hi hz0 hz1 hz2 hc1 hBs hbx
    go_wp2
    refine leaves_marks w.heap.size [D] _ ((Marks.nil w.heap.size V).cons (D := D) (by omega) HK.out (fun E hE => by cases hE)) (fun W' hck hbk => ⟨v, by simp [results, Try.results49, go_sem], v, rfl, ?_, HB.out.trans hbk⟩)
    refine ⟨HO.out.1, ?_⟩
    rcases HO.out.2 with hn' | ⟨g', cap, cur, rfl, hb', hgg, rest⟩
    · exact .inl hn'
    · exact .inr ⟨g', cap, cur, rfl, by omega, hck _ _ hgg rfl, rest⟩
  case stop =>
    rintro D c pre W _ _ h _
    exact h.elim
theorem collect_any (Bs : Nat) (sv : Value) (zs : List Si) (w : World) (hBs : w.cell? ⟨Bs, 0, none⟩ = some sv) (hI : Sides w sv zs) (hn : zs.length ≤ 1000000) :
    Calls Try.prog 40 #[.func (.func 42) #[] #[.pointer (some ⟨Bs, 0, none⟩)]] w
      fun e W' => ∃ v, e = .returned v ∧ W'.ownsRow w.heap.size 26 6 v zs.length (zs.flatMap Si.cells) ∧ Below w.heap.size w W' := by
  have HA := Lib.hid (append_any Bs sv zs w hBs hI hn)
  clear hBs hI
  go_enter Try.func40, Try.ntmps40
  go_wp2_with fail
  refine HA.out.mono ?_
  rintro e W' ⟨v, rfl, ho, hb⟩
  have HO := Lib.hid ho
  have HB := Lib.hid hb
  clear ho hb
  go_wp2
  go_ret
  exact ⟨v, rfl, HO.out, HB.out⟩
/-- right sides, each with its proof -/
def fitL : (zs : List Si) → (∀ s ∈ zs, Fit s) → List FS
  | [], _ => []
  | s :: r, h => @Subtype.mk Si Fit s (h s List.mem_cons_self) :: fitL r (fun x hx => h x (List.mem_cons_of_mem _ hx))
theorem fitL_vals (zs : List Si) (h : ∀ s ∈ zs, Fit s) : (fitL zs h).map Subtype.val = zs := by
  induction zs with
  | nil => rfl
  | cons s r ih => simp only [fitL, List.map_cons]; rw [ih]
theorem fitL_len (zs : List Si) (h : ∀ s ∈ zs, Fit s) : (fitL zs h).length = zs.length := by
  have := congrArg List.length (fitL_vals zs h); simpa using this
theorem encF_vals (l : List FS) : encF l = (l.map Subtype.val).flatMap Si.cells := by
  unfold encF
  induction l with
  | nil => rfl
  | cons a l ih => rw [List.flatMap_cons, List.map_cons, List.flatMap_cons, ih]; rfl
/-- sides in their order -/
def InOrder (ds : List Si) : Prop := ds.Pairwise fun a b => ¬ cmpS b a < 0
/-- what is sorted: all of them, in their order -/
def IsSort (zs ds : List Si) : Prop := ds.Perm zs ∧ InOrder ds
theorem IsSort.one {zs zs' ds ds' : List Si} (h : IsSort zs ds) (h' : IsSort zs' ds') (hp : zs.Perm zs') : ds = ds' :=
  List.Perm.eq_of_pairwise (le := fun a b => ¬ cmpS b a < 0) (fun a b _ _ h1 h2 => cmpS_anti h2 h1) h.2 h'.2 (h.1.trans (hp.trans h'.1.symm))
theorem own_sidesC {W : World} {base : Nat} {v : Value} {zs : List Si} (h : W.ownsRow base 26 6 v zs.length (zs.flatMap Si.cells)) (hl : zs.length ≤ 9223372036854775807) : Sides W v zs := by
  refine ⟨hl, ?_⟩
  rcases h.2 with ⟨rfl, hn⟩ | ⟨g, cap, cur, rfl, hb, hgg, hnc, hcm, hcs, htk⟩
  · exact .inl ⟨none, 0, by rw [], List.length_eq_zero_iff.1 hn⟩
  · refine .inr ⟨g, 0, cap, rfl, (Array.getElem?_eq_some_iff.1 hgg).1, fun j hj i v hv => ?_⟩
    have hi : i < 6 := by have := (List.getElem?_eq_some_iff.1 hv).1; simpa [Si.cells] using this
    have h1 := flat_get zs j i hi hj
    rw [hv] at h1
    rw [← htk, List.getElem?_take_of_lt (by omega)] at h1
    rw [show 0 + j * 6 + i = j * 6 + i by omega]
    simp only [World.cell?, hgg]
    simp only [Option.isSome_none, Bool.false_eq_true, if_false]
    rw [← Array.getElem?_toList]; exact h1
set_option maxHeartbeats 1000000 in
theorem sorted_own (base : Nat) (v : Value) (zs : List Si) (W : World) (h : W.ownsRow base 26 6 v zs.length (zs.flatMap Si.cells)) (hf : ∀ s ∈ zs, Fit s) (hn : zs.length ≤ 1000000) :
    Calls Try.prog 41 #[v, .func (.func 26) #[] #[]] W fun e W' => e = .returned (.tuple #[]) ∧ ∃ ds, IsSort zs ds ∧ W'.ownsRow base 26 6 v zs.length (ds.flatMap Si.cells) ∧ Below base W W' := by
  rcases h with ⟨hl, ⟨rfl, hn0⟩ | ⟨g, cap, cur, rfl, hb, hgg, hnc, hcm, hcs, htk⟩⟩
  · have e : zs = [] := List.length_eq_zero_iff.1 hn0
    subst e
    have h := AnyF.slices_SortFunc_none Try.sortS none 0 (.func (.func 26) #[] #[]) W
    refine (show Calls Try.prog 41 _ _ _ from h).mono ?_
    rintro e W' ⟨he, rfl⟩
    exact ⟨he, [], ⟨List.Perm.refl _, List.Pairwise.nil⟩, World.ownsRow_nil _ _ _ _, Below.refl _ _⟩
  · have hlen := fitL_len zs hf
    have henc : encF (fitL zs hf) = zs.flatMap Si.cells := by rw [encF_vals, fitL_vals]
    have h := sortF_own base g cap (fitL zs hf) cur W hb hgg (by rw [hlen]; exact hnc) hcm hcs (by rw [hlen, henc]; exact htk) (by omega)
    rw [hlen] at h
    refine h.mono ?_
    rintro e W' ⟨he, ds, hp, hso, ⟨cur', hg', htk'⟩, hgr⟩
    have hpl := hp.length_eq
    have hcs' : cur'.size = cap * 6 := by
      have hk := hgr.size
      exact hg'.2
    refine ⟨he, ds.map Subtype.val, ⟨?_, ?_⟩, ⟨?_, .inr ⟨g, cap, cur', rfl, hb, hg'.1, hnc, hcm, hcs', ?_⟩⟩, ?_⟩
    · have := hp.map Subtype.val
      rwa [fitL_vals] at this
    · unfold InOrder
      rw [List.pairwise_map]
      rw [List.pairwise_iff_getElem]
      intro i j hi hj hij
      exact hso i j _ _ hij (List.getElem?_eq_getElem hi) (List.getElem?_eq_getElem hj)
    · rw [← encF_vals, encF_len, hpl, hlen]
    · rw [htk', encF_vals]
    · exact (Below.refl base W).grown hgr (by have := (Array.getElem?_eq_some_iff.1 hgg).1; omega) (fun k e => by cases e; exact hb)
set_option maxHeartbeats 1000000 in
theorem sortedFunc_any (Bs : Nat) (sv : Value) (zs : List Si) (w : World) (hBs : w.cell? ⟨Bs, 0, none⟩ = some sv) (hI : Sides w sv zs) (hf : ∀ s ∈ zs, Fit s) (hn : zs.length ≤ 1000000) :
    Calls Try.prog 30 #[.func (.func 42) #[] #[.pointer (some ⟨Bs, 0, none⟩)], .func (.func 26) #[] #[]] w
      fun e W' => ∃ v ds, e = .returned v ∧ IsSort zs ds ∧ W'.ownsRow w.heap.size 26 6 v zs.length (ds.flatMap Si.cells) ∧ Below w.heap.size w W' := by
  have HA := Lib.hid (collect_any Bs sv zs w hBs hI hn)
  have HS := Lib.hid (fun v X h => sorted_own w.heap.size v zs X h hf hn)
  clear hBs hI hf
  go_enter Try.func30, Try.ntmps30
  go_wp2_with fail
  refine HA.out.mono ?_
  rintro e w1 ⟨v, rfl, ho, hb⟩
  have HO := Lib.hid ho
  have HB := Lib.hid hb
  clear ho hb HA
  go_wp2_with fail
  refine (HS.out _ _ HO.out).mono ?_
  rintro e w2 ⟨rfl, ds, hs, ho, hb⟩
  have HO2 := Lib.hid ho
  have HB2 := Lib.hid (HB.out.trans hb)
  have HD := Lib.hid hs
  clear ho hb hs HO HB HS
  go_wp2
  go_ret
  exact ⟨v, ds, rfl, HD.out, HO2.out, HB2.out⟩
set_option maxHeartbeats 1000000 in
theorem sortedS_bad (sv : Value) (zs : List Si) (w : World) (hI : Sides w sv zs) (hb : zs.all rightS = false) :
    Calls Try.prog 19 #[sv] w fun e W' => e = .returned (.tuple #[.slice none 0 0, .int .i64 110]) ∧ Below w.heap.size w W' := by
  have HA := Lib.hid (hb ▸ allRight_any sv zs w hI)
  clear hI hb
  go_enter Try.func19, Try.ntmps19
  go_wp2_with fail
  refine HA.out.mono ?_
  rintro e w1 ⟨rfl, hb⟩
  have HB := Lib.hid hb
  clear hb HA
  go_wp2
  go_ret2
  exact ⟨rfl, HB.out⟩
set_option maxHeartbeats 1000000 in
theorem sortedS_good (p : Option Addr) (m c : Nat) (zs : List Si) (w : World) (hI : Sides w (.slice p m c) zs) (hb : zs.all rightS = true) (hh : ∀ s ∈ zs, s.hue) (hn : zs.length ≤ 1000000) :
    Calls Try.prog 19 #[.slice p m c] w fun e W' => ∃ v ds, e = .returned (.tuple #[v, .int .i64 0]) ∧ IsSort zs ds ∧ W'.ownsRow w.heap.size 26 6 v zs.length (ds.flatMap Si.cells) ∧ Below w.heap.size w W' := by
  have hfit : ∀ x ∈ zs, Fit x := fun x hx => ⟨List.all_eq_true.1 hb x hx, hh x hx⟩
  have HA := Lib.hid (hb ▸ allRight_any (.slice p m c) zs w hI)
  have HI := Lib.hid hI
  have HS := Lib.hid (fun Bs X h1 h2 => sortedFunc_any Bs (.slice p m c) zs X h1 h2 hfit hn)
  have HV := Lib.hid (fun X => valuesC_any p m c X)
  clear hI hb hh hfit
  go_enter Try.func19, Try.ntmps19
  go_wp2_with fail
  refine HA.out.mono ?_
  rintro e w1 ⟨rfl, hb⟩
  have HB := Lib.hid hb
  clear hb HA
  go_wp2_with fail
  refine (HV.out _).mono ?_
  rintro e w2 ⟨rfl, hw2⟩
  have HB2 := Lib.hid (show Below w.heap.size w w2 by rw [hw2]; exact HB.out.alloc HB.out.size _)
  have HI2 := Lib.hid (HI.out.below HB2.out)
  have HC := Lib.hid (show w2.cell? ⟨w1.heap.size, 0, none⟩ = some (.slice p m c) by rw [hw2]; exact (whole_new w1 [.slice p m c] 33 _ rfl).cellAt 0)
  have HZ : Hid (w.heap.size ≤ w2.heap.size) := Lib.hid HB2.out.size
  clear hw2 HV HI HB
  go_wp2_with fail
  refine (HS.out _ _ HC.out HI2.out).mono ?_
  rintro e w3 ⟨v, ds, rfl, hs, ho, hb⟩
  have HB3 := Lib.hid (HB2.out.trans (hb.mono HZ.out))
  have HD := Lib.hid hs
  have HO : Hid (w3.ownsRow w.heap.size 26 6 v zs.length (ds.flatMap Si.cells)) := Lib.hid (by
    refine ⟨ho.1, ?_⟩
    rcases ho.2 with hn' | ⟨g', cap, cur, e, hb', rest⟩
    · exact .inl hn'
    · exact .inr ⟨g', cap, cur, e, Nat.le_trans HZ.out hb', rest⟩)
  clear hb hs ho HS HC HI2 HB2
  go_wp2
  go_ret2
  exact ⟨v, ds, rfl, HD.out, HO.out, HB3.out⟩
end Go.Proofs.Ytmcgieameodkbaa
