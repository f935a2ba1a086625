/- slices.AppendSeq and Collect over heights' cells: what they hand back. Written by mk_HSort.py. -/
import Derived.Test.YtpbkboandiigfaaHSort
import Derived.Test.YtpbkboandiigfaaHIter
namespace Go.Proofs.Ytpbkboandiigfaa
open Go.RowKit Go.Shelf Go.Sort Go.Lib
set_option linter.unusedVariables false
set_option linter.unusedSimpArgs false
attribute [local go_sem] Oper.semAt_some

theorem Try.infoSide3N : (Try.prog.info? 45).map (fun i => (i.zero, i.size, i.bytes)) = some (some (.agg #[.int .i64 0, .int .i64 0, .int .i64 0, .int .i64 0, .int .i64 0, .int .i64 0]), 6, 48) := by kernel_rfl
theorem info_threeN {t : Nat} {z : Option Value} {s b : Nat} (h : (Try.prog.info? t).map (fun i => (i.zero, i.size, i.bytes)) = some (z, s, b)) : ∃ i, Try.prog.info? t = some i ∧ i.zero = z ∧ i.size = s ∧ i.bytes = b := by
  cases hi : Try.prog.info? t with
  | none => rw [hi] at h; cases h
  | some i =>
    rw [hi] at h
    simp only [Option.map_some, Option.some.injEq, Prod.mk.injEq] at h
    exact ⟨i, rfl, h.1, h.2.1, h.2.2⟩
theorem lay_newN (w : World) (xs : List Value) (t g : Nat) (hg : g = w.heap.size) : ∀ j u, xs[j]? = some u → (w.alloc (.cells xs.toArray t)).cell? ((⟨g, 0, none⟩ : Addr).add j) = some u := by
  intro j u hj
  have h := (whole_new w xs t g hg).cellAt j
  rw [add_plainC, Nat.zero_add]
  exact h.trans hj
/-- what holds when the sides pre have been collected -/
def ApN (B base : Nat) (w : World) (pre : List Ht) (W : World) : Prop :=
  (∃ v, Whole W B 39 [v] ∧ W.ownsRow base 45 6 v pre.length (pre.flatMap Ht.cells)) ∧ Below B w W ∧ base ≤ W.heap.size
theorem ApN.own (B base : Nat) (w : World) (K : Nat) (h1 : B ≤ w.heap.size) (h2 : B ≤ K) : OwnFrom K (ApN B base w) :=
  OwnFrom.and (fun s X Y row ⟨v, hb, ho⟩ hg hr => ⟨v, hb.grown hg (hb.ne fun r e => (hr r e).2), own_grown ho hg fun r e => (hr r e).2⟩) (OwnFrom.and (ownFrom_below h1 h2) (fun s X Y row hs hg hr => Nat.le_trans hs hg.size))
theorem flat_snocN (pre : List Ht) (x : Ht) : (pre ++ [x]).flatMap Ht.cells = pre.flatMap Ht.cells ++ x.cells := by simp
set_option maxRecDepth 100000 in
set_option maxHeartbeats 4000000 in
theorem append_anyN (Bp Bh : Nat) (p q : Option Addr) (m c c' : Nat) (ps : List Pc) (hs : List Int) (hmm : m ≤ 9223372036854775807) (hm : ps.length = m) (hm' : hs.length = m) (w : World) (hT : TwoBox Bp Bh p q m c c' w) (hP : RowsK Pc.cells 5 w (.slice p m c) ps) (hH : Ints w (.slice q m c') hs) (zs : List Ht) (hzs : htZ ps hs = zs) (hn : zs.length ≤ 1000000) :
    Calls Try.prog 74 #[.slice none 0 0, .func (.func 41) #[] #[.pointer (some ⟨Bp, 0, none⟩), .pointer (some ⟨Bh, 0, none⟩)]] w
      fun e W' => ∃ v, e = .returned v ∧ W'.ownsRow w.heap.size 45 6 v zs.length (zs.flatMap Ht.cells) ∧ Below w.heap.size w W' := by
  subst hzs
  obtain ⟨i0, hi, hz0, hz1, hz2⟩ := info_threeN Try.infoSide3N
  refine (callsIn_wide (n := 3)).1 (callsIn_of_wp_marks Try.func74 rfl trivial (wpIn_wide.2 ?_) rfl)
  simp only [Try.ntmps74, List.size_toArray, List.length_cons, List.length_nil, Nat.reduceAdd, Nat.reduceSub, Array.replicate_succ, Array.replicate_zero, List.push_toArray, List.append_toArray, List.nil_append, List.cons_append]
  go_wp2
  have hB : Below w.heap.size w (w.alloc (.cells #[.slice none 0 0] 39)) := (Below.refl _ w).alloc (Nat.le_refl _) _
  have kb := whole_new w [.slice none 0 0] 39 w.heap.size rfl
  have hsz : (w.alloc (.cells #[.slice none 0 0] 39)).heap.size = w.heap.size + 1 := by simp
  obtain ⟨W1, hW1⟩ : ∃ W1, w.alloc (.cells #[.slice none 0 0] 39) = W1 := ⟨_, rfl⟩
  replace kb : Whole W1 w.heap.size 39 [.slice none 0 0] := by rw [← hW1]; exact kb
  rw [hW1] at hB hsz ⊢
  clear hW1
  have hsz1 : w.heap.size + 1 ≤ W1.heap.size := by omega
  clear hsz
  refine (wpIn_wide (n := 3)).1 (wpIn_rangeFunc_ownH (F := Fence.wide) rfl (by omega) (gf := 41) (lb := #[.pointer (some ⟨Bp, 0, none⟩), .pointer (some ⟨Bh, 0, none⟩)]) rfl trivial (enters_of Try.func41 (by kernel_rfl) rfl)
    (cells_stops _ (by omega) Bp Bh p q m c c' hmm ps hs hm hm' W1 w hT hP hH hB) belowK_t (belowK_b (by omega)) (Below.refl _ _) (fun _ => rfl)
    (ApN w.heap.size W1.heap.size w) (fun _ _ _ => False) (ApN.own _ _ _ _ (Nat.le_refl _) (by omega)) (fun _ _ _ _ _ hs _ _ => hs)
    ⟨⟨_, kb, World.ownsRow_nil _ _ _ _⟩, hB, Nat.le_refl _⟩
    (fun x a' W' => ∃ g, a' = { tmps := #[.slice none 0 0, .func (.func 41) #[] #[.pointer (some ⟨Bp, 0, none⟩), .pointer (some ⟨Bh, 0, none⟩)], .pointer (some ⟨w.heap.size, 0, none⟩), undef, .slice none 0 0, .pointer (some ⟨g, 0, none⟩), .func (.func 41) #[] #[.pointer (some ⟨Bp, 0, none⟩), .pointer (some ⟨Bh, 0, none⟩)], x.val, undef, undef, undef, undef, undef], defers := [] } ∧ W1.heap.size ≤ g ∧ Whole W' g 45 x.cells) ?hax ?assign ?body ?done ?stop)
  case hax =>
    rintro x a' s X Y row ⟨g, he, hg, hk⟩ hgr hr
    exact ⟨g, he, hg, hk.grown hgr (hk.ne fun r e => (hr r e).2)⟩
  case assign =>
    rintro l pre ⟨nd, ro, co, rz, cs, mn⟩ V K hi' hK
    have hbase := hi'.2.2
    have hB' := Lib.hid hi'
    clear hi' kb hB hP hH hT hi hz0 hz1 hz2
    dsimp only [Ht.val]
    gi_wp2
    refine hK _ _ ((KeepsOthers.alloc V _).from _) ((Below.refl _ V).alloc (by omega) _) ((ApN.own _ _ _ W1.heap.size (Nat.le_refl _) (by omega)).alloc _ hB'.out) ⟨V.heap.size, rfl, hbase, ?_⟩
    exact whole_new V (Ht.cells ⟨nd, ro, co, rz, cs, mn⟩) 45 _ rfl
  case body =>
    rintro l pre ⟨nd, ro, co, rz, cs, mn⟩ a' V hl hlr ⟨⟨v, hbx, ho⟩, hb, hbs⟩ ⟨g, rfl, hg, hk⟩ hlen
    have c0 : V.cell? ⟨w.heap.size, 0, none⟩ = some v := hbx.cellAt 0
    have r0 : V.cell? ⟨g, 0, none⟩ = some (.int .i64 nd) := hk.cellAt 0
    have r1 : V.cell? ⟨g, 1, none⟩ = some (.int .i64 ro) := hk.cellAt 1
    have r2 : V.cell? ⟨g, 2, none⟩ = some (.int .i64 co) := hk.cellAt 2
    have r3 : V.cell? ⟨g, 3, none⟩ = some (.int .i64 rz) := hk.cellAt 3
    have r4 : V.cell? ⟨g, 4, none⟩ = some (.int .i64 cs) := hk.cellAt 4
    have r5 : V.cell? ⟨g, 5, none⟩ = some (.int .i64 mn) := hk.cellAt 5
    clear kb hB hP hH hT hlr
    dsimp only [Ht.val]
    gi_wp2_with (gi_at_builtin; refine wpListIn_append_own_at _ rfl _ _ 39 rfl W1.heap.size 45 i0 (.agg #[.int .i64 0, .int .i64 0, .int .i64 0, .int .i64 0, .int .i64 0, .int .i64 0]) 6 48 Try.underlying39 hi hz0 hz1 hz2 rfl (by decide) v pre.length _ rfl (ho.alloc _) ⟨V.heap.size, 0, none⟩ 1 1 [.int .i64 nd, .int .i64 ro, .int .i64 co, .int .i64 rz, .int .i64 cs, .int .i64 mn] rfl rfl (lay_newN _ _ _ _ rfl) (by simp [Value.oneCell']) (by unfold maxLen; omega) (by omega) (by simp <;> omega) ?_)
    intro v' w1 hown1 hgrow1 _ hf1
    obtain ⟨pa, pn, pc, rfl⟩ := own_slice hown1
    have kb1 : Whole w1 w.heap.size 39 [v] := hbx.app ho (by decide) hgrow1
    have B1 := Lib.hid (step_below (b := w.heap.size) (off := 0) (v' := .slice pa pn pc) (Below.refl w.heap.size V) ho hgrow1 (by omega) (by omega) (by omega))
    have K1 := Lib.hid (step_keeps (b := w.heap.size) (off := 0) (v' := .slice pa pn pc) ho hgrow1)
    have z1 := hgrow1.size
    simp only [World.size_alloc] at z1
    have d0 : w1.cell? ⟨w.heap.size, 0, none⟩ = some v := kb1.cellAt 0
    have e0 : w1.frozen? ⟨w.heap.size, 0, none⟩ = false := kb1.free 0
    have ll := kb1.lt
    have HO := Lib.hid hown1
    have KB := Lib.hid kb1
    clear r0 r1 r2 r3 r4 r5 c0 hk hown1 hgrow1 hf1 kb1
    gi_wp2
    have hne := whole_own KB.out HO.out (by decide)
    refine ⟨K1.out.from _, B1.out, ⟨.slice pa pn pc, KB.out.set 0 _, ?_⟩, hb.trans B1.out, ?_⟩
    · have h := own_setCell (o := 0) (u := .slice pa pn pc) HO.out hne
      rw [flat_snocN, List.length_append]
      exact h
    · simp <;> omega
  case done =>
    rintro D ys V hD rfl ⟨⟨v, hbx, ho⟩, hb, hbs⟩ hK
    have c0 : V.cell? ⟨w.heap.size, 0, none⟩ = some v := hbx.cellAt 0
    have l0 := hbx.lt
    have HO := Lib.hid ho
    have HB := Lib.hid hb
    have HK := Lib.hid hK
    clear ho hb hK kb hB hP hH hT hi hz0 hz1 hz2 hbx
    go_wp2
    refine leaves_marks w.heap.size [D] _ ((Marks.nil w.heap.size V).cons (D := D) (by omega) HK.out (fun E hE => by cases hE)) (fun W' hck hbk => ⟨v, by simp [results, Try.results74, go_sem], v, rfl, ?_, HB.out.trans hbk⟩)
    refine ⟨HO.out.1, ?_⟩
    rcases HO.out.2 with hn' | ⟨g', cap, cur, rfl, hb', hgg, rest⟩
    · exact .inl hn'
    · exact .inr ⟨g', cap, cur, rfl, by omega, hck _ _ hgg rfl, rest⟩
  case stop =>
    rintro D c pre W _ _ h _
    exact h.elim
theorem collect_anyN (Bp Bh : Nat) (p q : Option Addr) (m c c' : Nat) (ps : List Pc) (hs : List Int) (hmm : m ≤ 9223372036854775807) (hm : ps.length = m) (hm' : hs.length = m) (w : World) (hT : TwoBox Bp Bh p q m c c' w) (hP : RowsK Pc.cells 5 w (.slice p m c) ps) (hH : Ints w (.slice q m c') hs) (zs : List Ht) (hzs : htZ ps hs = zs) (hn : zs.length ≤ 1000000) :
    Calls Try.prog 57 #[.func (.func 41) #[] #[.pointer (some ⟨Bp, 0, none⟩), .pointer (some ⟨Bh, 0, none⟩)]] w
      fun e W' => ∃ v, e = .returned v ∧ W'.ownsRow w.heap.size 45 6 v zs.length (zs.flatMap Ht.cells) ∧ Below w.heap.size w W' := by
  have HA := Lib.hid (append_anyN Bp Bh p q m c c' ps hs hmm hm hm' w hT hP hH zs hzs hn)
  clear hP hH hT
  go_enter Try.func57, Try.ntmps57
  go_wp2_with fail
  refine HA.out.mono ?_
  rintro e W' ⟨v, rfl, ho, hb⟩
  have HO := Lib.hid ho
  have HB := Lib.hid hb
  clear ho hb
  go_wp2
  go_ret
  exact ⟨v, rfl, HO.out, HB.out⟩
end Go.Proofs.Ytpbkboandiigfaa
