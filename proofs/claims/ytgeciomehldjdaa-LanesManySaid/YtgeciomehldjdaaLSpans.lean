/- Contract of the iterator lanes.spans over a table of whose kids none is a group of columns: a range over it may write its own box and the slice in it. -/
import Derived.Test.YtgeciomehldjdaaLCols0
import Derived.Test.YtgeciomehldjdaaRoundS
namespace Go.Proofs.Ytgeciomehldjdaa
open Go.RowKit Go.Shelf Go.Maps
set_option linter.unusedVariables false
attribute [local go_sem] Oper.semAt_some

/-- the block of the slice that lies in a box -/
def ownN (NR : Nat) (V : World) (g : Nat) : Prop := ∃ v, V.cell? ⟨NR, 0, none⟩ = some v ∧ v.ownBlock = some g
/-- what a round of the range over the iterator leaves alone: all but its box, the slice in it, and the loop's record -/
structure KU (NR LB : Nat) (V V' : World) : Prop where
  os : V'.os = V.os ∧ V'.tape = V.tape ∧ V'.output = V.output
  size : V.heap.size ≤ V'.heap.size
  same : ∀ g, g < V.heap.size → g ≠ NR → g ≠ LB → ¬ ownN NR V g → V'.heap[g]? = V.heap[g]?
  few : ∀ g, ownN NR V' g → ownN NR V g ∨ V.heap.size ≤ g
  good : ∀ g, ownN NR V' g → g < V'.heap.size
  box : ∃ u, V'.cell? ⟨NR, 0, none⟩ = some u
def KpS (NR LB : Nat) (V V' : World) : Prop := (∀ g, ownN NR V g → g < V.heap.size) → (∃ u, V.cell? ⟨NR, 0, none⟩ = some u) → KU NR LB V V'
theorem KU.trans {NR LB : Nat} {A B C : World} (h : KU NR LB A B) (k : KU NR LB B C) : KU NR LB A C := by
  refine ⟨⟨k.os.1.trans h.os.1, k.os.2.1.trans h.os.2.1, k.os.2.2.trans h.os.2.2⟩, Nat.le_trans h.size k.size, fun g hg h1 h2 h3 => ?_, fun g hg => ?_, k.good, k.box⟩
  · rw [k.same g (Nat.lt_of_lt_of_le hg h.size) h1 h2 (fun e => ?_), h.same g hg h1 h2 h3]
    rcases h.few g e with e | e
    · exact h3 e
    · omega
  · rcases k.few g hg with e | e
    · exact h.few g e
    · exact .inr (Nat.le_trans h.size e)
theorem KpS.trans {NR LB : Nat} {A B C : World} (h : KpS NR LB A B) (k : KpS NR LB B C) : KpS NR LB A C := fun hg hu => (h hg hu).trans (k (h hg hu).good (h hg hu).box)
theorem ownN_below {NR : Nat} {V W : World} (hb : Below V.heap.size V W) (hn : NR < V.heap.size) {g : Nat} : ownN NR W g ↔ ownN NR V g := by
  unfold ownN
  rw [hb.cell (p := ⟨NR, 0, none⟩) hn]
theorem KU.of_below {NR LB : Nat} {V W : World} (hb : Below V.heap.size V W) (hg : ∀ g, ownN NR V g → g < V.heap.size) (hu : ∃ u, V.cell? ⟨NR, 0, none⟩ = some u) : KU NR LB V W :=
  have hn : NR < V.heap.size := by obtain ⟨u, hu⟩ := hu; exact cell_lt hu
  ⟨⟨hb.os, hb.tape, hb.output⟩, hb.size, fun g h _ _ _ => hb.block g h, fun g h => .inl ((ownN_below hb hn).1 h), fun g h => Nat.lt_of_lt_of_le (hg g ((ownN_below hb hn).1 h)) hb.size, by obtain ⟨u, hu⟩ := hu; exact ⟨u, (hb.cell (p := ⟨NR, 0, none⟩) hn).trans hu⟩⟩
theorem ownN_grown {NR : Nat} {X Y : World} {row : Option Nat} (hg : X.grownBy Y row) (hr : NoCells X row) (hn : ∃ u, X.cell? ⟨NR, 0, none⟩ = some u) {g : Nat} : ownN NR Y g ↔ ownN NR X g := by
  obtain ⟨u, hu⟩ := hn
  unfold ownN
  rw [hu, cell_grown hg hr hu]
/-- the loop's own blocks grow -/
theorem KU.grown {NR LB B : Nat} {A X Y : World} {row : Option Nat} (h : KU NR LB A X) (hg : X.grownBy Y row) (hr : ∀ r, row = some r → B ≤ r ∧ ∃ o : Obj, X.heap[r]? = some o ∧ o.isCells = false) (hB : A.heap.size ≤ B) : KU NR LB A Y := by
  have hn := h.box
  have hnc : NoCells X row := fun r e => (hr r e).2
  refine ⟨⟨hg.os.trans h.os.1, hg.tape.trans h.os.2.1, hg.output.trans h.os.2.2⟩, Nat.le_trans h.size hg.size, fun g hgl h1 h2 h3 => ?_, fun g e => h.few g ((ownN_grown hg hnc hn).1 e), fun g e => Nat.lt_of_lt_of_le (h.good g ((ownN_grown hg hnc hn).1 e)) hg.size, by obtain ⟨u, hu⟩ := hn; exact ⟨u, cell_grown hg hnc hu⟩⟩
  rw [hg.block g (Nat.lt_of_lt_of_le hgl h.size) (fun e => by have := (hr g e.symm).1; omega), h.same g hgl h1 h2 h3]
theorem KU.cell {NR LB : Nat} {V V' : World} (h : KU NR LB V V') {a : Addr} {u : Value} (hu : V.cell? a = some u) (h1 : a.block ≠ NR) (h2 : a.block ≠ LB) (h3 : ¬ ownN NR V a.block) : V'.cell? a = some u := by
  rw [← hu]
  unfold World.cell?
  rw [h.same a.block (cell_lt hu) h1 h2 h3]
theorem KpS.put {NR LB : Nat} (hne : NR ≠ LB) (W : World) (o : Obj) (hl : LB < W.heap.size) : KpS NR LB W (W.putObj LB o) := fun hg hu => by
  have hc : (W.putObj LB o).cell? ⟨NR, 0, none⟩ = W.cell? ⟨NR, 0, none⟩ := by
    unfold World.cell?
    rw [World.putObj_heap_other hne]
  have hs : (W.putObj LB o).heap.size = W.heap.size := by simp [World.putObj]
  refine ⟨⟨rfl, rfl, rfl⟩, by omega, fun g _ _ h2 _ => World.putObj_heap_other h2, fun g e => .inl ?_, fun g e => ?_, by rw [hc]; exact hu⟩
  · unfold ownN at e ⊢; rwa [hc] at e
  · rw [hs]; exact hg g (by unfold ownN at e ⊢; rwa [hc] at e)
/-- how many columns a node is for -/
def csOf (ns : List Nd) (z : Int) : Int := (ns[z.toNat]?.map fun n => n.s.cs).getD 0
def spans1 (ns : List Nd) (z : Int) : List ((Int × Int) × Int) :=
  if kdOf ns z.toNat = 5 then [((z, -1), csOf ns z)]
  else if kdOf ns z.toNat = 4 then (if kindK ns 5 z = [] then [((-1, z), csOf ns z)] else (kindK ns 5 z).map fun c => ((c, z), csOf ns c))
  else []
def spansP (ns : List Nd) (ks : List Int) : List ((Int × Int) × Int) := ks.flatMap (spans1 ns)
theorem spansP_take (ns : List Nd) (ks : List Int) (k : Nat) (z : Int) (h : ks[k]? = some z) : spansP ns (ks.take (k + 1)) = spansP ns (ks.take k) ++ spans1 ns z := by
  unfold spansP
  rw [List.take_add_one, h, List.flatMap_append]
  simp
theorem spansP_at (ns : List Nd) (ks : List Int) (k : Nat) (z : Int) (h : ks[k]? = some z) : spansP ns ks = spansP ns (ks.take k) ++ (spans1 ns z ++ spansP ns (ks.drop (k + 1))) := by
  have h1 : ks = ks.take k ++ ks.drop k := (List.take_append_drop k ks).symm
  have h2 : ks.drop k = z :: ks.drop (k + 1) := by
    obtain ⟨hl, e⟩ := List.getElem?_eq_some_iff.1 h
    rw [List.drop_eq_getElem_cons hl, e]
  conv => lhs; rw [h1, h2]
  unfold spansP
  rw [List.flatMap_append, List.flatMap_cons]
/-- what the rounds over the kids keep -/
def SpI (J : List ((Int × Int) × Int) → World → Prop) (NR LB : Nat) (ns : List Nd) (ks : List Int) (W3 : World) (pre : List (Int × Int)) (X : World) : Prop :=
  J (spansP ns (ks.take pre.length)) X ∧ KU NR LB W3 X
def SpX (Jx : List ((Int × Int) × Int) → World → Prop) (c : Code) (pre : List (Int × Int)) (X : World) : Prop := c = .exit 0 ∧ ∃ ys, Jx ys X

set_option maxRecDepth 100000 in
set_option maxHeartbeats 4000000 in
theorem spans_cols (n : Nat) (gl ga L m cap p NR LB base : Nat) (kv : Value) (ks : List Int) (ns : List Nd) (hc : CapOk kv) (hm : m ≤ 1000000) (hp : p < m) (hml : ns.length = m)
    (hks : ∀ z ∈ ks, 0 ≤ z ∧ z < (m : Int)) (hno : ∀ z ∈ ks, kdOf ns z.toNat ≠ 4) (w1 w : World) (hP : PageAt w1 (.slice (some ⟨L, 0, none⟩) m cap) ns) (hb1 : w1.heap.size = base) (hbw : Below base w1 w)
    (hR : SpanM gl ga L 0 m cap p kv ks (kdOf ns) w) (hLB : LB = w.heap.size + 1) (hN : base ≤ NR ∧ NR < w.heap.size ∧ gl ≠ NR ∧ ga ≠ NR) (hL : L < base) (hkl : ks = [] ∨ ∃ qb qo c, kv = .slice (some ⟨qb, qo, none⟩) ks.length c ∧ qb < base)
    (hown : ∀ g, ownN NR w g → base ≤ g ∧ g < w.heap.size ∧ g ≠ gl ∧ g ≠ ga) (hu : ∃ u, w.cell? ⟨NR, 0, none⟩ = some u) :
    SeqOwn Fence.wide n Try.prog 27 #[.pointer (some ⟨gl, 0, none⟩), .pointer (some ⟨ga, 0, none⟩)] encSp (KpS NR LB) (fun pre x => (spansP ns ks)[pre.length]? = some x) (fun ys => ys = spansP ns ks) (fun _ => True) w := by
  intro l J Jx W hW hW2 hJ hJx hY h0
  have hsz := hW.size
  have HRW := Lib.hid (hR.below hW)
  have HKF := Lib.hid (fun Y => kidsF_any (some ⟨L, 0, none⟩) m cap (p : Int) Y)
  have HNO := Lib.hid hno
  have HKS := Lib.hid hks
  have HY := Lib.hid hY
  have HJ := Lib.hid hJ
  have HJx := Lib.hid hJx
  have H0 := Lib.hid h0
  have HP := Lib.hid hP
  have HML := Lib.hid hml
  have HKL := Lib.hid hkl
  have HBW : Hid (Below base w1 W) := Lib.hid (hbw.trans (hW.mono (by have := hbw.size; omega)))
  have HOW : Hid (∀ g, ownN NR W g → base ≤ g ∧ g < w.heap.size ∧ g ≠ gl ∧ g ≠ ga) := Lib.hid fun g e => hown g ((ownN_below hW hN.2.1).1 e)
  have HU : Hid (∃ u, W.cell? ⟨NR, 0, none⟩ = some u) := Lib.hid (by obtain ⟨u, hu⟩ := hu; exact ⟨u, (hW.cell (p := ⟨NR, 0, none⟩) hN.2.1).trans hu⟩)
  have HBZ : Hid (base ≤ w.heap.size) := Lib.hid (by omega)
  refine callsIn_of_wp_marks Try.func27 rfl trivial (wpIn_wide.2 ?_) rfl
  simp only [Try.ntmps27, List.size_toArray, List.length_cons, List.length_nil, Nat.reduceAdd, Nat.reduceSub, Array.replicate_succ, Array.replicate_zero, List.push_toArray, List.append_toArray, List.nil_append, List.cons_append]
  have c1 := HRW.out.bl
  have c2 := HRW.out.ba
  have l1 := HRW.out.lt.1
  have l2 := HRW.out.lt.2.1
  have hgl : gl < w.heap.size ∧ ga < w.heap.size := ⟨hR.lt.1, hR.lt.2.1⟩
  clear hY hJ hJx h0 hR hno hks hW hP hml hkl hbw hown hu
  go_wp2
  refine wp_scope_straight ?_
  go_wp2
  refine wp_label ?_
  go_wp2_with (go_at_call 23; refine (HKF.out _).mono ?_; rintro e w' ⟨rfl, rfl⟩)
  obtain ⟨N, hNN⟩ : ∃ N, W.heap.size = N := ⟨_, rfl⟩
  obtain ⟨W3, hW3⟩ : ∃ W3, ((W.alloc (.cells #[.func (.yield l) #[] #[]] 70)).alloc (.cells #[.slice (some ⟨L, 0, none⟩) m cap] 22)).alloc (.cells #[.int .i64 (p : Int)] 3) = W3 := ⟨_, rfl⟩
  have s3 : W3.heap.size = N + 3 := by rw [← hW3]; simp [hNN]
  have b3 : Below W.heap.size W W3 := by rw [← hW3]; exact (((Below.refl _ W).alloc (Nat.le_refl _) _).alloc (by simp) _).alloc (by simp; omega) _
  have yY : Whole W3 N 70 [.func (.yield l) #[] #[]] := by rw [← hW3]; exact ((whole_new W [.func (.yield l) #[] #[]] 70 _ hNN.symm).alloc _).alloc _
  have y0 : Whole W3 (N + 1) 22 [.slice (some ⟨L, 0, none⟩) m cap] := by rw [← hW3]; exact (whole_new (W.alloc (.cells #[.func (.yield l) #[] #[]] 70)) [.slice (some ⟨L, 0, none⟩) m cap] 22 _ (by simp [hNN])).alloc _
  have y1 : Whole W3 (N + 2) 3 [.int .i64 (p : Int)] := by rw [← hW3]; exact whole_new ((W.alloc (.cells #[.func (.yield l) #[] #[]] 70)).alloc (.cells #[.slice (some ⟨L, 0, none⟩) m cap] 22)) [.int .i64 (p : Int)] 3 _ (by simp [hNN])
  have HOW3 : Hid (∀ g, ownN NR W3 g → base ≤ g ∧ g < w.heap.size ∧ g ≠ gl ∧ g ≠ ga) := Lib.hid fun g e => HOW.out g ((ownN_below b3 (by omega)).1 e)
  have HB3 : Hid (Below base w1 W3) := Lib.hid (HBW.out.trans (b3.mono (by have := HBZ.out; omega)))
  have HG3 : Hid (W3.cell? ⟨gl, 0, none⟩ = some (.slice (some ⟨L, 0, none⟩) m cap) ∧ W3.cell? ⟨N, 0, none⟩ = some (.func (.yield l) #[] #[]) ∧ W3.cell? ⟨N + 1, 0, none⟩ = some (.slice (some ⟨L, 0, none⟩) m cap) ∧ W3.cell? ⟨N + 2, 0, none⟩ = some (.int .i64 p)) :=
    Lib.hid ⟨(b3.cell (p := ⟨gl, 0, none⟩) l1).trans c1, yY.cellAt 0, y0.cellAt 0, y1.cellAt 0⟩
  have HU3 : Hid (∃ u, W3.cell? ⟨NR, 0, none⟩ = some u) := Lib.hid (by obtain ⟨u, hu⟩ := HU.out; exact ⟨u, (b3.cell (p := ⟨NR, 0, none⟩) (show NR < W.heap.size by omega)).trans hu⟩)
  -- what holds as long as the rounds keep to their own
  have HST : Hid (∀ X, KU NR LB W3 X → X.cell? ⟨gl, 0, none⟩ = some (.slice (some ⟨L, 0, none⟩) m cap) ∧ X.cell? ⟨N, 0, none⟩ = some (.func (.yield l) #[] #[]) ∧ PageAt X (.slice (some ⟨L, 0, none⟩) m cap) ns ∧ Below base w1 X ∧ KidM (N + 3) (N + 1) (N + 2) L 0 m cap p kv ks (kdOf ns) X) := Lib.hid (by
    intro X hX
    have hz := hX.size
    have hbz := HBZ.out
    have nb : ∀ g, g < base → X.heap[g]? = w1.heap[g]? := fun g hg => (hX.same g (by omega) (by omega) (by omega) (fun e => by have := (HOW3.out g e).1; omega)).trans (HB3.out.block g hg)
    have hbX : Below base w1 X := ⟨hX.os.1.trans HB3.out.os, hX.os.2.1.trans HB3.out.tape, hX.os.2.2.trans HB3.out.output, Nat.le_trans HB3.out.size hX.size, nb⟩
    have h1 : X.cell? ⟨N + 1, 0, none⟩ = some (.slice (some ⟨L, 0, none⟩) m cap) := hX.cell HG3.out.2.2.1 (show N + 1 ≠ NR by omega) (show N + 1 ≠ LB by omega) (fun e => by have := (HOW3.out _ e).2.1; dsimp only at this; omega)
    have h2 : X.cell? ⟨N + 2, 0, none⟩ = some (.int .i64 p) := hX.cell HG3.out.2.2.2 (show N + 2 ≠ NR by omega) (show N + 2 ≠ LB by omega) (fun e => by have := (HOW3.out _ e).2.1; dsimp only at this; omega)
    refine ⟨hX.cell HG3.out.1 hN.2.2.1 (show gl ≠ LB by omega) (fun e => (HOW3.out _ e).2.2.1 rfl), hX.cell HG3.out.2.1 (show N ≠ NR by omega) (show N ≠ LB by omega) (fun e => by have := (HOW3.out _ e).2.1; dsimp only at this; omega), HP.out.below (by rw [hb1]; exact hbX), hbX, ?_⟩
    have hbX3 : ∀ (a : Addr) (u : Value), W3.cell? a = some u → a.block < base → X.cell? a = some u := fun a u ha hb => hX.cell ha (by omega) (by omega) (fun e => by have := (HOW3.out _ e).1; omega)
    obtain ⟨q1, q2, q3, q4, q5, q6⟩ := HRW.out
    refine ⟨by omega, by omega, h1, h2, hbX3 _ _ ((b3.cell (p := ⟨L, 0 + p * 34 + 1, none⟩) q1.2.2).trans q4) (show L < base from hL), ?_, ?_, fun i hi => hbX3 _ _ ((b3.cell (p := ⟨L, 0 + i * 34, none⟩) q1.2.2).trans (q6 i hi)) (show L < base from hL)⟩
    · obtain ⟨g1, ⟨a, c', e, hz'⟩ | ⟨b, off, c', e, hcc⟩⟩ := q5
      · exact ⟨g1, .inl ⟨a, c', e, hz'⟩⟩
      · refine ⟨g1, .inr ⟨b, off, c', e, fun j hj => ?_⟩⟩
        rcases HKL.out with h | ⟨qb, qo, c, e', hq⟩
        · subst h; simp at hj
        · rw [e] at e'
          injection e' with e1; injection e1 with e1; injection e1 with e1 e4
          exact hbX3 _ _ ((b3.cell (p := ⟨b, off + j, none⟩) (cell_lt (hcc j hj))).trans (hcc j hj)) (show b < base by omega)
    · rcases HKL.out with h | ⟨qb, qo, c, e', hq⟩
      · exact .inl h
      · exact .inr ⟨qb, qo, c, e', by omega⟩)
  have HG0 : Hid (∀ g, ownN NR W3 g → g < W3.heap.size) := Lib.hid fun g e => by have := HOW3.out g e; omega
  have HK3 : Hid (KU NR LB W3 W3) := Lib.hid (KU.of_below (Below.refl _ _) HG0.out HU3.out)
  have hRun := (HST.out W3 HK3.out).2.2.2.2
  have HI0 : Hid (SpI J NR LB ns ks W3 [] W3) := Lib.hid ⟨by simpa [spansP] using HJ.out [] W W3 none H0.out (grown_of_below b3) (fun r e => by cases e), HK3.out⟩
  rw [hNN, hW3]
  clear hW3 y0 y1 yY b3 c1 c2 l1 l2 HKF HBW HOW HU H0
  refine (wpIn_wide (n := 3)).1 (range_next (F := Fence.wide) rfl (by omega) (gf := 38) (lb := #[.pointer (some ⟨N + 1, 0, none⟩), .pointer (some ⟨N + 1 + 1, 0, none⟩)]) rfl trivial (enters_of Try.func38 (by kernel_rfl) rfl)
    (Kp := KeepR (KidM (N + 3) (N + 1) (N + 2) L 0 m cap p kv ks (kdOf ns))) (fun _ _ _ h k => h.trans k) (fun W l o h1 h2 => ⟨by simp, fun hr => hr.below (below_put W o (by omega) h2)⟩)
    (lkids_next _ (by omega) (N + 3) (N + 1) (N + 2) L 0 m cap p kv ks (kdOf ns) hc (by omega) hp HKS.out W3 hRun s3.symm) (fun x => rfl)
    (SpI J NR LB ns ks W3) (SpX Jx) ?own ?ownx
    HI0.out ?round ?done ?stop)
  case own =>
    rintro pre X1 Y1 row ⟨g1, g2⟩ hg hr
    exact ⟨HJ.out _ X1 Y1 row g1 hg (fun r e => ⟨by have := (hr r e).1; omega, (hr r e).2⟩), g2.grown hg hr (Nat.le_refl _)⟩
  case ownx =>
    rintro c pre X1 Y1 row ⟨rfl, ys, g1⟩ hg hr
    exact ⟨rfl, ys, HJx.out _ X1 Y1 row g1 hg (fun r e => ⟨by have := (hr r e).1; omega, (hr r e).2⟩)⟩
  case stop =>
    rintro D c pre V hD _ ⟨rfl, ys, hF⟩ hmk
    have HF := Lib.hid hF
    have HMK := Lib.hid hmk
    clear hF hmk hRun
    refine wpIn_exit ?_
    go_wp2
    simp only [Exit.noGoto]
    refine ⟨by simp, .inl ⟨D, _, rfl, run_takeDeferred HMK.out, ?_⟩⟩
    exact ⟨_, results_none rfl _ _ _, ⟨_, rfl⟩, .inr ⟨_, trivial, HJx.out.putObj _ HF.out (by omega) HMK.out rfl⟩⟩
  case round =>
    rintro l' pre ⟨z, kz⟩ V hlq ⟨i1, i2⟩ ⟨hz1, hz2⟩
    dsimp only at hz1 hz2
    subst hz2
    have hzm := List.mem_iff_getElem?.2 ⟨pre.length, hz1⟩
    have hzr := HKS.out z hzm
    obtain ⟨zn, rfl⟩ : ∃ zn : Nat, z = (zn : Int) := ⟨z.toNat, by omega⟩
    have hn4 := HNO.out _ hzm
    rw [Int.toNat_natCast] at hn4 ⊢
    have d4 : (kdOf ns zn == 4) = false := by simpa using hn4
    refine ⟨{ tmps := #[.func (.yield l) #[] #[], .pointer (some ⟨gl, 0, none⟩), .pointer (some ⟨ga, 0, none⟩), .pointer (some ⟨N, 0, none⟩), .int .i64 zn, .int .i64 (kdOf ns zn), undef, undef, undef, .slice (some ⟨L, 0, none⟩) m cap, .int .i64 p, .func (.func 38) #[] #[.pointer (some ⟨N + 1, 0, none⟩), .pointer (some ⟨N + 1 + 1, 0, none⟩)], .int .i64 zn, .int .i64 (kdOf ns zn), undef, undef, undef, undef, undef, undef, undef, undef, undef, undef, undef, undef, undef, undef, undef, undef, undef, undef, undef, undef, undef, undef, undef, undef, undef, undef, undef, undef, undef, undef, undef, undef, undef, undef, undef, undef, undef, undef, undef, undef, undef, undef, undef, undef, undef, undef, undef, undef, undef, undef, undef, undef, undef, undef], defers := [] }, V, ?_, KeepsFrom.refl _ _, ⟨Nat.le_refl _, id⟩, ?_⟩
    · intro K hK
      dsimp only [encK]
      gi_wp2
      exact hK
    · intro V₂ hgV hnc' hbl
      obtain ⟨xs, hxs⟩ : ∃ xs, spansP ns (ks.take pre.length) = xs := ⟨_, rfl⟩
      have hstep := spansP_take ns ks pre.length zn hz1
      have hfull := spansP_at ns ks pre.length zn hz1
      rw [hxs] at i1 hstep hfull
      have j1 := HJ.out _ V V₂ (some l') i1 hgV (fun r e => by injection e with e; exact ⟨by omega, hnc' r (by rw [e])⟩)
      have j2 := i2.grown hgV (B := W3.heap.size) (fun r e => by injection e with e; exact ⟨by omega, hnc' r (by rw [e])⟩) (Nat.le_refl _)
      have J1 := Lib.hid j1
      have J2 := Lib.hid j2
      have HSTEP := Lib.hid hstep
      have HFULL := Lib.hid hfull
      have HPL : Hid ((pre ++ [((zn : Int), kdOf ns zn)]).length = pre.length + 1) := Lib.hid (by simp)
      clear i1 i2 j1 j2 hgV hnc' hbl hRun hxs hstep hfull
      by_cases k5 : kdOf ns zn = 5
      · have d5 : (kdOf ns zn == 5) = true := by simpa using k5
        have HS1 : Hid (spans1 ns zn = [(((zn : Int), -1), csOf ns zn)]) := Lib.hid (by unfold spans1; rw [Int.toNat_natCast, if_pos k5])
        clear hn4 k5
        gi_wp2
        refine round_still_tail 9 (by kernel_rfl) (by kernel_rfl) (by simp only [LetsOut, Exit.inBlock]; rintro ⟨x, y, h⟩; exact h) (by decide +kernel) (fun w2 hw2 => ?_)
        have bD : Below V₂.heap.size V₂ w2 := by rw [← hw2]; exact below_dn _ V₂ 1
        have hKU : KU NR LB W3 w2 := J2.out.trans (KU.of_below bD J2.out.good J2.out.box)
        have hJw : J xs w2 := HJ.out _ V₂ w2 none J1.out (grown_of_below bD) (fun r e => by cases e)
        obtain ⟨t1, t2, t3, t4, t5⟩ := HST.out w2 hKU
        obtain ⟨nd, hnd⟩ : ∃ nd, ns[zn]? = some nd := ⟨_, List.getElem?_eq_getElem (by rw [HML.out]; omega)⟩
        have hcs : csOf ns zn = nd.s.cs := by unfold csOf; rw [Int.toNat_natCast, hnd]; rfl
        have t6 : w2.cell? ⟨L, zn * 34 + 2 + 20, none⟩ = some (.int .i64 nd.s.cs) := by
          obtain ⟨_, _, ⟨a, c', e, hz'⟩ | ⟨b, off, c', e, hcc⟩⟩ := t3
          · subst hz'; simp at hnd
          · injection e with e1; injection e1 with e1; injection e1 with e1 e4
            subst e1 e4
            have h := hcc zn nd hnd 22 _ (nd.sty 20 _ rfl)
            rwa [show 0 + zn * 34 + 22 = zn * 34 + 2 + 20 by omega] at h
        obtain ⟨fn, tmps, assign, body, hy, hR⟩ := HY.out xs (((zn : Int), -1), csOf ns zn) w2 hJw (by rw [HFULL.out, HS1.out]; simp)
        rw [hcs] at hy hR HS1
        dsimp only [encSp] at hy
        have HR := Lib.hid hR
        have HKU := Lib.hid hKU
        have hk0 : KeepsFrom W3.heap.size V₂ w2 := by rw [← hw2]; exact (KeepsOthers.drew V₂).from _
        have HK0 := Lib.hid hk0
        have HW2Z : Hid (W3.heap.size ≤ w2.heap.size) := Lib.hid hKU.size
        have lgl : gl < w2.heap.size := by have := HW2Z.out; omega
        have lN : N < w2.heap.size := by have := HW2Z.out; omega
        have lL : L < w2.heap.size := by have := HW2Z.out; have := HBZ.out; omega
        have hzl : zn < m := by omega
        clear hw2 bD hKU hJw t3 t4 t5 hR hk0 hcs J1 J2
        simp only [List.take_succ_cons, List.take_zero, List.drop_succ_cons, List.drop_zero]
        still_step
        still_step
        still_step
        still_step
        still_step
        still_step
        still_step
        still_step
        still_step
        refine wpStill_nil ?_
        gi_wp2
        refine RoundIn.mono (show RoundIn _ _ _ _ _ _ _ _ _ _ from ⟨HR.out.1, fun c cs _ => HR.out.2 c cs (room_wide _)⟩) ?_
        rintro e V3 (⟨rfl, hJ3, hk3, hkf⟩ | ⟨rfl, hJ3, hkf⟩)
        · have H3 := Lib.hid hJ3
          have K3 := Lib.hid (HKU.out.trans (hk3 HKU.out.good HKU.out.box))
          have KF := Lib.hid (HK0.out.trans (show KeepsFrom W3.heap.size w2 V3 from ⟨hkf.size, fun k o hB hk ho => hkf.same k o (by omega) hk ho⟩))
          clear hJ3 hk3 hkf HR hy t1 t2 t6
          gi_wp2
          refine ⟨KF.out, ⟨KF.out.size, fun _ => (HST.out _ K3.out).2.2.2.2⟩, ?_, K3.out⟩
          rw [HPL.out, HSTEP.out, HS1.out]
          exact H3.out
        · have H3 := Lib.hid hJ3
          have KF := Lib.hid (HK0.out.trans (show KeepsFrom W3.heap.size w2 V3 from ⟨hkf.size, fun k o hB hk ho => hkf.same k o (by omega) hk ho⟩))
          clear hJ3 hkf HR hy t1 t2 t6
          gi_wp2
          exact ⟨KF.out, rfl, _, H3.out⟩
      · have d5 : (kdOf ns zn == 5) = false := by simpa using k5
        have HS1 : Hid (spans1 ns zn = []) := Lib.hid (by unfold spans1; rw [Int.toNat_natCast, if_neg k5, if_neg hn4])
        clear hn4 k5
        gi_wp2
        refine ⟨KeepsFrom.refl _ _, ⟨Nat.le_refl _, id⟩, ?_, J2.out⟩
        rw [HPL.out, HSTEP.out, HS1.out, List.append_nil]
        exact J1.out
  case done =>
    rintro D xs V hD hS ⟨g1, g2⟩ hmk
    have G1 := Lib.hid g1
    have HMK := Lib.hid hmk
    have HS := Lib.hid hS
    clear g1 g2 hmk hRun hS
    go_wp2
    simp only [Exit.noGoto]
    refine ⟨by simp, .inl ⟨D, _, rfl, run_takeDeferred HMK.out, ?_⟩⟩
    refine ⟨_, results_none rfl _ _ _, ⟨_, rfl⟩, .inl ⟨_, ?_, HJ.out.putObj _ G1.out (by omega) HMK.out rfl⟩⟩
    rw [HS.out, List.take_of_length_le (Nat.le_refl _)]
end Go.Proofs.Ytgeciomehldjdaa
