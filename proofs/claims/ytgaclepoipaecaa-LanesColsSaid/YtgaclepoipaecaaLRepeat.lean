/- Contract of the iterator lanes.spans over a table of whose kids none is a group of columns: a range over it may write its own box and the slice in it. -/
/- Contract of the iterator lanes.spans over any table: groups of columns too. -/
/- Contract of slices.Repeat over one lane. -/
import Derived.Test.YtgaclepoipaecaaLShown
import Derived.Test.YtgaclepoipaecaaRoundS
import Derived.Test.YtgaclepoipaecaaLSame
import Derived.Test.YtgaclepoipaecaaShelf
import Derived.Laws.CopyOwn
import Derived.Laws.CopyRow
import Derived.Laws.OwnMore
import Derived.Shelf.Spec.SlicesInsert
import Derived.Deep.RegionLaw
namespace Go.Proofs.Ytgaclepoipaecaa
open Go.RowKit Go.Shelf Go.Maps
set_option linter.unusedVariables false
attribute [local go_sem] Oper.semAt_some

/-- the block of the slice that lies in a box -/
def ownN (NR : Nat) (V : World) (g : Nat) : Prop := ∃ v, V.cell? ⟨NR, 0, none⟩ = some v ∧ v.ownBlock = some g
/-- what a round of the range over the iterator leaves alone: all but its box, the slice in it, and the loop's record -/
structure KU (NR LB : Nat) (V V' : World) : Prop where
  os : V'.os = V.os ∧ V'.tape = V.tape ∧ V'.output = V.output
  size : V.heap.size ≤ V'.heap.size
  same : ∀ g, g < V.heap.size → g ≠ NR → g ≠ LB → ¬ ownN NR V g → V'.heap[g]? = V.heap[g]?
  few : ∀ g, ownN NR V' g → ownN NR V g ∨ V.heap.size ≤ g
  good : ∀ g, ownN NR V' g → g < V'.heap.size
  box : ∃ u, V'.cell? ⟨NR, 0, none⟩ = some u
def KpS (NR LB : Nat) (V V' : World) : Prop := (∀ g, ownN NR V g → g < V.heap.size) → (∃ u, V.cell? ⟨NR, 0, none⟩ = some u) → KU NR LB V V'
theorem KU.trans {NR LB : Nat} {A B C : World} (h : KU NR LB A B) (k : KU NR LB B C) : KU NR LB A C := by
  refine ⟨⟨k.os.1.trans h.os.1, k.os.2.1.trans h.os.2.1, k.os.2.2.trans h.os.2.2⟩, Nat.le_trans h.size k.size, fun g hg h1 h2 h3 => ?_, fun g hg => ?_, k.good, k.box⟩
  · rw [k.same g (Nat.lt_of_lt_of_le hg h.size) h1 h2 (fun e => ?_), h.same g hg h1 h2 h3]
    rcases h.few g e with e | e
    · exact h3 e
    · omega
  · rcases k.few g hg with e | e
    · exact h.few g e
    · exact .inr (Nat.le_trans h.size e)
theorem KpS.trans {NR LB : Nat} {A B C : World} (h : KpS NR LB A B) (k : KpS NR LB B C) : KpS NR LB A C := fun hg hu => (h hg hu).trans (k (h hg hu).good (h hg hu).box)
theorem ownN_below {NR : Nat} {V W : World} (hb : Below V.heap.size V W) (hn : NR < V.heap.size) {g : Nat} : ownN NR W g ↔ ownN NR V g := by
  unfold ownN
  rw [hb.cell (p := ⟨NR, 0, none⟩) hn]
theorem KU.of_below {NR LB : Nat} {V W : World} (hb : Below V.heap.size V W) (hg : ∀ g, ownN NR V g → g < V.heap.size) (hu : ∃ u, V.cell? ⟨NR, 0, none⟩ = some u) : KU NR LB V W :=
  have hn : NR < V.heap.size := by obtain ⟨u, hu⟩ := hu; exact cell_lt hu
  ⟨⟨hb.os, hb.tape, hb.output⟩, hb.size, fun g h _ _ _ => hb.block g h, fun g h => .inl ((ownN_below hb hn).1 h), fun g h => Nat.lt_of_lt_of_le (hg g ((ownN_below hb hn).1 h)) hb.size, by obtain ⟨u, hu⟩ := hu; exact ⟨u, (hb.cell (p := ⟨NR, 0, none⟩) hn).trans hu⟩⟩
theorem ownN_grown {NR : Nat} {X Y : World} {row : Option Nat} (hg : X.grownBy Y row) (hr : NoCells X row) (hn : ∃ u, X.cell? ⟨NR, 0, none⟩ = some u) {g : Nat} : ownN NR Y g ↔ ownN NR X g := by
  obtain ⟨u, hu⟩ := hn
  unfold ownN
  rw [hu, cell_grown hg hr hu]
/-- the loop's own blocks grow -/
theorem KU.grown {NR LB B : Nat} {A X Y : World} {row : Option Nat} (h : KU NR LB A X) (hg : X.grownBy Y row) (hr : ∀ r, row = some r → B ≤ r ∧ ∃ o : Obj, X.heap[r]? = some o ∧ o.isCells = false) (hB : A.heap.size ≤ B) : KU NR LB A Y := by
  have hn := h.box
  have hnc : NoCells X row := fun r e => (hr r e).2
  refine ⟨⟨hg.os.trans h.os.1, hg.tape.trans h.os.2.1, hg.output.trans h.os.2.2⟩, Nat.le_trans h.size hg.size, fun g hgl h1 h2 h3 => ?_, fun g e => h.few g ((ownN_grown hg hnc hn).1 e), fun g e => Nat.lt_of_lt_of_le (h.good g ((ownN_grown hg hnc hn).1 e)) hg.size, by obtain ⟨u, hu⟩ := hn; exact ⟨u, cell_grown hg hnc hu⟩⟩
  rw [hg.block g (Nat.lt_of_lt_of_le hgl h.size) (fun e => by have := (hr g e.symm).1; omega), h.same g hgl h1 h2 h3]
theorem KU.cell {NR LB : Nat} {V V' : World} (h : KU NR LB V V') {a : Addr} {u : Value} (hu : V.cell? a = some u) (h1 : a.block ≠ NR) (h2 : a.block ≠ LB) (h3 : ¬ ownN NR V a.block) : V'.cell? a = some u := by
  rw [← hu]
  unfold World.cell?
  rw [h.same a.block (cell_lt hu) h1 h2 h3]
theorem KpS.put {NR LB : Nat} (hne : NR ≠ LB) (W : World) (o : Obj) (hl : LB < W.heap.size) : KpS NR LB W (W.putObj LB o) := fun hg hu => by
  have hc : (W.putObj LB o).cell? ⟨NR, 0, none⟩ = W.cell? ⟨NR, 0, none⟩ := by
    unfold World.cell?
    rw [World.putObj_heap_other hne]
  have hs : (W.putObj LB o).heap.size = W.heap.size := by simp [World.putObj]
  refine ⟨⟨rfl, rfl, rfl⟩, by omega, fun g _ _ h2 _ => World.putObj_heap_other h2, fun g e => .inl ?_, fun g e => ?_, by rw [hc]; exact hu⟩
  · unfold ownN at e ⊢; rwa [hc] at e
  · rw [hs]; exact hg g (by unfold ownN at e ⊢; rwa [hc] at e)
/-- how many columns a node is for -/
def csOf (ns : List Nd) (z : Int) : Int := (ns[z.toNat]?.map fun n => n.s.cs).getD 0
def spans1 (ns : List Nd) (z : Int) : List ((Int × Int) × Int) :=
  if kdOf ns z.toNat = 5 then [((z, -1), csOf ns z)]
  else if kdOf ns z.toNat = 4 then (if kindK ns 5 z = [] then [((-1, z), csOf ns z)] else (kindK ns 5 z).map fun c => ((c, z), csOf ns c))
  else []
def spansP (ns : List Nd) (ks : List Int) : List ((Int × Int) × Int) := ks.flatMap (spans1 ns)
theorem spansP_take (ns : List Nd) (ks : List Int) (k : Nat) (z : Int) (h : ks[k]? = some z) : spansP ns (ks.take (k + 1)) = spansP ns (ks.take k) ++ spans1 ns z := by
  unfold spansP
  rw [List.take_add_one, h, List.flatMap_append]
  simp
theorem spansP_at (ns : List Nd) (ks : List Int) (k : Nat) (z : Int) (h : ks[k]? = some z) : spansP ns ks = spansP ns (ks.take k) ++ (spans1 ns z ++ spansP ns (ks.drop (k + 1))) := by
  have h1 : ks = ks.take k ++ ks.drop k := (List.take_append_drop k ks).symm
  have h2 : ks.drop k = z :: ks.drop (k + 1) := by
    obtain ⟨hl, e⟩ := List.getElem?_eq_some_iff.1 h
    rw [List.drop_eq_getElem_cons hl, e]
  conv => lhs; rw [h1, h2]
  unfold spansP
  rw [List.flatMap_append, List.flatMap_cons]
/-- what the rounds over the kids keep -/
def SpI (J : List ((Int × Int) × Int) → World → Prop) (NR LB : Nat) (ns : List Nd) (ks : List Int) (W3 : World) (pre : List (Int × Int)) (X : World) : Prop :=
  J (spansP ns (ks.take pre.length)) X ∧ KU NR LB W3 X
def SpX (Jx : List ((Int × Int) × Int) → World → Prop) (c : Code) (pre : List (Int × Int)) (X : World) : Prop := c = .exit 0 ∧ ∃ ys, Jx ys X

set_option maxRecDepth 100000 in
set_option maxHeartbeats 4000000 in
theorem spans_cols (n : Nat) (gl ga L m cap p NR LB base : Nat) (kv : Value) (ks : List Int) (ns : List Nd) (hc : CapOk kv) (hm : m ≤ 1000000) (hp : p < m) (hml : ns.length = m)
    (hks : ∀ z ∈ ks, 0 ≤ z ∧ z < (m : Int)) (hno : ∀ z ∈ ks, kdOf ns z.toNat ≠ 4) (w1 w : World) (hP : PageAt w1 (.slice (some ⟨L, 0, none⟩) m cap) ns) (hb1 : w1.heap.size = base) (hbw : Below base w1 w)
    (hR : SpanM gl ga L 0 m cap p kv ks (kdOf ns) w) (hLB : LB = w.heap.size + 1) (hN : base ≤ NR ∧ NR < w.heap.size ∧ gl ≠ NR ∧ ga ≠ NR) (hL : L < base) (hkl : ks = [] ∨ ∃ qb qo c, kv = .slice (some ⟨qb, qo, none⟩) ks.length c ∧ qb < base)
    (hown : ∀ g, ownN NR w g → base ≤ g ∧ g < w.heap.size ∧ g ≠ gl ∧ g ≠ ga) (hu : ∃ u, w.cell? ⟨NR, 0, none⟩ = some u) :
    SeqOwn Fence.wide n Try.prog 26 #[.pointer (some ⟨gl, 0, none⟩), .pointer (some ⟨ga, 0, none⟩)] encSp (KpS NR LB) (fun pre x => (spansP ns ks)[pre.length]? = some x) (fun ys => ys = spansP ns ks) (fun _ => True) w := by
  intro l J Jx W hW hW2 hJ hJx hY h0
  have hsz := hW.size
  have HRW := Lib.hid (hR.below hW)
  have HKF := Lib.hid (fun Y => kidsF_any (some ⟨L, 0, none⟩) m cap (p : Int) Y)
  have HNO := Lib.hid hno
  have HKS := Lib.hid hks
  have HY := Lib.hid hY
  have HJ := Lib.hid hJ
  have HJx := Lib.hid hJx
  have H0 := Lib.hid h0
  have HP := Lib.hid hP
  have HML := Lib.hid hml
  have HKL := Lib.hid hkl
  have HBW : Hid (Below base w1 W) := Lib.hid (hbw.trans (hW.mono (by have := hbw.size; omega)))
  have HOW : Hid (∀ g, ownN NR W g → base ≤ g ∧ g < w.heap.size ∧ g ≠ gl ∧ g ≠ ga) := Lib.hid fun g e => hown g ((ownN_below hW hN.2.1).1 e)
  have HU : Hid (∃ u, W.cell? ⟨NR, 0, none⟩ = some u) := Lib.hid (by obtain ⟨u, hu⟩ := hu; exact ⟨u, (hW.cell (p := ⟨NR, 0, none⟩) hN.2.1).trans hu⟩)
  have HBZ : Hid (base ≤ w.heap.size) := Lib.hid (by omega)
  refine callsIn_of_wp_marks Try.func26 rfl trivial (wpIn_wide.2 ?_) rfl
  simp only [Try.ntmps26, List.size_toArray, List.length_cons, List.length_nil, Nat.reduceAdd, Nat.reduceSub, Array.replicate_succ, Array.replicate_zero, List.push_toArray, List.append_toArray, List.nil_append, List.cons_append]
  have c1 := HRW.out.bl
  have c2 := HRW.out.ba
  have l1 := HRW.out.lt.1
  have l2 := HRW.out.lt.2.1
  have hgl : gl < w.heap.size ∧ ga < w.heap.size := ⟨hR.lt.1, hR.lt.2.1⟩
  clear hY hJ hJx h0 hR hno hks hW hP hml hkl hbw hown hu
  go_wp2
  refine wp_scope_straight ?_
  go_wp2
  refine wp_label ?_
  go_wp2_with (go_at_call 22; refine (HKF.out _).mono ?_; rintro e w' ⟨rfl, rfl⟩)
  obtain ⟨N, hNN⟩ : ∃ N, W.heap.size = N := ⟨_, rfl⟩
  obtain ⟨W3, hW3⟩ : ∃ W3, ((W.alloc (.cells #[.func (.yield l) #[] #[]] 69)).alloc (.cells #[.slice (some ⟨L, 0, none⟩) m cap] 22)).alloc (.cells #[.int .i64 (p : Int)] 3) = W3 := ⟨_, rfl⟩
  have s3 : W3.heap.size = N + 3 := by rw [← hW3]; simp [hNN]
  have b3 : Below W.heap.size W W3 := by rw [← hW3]; exact (((Below.refl _ W).alloc (Nat.le_refl _) _).alloc (by simp) _).alloc (by simp; omega) _
  have yY : Whole W3 N 69 [.func (.yield l) #[] #[]] := by rw [← hW3]; exact ((whole_new W [.func (.yield l) #[] #[]] 69 _ hNN.symm).alloc _).alloc _
  have y0 : Whole W3 (N + 1) 22 [.slice (some ⟨L, 0, none⟩) m cap] := by rw [← hW3]; exact (whole_new (W.alloc (.cells #[.func (.yield l) #[] #[]] 69)) [.slice (some ⟨L, 0, none⟩) m cap] 22 _ (by simp [hNN])).alloc _
  have y1 : Whole W3 (N + 2) 3 [.int .i64 (p : Int)] := by rw [← hW3]; exact whole_new ((W.alloc (.cells #[.func (.yield l) #[] #[]] 69)).alloc (.cells #[.slice (some ⟨L, 0, none⟩) m cap] 22)) [.int .i64 (p : Int)] 3 _ (by simp [hNN])
  have HOW3 : Hid (∀ g, ownN NR W3 g → base ≤ g ∧ g < w.heap.size ∧ g ≠ gl ∧ g ≠ ga) := Lib.hid fun g e => HOW.out g ((ownN_below b3 (by omega)).1 e)
  have HB3 : Hid (Below base w1 W3) := Lib.hid (HBW.out.trans (b3.mono (by have := HBZ.out; omega)))
  have HG3 : Hid (W3.cell? ⟨gl, 0, none⟩ = some (.slice (some ⟨L, 0, none⟩) m cap) ∧ W3.cell? ⟨N, 0, none⟩ = some (.func (.yield l) #[] #[]) ∧ W3.cell? ⟨N + 1, 0, none⟩ = some (.slice (some ⟨L, 0, none⟩) m cap) ∧ W3.cell? ⟨N + 2, 0, none⟩ = some (.int .i64 p)) :=
    Lib.hid ⟨(b3.cell (p := ⟨gl, 0, none⟩) l1).trans c1, yY.cellAt 0, y0.cellAt 0, y1.cellAt 0⟩
  have HU3 : Hid (∃ u, W3.cell? ⟨NR, 0, none⟩ = some u) := Lib.hid (by obtain ⟨u, hu⟩ := HU.out; exact ⟨u, (b3.cell (p := ⟨NR, 0, none⟩) (show NR < W.heap.size by omega)).trans hu⟩)
  -- what holds as long as the rounds keep to their own
  have HST : Hid (∀ X, KU NR LB W3 X → X.cell? ⟨gl, 0, none⟩ = some (.slice (some ⟨L, 0, none⟩) m cap) ∧ X.cell? ⟨N, 0, none⟩ = some (.func (.yield l) #[] #[]) ∧ PageAt X (.slice (some ⟨L, 0, none⟩) m cap) ns ∧ Below base w1 X ∧ KidM (N + 3) (N + 1) (N + 2) L 0 m cap p kv ks (kdOf ns) X) := Lib.hid (by
    intro X hX
    have hz := hX.size
    have hbz := HBZ.out
    have nb : ∀ g, g < base → X.heap[g]? = w1.heap[g]? := fun g hg => (hX.same g (by omega) (by omega) (by omega) (fun e => by have := (HOW3.out g e).1; omega)).trans (HB3.out.block g hg)
    have hbX : Below base w1 X := ⟨hX.os.1.trans HB3.out.os, hX.os.2.1.trans HB3.out.tape, hX.os.2.2.trans HB3.out.output, Nat.le_trans HB3.out.size hX.size, nb⟩
    have h1 : X.cell? ⟨N + 1, 0, none⟩ = some (.slice (some ⟨L, 0, none⟩) m cap) := hX.cell HG3.out.2.2.1 (show N + 1 ≠ NR by omega) (show N + 1 ≠ LB by omega) (fun e => by have := (HOW3.out _ e).2.1; dsimp only at this; omega)
    have h2 : X.cell? ⟨N + 2, 0, none⟩ = some (.int .i64 p) := hX.cell HG3.out.2.2.2 (show N + 2 ≠ NR by omega) (show N + 2 ≠ LB by omega) (fun e => by have := (HOW3.out _ e).2.1; dsimp only at this; omega)
    refine ⟨hX.cell HG3.out.1 hN.2.2.1 (show gl ≠ LB by omega) (fun e => (HOW3.out _ e).2.2.1 rfl), hX.cell HG3.out.2.1 (show N ≠ NR by omega) (show N ≠ LB by omega) (fun e => by have := (HOW3.out _ e).2.1; dsimp only at this; omega), HP.out.below (by rw [hb1]; exact hbX), hbX, ?_⟩
    have hbX3 : ∀ (a : Addr) (u : Value), W3.cell? a = some u → a.block < base → X.cell? a = some u := fun a u ha hb => hX.cell ha (by omega) (by omega) (fun e => by have := (HOW3.out _ e).1; omega)
    obtain ⟨q1, q2, q3, q4, q5, q6⟩ := HRW.out
    refine ⟨by omega, by omega, h1, h2, hbX3 _ _ ((b3.cell (p := ⟨L, 0 + p * 34 + 1, none⟩) q1.2.2).trans q4) (show L < base from hL), ?_, ?_, fun i hi => hbX3 _ _ ((b3.cell (p := ⟨L, 0 + i * 34, none⟩) q1.2.2).trans (q6 i hi)) (show L < base from hL)⟩
    · obtain ⟨g1, ⟨a, c', e, hz'⟩ | ⟨b, off, c', e, hcc⟩⟩ := q5
      · exact ⟨g1, .inl ⟨a, c', e, hz'⟩⟩
      · refine ⟨g1, .inr ⟨b, off, c', e, fun j hj => ?_⟩⟩
        rcases HKL.out with h | ⟨qb, qo, c, e', hq⟩
        · subst h; simp at hj
        · rw [e] at e'
          injection e' with e1; injection e1 with e1; injection e1 with e1 e4
          exact hbX3 _ _ ((b3.cell (p := ⟨b, off + j, none⟩) (cell_lt (hcc j hj))).trans (hcc j hj)) (show b < base by omega)
    · rcases HKL.out with h | ⟨qb, qo, c, e', hq⟩
      · exact .inl h
      · exact .inr ⟨qb, qo, c, e', by omega⟩)
  have HG0 : Hid (∀ g, ownN NR W3 g → g < W3.heap.size) := Lib.hid fun g e => by have := HOW3.out g e; omega
  have HK3 : Hid (KU NR LB W3 W3) := Lib.hid (KU.of_below (Below.refl _ _) HG0.out HU3.out)
  have hRun := (HST.out W3 HK3.out).2.2.2.2
  have HI0 : Hid (SpI J NR LB ns ks W3 [] W3) := Lib.hid ⟨by simpa [spansP] using HJ.out [] W W3 none H0.out (grown_of_below b3) (fun r e => by cases e), HK3.out⟩
  rw [hNN, hW3]
  clear hW3 y0 y1 yY b3 c1 c2 l1 l2 HKF HBW HOW HU H0
  refine (wpIn_wide (n := 3)).1 (range_next (F := Fence.wide) rfl (by omega) (gf := 37) (lb := #[.pointer (some ⟨N + 1, 0, none⟩), .pointer (some ⟨N + 1 + 1, 0, none⟩)]) rfl trivial (enters_of Try.func37 (by kernel_rfl) rfl)
    (Kp := KeepR (KidM (N + 3) (N + 1) (N + 2) L 0 m cap p kv ks (kdOf ns))) (fun _ _ _ h k => h.trans k) (fun W l o h1 h2 => ⟨by simp, fun hr => hr.below (below_put W o (by omega) h2)⟩)
    (lkids_next _ (by omega) (N + 3) (N + 1) (N + 2) L 0 m cap p kv ks (kdOf ns) hc (by omega) hp HKS.out W3 hRun s3.symm) (fun x => rfl)
    (SpI J NR LB ns ks W3) (SpX Jx) ?own ?ownx
    HI0.out ?round ?done ?stop)
  case own =>
    rintro pre X1 Y1 row ⟨g1, g2⟩ hg hr
    exact ⟨HJ.out _ X1 Y1 row g1 hg (fun r e => ⟨by have := (hr r e).1; omega, (hr r e).2⟩), g2.grown hg hr (Nat.le_refl _)⟩
  case ownx =>
    rintro c pre X1 Y1 row ⟨rfl, ys, g1⟩ hg hr
    exact ⟨rfl, ys, HJx.out _ X1 Y1 row g1 hg (fun r e => ⟨by have := (hr r e).1; omega, (hr r e).2⟩)⟩
  case stop =>
    rintro D c pre V hD _ ⟨rfl, ys, hF⟩ hmk
    have HF := Lib.hid hF
    have HMK := Lib.hid hmk
    clear hF hmk hRun
    refine wpIn_exit ?_
    go_wp2
    simp only [Exit.noGoto]
    refine ⟨by simp, .inl ⟨D, _, rfl, run_takeDeferred HMK.out, ?_⟩⟩
    exact ⟨_, results_none rfl _ _ _, ⟨_, rfl⟩, .inr ⟨_, trivial, HJx.out.putObj _ HF.out (by omega) HMK.out rfl⟩⟩
  case round =>
    rintro l' pre ⟨z, kz⟩ V hlq ⟨i1, i2⟩ ⟨hz1, hz2⟩
    dsimp only at hz1 hz2
    subst hz2
    have hzm := List.mem_iff_getElem?.2 ⟨pre.length, hz1⟩
    have hzr := HKS.out z hzm
    obtain ⟨zn, rfl⟩ : ∃ zn : Nat, z = (zn : Int) := ⟨z.toNat, by omega⟩
    have hn4 := HNO.out _ hzm
    rw [Int.toNat_natCast] at hn4 ⊢
    have d4 : (kdOf ns zn == 4) = false := by simpa using hn4
    refine ⟨{ tmps := #[.func (.yield l) #[] #[], .pointer (some ⟨gl, 0, none⟩), .pointer (some ⟨ga, 0, none⟩), .pointer (some ⟨N, 0, none⟩), .int .i64 zn, .int .i64 (kdOf ns zn), undef, undef, undef, .slice (some ⟨L, 0, none⟩) m cap, .int .i64 p, .func (.func 37) #[] #[.pointer (some ⟨N + 1, 0, none⟩), .pointer (some ⟨N + 1 + 1, 0, none⟩)], .int .i64 zn, .int .i64 (kdOf ns zn), undef, undef, undef, undef, undef, undef, undef, undef, undef, undef, undef, undef, undef, undef, undef, undef, undef, undef, undef, undef, undef, undef, undef, undef, undef, undef, undef, undef, undef, undef, undef, undef, undef, undef, undef, undef, undef, undef, undef, undef, undef, undef, undef, undef, undef, undef, undef, undef, undef, undef, undef, undef, undef, undef], defers := [] }, V, ?_, KeepsFrom.refl _ _, ⟨Nat.le_refl _, id⟩, ?_⟩
    · intro K hK
      dsimp only [encK]
      gi_wp2
      exact hK
    · intro V₂ hgV hnc' hbl
      obtain ⟨xs, hxs⟩ : ∃ xs, spansP ns (ks.take pre.length) = xs := ⟨_, rfl⟩
      have hstep := spansP_take ns ks pre.length zn hz1
      have hfull := spansP_at ns ks pre.length zn hz1
      rw [hxs] at i1 hstep hfull
      have j1 := HJ.out _ V V₂ (some l') i1 hgV (fun r e => by injection e with e; exact ⟨by omega, hnc' r (by rw [e])⟩)
      have j2 := i2.grown hgV (B := W3.heap.size) (fun r e => by injection e with e; exact ⟨by omega, hnc' r (by rw [e])⟩) (Nat.le_refl _)
      have J1 := Lib.hid j1
      have J2 := Lib.hid j2
      have HSTEP := Lib.hid hstep
      have HFULL := Lib.hid hfull
      have HPL : Hid ((pre ++ [((zn : Int), kdOf ns zn)]).length = pre.length + 1) := Lib.hid (by simp)
      clear i1 i2 j1 j2 hgV hnc' hbl hRun hxs hstep hfull
      by_cases k5 : kdOf ns zn = 5
      · have d5 : (kdOf ns zn == 5) = true := by simpa using k5
        have HS1 : Hid (spans1 ns zn = [(((zn : Int), -1), csOf ns zn)]) := Lib.hid (by unfold spans1; rw [Int.toNat_natCast, if_pos k5])
        clear hn4 k5
        gi_wp2
        refine round_still_tail 9 (by kernel_rfl) (by kernel_rfl) (by simp only [LetsOut, Exit.inBlock]; rintro ⟨x, y, h⟩; exact h) (by decide +kernel) (fun w2 hw2 => ?_)
        have bD : Below V₂.heap.size V₂ w2 := by rw [← hw2]; exact below_dn _ V₂ 1
        have hKU : KU NR LB W3 w2 := J2.out.trans (KU.of_below bD J2.out.good J2.out.box)
        have hJw : J xs w2 := HJ.out _ V₂ w2 none J1.out (grown_of_below bD) (fun r e => by cases e)
        obtain ⟨t1, t2, t3, t4, t5⟩ := HST.out w2 hKU
        obtain ⟨nd, hnd⟩ : ∃ nd, ns[zn]? = some nd := ⟨_, List.getElem?_eq_getElem (by rw [HML.out]; omega)⟩
        have hcs : csOf ns zn = nd.s.cs := by unfold csOf; rw [Int.toNat_natCast, hnd]; rfl
        have t6 : w2.cell? ⟨L, zn * 34 + 2 + 20, none⟩ = some (.int .i64 nd.s.cs) := by
          obtain ⟨_, _, ⟨a, c', e, hz'⟩ | ⟨b, off, c', e, hcc⟩⟩ := t3
          · subst hz'; simp at hnd
          · injection e with e1; injection e1 with e1; injection e1 with e1 e4
            subst e1 e4
            have h := hcc zn nd hnd 22 _ (nd.sty 20 _ rfl)
            rwa [show 0 + zn * 34 + 22 = zn * 34 + 2 + 20 by omega] at h
        obtain ⟨fn, tmps, assign, body, hy, hR⟩ := HY.out xs (((zn : Int), -1), csOf ns zn) w2 hJw (by rw [HFULL.out, HS1.out]; simp)
        rw [hcs] at hy hR HS1
        dsimp only [encSp] at hy
        have HR := Lib.hid hR
        have HKU := Lib.hid hKU
        have hk0 : KeepsFrom W3.heap.size V₂ w2 := by rw [← hw2]; exact (KeepsOthers.drew V₂).from _
        have HK0 := Lib.hid hk0
        have HW2Z : Hid (W3.heap.size ≤ w2.heap.size) := Lib.hid hKU.size
        have lgl : gl < w2.heap.size := by have := HW2Z.out; omega
        have lN : N < w2.heap.size := by have := HW2Z.out; omega
        have lL : L < w2.heap.size := by have := HW2Z.out; have := HBZ.out; omega
        have hzl : zn < m := by omega
        clear hw2 bD hKU hJw t3 t4 t5 hR hk0 hcs J1 J2
        simp only [List.take_succ_cons, List.take_zero, List.drop_succ_cons, List.drop_zero]
        still_step
        still_step
        still_step
        still_step
        still_step
        still_step
        still_step
        still_step
        still_step
        refine wpStill_nil ?_
        gi_wp2
        refine RoundIn.mono (show RoundIn _ _ _ _ _ _ _ _ _ _ from ⟨HR.out.1, fun c cs _ => HR.out.2 c cs (room_wide _)⟩) ?_
        rintro e V3 (⟨rfl, hJ3, hk3, hkf⟩ | ⟨rfl, hJ3, hkf⟩)
        · have H3 := Lib.hid hJ3
          have K3 := Lib.hid (HKU.out.trans (hk3 HKU.out.good HKU.out.box))
          have KF := Lib.hid (HK0.out.trans (show KeepsFrom W3.heap.size w2 V3 from ⟨hkf.size, fun k o hB hk ho => hkf.same k o (by omega) hk ho⟩))
          clear hJ3 hk3 hkf HR hy t1 t2 t6
          gi_wp2
          refine ⟨KF.out, ⟨KF.out.size, fun _ => (HST.out _ K3.out).2.2.2.2⟩, ?_, K3.out⟩
          rw [HPL.out, HSTEP.out, HS1.out]
          exact H3.out
        · have H3 := Lib.hid hJ3
          have KF := Lib.hid (HK0.out.trans (show KeepsFrom W3.heap.size w2 V3 from ⟨hkf.size, fun k o hB hk ho => hkf.same k o (by omega) hk ho⟩))
          clear hJ3 hkf HR hy t1 t2 t6
          gi_wp2
          exact ⟨KF.out, rfl, _, H3.out⟩
      · have d5 : (kdOf ns zn == 5) = false := by simpa using k5
        have HS1 : Hid (spans1 ns zn = []) := Lib.hid (by unfold spans1; rw [Int.toNat_natCast, if_neg k5, if_neg hn4])
        clear hn4 k5
        gi_wp2
        refine ⟨KeepsFrom.refl _ _, ⟨Nat.le_refl _, id⟩, ?_, J2.out⟩
        rw [HPL.out, HSTEP.out, HS1.out, List.append_nil]
        exact J1.out
  case done =>
    rintro D xs V hD hS ⟨g1, g2⟩ hmk
    have G1 := Lib.hid g1
    have HMK := Lib.hid hmk
    have HS := Lib.hid hS
    clear g1 g2 hmk hRun hS
    go_wp2
    simp only [Exit.noGoto]
    refine ⟨by simp, .inl ⟨D, _, rfl, run_takeDeferred HMK.out, ?_⟩⟩
    refine ⟨_, results_none rfl _ _ _, ⟨_, rfl⟩, .inl ⟨_, ?_, HJ.out.putObj _ G1.out (by omega) HMK.out rfl⟩⟩
    rw [HS.out, List.take_of_length_le (Nat.le_refl _)]
end Go.Proofs.Ytgaclepoipaecaa

namespace Go.Proofs.Ytgaclepoipaecaa
open Go.RowKit Go.Shelf Go.Maps
set_option linter.unusedVariables false
attribute [local go_sem] Oper.semAt_some

theorem own_len2 {W : World} {base e size n : Nat} {p : Option Addr} {k c : Nat} {xs : List Value} (h : W.ownsRow base e size (.slice p k c) n xs) : k = n := by
  rcases h.2 with ⟨e, h0⟩ | ⟨g, cap, cur, e, _⟩
  · injection e with _ e _; omega
  · injection e with _ e _
theorem own_cells2 {W : World} {base e size n : Nat} {p : Option Addr} {k c : Nat} {xs : List Value} (h : W.ownsRow base e size (.slice p k c) n xs) (hn : 0 < n) : ∃ g, p = some ⟨g, 0, none⟩ ∧ base ≤ g ∧ g < W.heap.size ∧ ∀ j u, xs[j]? = some u → W.cell? ⟨g, j, none⟩ = some u := by
  rcases h.2 with ⟨_, h0⟩ | ⟨g, cap, cur, e, hb, hg, hnc, hcm, hcs, htk⟩
  · omega
  · injection e with e1 e2 e3
    refine ⟨g, e1, hb, (Array.getElem?_eq_some_iff.1 hg).1, fun j u hj => ?_⟩
    rw [← htk] at hj
    have hj2 : cur.toList[j]? = some u := by
      have hl := (List.getElem?_eq_some_iff.1 hj).1
      rw [List.getElem?_take_of_lt (by rw [List.length_take] at hl; omega)] at hj
      exact hj
    simp [World.cell?, hg]
    simpa using hj2
/-- the lanes of a group with columns -/
def grpS (ns : List Nd) (z : Int) (cs : List Int) : List ((Int × Int) × Int) := cs.map fun c => ((c, z), csOf ns c)
theorem grpS_take (ns : List Nd) (z : Int) (cs : List Int) (j : Nat) (c : Int) (h : cs[j]? = some c) : grpS ns z (cs.take (j + 1)) = grpS ns z (cs.take j) ++ [((c, z), csOf ns c)] := by
  unfold grpS; rw [List.take_add_one, h, List.map_append]; rfl
theorem fndP_one (ns : List Nd) (z : Int) : fndP ns 5 [z] = (kindK ns 5 z).map fun c => (c, z) := by simp [fndP]
theorem fnd_cell (z : Int) (cs : List Int) (j : Nat) (c : Int) (h : cs[j]? = some c) (i : Nat) (u : Value) (hu : (encL (c, z))[i]? = some u) : ((cs.map fun c => (c, z)).flatMap encL)[j * 2 + i]? = some u := by
  induction cs generalizing j with
  | nil => simp at h
  | cons a l ih =>
    have hi : i < 2 := by have := (List.getElem?_eq_some_iff.1 hu).1; simpa [encL] using this
    cases j with
    | zero =>
      simp at h; subst h
      rw [List.map_cons, List.flatMap_cons, List.getElem?_append_left (by simp [encL]; omega)]; simpa using hu
    | succ j =>
      rw [List.map_cons, List.flatMap_cons, List.getElem?_append_right (by simp [encL]; omega), show (j + 1) * 2 + i - (encL (a, z)).length = j * 2 + i by simp [encL]; omega]
      exact ih j (by simpa using h)
/-- a list of one's own stays while the rounds keep to theirs -/
theorem KU.own {NR LB : Nat} {X Y : World} {g : Nat} (h : KU NR LB X Y) (hg : g < X.heap.size) (h1 : g ≠ NR) (h2 : g ≠ LB) (h3 : ¬ ownN NR X g) {a : Addr} {u : Value} (ha : a.block = g) (hu : X.cell? a = some u) : Y.cell? a = some u :=
  h.cell hu (by rw [ha]; exact h1) (by rw [ha]; exact h2) (by rw [ha]; exact h3)
set_option maxRecDepth 100000 in
set_option maxHeartbeats 4000000 in
theorem spans_all (n : Nat) (gl ga L m cap p NR LB base : Nat) (kv : Value) (ks : List Int) (ns : List Nd) (hc : CapOk kv) (hm : m ≤ 1000000) (hp : p < m) (hml : ns.length = m)
    (hks : ∀ z ∈ ks, 0 ≤ z ∧ z < (m : Int)) (hm6 : m ≤ 65536) (hKf : ∀ n ∈ ns, n.ks.length ≤ 70000) (hlk : ∀ n ∈ ns, ∀ z ∈ n.ks, 0 ≤ z ∧ z < (m : Int)) (w1 w : World) (hP : PageAt w1 (.slice (some ⟨L, 0, none⟩) m cap) ns) (hb1 : w1.heap.size = base) (hbw : Below base w1 w)
    (hR : SpanM gl ga L 0 m cap p kv ks (kdOf ns) w) (hLB : LB = w.heap.size + 1) (hN : base ≤ NR ∧ NR < w.heap.size ∧ gl ≠ NR ∧ ga ≠ NR) (hL : L < base) (hkl : ks = [] ∨ ∃ qb qo c, kv = .slice (some ⟨qb, qo, none⟩) ks.length c ∧ qb < base)
    (hown : ∀ g, ownN NR w g → base ≤ g ∧ g < w.heap.size ∧ g ≠ gl ∧ g ≠ ga) (hu : ∃ u, w.cell? ⟨NR, 0, none⟩ = some u) :
    SeqOwn Fence.wide n Try.prog 26 #[.pointer (some ⟨gl, 0, none⟩), .pointer (some ⟨ga, 0, none⟩)] encSp (KpS NR LB) (fun pre x => (spansP ns ks)[pre.length]? = some x) (fun ys => ys = spansP ns ks) (fun _ => True) w := by
  intro l J Jx W hW hW2 hJ hJx hY h0
  have hsz := hW.size
  have HRW := Lib.hid (hR.below hW)
  have HKF := Lib.hid (fun Y => kidsF_any (some ⟨L, 0, none⟩) m cap (p : Int) Y)
  have HKL2 := Lib.hid hKf
  have HLK := Lib.hid hlk
  have HKS := Lib.hid hks
  have HY := Lib.hid hY
  have HJ := Lib.hid hJ
  have HJx := Lib.hid hJx
  have H0 := Lib.hid h0
  have HP := Lib.hid hP
  have HML := Lib.hid hml
  have HKL := Lib.hid hkl
  have HBW : Hid (Below base w1 W) := Lib.hid (hbw.trans (hW.mono (by have := hbw.size; omega)))
  have HOW : Hid (∀ g, ownN NR W g → base ≤ g ∧ g < w.heap.size ∧ g ≠ gl ∧ g ≠ ga) := Lib.hid fun g e => hown g ((ownN_below hW hN.2.1).1 e)
  have HU : Hid (∃ u, W.cell? ⟨NR, 0, none⟩ = some u) := Lib.hid (by obtain ⟨u, hu⟩ := hu; exact ⟨u, (hW.cell (p := ⟨NR, 0, none⟩) hN.2.1).trans hu⟩)
  have HBZ : Hid (base ≤ w.heap.size) := Lib.hid (by omega)
  refine callsIn_of_wp_marks Try.func26 rfl trivial (wpIn_wide.2 ?_) rfl
  simp only [Try.ntmps26, List.size_toArray, List.length_cons, List.length_nil, Nat.reduceAdd, Nat.reduceSub, Array.replicate_succ, Array.replicate_zero, List.push_toArray, List.append_toArray, List.nil_append, List.cons_append]
  have c1 := HRW.out.bl
  have c2 := HRW.out.ba
  have l1 := HRW.out.lt.1
  have l2 := HRW.out.lt.2.1
  have hgl : gl < w.heap.size ∧ ga < w.heap.size := ⟨hR.lt.1, hR.lt.2.1⟩
  clear hY hJ hJx h0 hR hKf hlk hks hW hP hml hkl hbw hown hu
  go_wp2
  refine wp_scope_straight ?_
  go_wp2
  refine wp_label ?_
  go_wp2_with (go_at_call 22; refine (HKF.out _).mono ?_; rintro e w' ⟨rfl, rfl⟩)
  obtain ⟨N, hNN⟩ : ∃ N, W.heap.size = N := ⟨_, rfl⟩
  obtain ⟨W3, hW3⟩ : ∃ W3, ((W.alloc (.cells #[.func (.yield l) #[] #[]] 69)).alloc (.cells #[.slice (some ⟨L, 0, none⟩) m cap] 22)).alloc (.cells #[.int .i64 (p : Int)] 3) = W3 := ⟨_, rfl⟩
  have s3 : W3.heap.size = N + 3 := by rw [← hW3]; simp [hNN]
  have b3 : Below W.heap.size W W3 := by rw [← hW3]; exact (((Below.refl _ W).alloc (Nat.le_refl _) _).alloc (by simp) _).alloc (by simp; omega) _
  have yY : Whole W3 N 69 [.func (.yield l) #[] #[]] := by rw [← hW3]; exact ((whole_new W [.func (.yield l) #[] #[]] 69 _ hNN.symm).alloc _).alloc _
  have y0 : Whole W3 (N + 1) 22 [.slice (some ⟨L, 0, none⟩) m cap] := by rw [← hW3]; exact (whole_new (W.alloc (.cells #[.func (.yield l) #[] #[]] 69)) [.slice (some ⟨L, 0, none⟩) m cap] 22 _ (by simp [hNN])).alloc _
  have y1 : Whole W3 (N + 2) 3 [.int .i64 (p : Int)] := by rw [← hW3]; exact whole_new ((W.alloc (.cells #[.func (.yield l) #[] #[]] 69)).alloc (.cells #[.slice (some ⟨L, 0, none⟩) m cap] 22)) [.int .i64 (p : Int)] 3 _ (by simp [hNN])
  have HOW3 : Hid (∀ g, ownN NR W3 g → base ≤ g ∧ g < w.heap.size ∧ g ≠ gl ∧ g ≠ ga) := Lib.hid fun g e => HOW.out g ((ownN_below b3 (by omega)).1 e)
  have HB3 : Hid (Below base w1 W3) := Lib.hid (HBW.out.trans (b3.mono (by have := HBZ.out; omega)))
  have HG3 : Hid (W3.cell? ⟨gl, 0, none⟩ = some (.slice (some ⟨L, 0, none⟩) m cap) ∧ W3.cell? ⟨N, 0, none⟩ = some (.func (.yield l) #[] #[]) ∧ W3.cell? ⟨N + 1, 0, none⟩ = some (.slice (some ⟨L, 0, none⟩) m cap) ∧ W3.cell? ⟨N + 2, 0, none⟩ = some (.int .i64 p)) :=
    Lib.hid ⟨(b3.cell (p := ⟨gl, 0, none⟩) l1).trans c1, yY.cellAt 0, y0.cellAt 0, y1.cellAt 0⟩
  have HU3 : Hid (∃ u, W3.cell? ⟨NR, 0, none⟩ = some u) := Lib.hid (by obtain ⟨u, hu⟩ := HU.out; exact ⟨u, (b3.cell (p := ⟨NR, 0, none⟩) (show NR < W.heap.size by omega)).trans hu⟩)
  -- what holds as long as the rounds keep to their own
  have HST : Hid (∀ X, KU NR LB W3 X → X.cell? ⟨gl, 0, none⟩ = some (.slice (some ⟨L, 0, none⟩) m cap) ∧ X.cell? ⟨N, 0, none⟩ = some (.func (.yield l) #[] #[]) ∧ PageAt X (.slice (some ⟨L, 0, none⟩) m cap) ns ∧ Below base w1 X ∧ KidM (N + 3) (N + 1) (N + 2) L 0 m cap p kv ks (kdOf ns) X) := Lib.hid (by
    intro X hX
    have hz := hX.size
    have hbz := HBZ.out
    have nb : ∀ g, g < base → X.heap[g]? = w1.heap[g]? := fun g hg => (hX.same g (by omega) (by omega) (by omega) (fun e => by have := (HOW3.out g e).1; omega)).trans (HB3.out.block g hg)
    have hbX : Below base w1 X := ⟨hX.os.1.trans HB3.out.os, hX.os.2.1.trans HB3.out.tape, hX.os.2.2.trans HB3.out.output, Nat.le_trans HB3.out.size hX.size, nb⟩
    have h1 : X.cell? ⟨N + 1, 0, none⟩ = some (.slice (some ⟨L, 0, none⟩) m cap) := hX.cell HG3.out.2.2.1 (show N + 1 ≠ NR by omega) (show N + 1 ≠ LB by omega) (fun e => by have := (HOW3.out _ e).2.1; dsimp only at this; omega)
    have h2 : X.cell? ⟨N + 2, 0, none⟩ = some (.int .i64 p) := hX.cell HG3.out.2.2.2 (show N + 2 ≠ NR by omega) (show N + 2 ≠ LB by omega) (fun e => by have := (HOW3.out _ e).2.1; dsimp only at this; omega)
    refine ⟨hX.cell HG3.out.1 hN.2.2.1 (show gl ≠ LB by omega) (fun e => (HOW3.out _ e).2.2.1 rfl), hX.cell HG3.out.2.1 (show N ≠ NR by omega) (show N ≠ LB by omega) (fun e => by have := (HOW3.out _ e).2.1; dsimp only at this; omega), HP.out.below (by rw [hb1]; exact hbX), hbX, ?_⟩
    have hbX3 : ∀ (a : Addr) (u : Value), W3.cell? a = some u → a.block < base → X.cell? a = some u := fun a u ha hb => hX.cell ha (by omega) (by omega) (fun e => by have := (HOW3.out _ e).1; omega)
    obtain ⟨q1, q2, q3, q4, q5, q6⟩ := HRW.out
    refine ⟨by omega, by omega, h1, h2, hbX3 _ _ ((b3.cell (p := ⟨L, 0 + p * 34 + 1, none⟩) q1.2.2).trans q4) (show L < base from hL), ?_, ?_, fun i hi => hbX3 _ _ ((b3.cell (p := ⟨L, 0 + i * 34, none⟩) q1.2.2).trans (q6 i hi)) (show L < base from hL)⟩
    · obtain ⟨g1, ⟨a, c', e, hz'⟩ | ⟨b, off, c', e, hcc⟩⟩ := q5
      · exact ⟨g1, .inl ⟨a, c', e, hz'⟩⟩
      · refine ⟨g1, .inr ⟨b, off, c', e, fun j hj => ?_⟩⟩
        rcases HKL.out with h | ⟨qb, qo, c, e', hq⟩
        · subst h; simp at hj
        · rw [e] at e'
          injection e' with e1; injection e1 with e1; injection e1 with e1 e4
          exact hbX3 _ _ ((b3.cell (p := ⟨b, off + j, none⟩) (cell_lt (hcc j hj))).trans (hcc j hj)) (show b < base by omega)
    · rcases HKL.out with h | ⟨qb, qo, c, e', hq⟩
      · exact .inl h
      · exact .inr ⟨qb, qo, c, e', by omega⟩)
  have HG0 : Hid (∀ g, ownN NR W3 g → g < W3.heap.size) := Lib.hid fun g e => by have := HOW3.out g e; omega
  have HK3 : Hid (KU NR LB W3 W3) := Lib.hid (KU.of_below (Below.refl _ _) HG0.out HU3.out)
  have hRun := (HST.out W3 HK3.out).2.2.2.2
  have HI0 : Hid (SpI J NR LB ns ks W3 [] W3) := Lib.hid ⟨by simpa [spansP] using HJ.out [] W W3 none H0.out (grown_of_below b3) (fun r e => by cases e), HK3.out⟩
  rw [hNN, hW3]
  clear hW3 y0 y1 yY b3 c1 c2 l1 l2 HKF HBW HOW HU H0
  refine (wpIn_wide (n := 3)).1 (range_next (F := Fence.wide) rfl (by omega) (gf := 37) (lb := #[.pointer (some ⟨N + 1, 0, none⟩), .pointer (some ⟨N + 1 + 1, 0, none⟩)]) rfl trivial (enters_of Try.func37 (by kernel_rfl) rfl)
    (Kp := KeepR (KidM (N + 3) (N + 1) (N + 2) L 0 m cap p kv ks (kdOf ns))) (fun _ _ _ h k => h.trans k) (fun W l o h1 h2 => ⟨by simp, fun hr => hr.below (below_put W o (by omega) h2)⟩)
    (lkids_next _ (by omega) (N + 3) (N + 1) (N + 2) L 0 m cap p kv ks (kdOf ns) hc (by omega) hp HKS.out W3 hRun s3.symm) (fun x => rfl)
    (SpI J NR LB ns ks W3) (SpX Jx) ?own ?ownx
    HI0.out ?round ?done ?stop)
  case own =>
    rintro pre X1 Y1 row ⟨g1, g2⟩ hg hr
    exact ⟨HJ.out _ X1 Y1 row g1 hg (fun r e => ⟨by have := (hr r e).1; omega, (hr r e).2⟩), g2.grown hg hr (Nat.le_refl _)⟩
  case ownx =>
    rintro c pre X1 Y1 row ⟨rfl, ys, g1⟩ hg hr
    exact ⟨rfl, ys, HJx.out _ X1 Y1 row g1 hg (fun r e => ⟨by have := (hr r e).1; omega, (hr r e).2⟩)⟩
  case stop =>
    rintro D c pre V hD _ ⟨rfl, ys, hF⟩ hmk
    have HF := Lib.hid hF
    have HMK := Lib.hid hmk
    clear hF hmk hRun
    refine wpIn_exit ?_
    go_wp2
    simp only [Exit.noGoto]
    refine ⟨by simp, .inl ⟨D, _, rfl, run_takeDeferred HMK.out, ?_⟩⟩
    exact ⟨_, results_none rfl _ _ _, ⟨_, rfl⟩, .inr ⟨_, trivial, HJx.out.putObj _ HF.out (by omega) HMK.out rfl⟩⟩
  case round =>
    rintro l' pre ⟨z, kz⟩ V hlq ⟨i1, i2⟩ ⟨hz1, hz2⟩
    dsimp only at hz1 hz2
    subst hz2
    have hzm := List.mem_iff_getElem?.2 ⟨pre.length, hz1⟩
    have hzr := HKS.out z hzm
    obtain ⟨zn, rfl⟩ : ∃ zn : Nat, z = (zn : Int) := ⟨z.toNat, by omega⟩
    rw [Int.toNat_natCast]
    refine ⟨{ tmps := #[.func (.yield l) #[] #[], .pointer (some ⟨gl, 0, none⟩), .pointer (some ⟨ga, 0, none⟩), .pointer (some ⟨N, 0, none⟩), .int .i64 zn, .int .i64 (kdOf ns zn), undef, undef, undef, .slice (some ⟨L, 0, none⟩) m cap, .int .i64 p, .func (.func 37) #[] #[.pointer (some ⟨N + 1, 0, none⟩), .pointer (some ⟨N + 1 + 1, 0, none⟩)], .int .i64 zn, .int .i64 (kdOf ns zn), undef, undef, undef, undef, undef, undef, undef, undef, undef, undef, undef, undef, undef, undef, undef, undef, undef, undef, undef, undef, undef, undef, undef, undef, undef, undef, undef, undef, undef, undef, undef, undef, undef, undef, undef, undef, undef, undef, undef, undef, undef, undef, undef, undef, undef, undef, undef, undef, undef, undef, undef, undef, undef, undef], defers := [] }, V, ?_, KeepsFrom.refl _ _, ⟨Nat.le_refl _, id⟩, ?_⟩
    · intro K hK
      dsimp only [encK]
      gi_wp2
      exact hK
    · intro V₂ hgV hnc' hbl
      obtain ⟨xs, hxs⟩ : ∃ xs, spansP ns (ks.take pre.length) = xs := ⟨_, rfl⟩
      have hstep := spansP_take ns ks pre.length zn hz1
      have hfull := spansP_at ns ks pre.length zn hz1
      rw [hxs] at i1 hstep hfull
      have j1 := HJ.out _ V V₂ (some l') i1 hgV (fun r e => by injection e with e; exact ⟨by omega, hnc' r (by rw [e])⟩)
      have j2 := i2.grown hgV (B := W3.heap.size) (fun r e => by injection e with e; exact ⟨by omega, hnc' r (by rw [e])⟩) (Nat.le_refl _)
      have J1 := Lib.hid j1
      have J2 := Lib.hid j2
      have HSTEP := Lib.hid hstep
      have HFULL := Lib.hid hfull
      have HPL : Hid ((pre ++ [((zn : Int), kdOf ns zn)]).length = pre.length + 1) := Lib.hid (by simp)
      clear i1 i2 j1 j2 hgV hnc' hbl hRun hxs hstep hfull
      by_cases k5 : kdOf ns zn = 5
      · have d5 : (kdOf ns zn == 5) = true := by simpa using k5
        have d4 : (kdOf ns zn == 4) = false := by rw [k5]; rfl
        have HS1 : Hid (spans1 ns zn = [(((zn : Int), -1), csOf ns zn)]) := Lib.hid (by unfold spans1; rw [Int.toNat_natCast, if_pos k5])
        clear k5
        gi_wp2
        refine round_still_tail 9 (by kernel_rfl) (by kernel_rfl) (by simp only [LetsOut, Exit.inBlock]; rintro ⟨x, y, h⟩; exact h) (by decide +kernel) (fun w2 hw2 => ?_)
        have bD : Below V₂.heap.size V₂ w2 := by rw [← hw2]; exact below_dn _ V₂ 1
        have hKU : KU NR LB W3 w2 := J2.out.trans (KU.of_below bD J2.out.good J2.out.box)
        have hJw : J xs w2 := HJ.out _ V₂ w2 none J1.out (grown_of_below bD) (fun r e => by cases e)
        obtain ⟨t1, t2, t3, t4, t5⟩ := HST.out w2 hKU
        obtain ⟨nd, hnd⟩ : ∃ nd, ns[zn]? = some nd := ⟨_, List.getElem?_eq_getElem (by rw [HML.out]; omega)⟩
        have hcs : csOf ns zn = nd.s.cs := by unfold csOf; rw [Int.toNat_natCast, hnd]; rfl
        have t6 : w2.cell? ⟨L, zn * 34 + 2 + 20, none⟩ = some (.int .i64 nd.s.cs) := by
          obtain ⟨_, _, ⟨a, c', e, hz'⟩ | ⟨b, off, c', e, hcc⟩⟩ := t3
          · subst hz'; simp at hnd
          · injection e with e1; injection e1 with e1; injection e1 with e1 e4
            subst e1 e4
            have h := hcc zn nd hnd 22 _ (nd.sty 20 _ rfl)
            rwa [show 0 + zn * 34 + 22 = zn * 34 + 2 + 20 by omega] at h
        obtain ⟨fn, tmps, assign, body, hy, hR⟩ := HY.out xs (((zn : Int), -1), csOf ns zn) w2 hJw (by rw [HFULL.out, HS1.out]; simp)
        rw [hcs] at hy hR HS1
        dsimp only [encSp] at hy
        have HR := Lib.hid hR
        have HKU := Lib.hid hKU
        have hk0 : KeepsFrom W3.heap.size V₂ w2 := by rw [← hw2]; exact (KeepsOthers.drew V₂).from _
        have HK0 := Lib.hid hk0
        have HW2Z : Hid (W3.heap.size ≤ w2.heap.size) := Lib.hid hKU.size
        have lgl : gl < w2.heap.size := by have := HW2Z.out; omega
        have lN : N < w2.heap.size := by have := HW2Z.out; omega
        have lL : L < w2.heap.size := by have := HW2Z.out; have := HBZ.out; omega
        have hzl : zn < m := by omega
        clear hw2 bD hKU hJw t3 t4 t5 hR hk0 hcs J1 J2
        simp only [List.take_succ_cons, List.take_zero, List.drop_succ_cons, List.drop_zero]
        still_step
        still_step
        still_step
        still_step
        still_step
        still_step
        still_step
        still_step
        still_step
        refine wpStill_nil ?_
        gi_wp2
        refine RoundIn.mono (show RoundIn _ _ _ _ _ _ _ _ _ _ from ⟨HR.out.1, fun c cs _ => HR.out.2 c cs (room_wide _)⟩) ?_
        rintro e V3 (⟨rfl, hJ3, hk3, hkf⟩ | ⟨rfl, hJ3, hkf⟩)
        · have H3 := Lib.hid hJ3
          have K3 := Lib.hid (HKU.out.trans (hk3 HKU.out.good HKU.out.box))
          have KF := Lib.hid (HK0.out.trans (show KeepsFrom W3.heap.size w2 V3 from ⟨hkf.size, fun k o hB hk ho => hkf.same k o (by omega) hk ho⟩))
          clear hJ3 hk3 hkf HR hy t1 t2 t6
          gi_wp2
          refine ⟨KF.out, ⟨KF.out.size, fun _ => (HST.out _ K3.out).2.2.2.2⟩, ?_, K3.out⟩
          rw [HPL.out, HSTEP.out, HS1.out]
          exact H3.out
        · have H3 := Lib.hid hJ3
          have KF := Lib.hid (HK0.out.trans (show KeepsFrom W3.heap.size w2 V3 from ⟨hkf.size, fun k o hB hk ho => hkf.same k o (by omega) hk ho⟩))
          clear hJ3 hkf HR hy t1 t2 t6
          gi_wp2
          exact ⟨KF.out, rfl, _, H3.out⟩
      · have d5 : (kdOf ns zn == 5) = false := by simpa using k5
        by_cases k4 : kdOf ns zn = 4
        · have d4 : (kdOf ns zn == 4) = true := by simpa using k4
          obtain ⟨cs, hcs⟩ : ∃ cs, kindK ns 5 zn = cs := ⟨_, rfl⟩
          have HS1 : Hid (spans1 ns zn = if cs = [] then [((-1, (zn : Int)), csOf ns zn)] else grpS ns zn cs) := Lib.hid (by unfold spans1; rw [Int.toNat_natCast, if_neg k5, if_pos k4, hcs]; rfl)
          have hcm : ∀ c ∈ cs, 0 ≤ c ∧ c < (m : Int) := fun c hc => by
            rw [← hcs] at hc
            have h1 := (List.mem_filter.1 hc).1
            unfold kfOf at h1
            obtain ⟨nd, hnd⟩ : ∃ nd, ns[zn]? = some nd := ⟨_, List.getElem?_eq_getElem (by rw [HML.out]; omega)⟩
            rw [Int.toNat_natCast, hnd] at h1
            exact HLK.out nd (List.mem_of_getElem? hnd) c h1
          have HCM := Lib.hid hcm
          have HFN : Hid (fndP ns 5 [(zn : Int)] = cs.map fun c => (c, (zn : Int))) := Lib.hid (by rw [fndP_one, hcs])
          have hcl : cs.length ≤ 70000 := by
            rw [← hcs]
            have h1 := List.length_filter_le (fun z : Int => decide (kdOf ns z.toNat = 5)) (kfOf ns zn)
            have h2 : (kfOf ns zn).length ≤ 70000 := by
              unfold kfOf
              obtain ⟨nd, hnd⟩ : ∃ nd, ns[zn]? = some nd := ⟨_, List.getElem?_eq_getElem (by rw [HML.out]; omega)⟩
              rw [Int.toNat_natCast, hnd]
              exact HKL2.out nd (List.mem_of_getElem? hnd)
            exact Nat.le_trans h1 h2
          clear k5 k4 hcs hcm
          obtain ⟨t1, t2, t3, t4, t5⟩ := HST.out V₂ J2.out
          have hzV : W3.heap.size ≤ V₂.heap.size := J2.out.size
          obtain ⟨Z, hZ⟩ : ∃ Z, V₂.alloc (.cells #[.int .i64 (zn : Int)] 3) = Z := ⟨_, rfl⟩
          have bZ : Below V₂.heap.size V₂ Z := by rw [← hZ]; exact (Below.refl _ _).alloc (Nat.le_refl _) _
          have HIZ : Hid (Ints Z (.slice (some ⟨V₂.heap.size, 0, none⟩) 1 1) [(zn : Int)]) := Lib.hid (Ints.whole (t := 3) (by rw [← hZ]; exact whole_new V₂ [.int .i64 (zn : Int)] 3 _ rfl) rfl (by omega))
          have HPZ : Hid (PageAt Z (.slice (some ⟨L, 0, none⟩) m cap) ns) := Lib.hid (HP.out.below (by rw [hb1]; exact t4.trans (bZ.mono (by have := t4.size; omega))))
          have HFD := Lib.hid (foundL_ok L 0 cap m 5 (some ⟨V₂.heap.size, 0, none⟩) 1 1 ns [(zn : Int)] Z HML.out hm6 HKL2.out HPZ.out HLK.out HIZ.out rfl (by omega) (fun p hp => by simp at hp; subst hp; omega))
          have BZ := Lib.hid bZ
          have hNV : N < V₂.heap.size := by omega
          have hglV : gl < V₂.heap.size := by omega
          clear t3 t4 t5 bZ HIZ HPZ
          gi_wp2_with fail
          try rw [hZ]
          refine ⟨trivial, (CallsIn.inRound l' (callsIn_wide.2 HFD.out)).mono ?_⟩
          rintro e w4 ⟨v, rfl, hown, hb4⟩
          obtain ⟨pc, kc, cc, rfl⟩ := own_slice hown
          have hkc : kc = cs.length := by rw [own_len2 hown, HFN.out, List.length_map]
          rw [HFN.out] at hown
          have b24 : Below V₂.heap.size V₂ w4 := BZ.out.trans (hb4.mono BZ.out.size)
          have hKU4 : KU NR LB W3 w4 := J2.out.trans (KU.of_below b24 J2.out.good J2.out.box)
          have hJ4 : J xs w4 := HJ.out _ V₂ w4 none J1.out (grown_of_below b24) (fun r e => by cases e)
          have HBOX : Hid (∀ j c, cs[j]? = some c → ∃ g, pc = some ⟨g, 0, none⟩ ∧ V₂.heap.size ≤ g ∧ g < w4.heap.size ∧ ∀ i u, (encL (c, (zn : Int)))[i]? = some u → w4.cell? ⟨g, j * 2 + i, none⟩ = some u) := Lib.hid (by
            intro j c hj
            obtain ⟨g, e, h1, h2, h3⟩ := own_cells2 hown (by rw [List.length_map]; have := (List.getElem?_eq_some_iff.1 hj).1; omega)
            exact ⟨g, e, by have := BZ.out.size; omega, h2, fun i u hu => h3 _ u (fnd_cell zn cs j c hj i u hu)⟩)
          have HNO4 : Hid (∀ g, V₂.heap.size ≤ g → ¬ ownN NR w4 g) := Lib.hid fun g hg e => by
            have := J2.out.good g ((ownN_below b24 (by have := J2.out.box; obtain ⟨u, hu⟩ := this; exact cell_lt hu)).1 e); omega
          have hk24 : KeepsFrom W3.heap.size V₂ w4 := ⟨b24.size, fun k o hB hk ho => (b24.block k (Array.getElem?_eq_some_iff.1 hk).1).trans hk⟩
          have J4 := Lib.hid hJ4
          have K4 := Lib.hid hKU4
          have K24 := Lib.hid hk24
          have hz4 : W3.heap.size ≤ w4.heap.size := hKU4.size
          clear hown hb4 b24 hKU4 hJ4 hk24 hZ HFD BZ J1 J2 t1 t2
          subst hkc
          by_cases hc0 : cs = []
          · have HS2 : Hid (spans1 ns zn = [((-1, (zn : Int)), csOf ns zn)]) := Lib.hid (by rw [HS1.out, if_pos hc0])
            have hM : cs.length = 0 := by rw [hc0]; rfl
            rw [hM]
            clear hc0 HBOX HS1 hM hcl HFN HCM
            gi_wp2
            refine round_still_tail 13 (by kernel_rfl) (by kernel_rfl) (by simp only [LetsOut, Exit.inBlock]; rintro ⟨x, y, h⟩; exact h) (by decide +kernel) (fun w5 hw5 => ?_)
            have bD : Below w4.heap.size w4 w5 := by rw [← hw5]; exact below_dn _ w4 1
            have hKU5 : KU NR LB W3 w5 := K4.out.trans (KU.of_below bD K4.out.good K4.out.box)
            have hJw : J xs w5 := HJ.out _ w4 w5 none J4.out (grown_of_below bD) (fun r e => by cases e)
            obtain ⟨t1, t2, t3, t4, t5⟩ := HST.out w5 hKU5
            obtain ⟨nd, hnd⟩ : ∃ nd, ns[zn]? = some nd := ⟨_, List.getElem?_eq_getElem (by rw [HML.out]; omega)⟩
            have hcs : csOf ns zn = nd.s.cs := by unfold csOf; rw [Int.toNat_natCast, hnd]; rfl
            have t6 : w5.cell? ⟨L, zn * 34 + 2 + 20, none⟩ = some (.int .i64 nd.s.cs) := by
              obtain ⟨_, _, ⟨a, c', e, hz'⟩ | ⟨b, off, c', e, hcc⟩⟩ := t3
              · subst hz'; simp at hnd
              · injection e with e1; injection e1 with e1; injection e1 with e1 e4
                subst e1 e4
                have h := hcc zn nd hnd 22 _ (nd.sty 20 _ rfl)
                rwa [show 0 + zn * 34 + 22 = zn * 34 + 2 + 20 by omega] at h
            obtain ⟨fn, tmps, assign, body, hy, hR⟩ := HY.out xs ((-1, (zn : Int)), csOf ns zn) w5 hJw (by rw [HFULL.out, HS2.out]; simp)
            rw [hcs] at hy hR HS2
            dsimp only [encSp] at hy
            have HR := Lib.hid hR
            have HKU := Lib.hid hKU5
            have hk0 : KeepsFrom W3.heap.size V₂ w5 := K24.out.trans (by rw [← hw5]; exact (KeepsOthers.drew w4).from _)
            have HK0 := Lib.hid hk0
            have HW2Z : Hid (W3.heap.size ≤ w5.heap.size) := Lib.hid hKU5.size
            have lgl : gl < w5.heap.size := by have := HW2Z.out; omega
            have lN : N < w5.heap.size := by have := HW2Z.out; omega
            have lL : L < w5.heap.size := by have := HW2Z.out; have := HBZ.out; omega
            have hzl : zn < m := by omega
            clear hw5 bD hKU5 hJw t3 t4 t5 hR hk0 hcs J4 K4 K24 HNO4
            simp only [List.take_succ_cons, List.take_zero, List.drop_succ_cons, List.drop_zero]
            still_step
            still_step
            still_step
            still_step
            still_step
            still_step
            still_step
            still_step
            still_step
            still_step
            still_step
            still_step
            still_step
            refine wpStill_nil ?_
            gi_wp2
            refine RoundIn.mono (show RoundIn _ _ _ _ _ _ _ _ _ _ from ⟨HR.out.1, fun c cs _ => HR.out.2 c cs (room_wide _)⟩) ?_
            rintro e V3 (⟨rfl, hJ3, hk3, hkf⟩ | ⟨rfl, hJ3, hkf⟩)
            · have H3 := Lib.hid hJ3
              have K3 := Lib.hid (HKU.out.trans (hk3 HKU.out.good HKU.out.box))
              have KF := Lib.hid (HK0.out.trans (show KeepsFrom W3.heap.size w5 V3 from ⟨hkf.size, fun k o hB hk ho => hkf.same k o (by omega) hk ho⟩))
              clear hJ3 hk3 hkf HR hy t1 t2 t6
              gi_wp2
              gi_loopw [52] (fun s52 X => s52 = .int .i64 0 ∧ X = V3) (fun _ _ => 0)
              case atStart => exact ⟨rfl, rfl⟩
              case round =>
                obtain ⟨rfl, rfl⟩ := hrel
                gi_wp2
                refine ⟨KF.out, ⟨KF.out.size, fun _ => (HST.out _ K3.out).2.2.2.2⟩, ?_, K3.out⟩
                rw [HPL.out, HSTEP.out, HS2.out]
                exact H3.out
            · have H3 := Lib.hid hJ3
              have KF := Lib.hid (HK0.out.trans (show KeepsFrom W3.heap.size w5 V3 from ⟨hkf.size, fun k o hB hk ho => hkf.same k o (by omega) hk ho⟩))
              clear hJ3 hkf HR hy t1 t2 t6
              gi_wp2
              exact ⟨KF.out, rfl, _, H3.out⟩
          · have HS2 : Hid (spans1 ns zn = grpS ns zn cs) := Lib.hid (by rw [HS1.out, if_neg hc0])
            obtain ⟨M, hM⟩ : ∃ M, cs.length = M := ⟨_, rfl⟩
            have hM0 : 0 < M := by rw [← hM]; exact List.length_pos_iff.2 hc0
            have hMe : ¬ ((M : Int) = 0) := by omega
            have hMe2 : ¬ (M = 0) := by omega
            rw [hM] at hcl ⊢
            have HMM := Lib.hid hM
            clear hc0 HS1 HFN hM
            gi_wp2
            refine round_still_tail 13 (by kernel_rfl) (by kernel_rfl) (by simp only [LetsOut, Exit.inBlock]; rintro ⟨x, y, h⟩; exact h) (by decide +kernel) (fun w5 hw5 => ?_)
            have bD : Below w4.heap.size w4 w5 := by rw [← hw5]; exact below_dn _ w4 1
            have K5 : Hid (KU NR LB W3 w5) := Lib.hid (K4.out.trans (KU.of_below bD K4.out.good K4.out.box))
            have J5 : Hid (J xs w5) := Lib.hid (HJ.out _ w4 w5 none J4.out (grown_of_below bD) (fun r e => by cases e))
            have K25 : Hid (KeepsFrom W3.heap.size V₂ w5) := Lib.hid (K24.out.trans (by rw [← hw5]; exact (KeepsOthers.drew w4).from _))
            have HBX5 : Hid (∀ j c, cs[j]? = some c → ∃ g, pc = some ⟨g, 0, none⟩ ∧ V₂.heap.size ≤ g ∧ g < w5.heap.size ∧ ∀ i u, (encL (c, (zn : Int)))[i]? = some u → w5.cell? ⟨g, j * 2 + i, none⟩ = some u) := Lib.hid (by
              intro j c hj
              obtain ⟨g, e, h1, h2, h3⟩ := HBOX.out j c hj
              exact ⟨g, e, h1, Nat.lt_of_lt_of_le h2 bD.size, fun i u hu => (bD.cell (p := ⟨g, j * 2 + i, none⟩) h2).trans (h3 i u hu)⟩)
            have HNO5 : Hid (∀ g, V₂.heap.size ≤ g → ¬ ownN NR w5 g) := Lib.hid fun g hg e => HNO4.out g hg ((ownN_below bD (by obtain ⟨u, hu⟩ := K4.out.box; exact cell_lt hu)).1 e)
            clear hw5 bD J4 K4 K24 HBOX HNO4
            simp only [List.take_succ_cons, List.take_zero, List.drop_succ_cons, List.drop_zero]
            still_step
            still_step
            still_step
            still_step
            still_step
            still_step
            still_step
            still_step
            still_step
            still_step
            still_step
            still_step
            still_step
            refine wpStill_nil ?_
            gi_wp2
            refine ⟨(fun f hf => by cases hf), ?_⟩
            gi_wp2
            gi_loopw [52] (fun s52 X => ∃ j : Nat, j ≤ M ∧ s52 = .int .i64 (j : Int) ∧ Hid (J (xs ++ grpS ns zn (cs.take j)) X) ∧ Hid (KU NR LB W3 X) ∧ Hid (KU NR LB w5 X) ∧ Hid (KeepsFrom W3.heap.size V₂ X)) (fun s52 _ => M - (intOf s52).toNat)
            case atStart => exact ⟨0, Nat.zero_le _, rfl, by simpa [grpS] using J5, K5, Lib.hid (KU.of_below (Below.refl _ _) K5.out.good K5.out.box), K25⟩
            case round =>
              clear J5 K25
              obtain ⟨j, hj, rfl, HJ1, HK1, HK5, HK2⟩ := hrel
              by_cases hlt : j < M
              · obtain ⟨c, hc⟩ : ∃ c, cs[j]? = some c := ⟨_, List.getElem?_eq_getElem (by rw [HMM.out]; exact hlt)⟩
                obtain ⟨g, rfl, hg1, hg2, hgc⟩ := HBX5.out j c hc
                have hcr := HCM.out c (List.mem_of_getElem? hc)
                have hNRg : g ≠ NR := by omega
                have hLBg : g ≠ LB := by omega
                have q0 : wr.cell? ⟨g, j * 2, none⟩ = some (.int .i64 c) := HK5.out.own hg2 hNRg hLBg (HNO5.out g hg1) rfl (hgc 0 _ rfl)
                have q1 : wr.cell? ⟨g, j * 2 + 1, none⟩ = some (.int .i64 (zn : Int)) := HK5.out.own hg2 hNRg hLBg (HNO5.out g hg1) rfl (hgc 1 _ rfl)
                have lg : g < wr.heap.size := by have := HK5.out.size; omega
                have HTK := Lib.hid (grpS_take ns zn cs j c hc)
                have HNX : Hid ((spansP ns ks)[(xs ++ grpS ns zn (cs.take j)).length]? = some ((c, (zn : Int)), csOf ns c)) := Lib.hid (by
                  have hl : (grpS ns zn (cs.take j)).length = j := by unfold grpS; rw [List.length_map, List.length_take]; have := HMM.out; omega
                  rw [HFULL.out, HS2.out, List.length_append, hl, List.getElem?_append_right (by omega), Nat.add_sub_cancel_left, List.getElem?_append_left (by unfold grpS; rw [List.length_map]; have := HMM.out; omega)]
                  unfold grpS
                  rw [List.getElem?_map, hc]; rfl)
                obtain ⟨cn, rfl⟩ : ∃ cn : Nat, c = (cn : Int) := ⟨c.toNat, by omega⟩
                have hcn : cn < m := by omega
                clear hc hcr hgc
                obtain ⟨V, hV⟩ : ∃ V, wr.alloc (.cells #[.int .i64 (cn : Int), .int .i64 (zn : Int)] 48) = V := ⟨_, rfl⟩
                have bV : Below wr.heap.size wr V := by rw [← hV]; exact (Below.refl _ wr).alloc (Nat.le_refl _) _
                have KV : Hid (Whole V wr.heap.size 48 [.int .i64 (cn : Int), .int .i64 (zn : Int)]) := Lib.hid (by rw [← hV]; exact whole_new wr [.int .i64 (cn : Int), .int .i64 (zn : Int)] 48 _ rfl)
                have BV := Lib.hid bV
                clear bV
                gi_wp2
                try rw [hV]
                clear q0 q1 lg
                refine round_still_tail 9 (by kernel_rfl) (by kernel_rfl) (by simp only [LetsOut, Exit.inBlock]; rintro ⟨x, y, h⟩; exact h) (by decide +kernel) (fun w6 hw6 => ?_)
                have bD : Below V.heap.size V w6 := by rw [← hw6]; exact below_dn _ V 1
                have bW : Below wr.heap.size wr w6 := BV.out.trans (bD.mono BV.out.size)
                have hKU6 : KU NR LB W3 w6 := HK1.out.trans (KU.of_below bW HK1.out.good HK1.out.box)
                have hK56 : KU NR LB w5 w6 := HK5.out.trans (KU.of_below bW HK1.out.good HK1.out.box)
                have hJw : J (xs ++ grpS ns zn (cs.take j)) w6 := HJ.out _ wr w6 none HJ1.out (grown_of_below bW) (fun r e => by cases e)
                obtain ⟨t1, t2, t3, t4, t5⟩ := HST.out w6 hKU6
                have kb := KV.out.below bD KV.out.lt
                have o0 := kb.cellAt 0
                have o1 := kb.cellAt 1
                have lo := kb.lt
                simp only [List.getElem?_cons_zero, List.getElem?_cons_succ] at o0 o1
                obtain ⟨nd, hnd⟩ : ∃ nd, ns[cn]? = some nd := ⟨_, List.getElem?_eq_getElem (by rw [HML.out]; omega)⟩
                have hcs : csOf ns cn = nd.s.cs := by unfold csOf; rw [Int.toNat_natCast, hnd]; rfl
                have t6 : w6.cell? ⟨L, cn * 34 + 2 + 20, none⟩ = some (.int .i64 nd.s.cs) := by
                  obtain ⟨_, _, ⟨a, c', e, hz'⟩ | ⟨b, off, c', e, hcc⟩⟩ := t3
                  · subst hz'; simp at hnd
                  · injection e with e1; injection e1 with e1; injection e1 with e1 e4
                    subst e1 e4
                    have h := hcc cn nd hnd 22 _ (nd.sty 20 _ rfl)
                    rwa [show 0 + cn * 34 + 22 = cn * 34 + 2 + 20 by omega] at h
                obtain ⟨fn, tmps, assign, body, hy, hR⟩ := HY.out _ (((cn : Int), (zn : Int)), csOf ns cn) w6 hJw HNX.out
                rw [hcs] at hy hR HTK
                dsimp only [encSp] at hy
                have HR := Lib.hid hR
                have HKU := Lib.hid hKU6
                have HK56 := Lib.hid hK56
                have hk0 : KeepsFrom W3.heap.size V₂ w6 := HK2.out.trans ⟨bW.size, fun k o hB hk ho => (bW.block k (Array.getElem?_eq_some_iff.1 hk).1).trans hk⟩
                have HK0 := Lib.hid hk0
                have HW2Z : Hid (W3.heap.size ≤ w6.heap.size) := Lib.hid hKU6.size
                have lgl : gl < w6.heap.size := by have := HW2Z.out; omega
                have lN : N < w6.heap.size := by have := HW2Z.out; omega
                have lL : L < w6.heap.size := by have := HW2Z.out; have := HBZ.out; omega
                clear hw6 bD bW hKU6 hK56 hJw t3 t4 t5 hR hk0 hcs HJ1 HK1 HK5 HK2 kb KV BV hV
                simp only [List.take_succ_cons, List.take_zero, List.drop_succ_cons, List.drop_zero]
                still_step
                still_step
                still_step
                still_step
                still_step
                still_step
                still_step
                still_step
                still_step
                refine wpStill_nil ?_
                gi_wp2
                refine RoundIn.mono (show RoundIn _ _ _ _ _ _ _ _ _ _ from ⟨HR.out.1, fun c cs _ => HR.out.2 c cs (room_wide _)⟩) ?_
                rintro e V3 (⟨rfl, hJ3, hk3, hkf⟩ | ⟨rfl, hJ3, hkf⟩)
                · have H3 := Lib.hid hJ3
                  have KK := hk3 HKU.out.good HKU.out.box
                  have K3 := Lib.hid (HKU.out.trans KK)
                  have K35 := Lib.hid (HK56.out.trans KK)
                  have KF := Lib.hid (HK0.out.trans (show KeepsFrom W3.heap.size w6 V3 from ⟨hkf.size, fun k o hB hk ho => hkf.same k o (by omega) hk ho⟩))
                  clear hJ3 hk3 hkf HR hy t1 t2 t6 KK
                  gi_wp2
                  go_roundw
                  case rel => exact ⟨j + 1, by omega, by go_num, Lib.hid (by rw [HTK.out, ← List.append_assoc]; exact H3.out), K3, K35, KF⟩
                  case measure => simp [intOf]; omega
                · have H3 := Lib.hid hJ3
                  have KF := Lib.hid (HK0.out.trans (show KeepsFrom W3.heap.size w6 V3 from ⟨hkf.size, fun k o hB hk ho => hkf.same k o (by omega) hk ho⟩))
                  clear hJ3 hkf HR hy t1 t2 t6
                  gi_wp2
                  exact ⟨KF.out, rfl, _, H3.out⟩
              · have HE : Hid (cs.take j = cs) := Lib.hid (List.take_of_length_le (by have := HMM.out; omega))
                gi_wp2
                refine ⟨HK2.out, ⟨HK2.out.size, fun _ => (HST.out _ HK1.out).2.2.2.2⟩, ?_, HK1.out⟩
                rw [HPL.out, HSTEP.out, HS2.out]
                have := HJ1.out
                rwa [HE.out] at this
        · have d4 : (kdOf ns zn == 4) = false := by simpa using k4
          have HS1 : Hid (spans1 ns zn = []) := Lib.hid (by unfold spans1; rw [Int.toNat_natCast, if_neg k5, if_neg k4])
          clear k5 k4
          gi_wp2
          refine ⟨KeepsFrom.refl _ _, ⟨Nat.le_refl _, id⟩, ?_, J2.out⟩
          rw [HPL.out, HSTEP.out, HS1.out, List.append_nil]
          exact J1.out
  case done =>
    rintro D xs V hD hS ⟨g1, g2⟩ hmk
    have G1 := Lib.hid g1
    have HMK := Lib.hid hmk
    have HS := Lib.hid hS
    clear g1 g2 hmk hRun hS
    go_wp2
    simp only [Exit.noGoto]
    refine ⟨by simp, .inl ⟨D, _, rfl, run_takeDeferred HMK.out, ?_⟩⟩
    refine ⟨_, results_none rfl _ _ _, ⟨_, rfl⟩, .inl ⟨_, ?_, HJ.out.putObj _ G1.out (by omega) HMK.out rfl⟩⟩
    rw [HS.out, List.take_of_length_le (Nat.le_refl _)]
end Go.Proofs.Ytgaclepoipaecaa

namespace Go.Proofs.Ytgaclepoipaecaa
open Go.RowKit Go.Shelf
set_option linter.unusedVariables false
attribute [local go_sem] Oper.semAt_some

theorem mul_ofL (a b h l : Int) (w : World) (a0 : 0 ≤ a) (a1 : a < 18446744073709551616) (b0 : 0 ≤ b) (b1 : b < 18446744073709551616) (hh : a * b / 18446744073709551616 = h) (hl : a * b % 18446744073709551616 = l) :
    Calls Try.prog 29 #[.int .u64 a, .int .u64 b] w fun e w' => e = .returned (.tuple #[.int .u64 h, .int .u64 l]) ∧ w = w' := by
  obtain ⟨n, rfl⟩ := Int.eq_ofNat_of_zero_le a0
  obtain ⟨m, rfl⟩ := Int.eq_ofNat_of_zero_le b0
  refine (Try.bits_Mul n m (by omega) (by omega) w).mono fun e w' ⟨he, hw⟩ => ⟨?_, hw.symm⟩
  rw [he, ← hh, ← hl]; simp
/-- a copy of elements of two cells each -/
theorem run_copy2 (w : World) (dT sT ty elem : TypeId) (g o dLen dCap : Nat) (a : Addr) (sLen sCap : Nat) (cur : Array Value) (t : TypeId) (cs : List Value) (k : Nat)
    (hu : Try.prog.underlying dT = some (.slice elem)) (hs : (Try.prog.info? elem).map (·.size) = some 2)
    (hg : w.heap[g]? = some (.cells cur t (0, 0))) (hk : Nat.min sLen dLen = k) (hn : cs.length = k * 2)
    (hsrc : ∀ j v, cs[j]? = some v → w.cell? (a.add j) = some v) (hfit : o + cs.length ≤ cur.size) (h1 : ∀ v ∈ cs, v.oneCell' = true) :
    (Builtin.copy_ #[dT, sT] ty #[.slice (some ⟨g, o, none⟩) dLen dCap, .slice (some a) sLen sCap]).run Try.prog w =
      .ok (goInt k) (w.setRow g (cur.toList.take o ++ cs ++ cur.toList.drop (o + cs.length)).toArray) := by
  have hl := run_loadCells_list (P := Try.prog) (w := w) a cs hsrc
  have hst := run_storeCells_at Try.prog g o t cs 0 cur w hg (by simpa using hfit) h1
  rw [hn] at hl
  cases hq : Try.prog.info? elem with
  | none => simp [hq] at hs
  | some i =>
    have hi : i.size = 2 := by simpa [hq] using hs
    simp [Builtin.copy_, run_underlying hu, Builtin.lenOf, Builtin.firstCells, sizeOf, typeInfo, hq, hi, hk, hl, hst]
theorem step_copy2 {ops : Array Oper} {o : Oper} {a : Act} {w : World} {K : Act → World → Prop} {Q : Exit → Act → World → Prop} {E : Prop} (hgd : o.guard = none) (d s : Operand) (dT sT : TypeId)
    (ho : o.op = .call { callee := .builtin .copy, args := #[d, s], argTypes := #[dT, sT] }) (elem : TypeId) (hu : Try.prog.underlying dT = some (.slice elem)) (hsz : (Try.prog.info? elem).map (·.size) = some 2)
    (ad : Addr) (dLen dCap sLen sCap g off : Nat) (hd : a.eval d = .slice (some ⟨g, off, none⟩) dLen dCap) (hs : a.eval s = .slice (some ad) sLen sCap) (k : Nat) (hk : Nat.min sLen dLen = k)
    (cur : List Value) (t : TypeId) (hg : w.heap[g]? = some (.cells cur.toArray t (0, 0))) (cs : List Value) (hn : cs.length = k * 2) (hsrc : ∀ j v, cs[j]? = some v → w.cell? (ad.add j) = some v)
    (hfit : off + cs.length ≤ cur.length) (h1 : ∀ v ∈ cs, v.oneCell' = true) (B : Nat) (w0 : World) (hb : Below B w0 w) (hBg : B ≤ g)
    (h : ∀ w', Hid (w'.heap[g]? = some (.cells (splice cur off cs).toArray t (0, 0))) → Below B w0 w' → K (a.put o.dst (goInt k)) w') :
    if Region.wanted o (yielded ops a.tmps) = true then Oper.wp Try.prog o a w K Q else E := by
  have hrun := run_copy2 w dT sT o.type elem g off dLen dCap ad sLen sCap cur.toArray t cs k hu hsz hg hk hn hsrc (by simpa using hfit) h1
  exact step_copy_runI hgd d s dT sT ho _ _ hd hs hrun (h _ (show _ = _ by simpa [splice] using setRow_heap w g _ _ t _ hg) (below_setRow hb hBg _))
theorem wpList_copy2 {ops : Array Oper} {rest : List Oper} {o : Oper} {a : Act} {w : World} {Q : Exit → Act → World → Prop} (hgd : o.guard = none) (d s : Operand) (dT sT : TypeId)
    (ho : o.op = .call { callee := .builtin .copy, args := #[d, s], argTypes := #[dT, sT] }) (elem : TypeId) (hu : Try.prog.underlying dT = some (.slice elem)) (hsz : (Try.prog.info? elem).map (·.size) = some 2)
    (ad : Addr) (dLen dCap sLen sCap g off : Nat) (hd : a.eval d = .slice (some ⟨g, off, none⟩) dLen dCap) (hs : a.eval s = .slice (some ad) sLen sCap) (k : Nat) (hk : Nat.min sLen dLen = k)
    (cur : List Value) (t : TypeId) (hg : w.heap[g]? = some (.cells cur.toArray t (0, 0))) (cs : List Value) (hn : cs.length = k * 2) (hsrc : ∀ j v, cs[j]? = some v → w.cell? (ad.add j) = some v)
    (hfit : off + cs.length ≤ cur.length) (h1 : ∀ v ∈ cs, v.oneCell' = true) (B : Nat) (w0 : World) (hb : Below B w0 w) (hBg : B ≤ g)
    (h : ∀ w', Hid (w'.heap[g]? = some (.cells (splice cur off cs).toArray t (0, 0))) → Below B w0 w' → wpList Try.prog ops Q rest (a.put o.dst (goInt k)) w') :
    wpList Try.prog ops Q (o :: rest) a w := by
  have hrun := run_copy2 w dT sT o.type elem g off dLen dCap ad sLen sCap cur.toArray t cs k hu hsz hg hk hn hsrc (by simpa using hfit) h1
  exact wpList_copy_runI w hgd d s dT sT ho _ _ hd hs hrun (h _ (show _ = _ by simpa [splice] using setRow_heap w g _ _ t _ hg) (below_setRow hb hBg _))
/-- the first k are laid -/
def repC (x : Int × Int) (n k : Nat) : List Value := (List.replicate k x).flatMap encL ++ (List.replicate (n - k) ((0 : Int), (0 : Int))).flatMap encL
theorem encL_rep (x : Int × Int) (k : Nat) : ((List.replicate k x).flatMap encL).length = k * 2 := by rw [encL_len, List.length_replicate]
theorem repC_length (x : Int × Int) (n k : Nat) (h : k ≤ n) : (repC x n k).length = n * 2 := by unfold repC; rw [List.length_append, encL_rep, encL_rep]; omega
theorem repC_splice (x : Int × Int) (n k m : Nat) (h : k + m ≤ n) : splice (repC x n k) (k * 2) ((List.replicate m x).flatMap encL) = repC x n (k + m) := by
  unfold splice
  have e0 : repC x n k = (List.replicate k x).flatMap encL ++ ((List.replicate m ((0 : Int), (0 : Int))).flatMap encL ++ (List.replicate (n - (k + m)) ((0 : Int), (0 : Int))).flatMap encL) := by
    unfold repC
    rw [← List.flatMap_append (xs := List.replicate m ((0 : Int), (0 : Int))), List.replicate_append_replicate, show m + (n - (k + m)) = n - k by omega]
  rw [e0, encL_rep]
  have e1 : ((List.replicate k x).flatMap encL ++ ((List.replicate m ((0 : Int), (0 : Int))).flatMap encL ++ (List.replicate (n - (k + m)) ((0 : Int), (0 : Int))).flatMap encL)).take (k * 2) = (List.replicate k x).flatMap encL := by
    rw [List.take_append_of_le_length (by rw [encL_rep]; omega), List.take_of_length_le (by rw [encL_rep]; omega)]
  have e2 : ((List.replicate k x).flatMap encL ++ ((List.replicate m ((0 : Int), (0 : Int))).flatMap encL ++ (List.replicate (n - (k + m)) ((0 : Int), (0 : Int))).flatMap encL)).drop (k * 2 + m * 2) = (List.replicate (n - (k + m)) ((0 : Int), (0 : Int))).flatMap encL := by
    rw [← List.append_assoc, List.drop_append_of_le_length (by rw [List.length_append, encL_rep, encL_rep]; omega), List.drop_of_length_le (by rw [List.length_append, encL_rep, encL_rep]; omega), List.nil_append]
  rw [e1, e2]
  unfold repC
  rw [← List.replicate_append_replicate, List.flatMap_append, List.append_assoc]
theorem repC_end (x : Int × Int) (n : Nat) : repC x n n = (List.replicate n x).flatMap encL := by simp [repC]
theorem repC_made (n : Nat) : (madeCells (Value.agg #[.int .i64 0, .int .i64 0]).cells (n * 2)).toList = repC (0, 0) n 0 := by
  apply List.ext_getElem?
  intro j
  unfold repC
  simp only [List.replicate_zero, List.flatMap_nil, List.nil_append, Nat.sub_zero]
  by_cases hj : j < n * 2
  · have h1 := encL_get (List.replicate n ((0 : Int), (0 : Int))) (j / 2) (0, 0) (by rw [List.getElem?_replicate, if_pos (by omega)])
    have h2 : (madeCells (Value.agg #[.int .i64 0, .int .i64 0]).cells (n * 2))[j]? = some (.int .i64 0) := by
      have : (madeCells (Value.agg #[.int .i64 0, .int .i64 0]).cells (n * 2))[j]? = some ((#[Value.int .i64 0, Value.int .i64 0])[j % 2]!) := by
        simp only [madeCells, Value.cells]
        simp [hj]
      rw [this]
      rcases Nat.mod_two_eq_zero_or_one j with h | h <;> rw [h] <;> rfl
    rw [Array.getElem?_toList, h2]
    rcases Nat.mod_two_eq_zero_or_one j with h | h
    · rw [show j = j / 2 * 2 by omega]; exact h1.1.symm
    · rw [show j = j / 2 * 2 + 1 by omega]; exact h1.2.symm
  · rw [Array.getElem?_toList, Array.getElem?_eq_none (by rw [size_madeCells]; omega), List.getElem?_eq_none (by rw [encL_rep]; omega)]
theorem repC_zero (x : Int × Int) (n : Nat) : repC x n 0 = repC (0, 0) n 0 := by simp [repC]
theorem repC_cells {w : World} {g t : Nat} {x : Int × Int} {n k m : Nat} (hg : w.heap[g]? = some (.cells (repC x n k).toArray t (0, 0))) (hm : m ≤ k) :
    ∀ j v, ((List.replicate m x).flatMap encL)[j]? = some v → w.cell? ((⟨g, 0, none⟩ : Addr).add j) = some v := by
  intro j v h
  have e : ((⟨g, 0, none⟩ : Addr).add j) = ⟨g, j, none⟩ := by unfold Addr.add; split <;> simp_all
  rw [e]
  have hj : j < m * 2 := by have := (List.getElem?_eq_some_iff.1 h).1; rwa [encL_rep] at this
  have h2 : (repC x n k)[j]? = some v := by
    unfold repC
    rw [List.getElem?_append_left (by rw [encL_rep]; omega), show k = m + (k - m) by omega, ← List.replicate_append_replicate, List.flatMap_append, List.getElem?_append_left (by rw [encL_rep]; omega)]
    exact h
  simp only [World.cell?, hg]
  simpa using h2
theorem own_blockL {W : World} {base E g n : Nat} {xs : List Value} (h : W.ownsRow base E 2 (.slice (some ⟨g, 0, none⟩) n n) n xs) : W.heap[g]? = some (.cells xs.toArray E (0, 0)) := by
  obtain ⟨hl, ⟨h', _⟩ | ⟨g', cap', cur, h', hb, hg, hnc, hcm, hcs, htk⟩⟩ := h
  · simp at h'
  · simp only [Value.slice.injEq, Option.some.injEq, Addr.mk.injEq, and_true, true_and] at h'
    obtain ⟨rfl, rfl⟩ := h'
    have e : cur = xs.toArray := by rw [← htk, List.take_of_length_le (by simp [hcs])]
    rw [hg, e]
theorem block_ownL {W : World} {base E g n : Nat} {xs : List Value} (h : W.heap[g]? = some (.cells xs.toArray E (0, 0))) (hb : base ≤ g) (hn : xs.length = n * 2) (hm : n ≤ 9223372036854775807) : W.ownsRow base E 2 (.slice (some ⟨g, 0, none⟩) n n) n xs :=
  ⟨by simpa using hn, .inr ⟨g, n, xs.toArray, rfl, hb, h, Nat.le_refl _, by unfold maxLen; omega, by simp [hn], by simp [← hn]⟩⟩
set_option maxRecDepth 100000 in
set_option maxHeartbeats 2000000 in
theorem repeatL_any (b off cap : Nat) (x : Int × Int) (n : Nat) (w : World) (hc : ∀ j u, (encL x)[j]? = some u → w.cell? ((⟨b, off, none⟩ : Addr).add j) = some u) (hn0 : 1 ≤ n) (hn : n ≤ 10000) :
    Calls Try.prog 14 #[.slice (some ⟨b, off, none⟩) 1 cap, .int .i64 n] w fun e w' => ∃ v, e = .returned v ∧ OwnL w.heap.size w' v (List.replicate n x) ∧ Below w.heap.size w w' := by
  obtain ⟨i0, hi, hz0, hz1, hz2⟩ := info_parts Try.infoLane
  have htwo : (Try.prog.info? 48).map (·.size) = some 2 := by rw [hi]; simp [hz1]
  have HC := Lib.hid hc
  clear hc
  go_enter Try.func14, Try.ntmps14
  go_wp2_with (first
    | (go_at_call 29; refine (mul_ofL _ _ 0 n _ (by omega) (by omega) (by omega) (by omega) (by omega) (by omega)).mono ?_; rintro e w' ⟨rfl, rfl⟩)
    | (at_make; refine wpList_make_full _ rfl _ _ 25 rfl w.heap.size 48 i0 _ 2 Try.underlying25 hi hz0 hz1 .i64 .i64 _ _ n rfl rfl rfl rfl (by rw [hz2]; omega) (by unfold maxLen; omega) (by simp) ?_; intro w0 hown0 hgrow0; rw [repC_made n, ← repC_zero x n] at hown0; have hg0 := Lib.hid (own_blockL hown0); have hb0 := (Below.refl w.heap.size w).grown hgrow0 (Nat.le_refl _) (fun k e => by cases e); have hc0 : Hid (∀ j u, (encL x)[j]? = some u → w0.cell? ((⟨b, off, none⟩ : Addr).add j) = some u) := Lib.hid (fun j u hu => hgrow0.cell (HC.out j u hu) (by simp)))
    | ((with_reducible refine wpList_copy2 ?h1 (.tmp 31) (.tmp 32) 25 25 ?h2 48 ?h3 htwo ⟨b, off, none⟩ n n 1 cap w.heap.size 0 ?h5 ?h6 1 ?hk _ _ hg0.out (encL x) ?c1 ?c2 ?c3 ?c4 w.heap.size w ?h7 ?h8 ?_); (case h1 => rfl); (case h2 => rfl); (case h3 => exact Try.underlying25); (case h5 => rfl); (case h6 => rfl); (case hk => exact Nat.min_eq_left hn0); (case h7 => exact hb0); (case h8 => exact Nat.le_refl _); (case c1 => rfl); (case c2 => exact hc0.out); (case c3 => rw [repC_length _ _ _ (Nat.zero_le _)]; simp [encL]; omega); (case c4 => (intro u hu; exact encL_one [x] u (by simpa using hu))); intro w2 hg2 hb2))
  have e1 : splice (repC x n 0) 0 (encL x) = repC x n 1 := by
    have := repC_splice x n 0 1 (by omega)
    simpa [encL] using this
  rw [e1] at hg2
  clear hown0 hgrow0 hg0 hc0 hb0 HC
  go_loopw [8] (fun i wr => ∃ k : Nat, 1 ≤ k ∧ k ≤ n ∧ i = .int .i64 k ∧ Hid (wr.heap[w.heap.size]? = some (.cells (repC x n k).toArray 48 (0, 0))) ∧ Below w.heap.size w wr) (fun i _ => n - (intOf i).toNat)
  case atStart => exact ⟨1, by omega, hn0, rfl, hg2, hb2⟩
  case round =>
    obtain ⟨k, hk1, hk, rfl, hg, hb⟩ := hrel
    by_cases hlt : k < n
    · clear hg2 hb2
      have hne : ¬ n = k := by omega
      obtain ⟨m, hm⟩ : ∃ m, Nat.min k (n - k) = m := ⟨_, rfl⟩
      have hm' : m = min k (n - k) := hm.symm
      have hm1 : 1 ≤ m := by omega
      have hm2 : k + m ≤ n := by omega
      have hm3 : m ≤ k := by omega
      have HM := Lib.hid hm
      clear hm hm'
      have hsum : IntKind.i64.wrap ((k : Int) + (m : Int)) = ((k + m : Nat) : Int) := by simp [IntKind.wrap, IntKind.bits, IntKind.signed]; omega
      go_wp2
      go_region_law ((with_reducible refine step_copy2 ?h1 (.tmp 41) (.tmp 44) 25 25 ?h2 48 ?h3 htwo ⟨w.heap.size, 0, none⟩ (n - k) (n - k) k n w.heap.size (k * 2) ?h5 ?h6 m ?hk (repC x n k) 48 ?hg ((List.replicate m x).flatMap encL) ?c1 ?c2 ?c3 ?c4 w.heap.size w ?h7 ?h8 ?_); (case h1 => rfl); (case h2 => rfl); (case h3 => exact Try.underlying25); (case h5 => simp [go_sem]); (case h6 => simp [go_sem]); (case hk => exact HM.out); (case hg => exact hg.out); (case h7 => exact hb.drew); (case h8 => exact Nat.le_refl _); (case c1 => exact encL_rep x m); (case c2 => exact repC_cells (w := wr.drew) hg.out hm3); (case c3 => rw [repC_length _ _ _ hk, encL_rep]; omega); (case c4 => exact encL_one _); intro w4 hg4 hb4; rw [repC_splice x n k _ (by omega)] at hg4)
      simp [go_sem]
      go_roundw
      case rel =>
        refine ⟨_, _, _, _, _, _, _, _, _, _, _, _, _, _, ?_, rfl⟩
        exact ⟨k + m, by omega, by omega, by simp, hg4, hb4⟩
      case measure => simp [intOf]; omega
    · obtain rfl : n = k := by omega
      clear hg2 hb2
      go_wp2
      go_ret
      rw [repC_end] at hg
      refine ⟨_, rfl, ?_, hb⟩
      unfold OwnL
      rw [List.length_replicate]
      exact block_ownL hg.out (Nat.le_refl _) (encL_rep x _) (by omega)
end Go.Proofs.Ytgaclepoipaecaa
