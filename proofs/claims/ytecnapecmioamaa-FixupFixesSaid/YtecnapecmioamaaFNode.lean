/- Contract of fixup.fixNode: a node is fixed; the row of nodes may have grown. -/
import Derived.Test.YtecnapecmioamaaFLay
import Derived.StillTailTactics
namespace Go.Proofs.Ytecnapecmioamaa
open Go.RowKit Go.Shelf Go.Maps
set_option linter.unusedVariables false
attribute [local go_sem] Oper.semAt_some

/-- what the iterator reads, whatever slice the kids lie in -/
structure RunM (B gl gk gm L o m cap : Nat) (mm : Int) (kv : Value) (ks : List Int) (kd : Nat → Int) (X : World) : Prop where
  size : B ≤ X.heap.size
  lt : gl < B ∧ gk < B ∧ gm < B ∧ L < B
  bl : X.cell? ⟨gl, 0, none⟩ = some (.slice (some ⟨L, o, none⟩) m cap)
  bk : X.cell? ⟨gk, 0, none⟩ = some kv
  bm : X.cell? ⟨gm, 0, none⟩ = some (.int .u64 mm)
  ints : Ints X kv ks
  low : ks = [] ∨ ∃ qb qo c, kv = .slice (some ⟨qb, qo, none⟩) ks.length c ∧ qb < B
  kind : ∀ i, i < m → X.cell? ⟨L, o + i * 34, none⟩ = some (.int .i64 (kd i))
theorem RunM.mem {B gl gk gm L o m cap : Nat} {mm : Int} {qb qo c : Nat} {ks : List Int} {kd : Nat → Int} {X : World} (hne : ks ≠ []) (h : RunM B gl gk gm L o m cap mm (.slice (some ⟨qb, qo, none⟩) ks.length c) ks kd X) : RunMem B gl gk gm qb qo c L o m cap mm ks kd X := by
  obtain ⟨h1, h2, h3, h4, h5, h6, h7, h8⟩ := h
  rcases h7 with h7 | ⟨qb', qo', c', e, hq⟩
  · exact absurd h7 hne
  injection e with e1 e2 e3
  injection e1 with e1; injection e1 with e1 e4
  subst e1 e3 e4
  refine ⟨h1, ⟨h2.1, h2.2.1, h2.2.2.1, hq, h2.2.2.2⟩, h3, h4, h5, fun j hj => ?_, h8⟩
  obtain ⟨_, ⟨a, cap', e, hz⟩ | ⟨b', o', cap', e, hc⟩⟩ := h6
  · exact absurd hz hne
  · injection e with e1 e2 e3
    injection e1 with e1; injection e1 with e1 e4
    subst e1 e4
    exact hc j hj
theorem RunMem.gen {B gl gk gm L o m cap : Nat} {mm : Int} {qb qo c : Nat} {ks : List Int} {kd : Nat → Int} {X : World} (hl : ks.length ≤ 9223372036854775807) (h : RunMem B gl gk gm qb qo c L o m cap mm ks kd X) : RunM B gl gk gm L o m cap mm (.slice (some ⟨qb, qo, none⟩) ks.length c) ks kd X :=
  ⟨h.size, ⟨h.lt.1, h.lt.2.1, h.lt.2.2.1, h.lt.2.2.2.2⟩, h.bl, h.bk, h.bm, ⟨hl, .inr ⟨qb, qo, c, rfl, h.kid⟩⟩, .inr ⟨qb, qo, c, rfl, h.lt.2.2.2.1⟩, h.kind⟩
def encV (kv : Value) (x : Bool × Nat × Nat) : Array Value :=
  match kv with
  | .slice (some a) _ c => encR a.block a.off c x
  | _ => encR 0 0 0 x
theorem encV_size (kv : Value) (x : Bool × Nat × Nat) : (encV kv x).size = 2 := by unfold encV; split <;> rfl
theorem runs_nextV (n : Nat) (hn : 1 ≤ n) (B gl gk gm L o m cap : Nat) (mm : Int) (kv : Value) (ks : List Int) (kd : Nat → Int) (hc : CapOk kv) (hm : m ≤ 1000000) (hmm : 0 ≤ mm)
    (hks : ∀ z ∈ ks, 0 ≤ z ∧ z < (m : Int)) (w : World) (hR : RunM B gl gk gm L o m cap mm kv ks kd w) (hB : B = w.heap.size) :
    SeqNext Fence.wide n Try.prog 37 #[.pointer (some ⟨gk, 0, none⟩), .pointer (some ⟨gm, 0, none⟩), .pointer (some ⟨gl, 0, none⟩)] (encV kv) (KeepR (RunM B gl gk gm L o m cap mm kv ks kd)) (nxtR (fun z => hasB mm (kd z.toNat)) ks) (fun ys => endR ys = ks.length) (fun _ => True) w := by
  intro l J Jx W hW hJ hY h0
  have hi := hR.ints
  have hlow := hR.low
  by_cases hne : ks = []
  · subst hne
    obtain ⟨q, c, rfl⟩ := hi.form
    have hgk := hR.lt.2.1
    have := runs_in0 n hn l gl gk gm q c J Jx W ((hW.cell (p := ⟨gk, 0, none⟩) (show gk < w.heap.size by omega)).trans hR.bk) (by have := hW.size; omega) h0
    exact this
  · rcases hlow with h | ⟨qb, qo, c, rfl, hq⟩
    · exact absurd h hne
    obtain ⟨p', l', c', e, hlc, hcc⟩ := hc
    injection e with e1 e2 e3
    subst e2 e3
    have hRm := hR.mem hne
    refine runs_in n hn l B gl gk gm qb qo c L o m cap ks.length mm ks kd rfl hlc hcc hm hmm hks J Jx (fun pre x V hj hx => ?_) W hJ (hRm.below (hB ▸ hW)) h0
    obtain ⟨fn, tmps, asg, body, h1, h2⟩ := hY pre x V hj hx
    refine ⟨fn, tmps, asg, body, h1, h2.mono ?_⟩
    rintro e W' (⟨a, b, c⟩ | h)
    · exact .inl ⟨a, b, c.1, fun hr => (c.2 (hr.gen hi.small)).mem hne⟩
    · exact .inr h
/-- a row of nodes lies in a block -/
def RowAt (X : World) (L cap k : Nat) (ns : List Nd) : Prop := (∃ cur : Array Value, X.heap[L]? = some (.cells cur 47 (0, 0)) ∧ cur.size = cap * 34 ∧ cur.toList.take (k * 34) = flatN ns) ∧ ns.length = k
/-- a node's numbers lie in the first world, not in block L -/
def OkW (w : World) (L : Nat) (n : Nd) : Prop := n.ok w ∧ Apart L n.kv n.ks ∧ Apart L n.wv n.ws
theorem Ints.old {w X : World} {L : Nat} {v : Value} {zs : List Int} (h : Ints w v zs) (ha : Apart L v zs) (ho : ∀ j, j < w.heap.size → j ≠ L → X.heap[j]? = w.heap[j]?) : Ints X v zs := by
  obtain ⟨h1, ⟨a, cap, rfl, rfl⟩ | ⟨b, off, cap, rfl, hc⟩⟩ := h
  · exact ⟨h1, .inl ⟨a, cap, rfl, rfl⟩⟩
  · refine ⟨h1, .inr ⟨b, off, cap, rfl, fun j hj => ?_⟩⟩
    have hl : b < w.heap.size := cell_lt (hc j hj)
    have hne : b ≠ L := by
      rcases ha with rfl | ⟨b', off', cap', e, hne⟩
      · simp at hj
      · injection e with e1; injection e1 with e1; injection e1 with e1; rw [e1]; exact hne
    exact (World.cell?_of_block (a := ⟨b, off + j, none⟩) (ho b hl hne)).trans (hc j hj)
theorem OkW.at {w X : World} {L L' : Nat} {n : Nd} (h : OkW w L n) (ho : ∀ j, j < w.heap.size → j ≠ L → X.heap[j]? = w.heap[j]?) (hL : L' = L ∨ w.heap.size ≤ L') : n.ok X ∧ Apart L' n.kv n.ks ∧ Apart L' n.wv n.ws := by
  obtain ⟨h1, h2, h3⟩ := h
  refine ⟨⟨h1.1.old h2 ho, h1.2.1.old h3 ho, h1.2.2⟩, ?_⟩
  rcases hL with rfl | hL
  · exact ⟨h2, h3⟩
  · exact ⟨h1.1.apart hL, h1.2.1.apart hL⟩
theorem RowAt.laid {w X : World} {L L' cap k : Nat} {ns : List Nd} (h : RowAt X L' cap k ns) (hw : ∀ n ∈ ns, OkW w L n) (ho : ∀ j, j < w.heap.size → j ≠ L → X.heap[j]? = w.heap[j]?) (hL : L' = L ∨ w.heap.size ≤ L') : Laid X L' cap k ns :=
  ⟨h.1, h.2, fun n hn => (hw n hn).at ho hL⟩
theorem RowAt.same {X Y : World} {L cap k : Nat} {ns : List Nd} (h : RowAt X L cap k ns) (he : Y.heap[L]? = X.heap[L]?) : RowAt Y L cap k ns := by
  obtain ⟨⟨cur, h1, h2⟩, h3⟩ := h
  exact ⟨⟨cur, he.trans h1, h2⟩, h3⟩
/-- what holds after the runs so far -/
structure FH (base L m cap : Nat) (k mm : Int) (kv : Value) (ks : List Int) (ns : List Nd) (w : World) (kids : List Int) (news : List (List Int)) (kvX : Value) (L' cap' : Nat) (nds : List Nd) (X : World) : Prop where
  box0 : Whole X w.heap.size 22 [.slice (some ⟨L', 0, none⟩) (m + news.length) cap']
  box2 : Whole X (w.heap.size + 2) 34 [kvX]
  own : X.ownsRow (w.heap.size + 6) 3 1 kvX kids.length (kids.map (Value.int .i64))
  row : RowAt X L' cap' (m + news.length) (ns ++ nds)
  le : m + news.length ≤ cap'
  max : cap' ≤ maxLen
  bare : nds.map Nd.bare = news.map (newNd k)
  okw : ∀ n ∈ ns ++ nds, OkW w L n
  lp : L' = L ∨ w.heap.size + 6 ≤ L'
  kind : Whole X (w.heap.size + 1) 3 [.int .i64 k]
  run : RunM (w.heap.size + 6) (w.heap.size + 3) (w.heap.size + 4) (w.heap.size + 5) L 0 m cap mm kv ks (kdOf ns) X
  low : Below base w X
  old : ∀ j, j < w.heap.size → j ≠ L → X.heap[j]? = w.heap[j]?
def FI (base L m cap : Nat) (k mm : Int) (kv : Value) (ks : List Int) (ns : List Nd) (w : World) (pre : List (Bool × Nat × Nat)) (X : World) : Prop :=
  ∃ (kids : List Int) (news : List (List Int)) (kvX : Value) (L' cap' : Nat) (nds : List Nd), KInv (mayAt k ns) m ks (endR pre) kids news ∧ FH base L m cap k mm kv ks ns w kids news kvX L' cap' nds X
theorem RunM.grownN {B gl gk gm L o m cap : Nat} {mm : Int} {kv : Value} {ks : List Int} {kd : Nat → Int} {X Y : World} {row : Option Nat} (h : RunM B gl gk gm L o m cap mm kv ks kd X) (hg : X.grownBy Y row) (hr : NoCells X row) : RunM B gl gk gm L o m cap mm kv ks kd Y :=
  ⟨Nat.le_trans h.size hg.size, h.lt, cell_grown hg hr h.bl, cell_grown hg hr h.bk, cell_grown hg hr h.bm, h.ints.grownN hg hr, h.low, fun i hi => cell_grown hg hr (h.kind i hi)⟩
theorem RowAt.grownN {X Y : World} {L cap k : Nat} {ns : List Nd} {row : Option Nat} (h : RowAt X L cap k ns) (hg : X.grownBy Y row) (hr : NoCells X row) : RowAt Y L cap k ns := by
  obtain ⟨⟨cur, h1, h2⟩, h3⟩ := h
  refine ⟨⟨cur, (hg.block L (Array.getElem?_eq_some_iff.1 h1).1 fun e => ?_).trans h1, h2⟩, h3⟩
  obtain ⟨o, ho, hc⟩ := hr L e.symm
  rw [h1] at ho; cases ho; cases hc
theorem RunM.below {B gl gk gm L o m cap : Nat} {mm : Int} {kv : Value} {ks : List Int} {kd : Nat → Int} {X Y : World} (h : RunM B gl gk gm L o m cap mm kv ks kd X) (hb : Below B X Y) : RunM B gl gk gm L o m cap mm kv ks kd Y := by
  have hl := h.lt
  refine ⟨Nat.le_trans h.size hb.size, h.lt, (hb.cell (p := ⟨gl, 0, none⟩) hl.1).trans h.bl, (hb.cell (p := ⟨gk, 0, none⟩) hl.2.1).trans h.bk, (hb.cell (p := ⟨gm, 0, none⟩) hl.2.2.1).trans h.bm, ?_, h.low, fun i hi => (hb.cell (p := ⟨L, o + i * 34, none⟩) hl.2.2.2).trans (h.kind i hi)⟩
  obtain ⟨h1, h2 | ⟨b, off, c, e, hc⟩⟩ := h.ints
  · exact ⟨h1, .inl h2⟩
  · refine ⟨h1, .inr ⟨b, off, c, e, fun j hj => ?_⟩⟩
    rcases h.low with rfl | ⟨qb, qo, c', e', hq⟩
    · simp at hj
    · rw [e] at e'; injection e' with e1; injection e1 with e1; injection e1 with e1
      exact (hb.cell (p := ⟨b, off + j, none⟩) (show b < B by omega)).trans (hc j hj)
/-- what the iterator's memory keeps in a step -/
theorem RunM.step {N gl gk gm L m cap : Nat} {mm : Int} {kv : Value} {ks : List Int} {kd : Nat → Int} {w V X : World} (h : RunM (N + 6) gl gk gm L 0 m cap mm kv ks kd V) (hg : N + 2 < gl ∧ N + 2 < gk ∧ N + 2 < gm) (hN : w.heap.size = N) (hLN : L < N) (hI : Ints w kv ks) (hA : Apart L kv ks)
    (hk : ∀ j, j < N + 6 → j ≠ N → j ≠ N + 2 → j ≠ L → X.heap[j]? = V.heap[j]?) (ho : ∀ j, j < w.heap.size → j ≠ L → X.heap[j]? = w.heap[j]?) (hc : ∀ j, j < m * 34 → X.cell? ⟨L, j, none⟩ = V.cell? ⟨L, j, none⟩) (hs : V.heap.size ≤ X.heap.size) :
    RunM (N + 6) gl gk gm L 0 m cap mm kv ks kd X := by
  have hl := h.lt
  refine ⟨Nat.le_trans h.size hs, h.lt, (World.cell?_of_block (a := ⟨gl, 0, none⟩) (hk gl (by omega) (by omega) (by omega) (by omega))).trans h.bl, (World.cell?_of_block (a := ⟨gk, 0, none⟩) (hk gk (by omega) (by omega) (by omega) (by omega))).trans h.bk,
    (World.cell?_of_block (a := ⟨gm, 0, none⟩) (hk gm (by omega) (by omega) (by omega) (by omega))).trans h.bm, hI.old hA ho, h.low, fun i hi => (hc (0 + i * 34) (by omega)).trans (h.kind i hi)⟩
theorem FI.own (base L m cap : Nat) (k mm : Int) (kv : Value) (ks : List Int) (ns : List Nd) (w : World) (K : Nat) (h0 : base ≤ w.heap.size) (h1 : w.heap.size + 6 ≤ K) : OwnFrom K (FI base L m cap k mm kv ks ns w) := fun pre X Y row ⟨kids, news, kvX, L', cap', nds, hK, h⟩ hg hr => by
  have hn : NoCells X row := fun r e => (hr r e).2
  exact ⟨kids, news, kvX, L', cap', nds, hK, h.box0.grown hg (h.box0.ne hn), h.box2.grown hg (h.box2.ne hn), own_grown h.own hg hn, h.row.grownN hg hn, h.le, h.max, h.bare, h.okw, h.lp, h.kind.grown hg (h.kind.ne hn), h.run.grownN hg hn,
    (ownFrom_below (β := Unit) h0 (by omega)) () X Y row h.low hg hr, fun j hj hj2 => (hg.block j (by have := h.low.size; omega) (fun e => by have := (hr j e.symm).1; omega)).trans (h.old j hj hj2)⟩
section
variable {base L m cap : Nat} {k mm : Int} {kv : Value} {ks : List Int} {ns : List Nd} {w : World} {kids kids' : List Int} {news : List (List Int)} {kvX v' : Value} {L' cap' : Nat} {nds : List Nd} {V X : World}
theorem FH.alloc (h : FH base L m cap k mm kv ks ns w kids news kvX L' cap' nds V) (h0 : base ≤ w.heap.size) (o : Obj) : FH base L m cap k mm kv ks ns w kids news kvX L' cap' nds (V.alloc o) := by
  have hb : Below V.heap.size V (V.alloc o) := (Below.refl _ V).alloc (Nat.le_refl _) o
  have hn : NoCells V none := fun r e => by cases e
  have hg := World.grownBy_alloc V o none
  have hs := h.run.size
  refine ⟨h.box0.alloc o, h.box2.alloc o, h.own.alloc o, h.row.grownN hg hn, h.le, h.max, h.bare, h.okw, h.lp, h.kind.alloc o, h.run.grownN hg hn, h.low.alloc (by omega) o, fun j hj hj2 => (hb.block j (by omega)).trans (h.old j hj hj2)⟩
theorem FH.below (h : FH base L m cap k mm kv ks ns w kids news kvX L' cap' nds V) (h0 : base ≤ w.heap.size) (hb : Below V.heap.size V X) : FH base L m cap k mm kv ks ns w kids news kvX L' cap' nds X := by
  have hs := h.run.size
  refine ⟨h.box0.below hb h.box0.lt, h.box2.below hb h.box2.lt, ?_, ?_, h.le, h.max, h.bare, h.okw, h.lp, h.kind.below hb h.kind.lt, h.run.below (hb.mono hs), h.low.trans (hb.mono (by omega)), fun j hj hj2 => (hb.block j (by omega)).trans (h.old j hj hj2)⟩
  · exact own_same h.own fun g e => hb.block g (h.own.lt g e).2
  · obtain ⟨⟨cur, h1, _⟩, _⟩ := h.row
    exact h.row.same (hb.block L' (Array.getElem?_eq_some_iff.1 h1).1)
theorem own_ne_row (h1 : V.ownsRow (w.heap.size + 6) 3 1 kvX kids.length (kids.map (Value.int .i64))) (h2 : RowAt V L' cap' m ns) : kvX.ownBlock ≠ some L' := fun e => by
  obtain ⟨c1, h3⟩ := own_block_cells h1 e
  obtain ⟨⟨cur, h4, _⟩, _⟩ := h2
  rw [h4] at h3; cases h3
theorem FH.layKids (h : FH base L m cap k mm kv ks ns w kids news kvX L' cap' nds V) (h0 : base ≤ w.heap.size) (hL : L < w.heap.size) (hI : Ints w kv ks) (hA : Apart L kv ks)
    (ho : X.ownsRow (w.heap.size + 6) 3 1 v' kids'.length (kids'.map (Value.int .i64))) (hg : V.grownBy X kvX.ownBlock) :
    FH base L m cap k mm kv ks ns w kids' news v' L' cap' nds (X.setCell ⟨w.heap.size + 2, 0, none⟩ v') ∧ KeepsOthers V (X.setCell ⟨w.heap.size + 2, 0, none⟩ v') := by
  have n0 := whole_own h.box0 h.own (by decide)
  have n2 := whole_own h.box2 h.own (by decide)
  have hlp := h.lp
  have hs := h.run.size
  have hown := fun g e => (h.own.lt g e).1
  have b0 := h.box0.grown hg n0
  have b2 := h.box2.grown hg n2
  have b1 : Whole X (w.heap.size + 1) 3 [.int .i64 k] := h.kind.grown hg (fun e => by have := hown _ e; omega)
  have hLn : kvX.ownBlock ≠ some L' := own_ne_row h.own h.row
  obtain ⟨⟨cur, r1, r2⟩, r3⟩ := h.row
  have hLl := (Array.getElem?_eq_some_iff.1 r1).1
  have hk : ∀ j, j < V.heap.size → kvX.ownBlock ≠ some j → j ≠ w.heap.size + 2 → (X.setCell ⟨w.heap.size + 2, 0, none⟩ v').heap[j]? = V.heap[j]? := fun j h1 h2 h3 => (Below.heap_setCell X _ v' j h3).trans (hg.block j h1 (fun e => h2 e.symm))
  have hold : ∀ j, j < w.heap.size → j ≠ L → (X.setCell ⟨w.heap.size + 2, 0, none⟩ v').heap[j]? = w.heap[j]? := fun j hj hj2 => (hk j (by omega) (fun e => by have := hown _ e; omega) (by omega)).trans (h.old j hj hj2)
  have hLk : (X.setCell ⟨w.heap.size + 2, 0, none⟩ v').heap[L]? = V.heap[L]? := hk L (by omega) (fun e => by have := hown _ e; omega) (by omega)
  refine ⟨⟨b0.other _ _ (show w.heap.size ≠ w.heap.size + 2 by omega), b2.set 0 v', own_setCell ho (whole_own b2 ho (by decide)), RowAt.same (X := V) ⟨⟨cur, r1, r2⟩, r3⟩ (hk L' hLl hLn (by omega)), h.le, h.max, h.bare, h.okw, h.lp, b1.other _ _ (show w.heap.size + 1 ≠ w.heap.size + 2 by omega), ?_, ?_, hold⟩, (own_keeps h.own hg).trans (KeepsOthers.setCell _ _ _)⟩
  · exact h.run.step (w := w) (by omega) rfl hL hI hA (fun j h1 h2 h3 h4 => hk j (by omega) (fun e => by have := hown _ e; omega) h3) hold (fun j hj => World.cell?_of_block (a := ⟨L, j, none⟩) hLk) (by simpa using hg.size)
  · exact (own_below h.low h.own (by omega) hg (by omega)).setCell (p := ⟨w.heap.size + 2, 0, none⟩) (by simp; omega) _
theorem FH.layNode {L2 cap2 : Nat} {nd : Nd} {run : List Int} (h : FH base L m cap k mm kv ks ns w kids news kvX L' cap' nds V) (h0 : base ≤ L) (hL : L < w.heap.size) (hI : Ints w kv ks) (hA : Apart L kv ks)
    (hX : Laid X L2 cap2 (m + news.length + 1) ((ns ++ nds) ++ [nd])) (hc1 : m + news.length + 1 ≤ cap2) (hc2 : cap2 ≤ maxLen) (hl2 : L2 = L' ∨ L2 = V.heap.size) (hg : V.grownBy X (some L')) (hko : KeepsOthers V X)
    (hcell : ∀ j, j < (m + news.length) * 34 → X.cell? ⟨L', j, none⟩ = V.cell? ⟨L', j, none⟩) (hw : OkW w L nd) (hb : nd.bare = newNd k run) :
    FH base L m cap k mm kv ks ns w kids (news ++ [run]) kvX L2 cap2 (nds ++ [nd]) (X.setCell ⟨w.heap.size, 0, none⟩ (.slice (some ⟨L2, 0, none⟩) (m + news.length + 1) cap2)) ∧ KeepsOthers V (X.setCell ⟨w.heap.size, 0, none⟩ (.slice (some ⟨L2, 0, none⟩) (m + news.length + 1) cap2)) := by
  have hlp := h.lp
  have hs := h.run.size
  have hown := fun g e => (h.own.lt g e).1
  have hLn : kvX.ownBlock ≠ some L' := own_ne_row h.own h.row
  have hk : ∀ j, j < V.heap.size → j ≠ L' → j ≠ w.heap.size → (X.setCell ⟨w.heap.size, 0, none⟩ (.slice (some ⟨L2, 0, none⟩) (m + news.length + 1) cap2)).heap[j]? = V.heap[j]? := fun j h1 h2 h3 =>
    (Below.heap_setCell X _ _ j h3).trans (hg.block j h1 (fun e => h2 (by injection e)))
  have hold : ∀ j, j < w.heap.size → j ≠ L → (X.setCell ⟨w.heap.size, 0, none⟩ (.slice (some ⟨L2, 0, none⟩) (m + news.length + 1) cap2)).heap[j]? = w.heap[j]? := fun j hj hj2 => (hk j (by omega) (by omega) (by omega)).trans (h.old j hj hj2)
  have b0 := h.box0.grown hg (fun e => by injection e with e; omega)
  have hlen : m + (news ++ [run]).length = m + news.length + 1 := by rw [List.length_append]; rfl
  refine ⟨⟨?_, ?_, ?_, ?_, by rw [hlen]; exact hc1, hc2, by rw [List.map_append, List.map_append, h.bare, List.map_cons, hb]; rfl, ?_, by omega, ?_, ?_, ?_, hold⟩, hko.trans (KeepsOthers.setCell _ _ _)⟩
  · rw [hlen]; exact b0.set 0 _
  · exact (h.box2.grown hg (fun e => by injection e with e; omega)).other _ _ (show w.heap.size + 2 ≠ w.heap.size by omega)
  · exact own_setCell (h.own.kept hg (.inr hLn)) (fun e => by have := hown _ e; omega)
  · rw [hlen, ← List.append_assoc]
    exact RowAt.same (X := X) ⟨hX.row, hX.len⟩ (Below.heap_setCell X _ _ L2 (show L2 ≠ w.heap.size by omega))
  · intro n hn
    rw [← List.append_assoc] at hn
    rcases List.mem_append.1 hn with hn | hn
    · exact h.okw n hn
    · obtain rfl : n = nd := by simpa using hn
      exact hw
  · exact (h.kind.grown hg (fun e => by injection e with e; omega)).other _ _ (show w.heap.size + 1 ≠ w.heap.size by omega)
  · refine h.run.step (w := w) (by omega) rfl hL hI hA (fun j h1 h2 h3 h4 => hk j (by omega) (by omega) h2) hold (fun j hj => ?_) (by simpa using hg.size)
    by_cases e : L' = L
    · subst e
      exact (World.cell?_of_block (a := ⟨L', j, none⟩) (Below.heap_setCell X _ _ L' (show L' ≠ w.heap.size by omega))).trans (hcell j (by omega))
    · exact World.cell?_of_block (a := ⟨L, j, none⟩) (hk L (by omega) (by omega) (by omega))
  · exact (h.low.grown hg (by omega) (fun j e => by injection e with e; omega)).setCell (p := ⟨w.heap.size, 0, none⟩) (by simp; omega) _
end
theorem Laid.ckept {X Y : World} {L cap k : Nat} {ns : List Nd} (h : Laid X L cap k ns) (hc : CellsKept X Y) : Laid Y L cap k ns := by
  obtain ⟨⟨cur, h1, h2⟩, h3, h4⟩ := h
  have hi : ∀ v zs, Ints X v zs → Ints Y v zs := fun v zs hv => by
    obtain ⟨g1, g2 | ⟨b, off, c, e, hc'⟩⟩ := hv
    · exact ⟨g1, .inl g2⟩
    · exact ⟨g1, .inr ⟨b, off, c, e, fun j hj => hc.cell (hc' j hj)⟩⟩
  exact ⟨⟨cur, hc _ _ h1 rfl, h2⟩, h3, fun n hn => ⟨⟨hi _ _ (h4 n hn).1.1, hi _ _ (h4 n hn).1.2.1, (h4 n hn).1.2.2⟩, (h4 n hn).2⟩⟩
theorem fix_bare (ns nds : List Nd) (i : Nat) (n : Nd) (kv : Value) (kids : List Int) (news : List (List Int)) (k : Int) (m : Nat) (hi : ns[i]? = some n) (hm : ns.length = m) (hk : n.k = k) (hb : nds.map Nd.bare = news.map (newNd k))
    (h1 : (FK (mayAt k ns) m n.ks).1 = kids) (h2 : (FK (mayAt k ns) m n.ks).2.1 = news) : ((ns ++ nds).set i { n with kv := kv, ks := kids }).map Nd.bare = fixB (ns.map Nd.bare) i := by
  subst hk
  have hil := (List.getElem?_eq_some_iff.1 hi).1
  have e1 : (ns.map Nd.bare)[i]? = some n.bare := by rw [List.getElem?_map, hi]; rfl
  have e2 : mayAt n.bare.k (ns.map Nd.bare) = mayAt n.k ns := by
    funext z
    unfold mayAt
    rw [kdOf_bare]
    rfl
  unfold fixB
  rw [e1]
  simp only
  rw [e2, List.length_map, hm]
  have e3 : n.bare.ks = n.ks := rfl
  rw [e3, h1, h2, List.set_append_left _ _ hil, List.map_append, hb, List.map_set]
  rfl
def FixPost (base L : Nat) (ns : List Nd) (i : Nat) (w : World) (e : Ending) (W' : World) : Prop :=
  ∃ (L' cap' : Nat) (ns' : List Nd), e = .returned (.slice (some ⟨L', 0, none⟩) ns'.length cap') ∧ Laid W' L' cap' ns'.length ns' ∧ ns'.map Nd.bare = fixB (ns.map Nd.bare) i ∧ ns'.length ≤ cap' ∧ cap' ≤ maxLen ∧ base ≤ L' ∧ Below base w W' ∧
    ∀ j, j < w.heap.size → j ≠ L → W'.heap[j]? = w.heap[j]?
set_option maxRecDepth 100000 in
set_option maxHeartbeats 2000000 in
theorem fixNode_any (L cap m i bm base : Nat) (ns : List Nd) (n : Nd) (w : World) (hL : Laid w L cap m ns) (hmc : m ≤ cap) (hcap : cap ≤ maxLen) (hm : m ≤ 300000) (hn : ns[i]? = some n) (hkk : n.ks.length ≤ 70000) (hk : 0 ≤ n.k ∧ n.k ≤ 10)
    (hks : ∀ z ∈ n.ks, 0 ≤ z ∧ z < (m : Int)) (hP : PermAt w bm) (hb : base ≤ L) :
    Calls Try.prog 15 #[.slice (some ⟨L, 0, none⟩) m cap, .int .i64 i, .map (some bm)] w (FixPost base L ns i w) := by
  obtain ⟨hil, _⟩ := List.getElem?_eq_some_iff.1 hn
  have hlen : ns.length = m := by obtain ⟨_, h, _⟩ := hL; exact h
  have hnok := (by obtain ⟨_, _, h⟩ := hL; exact h n (List.mem_iff_getElem?.2 ⟨i, hn⟩) : n.ok w ∧ Apart L n.kv n.ks ∧ Apart L n.wv n.ws)
  have hLl : L < w.heap.size := by obtain ⟨⟨cur, h, _⟩, _⟩ := hL; exact (Array.getElem?_eq_some_iff.1 h).1
  have hpg : PageAt w (.slice (some ⟨L, 0, none⟩) m cap) ns := hL.page (by omega)
  obtain ⟨b', o', he, hc⟩ : ∃ b off, (some (⟨L, 0, none⟩ : Addr)) = some ⟨b, off, none⟩ ∧ ∀ i n, ns[i]? = some n → NdAt w b (off + i * 34) n := page_some hpg (by omega)
  injection he with he; injection he with he1 he2
  subst he1 he2
  obtain ⟨q, kc, hkv⟩ := hnok.1.1.form
  have c0 : w.cell? ⟨L, i * 34, none⟩ = some (.int .i64 n.k) := by have := hc i n hn 0 _ n.c0; simpa using this
  have c1 : w.cell? ⟨L, i * 34 + 1, none⟩ = some (.slice q n.ks.length kc) := by have := hc i n hn 1 _ n.c1; rw [← hkv]; simpa using this
  have hKD : ∀ j, j < m → w.cell? ⟨L, j * 34, none⟩ = some (.int .i64 (kdOf ns j)) := fun j hj => by
    have hj' := List.getElem?_eq_getElem (show j < ns.length by omega)
    have := hc j _ hj' 0 _ (Nd.c0 _)
    unfold kdOf
    rw [hj']
    simpa using this
  obtain ⟨k, hkeq⟩ : ∃ k, n.k = k := ⟨_, rfl⟩
  obtain ⟨kl, hkleq⟩ : ∃ kl, n.ks.length = kl := ⟨_, rfl⟩
  rw [hkeq] at c0 hk
  rw [hkleq] at c1 hkk
  have hwf : (Lit.int .i64 k).wf = true := litwfP (by omega) (by omega)
  have HLK : Hid (∀ X : World, X.heap[bm]? = w.heap[bm]? → (Instr.lookup 49 (.map (some bm)) (.int .i64 k) false).run Try.prog X = .ok (.int .u64 (permM k)) X) := Lib.hid fun X hX => (hP.same hX).look k hwf
  have hPl := hP.lt
  have him : i < m := by omega
  have HRF := Lib.hid (fun X => runsF_any (some ⟨L, 0, none⟩) q m cap kl kc (permM k) X)
  have HL := Lib.hid hL
  have HNO := Lib.hid hnok
  have HKS := Lib.hid hks
  have HN := Lib.hid hn
  have HKD := Lib.hid hKD
  have HLEN := Lib.hid hlen
  rw [hkleq] at hkv
  have HKV := Lib.hid hkv
  have HKE := Lib.hid hkeq
  have HKL := Lib.hid hkleq
  have HPG := Lib.hid hpg
  clear hL hnok hks hn hKD hlen hkv hkeq hkleq hpg hc hP
  refine (callsIn_wide (n := 3)).1 (callsIn_of_wp_marks Try.func15 rfl trivial (wpIn_wide.2 ?_) rfl)
  simp only [Try.ntmps15, List.size_toArray, List.length_cons, List.length_nil, Nat.reduceAdd, Nat.reduceSub, Array.replicate_succ, Array.replicate_zero, List.push_toArray, List.append_toArray, List.nil_append, List.cons_append]
  go_wp2
  obtain ⟨V, hV⟩ : ∃ V, ((w.alloc (.cells #[.slice (some ⟨L, 0, none⟩) m cap] 22)).alloc (.cells #[.int .i64 k] 3)).alloc (.cells #[.slice none 0 0] 34) = V := ⟨_, rfl⟩
  have v0 : Whole V w.heap.size 22 [.slice (some ⟨L, 0, none⟩) m cap] := by rw [← hV]; exact ((whole_new w [.slice (some ⟨L, 0, none⟩) m cap] 22 _ rfl).alloc _).alloc _
  have v1 : Whole V (w.heap.size + 1) 3 [.int .i64 k] := by rw [← hV]; exact (whole_new (w.alloc (.cells #[.slice (some ⟨L, 0, none⟩) m cap] 22)) [.int .i64 k] 3 _ (by simp)).alloc _
  have v2 : Whole V (w.heap.size + 2) 34 [.slice none 0 0] := by rw [← hV]; exact whole_new ((w.alloc (.cells #[.slice (some ⟨L, 0, none⟩) m cap] 22)).alloc (.cells #[.int .i64 k] 3)) [.slice none 0 0] 34 _ (by simp)
  have bV : Below w.heap.size w V := by rw [← hV]; exact (((Below.refl _ w).alloc (Nat.le_refl _) _).alloc (by simp) _).alloc (by simp; omega) _
  have sV : V.heap.size = w.heap.size + 3 := by rw [← hV]; simp
  rw [hV]
  clear hV
  refine region_still_tailF 9 (by kernel_rfl) (by decide +kernel) (fun w2 hw2 => ?_)
  have bW : Below V.heap.size V w2 := by rw [← hw2]; exact (Below.refl _ V).drew
  have u0 := v0.below bW v0.lt
  have u1 := v1.below bW v1.lt
  have u2 := v2.below bW v2.lt
  have s2 : w2.heap.size = w.heap.size + 3 := by rw [← hw2]; exact sV
  have b2 : Below w.heap.size w w2 := bV.trans (bW.mono (by omega))
  have hlk := HLK.out w2 (b2.block bm hPl)
  have d0 := (b2.cell (p := ⟨L, i * 34, none⟩) hLl).trans c0
  have d1 := (b2.cell (p := ⟨L, i * 34 + 1, none⟩) hLl).trans c1
  have q0 := u0.cellAt 0
  have q1 := u1.cellAt 0
  have l0 := u0.lt
  have l1 := u1.lt
  clear hw2 bW v0 v1 v2 bV c0 c1
  have U0 := Lib.hid u0
  have U1 := Lib.hid u1
  have U2 := Lib.hid u2
  have B2 := Lib.hid b2
  clear u0 u1 u2 b2 sV
  simp only [List.take_succ_cons, List.take_zero, List.drop_succ_cons, List.drop_zero]
  repeat still_step
  refine wpStill_nil ?_
  go_wp2_with (go_at_call 17; refine (HRF.out _).mono ?_; rintro e w' ⟨rfl, rfl⟩)
  obtain ⟨W3, hW3⟩ : ∃ W3, ((w2.alloc (.cells #[.slice (some ⟨L, 0, none⟩) m cap] 22)).alloc (.cells #[.slice q kl kc] 34)).alloc (.cells #[.int .u64 (permM k)] 56) = W3 := ⟨_, rfl⟩
  have bW3 : Below w2.heap.size w2 W3 := by rw [← hW3]; exact (((Below.refl _ w2).alloc (Nat.le_refl _) _).alloc (by simp) _).alloc (by simp; omega) _
  have s3 : W3.heap.size = w.heap.size + 6 := by rw [← hW3]; simp; omega
  have x3 : Whole W3 (w.heap.size + 3) 22 [.slice (some ⟨L, 0, none⟩) m cap] := by rw [← hW3]; exact ((whole_new w2 [.slice (some ⟨L, 0, none⟩) m cap] 22 _ (by omega)).alloc _).alloc _
  have x4 : Whole W3 (w.heap.size + 4) 34 [.slice q kl kc] := by rw [← hW3]; exact (whole_new (w2.alloc (.cells #[.slice (some ⟨L, 0, none⟩) m cap] 22)) [.slice q kl kc] 34 _ (by simp; omega)).alloc _
  have x5 : Whole W3 (w.heap.size + 5) 56 [.int .u64 (permM k)] := by rw [← hW3]; exact whole_new ((w2.alloc (.cells #[.slice (some ⟨L, 0, none⟩) m cap] 22)).alloc (.cells #[.slice q kl kc] 34)) [.int .u64 (permM k)] 56 _ (by simp; omega)
  have b3 : Below w.heap.size w W3 := B2.out.trans (bW3.mono (by omega))
  have hIk : Ints w (.slice q kl kc) n.ks := by rw [← HKV.out]; exact HNO.out.1.1
  have hAk : Apart L (.slice q kl kc) n.ks := by rw [← HKV.out]; exact HNO.out.2.1
  have hCk : CapOk (.slice q kl kc) := by rw [← HKV.out]; exact HNO.out.1.2.2.1
  have hRun : RunM (w.heap.size + 6) (w.heap.size + 3) (w.heap.size + 4) (w.heap.size + 5) L 0 m cap (permM k) (.slice q kl kc) n.ks (kdOf ns) W3 := by
    refine ⟨by omega, by omega, x3.cellAt 0, x4.cellAt 0, x5.cellAt 0, hIk.below b3, ?_, fun j hj => (b3.cell (p := ⟨L, 0 + j * 34, none⟩) hLl).trans (by rw [Nat.zero_add]; exact HKD.out j hj)⟩
    obtain ⟨_, ⟨a, cap', e, hz⟩ | ⟨b', o', cap', e, hc⟩⟩ := hIk
    · exact .inl hz
    · by_cases hz : n.ks = []
      · exact .inl hz
      · refine .inr ⟨b', o', cap', e, ?_⟩
        have : b' < w.heap.size := cell_lt (hc 0 (List.length_pos_iff.2 hz))
        omega
  have hF0 : FH base L m cap k (permM k) (.slice q kl kc) n.ks ns w [] [] (.slice none 0 0) L cap [] W3 := by
    obtain ⟨r1, r2, r3⟩ := HL.out
    exact ⟨by simpa using U0.out.below bW3 U0.out.lt, U2.out.below bW3 U2.out.lt, World.ownsRow_nil _ _ _ _, by
      refine RowAt.same (X := w) ⟨by simpa using r1, by simpa using r2⟩ (b3.block L hLl), by simpa using hmc, hcap, rfl, by simpa [OkW] using r3, .inl rfl, U1.out.below bW3 U1.out.lt, hRun, b3.mono (by omega), fun j hj _ => b3.block j hj⟩
  have HIK := Lib.hid hIk
  have HAK := Lib.hid hAk
  rw [hW3]
  clear hW3 bW3 x3 x4 x5 b3 hIk hAk s2 d0 d1 q0 q1 l0 l1 hlk HLK HRF U0 U1 U2 B2 HKD HPG
  refine (wpIn_wide (n := 3)).1 (range_next (F := Fence.wide) rfl (by omega) (gf := 37) (lb := #[.pointer (some ⟨w.heap.size + 3 + 1, 0, none⟩), .pointer (some ⟨w.heap.size + 3 + 1 + 1, 0, none⟩), .pointer (some ⟨w.heap.size + 3, 0, none⟩)]) rfl trivial (enters_of Try.func37 (by kernel_rfl) rfl)
    (Kp := KeepR (RunM (w.heap.size + 6) (w.heap.size + 3) (w.heap.size + 4) (w.heap.size + 5) L 0 m cap (permM k) (.slice q kl kc) n.ks (kdOf ns))) (fun _ _ _ h k => h.trans k) (fun W l o h1 h2 => ⟨by simp, fun hr => hr.below (below_put W o (by omega) h2)⟩)
    (runs_nextV _ (by omega) (w.heap.size + 6) (w.heap.size + 3) (w.heap.size + 4) (w.heap.size + 5) L 0 m cap (permM k) (.slice q kl kc) n.ks (kdOf ns) hCk (by omega) (permM_pos k) HKS.out W3 hRun s3.symm) (fun x => encV_size _ x)
    (FI base L m cap k (permM k) (.slice q kl kc) n.ks ns w) (fun _ _ _ => False) (FI.own _ _ _ _ _ _ _ _ _ _ _ (by omega) (by omega)) (fun _ _ _ _ _ hs _ _ => hs)
    ⟨[], [], _, L, cap, [], KInv.start _ _ _, hF0⟩ ?round ?done ?stop)
  case round =>
    rintro l pre ⟨r, f, t⟩ V hl hI ⟨hfe, hra⟩
    dsimp only at hfe hra
    have hlow : n.ks = [] ∨ ∃ qb qo c, (.slice q kl kc : Value) = .slice (some ⟨qb, qo, none⟩) n.ks.length c ∧ qb < w.heap.size + 6 := by obtain ⟨_, _, _, _, _, _, _, h⟩ := hI; exact h.run.low
    rcases hlow with h | ⟨qb, qo, c, e, hq⟩
    · have := hra.lt; have := hra.le; rw [h] at this; simp at this; omega
    injection e with e1 e2 e3
    subst e1 e3
    clear e2
    have hfk : t ≤ kl := by rw [← HKL.out]; exact hra.le
    have hft := hra.lt
    have HFE := Lib.hid hfe
    have HRA := Lib.hid hra
    clear hfe hra
    refine ⟨{ tmps := #[.slice (some ⟨L, 0, none⟩) m cap, .int .i64 i, .map (some bm), .pointer (some ⟨w.heap.size, 0, none⟩), undef, undef, .slice none 0 0, .pointer (some ⟨w.heap.size + 1, 0, none⟩), .pointer (some ⟨w.heap.size + 1 + 1, 0, none⟩), .bool r, .slice (some ⟨qb, qo + f, none⟩) (t - f) (kc - f), .slice (some ⟨L, 0, none⟩) m cap, .int .i64 i, .pointer (some ⟨L, i * 34, none⟩), .pointer (some ⟨L, i * 34, none⟩), .int .i64 k, .slice (some ⟨L, 0, none⟩) m cap, .slice (some ⟨L, 0, none⟩) m cap, .int .i64 i, .pointer (some ⟨L, i * 34, none⟩), .pointer (some ⟨L, i * 34 + 1, none⟩), .slice (some ⟨qb, qo, none⟩) kl kc, .map (some bm), .int .i64 k, .int .u64 (permM k), .func (.func 37) #[] #[.pointer (some ⟨w.heap.size + 3 + 1, 0, none⟩), .pointer (some ⟨w.heap.size + 3 + 1 + 1, 0, none⟩), .pointer (some ⟨w.heap.size + 3, 0, none⟩)], .bool r, .slice (some ⟨qb, qo + f, none⟩) (t - f) (kc - f), undef, undef, undef, undef, undef, undef, undef, undef, undef, undef, undef, undef, undef, undef, undef, undef, undef, undef, undef, undef, undef, undef, undef], defers := [] }, V, ?_, KeepsFrom.refl _ _, ⟨Nat.le_refl _, id⟩, ?_⟩
    · intro K hK
      dsimp only [encV, encR]
      gi_wp2
      exact hK
    · intro V₂ hgV hnc' hbl
      have hI2 : FI base L m cap k (permM k) (.slice (some ⟨qb, qo, none⟩) kl kc) n.ks ns w pre V₂ := (FI.own _ _ _ _ _ _ _ _ _ _ _ (by omega) (by omega) : OwnFrom (w.heap.size + 6) _) pre V V₂ (some l) hI hgV (fun r e => by injection e with e; exact ⟨by omega, hnc' r (by rw [e])⟩)
      obtain ⟨kids, news, kvX, L', cap', nds, hK, hF⟩ := hI2
      rw [← HFE.out] at hK
      have hkf : kids.length ≤ f := by
        obtain ⟨op, h1, _⟩ := hK
        have := (FK_len (mayAt k ns) m (n.ks.take f)).2.1
        rw [h1] at this
        simp at this; omega
      have hnf : news.length ≤ f := by
        obtain ⟨op, h1, _⟩ := hK
        have := (FK_len (mayAt k ns) m (n.ks.take f)).1
        rw [h1] at this
        simp at this; omega
      obtain ⟨i1, hi1, hz1, hz2, hz3⟩ := info_parts Try.infoInt
      have hV2 : w.heap.size + 6 ≤ V₂.heap.size := hF.run.size
      have c8 : V₂.cell? ⟨w.heap.size + 1 + 1, 0, none⟩ = some kvX := hF.box2.cellAt 0
      have hrc : ∀ j u, ((runOf n.ks f t).map (Value.int .i64))[j]? = some u → V₂.cell? ((⟨qb, qo + f, none⟩ : Addr).add j) = some u := fun j u hj => by
        rw [add_plain]
        rw [List.getElem?_map] at hj
        obtain ⟨z, hz, rfl⟩ := Option.map_eq_some_iff.1 hj
        have hl := (List.getElem?_eq_some_iff.1 hz).1
        rw [runOf_len _ _ _ (by rw [HKL.out]; exact hfk)] at hl
        rw [runOf_get _ _ _ _ hl] at hz
        obtain ⟨_, ⟨a, cp, e, h0⟩ | ⟨b, off, cp, e, hc⟩⟩ := hF.run.ints
        · rw [h0] at hz; simp at hz
        · injection e with e1 e2 e3
          injection e1 with e1; injection e1 with e1 e4
          have := hc (f + j) (by rw [HKL.out]; omega)
          rw [hz] at this
          subst e1 e4
          rw [Nat.add_assoc]
          exact this
      have HK := Lib.hid hK
      have HF := Lib.hid hF
      have HRC := Lib.hid hrc
      have HZ1 := Lib.hid hz1
      have HZ2 := Lib.hid hz2
      have HZ3 := Lib.hid hz3
      clear hK hF hrc hz1 hz2 hz3 hI hgV hnc' hbl hF0 hRun
      cases r with
      | true =>
        gi_wp2_with (gi_at_builtin; refine wpListIn_append_own_at _ rfl _ _ 34 rfl (w.heap.size + 6) 3 i1 (.int .i64 0) 1 8 Try.underlying34 hi1 HZ1.out HZ2.out HZ3.out rfl (by decide) kvX kids.length (kids.map (Value.int .i64)) rfl HF.out.own ⟨qb, qo + f, none⟩ (t - f) (kc - f) ((runOf n.ks f t).map (Value.int .i64)) rfl (by rw [List.length_map, runOf_len _ _ _ (by rw [HKL.out]; exact hfk)]; omega) HRC.out (by intro u hu; obtain ⟨z, _, rfl⟩ := List.mem_map.1 hu; rfl) (by unfold maxLen; omega) (by omega) hV2 ?_; intro v' X1 ho hg hn1 ha1; obtain ⟨vp, vk, vc, rfl⟩ := own_slice ho; have b2 := HF.out.box2.grown hg (whole_own HF.out.box2 HF.out.own (by decide)); have d8 : X1.cell? ⟨w.heap.size + 1 + 1, 0, none⟩ = some kvX := b2.cellAt 0; have f8 : X1.frozen? ⟨w.heap.size + 1 + 1, 0, none⟩ = false := b2.free 0; have l8 : w.heap.size + 1 + 1 < X1.heap.size := b2.lt; have HO := Lib.hid ho; have HG := Lib.hid hg; clear ho hg b2 hn1 ha1 c8)
        have hfin := HF.out.layKids (kids' := kids ++ runOf n.ks f t) (by omega) hLl HIK.out HAK.out (v' := .slice vp vk vc) (X := X1) (by rw [List.length_append, runOf_len _ _ _ (by rw [HKL.out]; exact hfk), List.map_append]; exact HO.out) HG.out
        refine ⟨hfin.2.from _, ⟨hfin.2.size, fun _ => hfin.1.run⟩, kids ++ runOf n.ks f t, news, _, L', cap', nds, ?_, hfin.1⟩
        rw [endR_snoc]
        exact HK.out.right HRA.out
      | false =>
        have c3 : V₂.cell? ⟨w.heap.size, 0, none⟩ = some (.slice (some ⟨L', 0, none⟩) (m + news.length) cap') := HF.out.box0.cellAt 0
        have l3 : w.heap.size < V₂.heap.size := by omega
        have l2 : w.heap.size + 1 + 1 < V₂.heap.size := by omega
        obtain ⟨mn, hmn⟩ : ∃ mn, m + news.length = mn := ⟨_, rfl⟩
        rw [hmn] at c3
        have hmn2 : mn ≤ 400000 := by omega
        have HMN := Lib.hid hmn
        have HFA := Lib.hid (HF.out.alloc (by omega) (.cells #[.int .i64 (mn : Int)] 3))
        clear hmn
        gi_wp2_with (gi_at_builtin; refine wpListIn_append_own_at _ rfl _ _ 34 rfl (w.heap.size + 6) 3 i1 (.int .i64 0) 1 8 Try.underlying34 hi1 HZ1.out HZ2.out HZ3.out rfl (by decide) kvX kids.length (kids.map (Value.int .i64)) rfl HFA.out.own ⟨V₂.heap.size, 0, none⟩ 1 1 [.int .i64 (mn : Int)] rfl rfl (cell_one_new _ _ _) (by intro u hu; simp at hu; subst hu; rfl) (by unfold maxLen; omega) (by omega) (by simp; omega) ?_; intro v' X1 ho hg hn1 ha1; obtain ⟨vp, vk, vc, rfl⟩ := own_slice ho; have b2 := HFA.out.box2.grown hg (whole_own HFA.out.box2 HFA.out.own (by decide)); have d8 : X1.cell? ⟨w.heap.size + 1 + 1, 0, none⟩ = some kvX := b2.cellAt 0; have f8 : X1.frozen? ⟨w.heap.size + 1 + 1, 0, none⟩ = false := b2.free 0; have l8 : w.heap.size + 1 + 1 < X1.heap.size := b2.lt; have HO := Lib.hid ho; have HG := Lib.hid hg; clear ho hg b2 hn1 ha1 c8 c3 l3 l2)
        have hkf1 := HFA.out.layKids (kids' := kids ++ [(mn : Int)]) (by omega) hLl HIK.out HAK.out (v' := .slice vp vk vc) (X := X1) (by simpa using HO.out) HG.out
        obtain ⟨Y, hY⟩ : ∃ Y, X1.setCell ⟨w.heap.size + 1 + 1, 0, none⟩ (.slice vp vk vc) = Y := ⟨_, rfl⟩
        rw [hY] at hkf1 ⊢
        have HFY := Lib.hid hkf1.1
        have HKO := Lib.hid ((KeepsOthers.alloc V₂ (.cells #[.int .i64 (mn : Int)] 3)).trans hkf1.2)
        have sY : w.heap.size + 6 ≤ Y.heap.size := hkf1.1.run.size
        have y3 : Y.cell? ⟨w.heap.size, 0, none⟩ = some (.slice (some ⟨L', 0, none⟩) mn cap') := by have := hkf1.1.box0.cellAt 0; rw [HMN.out] at this; exact this
        have y7 : Y.cell? ⟨w.heap.size + 1, 0, none⟩ = some (.int .i64 k) := hkf1.1.kind.cellAt 0
        have HAR := Lib.hid (fun X => (around_any k X).mono (fun e w' h => (⟨h.1, h.2.symm⟩ : e = .returned (.int .i64 (aroundP k)) ∧ w' = X)))
        obtain ⟨ak, hak⟩ : ∃ ak, aroundP k = ak := ⟨_, rfl⟩
        rw [hak] at HAR
        have HAKK := Lib.hid hak
        obtain ⟨nd, hnd⟩ : ∃ nd : Nd, nd = ⟨ak, .slice (some ⟨qb, qo + f, none⟩) (t - f) (kc - f), runOf n.ks f t, newSty, .slice none 0 0, [], 0, 0⟩ := ⟨_, rfl⟩
        obtain ⟨ds, hds⟩ : ∃ ds, nd.cells.toArray = ds := ⟨_, rfl⟩
        have hdsz : ds.size = 34 := by rw [← hds]; simp [Nd.len]
        have hfill := copy_fill ds hdsz
        have HDS : Hid ((ndCells ak (.slice (some ⟨qb, qo + f, none⟩) (t - f) (kc - f)) newSty.cells (.slice none 0 0) 0 0).toArray = ds) := Lib.hid (by rw [← hds, hnd]; rfl)
        have HND := Lib.hid hnd
        have HNDS := Lib.hid hds
        clear hkf1 hY d8 f8 l8 HO HG HFA HF HZ1 HZ2 HZ3 hak hi1 hnd hds
        refine wpIn_round_held (S := fun X => X.cell? ⟨w.heap.size + 1, 0, none⟩ = some (.int .i64 k)) (by kernel_rfl) (by kernel_rfl) (by simp only [LetsOut, Exit.inBlock]; rintro ⟨x, y, h⟩; exact h) ?_
        have SV : Hid (Below Y.heap.size Y Y.drew) := Lib.hid (below_dn _ Y 1)
        have w3 : Y.drew.cell? ⟨w.heap.size, 0, none⟩ = some (.slice (some ⟨L', 0, none⟩) mn cap') := y3
        have w7 : Y.drew.cell? ⟨w.heap.size + 1, 0, none⟩ = some (.int .i64 k) := y7
        have s6 : Y.drew.heap.size = Y.heap.size := rfl
        obtain ⟨W6, hW6⟩ : ∃ W6, Y.drew = W6 := ⟨_, rfl⟩
        rw [hW6] at SV w3 w7 s6 ⊢
        clear hW6 y3 y7
        obtain ⟨Z, hZ⟩ : ∃ Z, W6.alloc (.cells ds 47) = Z := ⟨_, rfl⟩
        have SZ : Hid (Below Y.heap.size Y Z) := Lib.hid (by rw [← hZ]; exact SV.out.alloc SV.out.size _)
        have hzs : Z.heap.size = W6.heap.size + 1 := by rw [← hZ]; simp
        have hcz : ∀ j u, nd.cells[j]? = some u → Z.cell? ((⟨Y.heap.size, 0, none⟩ : Addr).add j) = some u := by
          rw [← hZ, ← HNDS.out]
          exact lay_new _ nd.cells _ _ s6.symm
        have z3 : Z.cell? ⟨w.heap.size, 0, none⟩ = some (.slice (some ⟨L', 0, none⟩) mn cap') := (SZ.out.cell (p := ⟨w.heap.size, 0, none⟩) (show w.heap.size < Y.heap.size by omega)).trans ((SV.out.cell (p := ⟨w.heap.size, 0, none⟩) (show w.heap.size < Y.heap.size by omega)).symm.trans w3)
        have z7 : Z.cell? ⟨w.heap.size + 1, 0, none⟩ = some (.int .i64 k) := (SZ.out.cell (p := ⟨w.heap.size + 1, 0, none⟩) (show w.heap.size + 1 < Y.heap.size by omega)).trans ((SV.out.cell (p := ⟨w.heap.size + 1, 0, none⟩) (show w.heap.size + 1 < Y.heap.size by omega)).symm.trans w7)
        have HFZ := HFY.out.below (by omega) SZ.out
        have hOW : OkW w L nd := by
          rw [HND.out]
          obtain ⟨p1, l1, c1, e, hlc, hcc⟩ := hCk
          injection e with e1 e2 e3
          subst e2 e3
          have hrl : (runOf n.ks f t).length = t - f := runOf_len _ _ _ (by rw [HKL.out]; exact hfk)
          have key : ∀ b off cp, (.slice (some ⟨qb, qo, none⟩) kl kc : Value) = .slice (some ⟨b, off, none⟩) n.ks.length cp → b = qb ∧ off = qo := fun b off cp e => by
            injection e with e1; injection e1 with e1; injection e1 with e1 e4; exact ⟨e1.symm, e4.symm⟩
          refine ⟨⟨⟨show (runOf n.ks f t).length ≤ 9223372036854775807 by rw [hrl]; omega, .inr ⟨qb, qo + f, kc - f, by rw [hrl], fun j hj => ?_⟩⟩, ints_nil w, capok_slice _ _ _ (by omega) (by omega), capok_slice _ _ _ (by omega) (by omega)⟩, ?_, .inl rfl⟩
          · rw [hrl] at hj
            rw [runOf_get _ _ _ _ hj]
            obtain ⟨_, ⟨a, cp, e, h0⟩ | ⟨b, off, cp, e, hc⟩⟩ := HIK.out
            · have := HKL.out; rw [h0] at this; simp at this; omega
            · obtain ⟨rfl, rfl⟩ := key b off cp e
              have := hc (f + j) (by rw [HKL.out]; omega)
              rw [Nat.add_assoc]
              exact this
          · rcases HAK.out with h0 | ⟨b, off, cp, e, hne⟩
            · have := HKL.out; rw [h0] at this; simp at this; omega
            · obtain ⟨rfl, rfl⟩ := key b off cp e
              exact .inr ⟨b, off + f, kc - f, by rw [hrl], hne⟩
        have hlz := HFZ.row.laid HFZ.okw HFZ.old (by rcases HFZ.lp with h | h; exact .inl h; exact .inr (by omega))
        have hoz := hOW.at HFZ.old (L' := L') (by rcases HFZ.lp with h | h; exact .inl h; exact .inr (by omega))
        rw [HMN.out] at hlz
        obtain ⟨L2, cap2, X2, hr7, g1, g2, g3, g4, g5, g6, g7⟩ := append_node Z L' cap' mn (ns ++ nds) hlz (by rw [← HMN.out]; exact HFZ.le) HFZ.max (by omega) nd hoz.1 hoz.2.1 hoz.2.2 ⟨Y.heap.size, 0, none⟩ 1 hcz 22
        have hstep := HFZ.layNode hb hLl HIK.out HAK.out (nd := nd) (run := runOf n.ks f t) (L2 := L2) (cap2 := cap2) (X := X2) (by rw [HMN.out]; exact g1) (by rw [HMN.out]; exact g2) g3 g4 g5 g6 (by rw [HMN.out]; exact g7) hOW (by rw [HND.out, ← HAKK.out]; rfl)
        have hx0 : Whole X2 w.heap.size 22 [.slice (some ⟨L', 0, none⟩) mn cap'] := by have := HFZ.box0; rw [HMN.out] at this; exact this.grown g5 (fun e => by injection e with e; have := HFZ.lp; omega)
        have l7 : w.heap.size < X2.heap.size := hx0.lt
        have q7 : X2.cell? ⟨w.heap.size, 0, none⟩ = some (.slice (some ⟨L', 0, none⟩) mn cap') := hx0.cellAt 0
        have f7 : X2.frozen? ⟨w.heap.size, 0, none⟩ = false := hx0.free 0
        have hx1 : Whole X2 (w.heap.size + 1) 3 [.int .i64 k] := HFZ.kind.grown g5 (fun e => by injection e with e; have := HFZ.lp; omega)
        have x7 : X2.cell? ⟨w.heap.size + 1, 0, none⟩ = some (.int .i64 k) := hx1.cellAt 0
        have y7 : (X2.setCell ⟨w.heap.size, 0, none⟩ (.slice (some ⟨L2, 0, none⟩) (mn + 1) cap2)).cell? ⟨w.heap.size + 1, 0, none⟩ = some (.int .i64 k) := (hx1.other ⟨w.heap.size, 0, none⟩ _ (show w.heap.size + 1 ≠ w.heap.size by omega)).cellAt 0
        have HEND : Hid (ownPostG W3.heap.size (KeepR (RunM (w.heap.size + 6) (w.heap.size + 3) (w.heap.size + 4) (w.heap.size + 5) L 0 m cap (permM k) (.slice (some ⟨qb, qo, none⟩) kl kc) n.ks (kdOf ns))) (FI base L m cap k (permM k) (.slice (some ⟨qb, qo, none⟩) kl kc) n.ks ns w) (fun _ _ _ => False) (pre ++ [(false, f, t)]) V₂ .normal { tmps := #[], defers := [] } (X2.setCell ⟨w.heap.size, 0, none⟩ (.slice (some ⟨L2, 0, none⟩) (mn + 1) cap2))) := by
          rw [HMN.out] at hstep
          have hko := (HKO.out.trans ⟨SZ.out.size, fun j o hj _ => (SZ.out.block j (Array.getElem?_eq_some_iff.1 hj).1).trans hj⟩).trans hstep.2
          refine Lib.hid ⟨hko.from _, ⟨hko.size, fun _ => hstep.1.run⟩, _, _, _, L2, cap2, _, ?_, hstep.1⟩
          rw [endR_snoc, ← HMN.out]
          exact HK.out.wrong HRA.out
        clear hstep hx0 hx1 g1 g2 g3 g4 g5 g6 g7 hlz hoz hOW HFZ hcz
        refine wpAnyH_take (i := 1) (v := .int .i64 k) rfl (by kernel_rfl) (by kernel_rfl) (by kernel_rfl) (fun _ _ _ h => h) (Or.inl ⟨by rfl, ?_⟩) w7 ?_
        · intro X hX; go_simp
        refine wpAnyH_take (i := 3) (v := .slice (some ⟨qb, qo + f, none⟩) (t - f) (kc - f)) rfl (by kernel_rfl) (by kernel_rfl) (by kernel_rfl) (fun _ _ _ h => h) (Or.inl ⟨by rfl, ?_⟩) w7 ?_
        · intro X hX; go_simp
        refine wpAnyH_take (i := 4) (v := .agg newSty.cells.toArray) rfl (by kernel_rfl) (by kernel_rfl) (by kernel_rfl) (fun _ _ _ h => h) (Or.inl ⟨by rfl, ?_⟩) w7 ?_
        · intro X hX; kernel_rfl
        refine wpAnyH_all (rs := [0, 2]) (by kernel_rfl) (by simp) ?_
        intro i2 hi2
        rcases (show i2 = 0 ∨ i2 = 2 by simpa using hi2) with rfl | rfl
        · skip
          refine wpOp_step rfl (fun K hK => ?_)
          go_simp
          refine hK _ _ ⟨w7, ?_⟩
          clear hK K hi2
          refine wpAnyH_all (rs := [2]) (by kernel_rfl) (by simp) ?_
          intro i2 hi2; obtain rfl : i2 = 2 := by simpa using hi2
          refine wpOp_step rfl (fun K hK => ?_)
          go_simp
          refine (HAR.out _).mono ?_
          rintro e w' ⟨rfl, rfl⟩
          refine hK _ _ ⟨w7, ?_⟩
          clear hK K hi2
          refine wpAnyH_take (i := 5) (v := .agg ds) rfl (by kernel_rfl) (by kernel_rfl) (by kernel_rfl) (fun _ _ _ h => h) (Or.inl ⟨by rfl, ?_⟩) w7 ?_
          · intro X hX; rw [← HDS.out]; kernel_rfl
          refine wpAnyH_all (rs := [6]) (by kernel_rfl) (by simp) ?_
          intro i2 hi2; obtain rfl : i2 = 6 := by simpa using hi2
          refine wpOp_step rfl (fun K hK => ?_)
          go_simp
          refine hK _ _ ⟨z7, ?_⟩
          clear hK K hi2
          refine wpAnyH_all (rs := [7]) (by kernel_rfl) (by simp) ?_
          intro i2 hi2; obtain rfl : i2 = 7 := by simpa using hi2
          refine wpOp_step rfl (fun K hK => ?_)
          refine wp_append_run _ _ _ rfl _ _ _ rfl rfl hr7 ?_
          refine hK _ _ ⟨x7, ?_⟩
          clear hK K hi2
          refine wpAnyH_all (rs := [8]) (by kernel_rfl) (by simp) ?_
          intro i2 hi2; obtain rfl : i2 = 8 := by simpa using hi2
          refine wpOp_step rfl (fun K hK => ?_)
          go_simp
          refine hK _ _ ⟨y7, ?_⟩
          clear hK K hi2
          refine wpAnyH_done (by kernel_rfl) ?_ _
          exact HEND.out
        · skip
          refine wpOp_step rfl (fun K hK => ?_)
          go_simp
          refine (HAR.out _).mono ?_
          rintro e w' ⟨rfl, rfl⟩
          refine hK _ _ ⟨w7, ?_⟩
          clear hK K hi2
          refine wpAnyH_take (i := 5) (v := .agg ds) rfl (by kernel_rfl) (by kernel_rfl) (by kernel_rfl) (fun _ _ _ h => h) (Or.inl ⟨by rfl, ?_⟩) w7 ?_
          · intro X hX; rw [← HDS.out]; kernel_rfl
          refine wpAnyH_all (rs := [0, 6]) (by kernel_rfl) (by simp) ?_
          intro i2 hi2
          rcases (show i2 = 0 ∨ i2 = 6 by simpa using hi2) with rfl | rfl
          · skip
            refine wpOp_step rfl (fun K hK => ?_)
            go_simp
            refine hK _ _ ⟨w7, ?_⟩
            clear hK K hi2
            refine wpAnyH_all (rs := [6]) (by kernel_rfl) (by simp) ?_
            intro i2 hi2; obtain rfl : i2 = 6 := by simpa using hi2
            refine wpOp_step rfl (fun K hK => ?_)
            go_simp
            refine hK _ _ ⟨z7, ?_⟩
            clear hK K hi2
            refine wpAnyH_all (rs := [7]) (by kernel_rfl) (by simp) ?_
            intro i2 hi2; obtain rfl : i2 = 7 := by simpa using hi2
            refine wpOp_step rfl (fun K hK => ?_)
            refine wp_append_run _ _ _ rfl _ _ _ rfl rfl hr7 ?_
            refine hK _ _ ⟨x7, ?_⟩
            clear hK K hi2
            refine wpAnyH_all (rs := [8]) (by kernel_rfl) (by simp) ?_
            intro i2 hi2; obtain rfl : i2 = 8 := by simpa using hi2
            refine wpOp_step rfl (fun K hK => ?_)
            go_simp
            refine hK _ _ ⟨y7, ?_⟩
            clear hK K hi2
            refine wpAnyH_done (by kernel_rfl) ?_ _
            exact HEND.out
          · skip
            refine wpOp_step rfl (fun K hK => ?_)
            go_simp
            refine hK _ _ ⟨z7, ?_⟩
            clear hK K hi2
            refine wpAnyH_all (rs := [0]) (by kernel_rfl) (by simp) ?_
            intro i2 hi2; obtain rfl : i2 = 0 := by simpa using hi2
            refine wpOp_step rfl (fun K hK => ?_)
            go_simp
            refine hK _ _ ⟨z7, ?_⟩
            clear hK K hi2
            refine wpAnyH_all (rs := [7]) (by kernel_rfl) (by simp) ?_
            intro i2 hi2; obtain rfl : i2 = 7 := by simpa using hi2
            refine wpOp_step rfl (fun K hK => ?_)
            refine wp_append_run _ _ _ rfl _ _ _ rfl rfl hr7 ?_
            refine hK _ _ ⟨x7, ?_⟩
            clear hK K hi2
            refine wpAnyH_all (rs := [8]) (by kernel_rfl) (by simp) ?_
            intro i2 hi2; obtain rfl : i2 = 8 := by simpa using hi2
            refine wpOp_step rfl (fun K hK => ?_)
            go_simp
            refine hK _ _ ⟨y7, ?_⟩
            clear hK K hi2
            refine wpAnyH_done (by kernel_rfl) ?_ _
            exact HEND.out
  case done =>
    rintro D xs V hD hS ⟨kids, news, kvX, L', cap', nds, hK, hF⟩ hmk
    have hfk := hK.done (by rw [hS]; exact Nat.le_refl _)
    have hlen2 : (ns ++ nds).length = m + news.length := by obtain ⟨_, h⟩ := hF.row; exact h
    obtain ⟨vp, vk, vc, rfl⟩ := own_slice hF.own
    have hla := hF.row.laid hF.okw hF.old (by rcases hF.lp with h | h; exact .inl h; exact .inr (by omega))
    obtain ⟨io1, io2, io3⟩ := ints_own hF.own
    have hap : Apart L' (.slice vp vk vc) kids := by
      by_cases hz : kids = []
      · exact .inl hz
      obtain ⟨_, ⟨a, cp, e, h0⟩ | ⟨b, off, cp, e, hc⟩⟩ := io1
      · exact absurd h0 hz
      · refine .inr ⟨b, off, cp, e, fun e2 => own_ne_row hF.own hF.row (by rw [e, ← e2]; rfl)⟩
    have hni : (ns ++ nds)[i]? = some n := by rw [List.getElem?_append_left (by rw [HLEN.out]; exact him)]; exact HN.out
    have hla2 := hla.kids i n hni (.slice vp vk vc) kids io1 io2 hap hF.le
    have hbare := fix_bare ns nds i n (.slice vp vk vc) kids news k m HN.out HLEN.out HKE.out hF.bare hfk.1 hfk.2
    obtain ⟨mn, hmn⟩ : ∃ mn, m + news.length = mn := ⟨_, rfl⟩
    rw [hmn] at hla2 hlen2
    have c3 : V.cell? ⟨w.heap.size, 0, none⟩ = some (.slice (some ⟨L', 0, none⟩) mn cap') := by rw [← hmn]; exact hF.box0.cellAt 0
    have c8 : V.cell? ⟨w.heap.size + 1 + 1, 0, none⟩ = some (.slice vp vk vc) := hF.box2.cellAt 0
    have l3 : w.heap.size < V.heap.size := hF.box0.lt
    have l8 : w.heap.size + 1 + 1 < V.heap.size := hF.box2.lt
    have hcL : ∃ u, V.cell? ⟨L', i * 34 + 1, none⟩ = some u := by
      obtain ⟨⟨cur, r1, r2, r3⟩, r4⟩ := hF.row
      have hlt : i * 34 + 1 < cur.size := by rw [r2]; have := hF.le; omega
      exact ⟨cur[i * 34 + 1], by simp [World.cell?, r1, hlt]⟩
    have fL : V.frozen? ⟨L', i * 34 + 1, none⟩ = false := by
      obtain ⟨⟨cur, r1, r2, r3⟩, r4⟩ := hF.row
      simp [World.frozen?, r1]
    have lL : L' < V.heap.size := by
      obtain ⟨⟨cur, r1, r2, r3⟩, r4⟩ := hF.row
      exact (Array.getElem?_eq_some_iff.1 r1).1
    obtain ⟨u, cL⟩ := hcL
    have him2 : i < mn := by omega
    have hlp := hF.lp
    have hmc2 : mn ≤ cap' := by rw [← hmn]; exact hF.le
    have hneL : L' ≠ w.heap.size := by omega
    have d3 : (V.setCell ⟨L', i * 34 + 1, none⟩ (.slice vp vk vc)).cell? ⟨w.heap.size, 0, none⟩ = some (.slice (some ⟨L', 0, none⟩) mn cap') := by
      have := (hF.box0.other ⟨L', i * 34 + 1, none⟩ (.slice vp vk vc) (show w.heap.size ≠ L' by omega)).cellAt 0
      rw [hmn] at this; exact this
    have hM := (Marks.nil (w.heap.size + 6) (V.setCell ⟨L', i * 34 + 1, none⟩ (.slice vp vk vc))).cons (D := D) (by omega) (by
      rw [Below.heap_setCell V _ _ D (show D ≠ L' by
        intro e
        obtain ⟨⟨cur, r1, r2, r3⟩, r4⟩ := hF.row
        rw [e, r1] at hmk; cases hmk)]
      exact hmk) (fun E hE => by cases hE)
    have hold : ∀ j, j < w.heap.size → j ≠ L → (V.setCell ⟨L', i * 34 + 1, none⟩ (.slice vp vk vc)).heap[j]? = w.heap[j]? := fun j h1 h2 => (Below.heap_setCell V _ _ j (show j ≠ L' by omega)).trans (hF.old j h1 h2)
    have hlow : Below base w (V.setCell ⟨L', i * 34 + 1, none⟩ (.slice vp vk vc)) := hF.low.setCell (p := ⟨L', i * 34 + 1, none⟩) (show base ≤ L' by omega) _
    have hmax := hF.max
    have HLA := Lib.hid hla2
    have HBA := Lib.hid hbare
    have HLN := Lib.hid hlen2
    have HM := Lib.hid hM
    have HOLD := Lib.hid hold
    have HLOW := Lib.hid hlow
    clear hS hK hF hfk hla io1 io2 io3 hap hni hla2 hbare hmn hM hold hlow hlen2 hmk hF0 hRun hCk
    go_wp2
    refine leaves_marks (w.heap.size + 6) [D] _ HM.out (fun W' hck hbk => ⟨.slice (some ⟨L', 0, none⟩) mn cap', by simp [results, Try.results15, go_sem], L', cap', _, by rw [List.length_set, HLN.out], ?_, HBA.out, by rw [List.length_set, HLN.out]; exact hmc2, hmax, by omega, HLOW.out.trans (hbk.mono (by omega)), fun j h1 h2 => (hbk.block j (by omega)).trans (HOLD.out j h1 h2)⟩)
    rw [List.length_set, HLN.out]
    exact HLA.out.ckept hck
  case stop =>
    rintro D c pre V hD _ h
    exact h.elim
end Go.Proofs.Ytecnapecmioamaa
