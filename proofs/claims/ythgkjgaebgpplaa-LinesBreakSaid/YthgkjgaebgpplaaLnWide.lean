/- Contract of lines.Wide: how wide some words are. -/
import Derived.Test.YthgkjgaebgpplaaLnWid
import Derived.Test.YthgkjgaebgpplaaLnRight
import Derived.StillTailTactics
namespace Go.Proofs.Ythgkjgaebgpplaa
open Go.RowKit Go.Shelf
set_option linter.unusedVariables false
attribute [local go_sem] Oper.semAt_some

/-- an operation of a region that draws, which gives a value and leaves the world -/
theorem wpStill_val {P : Program} {ops : Array Oper} {w : World} {Q : Act → Prop} {a : Act} {o : Oper} {rest : List Oper} (hg : o.guard = none) (v : Value) (hr : (execOp a.eval o).run P w = .ok (.value v) w) (h : wpStill P ops w Q rest (a.put o.dst v)) : wpStill P ops w Q (o :: rest) a := by
  unfold wpStill
  rw [if_pos (by simp [Region.wanted, hg])]
  unfold Oper.still
  rw [hr]
  exact ⟨rfl, h⟩
theorem region_still_tailN {P : Program} {id : Nat} {Q : Exit → Act → World → Prop} {a : Act} {w : World} {l : List Oper} (n : Nat) (hm : P.follows .mixedOrders = true) (hB : Region.lexTailB .any l.toArray n = true)
    (h : ∀ w2 : World, w.drew = w2 → wpStill P l.toArray w2 (fun a' => wpList P l.toArray Q (l.drop n) a' w2) (l.take n) a) : (Code.region id l.toArray true).wp P Q a w :=
  wp_region_still_tail n hm hB (h _ rfl)
theorem exec_slice_lh {P : Program} {w : World} {a : Act} {o : Oper} (t : TypeId) (x lo hi : Operand) (ho : o.op = .slice t x (some lo) (some hi) none) (e : TypeId) (ht : P.underlying t = some (.slice e)) (hs : (sizeOf e).run P w = .ok 1 w)
    (p : Option Addr) (m c fr to : Nat) (hx : a.eval x = .slice p m c) (hl : a.eval lo = .int .i64 fr) (hh : a.eval hi = .int .i64 to) (h1 : fr ≤ to) (h2 : to ≤ c) :
    (execOp a.eval o).run P w = .ok (.value (.slice (if c = fr then p else p.map (·.add fr)) (to - fr) (c - fr))) w := by
  have he : P.elem t = e := by simp [Program.elem, ht]
  have ht' : P.underlying t = some (.slice (P.elem t)) := by rw [he]; exact ht
  unfold execOp
  simp only [ho, hx, Option.map_some, Option.map_none, hl, hh]
  simp [run_sliceAt_slice (P := P) w t _ _ _ _ ht', run_slice_lh (P := P) w t p m c ht' .i64 .i64 (fr : Int) (to : Int) (by omega) (by omega) (by omega), he, hs, sliced, Result.andThen]
theorem exec_slice_l {P : Program} {w : World} {a : Act} {o : Oper} (t : TypeId) (x lo : Operand) (ho : o.op = .slice t x (some lo) none none) (e : TypeId) (ht : P.underlying t = some (.slice e)) (hs : (sizeOf e).run P w = .ok 1 w)
    (p : Option Addr) (m c fr : Nat) (hx : a.eval x = .slice p m c) (hl : a.eval lo = .int .i64 fr) (h1 : fr ≤ m) :
    (execOp a.eval o).run P w = .ok (.value (.slice (if c = fr then p else p.map (·.add fr)) (m - fr) (c - fr))) w := by
  have he : P.elem t = e := by simp [Program.elem, ht]
  have ht' : P.underlying t = some (.slice (P.elem t)) := by rw [he]; exact ht
  unfold execOp
  simp only [ho, hx, Option.map_some, Option.map_none, hl]
  simp [run_sliceAt_slice (P := P) w t _ _ _ _ ht', run_slice_l (P := P) w t p m c ht' .i64 (fr : Int) (by omega) (by omega), he, hs, sliced, Result.andThen]
theorem LowI.sub {B : Nat} {X : World} {p : Option Addr} {m c fr to : Nat} {zs : List Int} (h : LowI B X (.slice p m c) zs) (hm : zs.length = m) (hc : m ≤ c) (h1 : fr ≤ to) (h2 : to ≤ m) :
    LowI B X (.slice (if c = fr then p else p.map (·.add fr)) (to - fr) (c - fr)) ((zs.drop fr).take (to - fr)) := by
  have hlen : ((zs.drop fr).take (to - fr)).length = to - fr := by simp; omega
  have hz := h.1
  refine ⟨by omega, ?_⟩
  by_cases he : to - fr = 0
  · rw [he]; exact .inl ⟨_, _, rfl, by simp⟩
  · rcases h.2 with ⟨a, c', e, rfl⟩ | ⟨b, off, c', e, hB, hcc⟩
    · simp at hlen; omega
    · injection e with e1 e2 e3
      subst e1 e3
      refine .inr ⟨b, off + fr, c - fr, ?_, hB, fun j hj => ?_⟩
      · rw [hlen, if_neg (by omega)]
        simp [add_plain]
      · rw [hlen] at hj
        rw [show off + fr + j = off + (fr + j) by omega, hcc (fr + j) (by omega)]
        simp [hj]
/-- what the words that have been visited take -/
def sumW (b : Int) (zs : List Int) (k : Nat) : Int := if k = 0 then 0 else preW b k zs - b
theorem sumW_all {b : Int} {ws : List Int} {fr to : Nat} (h1 : fr ≤ to) (h2 : to ≤ ws.length) : sumW b ((ws.drop fr).take (to - fr)) ((ws.drop fr).take (to - fr)).length = wideW b ws fr to := by
  have hlen : ((ws.drop fr).take (to - fr)).length = to - fr := by simp; omega
  rw [hlen]
  unfold sumW
  by_cases he : to - fr = 0
  · rw [if_pos he, show to = fr by omega, wideW_self]
  · rw [if_neg he, preW_take b (to - fr) (to - fr) _ (Nat.le_refl _), preW_drop b fr (to - fr) ws (by omega), show fr + (to - fr) = to by omega, wideW_lt (by omega)]
theorem okW.sub {b : Int} {ws : List Int} (h : okW b ws) (fr k : Nat) : okW b ((ws.drop fr).take k) :=
  ⟨h.1, by have := h.2.1; simp; omega, fun x hx => h.2.2 x (List.mem_of_mem_drop (List.mem_of_mem_take hx))⟩
def WI (g B : Nat) (w : World) (b : Int) (zs : List Int) (pre : List Nat) (W : World) : Prop := Whole W g 2 [.int .i64 (sumW b zs pre.length)] ∧ Below B w W
theorem WI.own (g B : Nat) (w : World) (b : Int) (zs : List Int) (K : Nat) (h1 : B ≤ w.heap.size) (h2 : B ≤ K) : OwnFrom K (WI g B w b zs) := fun pre X Y row ⟨ha, hb⟩ hg hr =>
  ⟨ha.grown hg (ha.ne fun r e => (hr r e).2), (ownFrom_below (β := Unit) h1 h2) () X Y row hb hg hr⟩
def NoX (c : Code) (pre : List Nat) (W : World) : Prop := False
theorem NoX.own (K : Nat) (c : Code) : OwnFrom K (NoX c) := fun pre X Y row h hg hr => h.elim
theorem Try.sizeI64 (w : World) : (sizeOf 2).run Try.prog w = .ok 1 w := by
  have h : (Try.prog.info? 2).map (·.size) = some 1 := by kernel_rfl
  cases hq : Try.prog.info? 2 with
  | none => simp [hq] at h
  | some i => simp [hq] at h; simp [sizeOf, typeInfo, hq, h]
set_option maxRecDepth 100000 in
set_option maxHeartbeats 2000000 in
theorem wide_main (n : Nd) (w : World) (p : Option Addr) (m c fr to : Nat) (b : Int) (hok : n.ok w) (ht : textB n = true) (hwv : n.wv = .slice p m c) (hm : n.ws.length = m) (hmc : m ≤ c) (hb : n.b = b) (h1 : fr ≤ to) (h2 : to ≤ m) :
    Calls Try.prog 19 #[n.val, .int .i64 fr, .int .i64 to] w fun e W' => e = .returned (.tuple #[.int .i64 (wideW b n.ws fr to), .int .i64 0]) ∧ Below w.heap.size w W' := by
  have hT := textQ ht
  have HOK : Hid (okW b n.ws) := Lib.hid (by rw [← hb]; exact hT.ok)
  have HLOW : Hid (LowI w.heap.size w (.slice p m c) n.ws) := Lib.hid (by rw [← hwv]; exact .of hok.2.1)
  have HN := Lib.hid (NdIn.new n w hok)
  obtain ⟨cs, hcs⟩ : ∃ cs, n.cells.toArray = cs := ⟨_, rfl⟩
  obtain ⟨W0, hW0⟩ : ∃ W0, w.alloc (.cells cs 35) = W0 := ⟨_, rfl⟩
  rw [hcs, hW0] at HN
  have hB0 : Below w.heap.size w W0 := by rw [← hW0]; exact (Below.refl _ w).alloc (Nat.le_refl _) _
  have hS0 : w.heap.size < W0.heap.size := HN.out.row.lt
  have HRI := Lib.hid (asks_right n w W0 HN.out hB0 cs hcs)
  rw [ht] at HRI
  have LN : ∀ j v, cs[j]? = some v → W0.cell? ((⟨w.heap.size, 0, none⟩ : Addr).add j) = some v := by rw [← hcs]; exact HN.out.load
  have HLN := Lib.hid LN
  have iN : Hid ((Try.prog.info? 35).map (·.size) = some cs.size) := Lib.hid (by rw [← hcs]; exact nd_info n)
  rw [show n.val = .agg n.cells.toArray from rfl, hcs]
  have HWV := Lib.hid hwv
  have HM := Lib.hid hm
  have HBB := Lib.hid hb
  have g1 : decide ((fr : Int) < 0) = false := by simp
  have g2 : decide ((to : Int) < (fr : Int)) = false := by simp; omega
  have g3 : decide ((m : Int) < (to : Int)) = false := by simp; omega
  have hc64 : m ≤ 10000 := by have := HOK.out.2.1; omega
  clear LN hok ht hwv hm hb hT hcs
  refine (callsIn_wide (n := 3)).1 (callsIn_of_wp_marks Try.func19 rfl trivial (wpIn_wide.2 ?_) rfl)
  simp only [Try.ntmps19, List.size_toArray, List.length_cons, List.length_nil, Nat.reduceAdd, Nat.reduceSub, Array.replicate_succ, Array.replicate_zero, List.push_toArray, List.append_toArray, List.nil_append, List.cons_append]
  go_wp2_with (first
    | (with_reducible refine wpList_load_at rfl 35 (.tmp 3) rfl _ rfl cs _ HLN.out Try.underlying35 rfl iN.out ?_)
    | (go_at_call 15; refine HRI.out.mono ?_; clear HRI hW0; rintro e w1 ⟨rfl, hN1, hb1⟩; have HN1 := Lib.hid hN1; have HB1 := Lib.hid hb1; have e31 := hN1.w; rw [HWV.out] at e31; have e32 := hN1.b; rw [HBB.out] at e32; have l1 := hN1.row.lt; clear hN1 hb1))
  obtain ⟨V, hV⟩ : ∃ V, w1.alloc (.cells #[.int .i64 0] 2) = V := ⟨_, rfl⟩
  have hb1V : Below w1.heap.size w1 V := by rw [← hV]; exact (Below.refl _ w1).alloc (Nat.le_refl _) _
  have hKA : Whole V w1.heap.size 2 [.int .i64 0] := by rw [← hV]; exact whole_new w1 [.int .i64 0] 2 _ rfl
  have hs1 : V.heap.size = w1.heap.size + 1 := by rw [← hV]; simp
  rw [hV]
  clear hV
  refine region_still_tailN 7 (by kernel_rfl) (by decide +kernel) (fun w2 hw2 => ?_)
  have bW : Below V.heap.size V w2 := by rw [← hw2]; exact (Below.refl _ V).drew
  have hs2 : w2.heap.size = w1.heap.size + 1 := by rw [← hw2]; exact hs1
  have hb12 : Below w1.heap.size w1 w2 := hb1V.trans (bW.mono (by omega))
  have hB2 : Below w.heap.size w w2 := HB1.out.trans (hb12.mono HB1.out.size)
  have hA2 : Whole w2 w1.heap.size 2 [.int .i64 0] := hKA.below bW (by omega)
  have d31 := (hb12.cell (p := ⟨w.heap.size, 31, none⟩) l1).trans e31
  have d32 := (hb12.cell (p := ⟨w.heap.size, 32, none⟩) l1).trans e32
  have l2 : w.heap.size < w2.heap.size := by omega
  have HLOW2 := Lib.hid (HLOW.out.keep (Y := w2) (fun k hk => hB2.block k hk))
  have HB2 := Lib.hid hB2
  have HA2 := Lib.hid hA2
  have HS2 := Lib.hid hs2
  clear hw2 bW hb1V hKA hs1 e31 e32 hb12 hB2 hA2 hs2 g2 g3
  simp only [List.take_succ_cons, List.take_zero, List.drop_succ_cons, List.drop_zero]
  still_step
  still_step
  still_step
  still_step
  still_step
  still_step
  refine wpStill_val rfl _ (exec_slice_lh 33 _ _ _ rfl 2 Try.underlying33 (Try.sizeI64 _) p m c fr to rfl rfl rfl h1 (by omega)) ?_
  have HSUB := Lib.hid (HLOW2.out.sub HM.out hmc h1 h2)
  have HLEN : Hid (((n.ws.drop fr).take (to - fr)).length = to - fr) := Lib.hid (by have := HM.out; simp; omega)
  have HSUM := Lib.hid (sumW_all (b := b) (ws := n.ws) h1 (by rw [HM.out]; exact h2))
  have HOKS := Lib.hid (HOK.out.sub fr (to - fr))
  generalize (n.ws.drop fr).take (to - fr) = zs at HSUB HLEN HSUM HOKS
  generalize (if c = fr then p else p.map (·.add fr)) = q at HSUB ⊢
  generalize to - fr = k at HSUB HLEN ⊢
  generalize c - fr = c2 at HSUB ⊢
  refine wpStill_nil ?_
  have hk64 : k ≤ 10000 := by have := HOKS.out.2.1; have := HLEN.out; omega
  have f8 := HA2.out.free 0
  have HWF := Lib.hid (fun X => widthsF_any b q k c2 X)
  obtain ⟨W3, hW3⟩ : ∃ W3, (w2.alloc (.cells #[.int .i64 b] 2)).alloc (.cells #[.slice q k c2] 33) = W3 := ⟨_, rfl⟩
  have b3 : Below w2.heap.size w2 W3 := by rw [← hW3]; exact ((Below.refl _ w2).alloc (Nat.le_refl _) _).alloc (by simp) _
  have x1 : Whole W3 w2.heap.size 2 [.int .i64 b] := by rw [← hW3]; exact (whole_new w2 [.int .i64 b] 2 _ rfl).alloc _
  have x2 : Whole W3 (w2.heap.size + 1) 33 [.slice q k c2] := by rw [← hW3]; exact whole_new (w2.alloc (.cells #[.int .i64 b] 2)) [.slice q k c2] 33 _ (by simp)
  have s3 : W3.heap.size = w2.heap.size + 2 := by rw [← hW3]; simp
  have hB3 : Below w.heap.size w W3 := HB2.out.trans (b3.mono (by omega))
  have hA3 : Whole W3 w1.heap.size 2 [.int .i64 0] := HA2.out.below b3 (by have := HS2.out; omega)
  have HMEM : Hid (WidMem w.heap.size w2.heap.size (w2.heap.size + 1) b (.slice q k c2) zs W3) := Lib.hid ⟨hB3.size, by omega, by omega, x1.cellAt 0, x2.cellAt 0, HSUB.out.keep (fun j hj => b3.block j (by omega))⟩
  have HI0 := Lib.hid (And.intro hA3 hB3)
  have HS3 := Lib.hid s3
  clear b3 x1 x2 s3 hB3 hA3
  go_wp2_with (go_at_call 25; refine (HWF.out _).mono ?_; clear HWF; rintro e w' ⟨rfl, rfl⟩; rw [hW3])
  have z3 : w2.heap.size + 2 ≤ W3.heap.size := by have := HS3.out; omega
  have z2 : w1.heap.size + 1 ≤ w2.heap.size := by have := HS2.out; omega
  clear hW3 f8 d31 d32
  refine (wpIn_wide (n := 3)).1 (range_next (F := Fence.wide) rfl (by omega) (gf := 29) (lb := #[.pointer (some ⟨w2.heap.size, 0, none⟩), .pointer (some ⟨w2.heap.size + 1, 0, none⟩)]) rfl trivial (enters_of Try.func29 (by kernel_rfl) rfl)
    (Kp := KeepL (WidMem w.heap.size w2.heap.size (w2.heap.size + 1) b (.slice q k c2) zs)) (fun _ _ _ h k => h.trans k) (fun W l o h1 h2 => ⟨by simp, fun h => h.keep (by simp) (fun k hk => World.putObj_heap_other (by omega)) (World.putObj_heap_other (by omega)) (World.putObj_heap_other (by omega))⟩) (widths_next _ (by omega) w.heap.size w2.heap.size (w2.heap.size + 1) b (.slice q k c2) zs W3 HOKS.out HMEM.out) (fun _ => rfl)
    (WI w1.heap.size w.heap.size w b zs) NoX (WI.own _ _ _ _ _ _ (Nat.le_refl _) (by omega)) (fun c => NoX.own _ c) ⟨HI0.out.1, HI0.out.2⟩ ?round ?done ?stop)
  case round =>
    rintro l pre x V hl ⟨hA, hbV⟩ ⟨hx1, hx2⟩
    apply Exists.intro
    apply Exists.intro
    refine ⟨?_, ?_, ?_, ?_⟩
    · intro K hK
      dsimp only [encW]
      gi_wp2
      exact hK
    · exact (KeepsOthers.refl V).from _
    · exact ⟨Nat.le_refl _, id⟩
    · intro V₂ hgV hnc' hbl
      have hA2 := hA.grown hgV (hA.ne hnc')
      have hb2 : Below w.heap.size w V₂ := hbV.grown hgV hbV.size (fun k e => by cases e; omega)
      have c8 := hA2.cellAt 0
      have f8 := hA2.free 0
      have l8 := hA2.lt
      have HA3 := Lib.hid hA2
      have HBV := Lib.hid hb2
      clear hA hbV hgV hnc' hbl hA2 hb2
      gi_wp2
      refine ⟨(KeepsOthers.setCell _ _ _).from _, ⟨by simp, fun h => h.keep (by simp) (fun k hk => Below.heap_setCell _ _ _ _ (by show k ≠ w1.heap.size; omega)) (Below.heap_setCell _ _ _ _ (by show w2.heap.size ≠ w1.heap.size; omega)) (Below.heap_setCell _ _ _ _ (by show w2.heap.size + 1 ≠ w1.heap.size; omega))⟩, ?_, HBV.out.setCell (p := ⟨w1.heap.size, 0, none⟩) (by show w.heap.size ≤ w1.heap.size; omega) _⟩
      have := HA3.out.set 0 (.int .i64 (preW b (x + 1) zs - b))
      rw [hx1] at this ⊢
      simpa [sumW] using this
  case done =>
    rintro D xs V hD hxs ⟨hA, hbV⟩ hK
    rw [hxs, HSUM.out] at hA
    have c8 := hA.cellAt 0
    have l8 := hA.lt
    have HBV := Lib.hid hbV
    have HM2 := Lib.hid ((Marks.nil w.heap.size V).cons (D := D) (by omega) hK (fun E hE => by cases hE))
    clear hA hbV hK hxs
    go_wp2
    exact leaves_marks w.heap.size [D] _ HM2.out (fun W' hck hbk => ⟨_, results_tmp2 rfl _ _ _, ⟨rfl, HBV.out.trans hbk⟩⟩)
  case stop =>
    rintro D c pre V hD _ h hK
    exact h.elim
set_option maxHeartbeats 2000000 in
theorem wide_bad (n : Nd) (w : World) (p : Option Addr) (m c : Nat) (fr to : Int) (d : Bool) (hok : n.ok w) (ht : textB n = d) (hwv : n.wv = .slice p m c) (hm : n.ws.length = m) (h : d = false ∨ ¬ (0 ≤ fr ∧ fr ≤ to ∧ to ≤ m)) :
    Calls Try.prog 19 #[n.val, .int .i64 fr, .int .i64 to] w fun e W' => e = .returned (.tuple #[.int .i64 0, .int .i64 90]) ∧ Below w.heap.size w W' := by
  have HN := Lib.hid (NdIn.new n w hok)
  obtain ⟨cs, hcs⟩ : ∃ cs, n.cells.toArray = cs := ⟨_, rfl⟩
  obtain ⟨W0, hW0⟩ : ∃ W0, w.alloc (.cells cs 35) = W0 := ⟨_, rfl⟩
  rw [hcs, hW0] at HN
  have hB0 : Below w.heap.size w W0 := by rw [← hW0]; exact (Below.refl _ w).alloc (Nat.le_refl _) _
  have HRI := Lib.hid (asks_right n w W0 HN.out hB0 cs hcs)
  rw [ht] at HRI
  have LN : ∀ j v, cs[j]? = some v → W0.cell? ((⟨w.heap.size, 0, none⟩ : Addr).add j) = some v := by rw [← hcs]; exact HN.out.load
  have HLN := Lib.hid LN
  have iN : Hid ((Try.prog.info? 35).map (·.size) = some cs.size) := Lib.hid (by rw [← hcs]; exact nd_info n)
  rw [show n.val = .agg n.cells.toArray from rfl, hcs]
  have HWV := Lib.hid hwv
  clear LN hok ht hwv hm hcs hB0
  cases d with
  | false =>
    clear h
    refine (callsIn_wide (n := 3)).1 (callsIn_of_wp_marks Try.func19 rfl trivial (wpIn_wide.2 ?_) rfl)
    simp only [Try.ntmps19, List.size_toArray, List.length_cons, List.length_nil, Nat.reduceAdd, Nat.reduceSub, Array.replicate_succ, Array.replicate_zero, List.push_toArray, List.append_toArray, List.nil_append, List.cons_append]
    go_wp2_with (first
      | (with_reducible refine wpList_load_at rfl 35 (.tmp 3) rfl _ rfl cs _ HLN.out Try.underlying35 rfl iN.out ?_)
      | (go_at_call 15; refine HRI.out.mono ?_; clear HRI hW0; rintro e w1 ⟨rfl, hN1, hb1⟩; have HB1 := Lib.hid hb1; clear hN1 hb1))
    exact leaves_marks w.heap.size [] _ (Marks.nil _ _) (fun W' hck hbk => ⟨_, results_tmp2 rfl _ _ _, ⟨rfl, HB1.out.trans hbk⟩⟩)
  | true =>
    replace h : ¬ (0 ≤ fr ∧ fr ≤ to ∧ to ≤ m) := by simpa using h
    by_cases k1 : fr < 0
    · clear h
      refine (callsIn_wide (n := 3)).1 (callsIn_of_wp_marks Try.func19 rfl trivial (wpIn_wide.2 ?_) rfl)
      simp only [Try.ntmps19, List.size_toArray, List.length_cons, List.length_nil, Nat.reduceAdd, Nat.reduceSub, Array.replicate_succ, Array.replicate_zero, List.push_toArray, List.append_toArray, List.nil_append, List.cons_append]
      go_wp2_with (first
        | (with_reducible refine wpList_load_at rfl 35 (.tmp 3) rfl _ rfl cs _ HLN.out Try.underlying35 rfl iN.out ?_)
        | (go_at_call 15; refine HRI.out.mono ?_; clear HRI hW0; rintro e w1 ⟨rfl, hN1, hb1⟩; have HB1 := Lib.hid hb1; clear hN1 hb1))
      exact leaves_marks w.heap.size [] _ (Marks.nil _ _) (fun W' hck hbk => ⟨_, results_tmp2 rfl _ _ _, ⟨rfl, HB1.out.trans hbk⟩⟩)
    · by_cases k2 : to < fr
      · clear h
        refine (callsIn_wide (n := 3)).1 (callsIn_of_wp_marks Try.func19 rfl trivial (wpIn_wide.2 ?_) rfl)
        simp only [Try.ntmps19, List.size_toArray, List.length_cons, List.length_nil, Nat.reduceAdd, Nat.reduceSub, Array.replicate_succ, Array.replicate_zero, List.push_toArray, List.append_toArray, List.nil_append, List.cons_append]
        go_wp2_with (first
          | (with_reducible refine wpList_load_at rfl 35 (.tmp 3) rfl _ rfl cs _ HLN.out Try.underlying35 rfl iN.out ?_)
          | (go_at_call 15; refine HRI.out.mono ?_; clear HRI hW0; rintro e w1 ⟨rfl, hN1, hb1⟩; have HB1 := Lib.hid hb1; clear hN1 hb1))
        exact leaves_marks w.heap.size [] _ (Marks.nil _ _) (fun W' hck hbk => ⟨_, results_tmp2 rfl _ _ _, ⟨rfl, HB1.out.trans hbk⟩⟩)
      · have k3 : (m : Int) < to := by omega
        have k4 : decide ((m : Int) < to) = true := by simpa using k3
        clear h
        refine (callsIn_wide (n := 3)).1 (callsIn_of_wp_marks Try.func19 rfl trivial (wpIn_wide.2 ?_) rfl)
        simp only [Try.ntmps19, List.size_toArray, List.length_cons, List.length_nil, Nat.reduceAdd, Nat.reduceSub, Array.replicate_succ, Array.replicate_zero, List.push_toArray, List.append_toArray, List.nil_append, List.cons_append]
        go_wp2_with (first
          | (with_reducible refine wpList_load_at rfl 35 (.tmp 3) rfl _ rfl cs _ HLN.out Try.underlying35 rfl iN.out ?_)
          | (go_at_call 15; refine HRI.out.mono ?_; clear HRI hW0; rintro e w1 ⟨rfl, hN1, hb1⟩; have HB1 := Lib.hid hb1; have e31 := hN1.w; rw [HWV.out] at e31; have l1 := hN1.row.lt; clear hN1 hb1))
        exact leaves_marks w.heap.size [] _ (Marks.nil _ _) (fun W' hck hbk => ⟨_, results_tmp2 rfl _ _ _, ⟨rfl, HB1.out.trans hbk⟩⟩)
/-- what lines.Wide answers -/
def wideV (n : Nd) (fr to : Int) : Value := if textB n = true ∧ 0 ≤ fr ∧ fr ≤ to ∧ to ≤ n.ws.length then .tuple #[.int .i64 (wideW n.b n.ws fr.toNat to.toNat), .int .i64 0] else .tuple #[.int .i64 0, .int .i64 90]
theorem wide_any (n : Nd) (w : World) (fr to : Int) (hok : n.ok w) : Calls Try.prog 19 #[n.val, .int .i64 fr, .int .i64 to] w fun e W' => e = .returned (wideV n fr to) ∧ Below w.heap.size w W' := by
  obtain ⟨p, m, c, hwv, hmc, _⟩ := hok.2.2.2
  obtain ⟨p', c', hwv'⟩ := hok.2.1.form
  have hm : n.ws.length = m := by rw [hwv] at hwv'; injection hwv' with _ e _; exact e.symm
  unfold wideV
  split
  · rename_i h
    obtain ⟨ht, h1, h2, h3⟩ := h
    have := wide_main n w p m c fr.toNat to.toNat n.b hok ht hwv hm hmc rfl (by omega) (by omega)
    rwa [Int.toNat_of_nonneg h1, Int.toNat_of_nonneg (by omega)] at this
  · rename_i h
    refine wide_bad n w p m c fr to _ hok rfl hwv hm ?_
    cases ht : textB n with
    | false => exact .inl rfl
    | true => exact .inr fun k => h ⟨ht, k.1, k.2.1, by rw [hm]; exact k.2.2⟩
end Go.Proofs.Ythgkjgaebgpplaa
