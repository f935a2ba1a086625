/- Contract of edges.Span: how far some bands reach. -/
import Derived.Test.YtlnfgmmgkmhehaaESt
import Derived.StillTailTactics
namespace Go.Proofs.Ytlnfgmmgkmhehaa
open Go.RowKit Go.Shelf
set_option linter.unusedVariables false
attribute [local go_sem] Oper.semAt_some

/-- an operation of a region that draws, which gives a value and leaves the world -/
theorem wpStill_valE {P : Program} {ops : Array Oper} {w : World} {Q : Act → Prop} {a : Act} {o : Oper} {rest : List Oper} (hg : o.guard = none) (v : Value) (hr : (execOp a.eval o).run P w = .ok (.value v) w) (h : wpStill P ops w Q rest (a.put o.dst v)) : wpStill P ops w Q (o :: rest) a := by
  unfold wpStill
  rw [if_pos (by simp [Region.wanted, hg])]
  unfold Oper.still
  rw [hr]
  exact ⟨rfl, h⟩
theorem region_still_tailE {P : Program} {id : Nat} {Q : Exit → Act → World → Prop} {a : Act} {w : World} {l : List Oper} (n : Nat) (hm : P.follows .mixedOrders = true) (hB : Region.lexTailB .any l.toArray n = true)
    (h : ∀ w2 : World, w.drew = w2 → wpStill P l.toArray w2 (fun a' => wpList P l.toArray Q (l.drop n) a' w2) (l.take n) a) : (Code.region id l.toArray true).wp P Q a w :=
  wp_region_still_tail n hm hB (h _ rfl)
theorem exec_slice_lhE {P : Program} {w : World} {a : Act} {o : Oper} (t : TypeId) (x lo hi : Operand) (ho : o.op = .slice t x (some lo) (some hi) none) (e : TypeId) (ht : P.underlying t = some (.slice e)) (hs : (sizeOf e).run P w = .ok 1 w)
    (p : Option Addr) (m c fr to : Nat) (hx : a.eval x = .slice p m c) (hl : a.eval lo = .int .i64 fr) (hh : a.eval hi = .int .i64 to) (h1 : fr ≤ to) (h2 : to ≤ c) :
    (execOp a.eval o).run P w = .ok (.value (.slice (if c = fr then p else p.map (·.add fr)) (to - fr) (c - fr))) w := by
  have he : P.elem t = e := by simp [Program.elem, ht]
  have ht' : P.underlying t = some (.slice (P.elem t)) := by rw [he]; exact ht
  unfold execOp
  simp only [ho, hx, Option.map_some, Option.map_none, hl, hh]
  simp [run_sliceAt_slice (P := P) w t _ _ _ _ ht', run_slice_lh (P := P) w t p m c ht' .i64 .i64 (fr : Int) (to : Int) (by omega) (by omega) (by omega), he, hs, sliced, Result.andThen]
theorem add_plainE (b o j : Nat) : (⟨b, o, none⟩ : Addr).add j = ⟨b, o + j, none⟩ := by unfold Addr.add; split <;> simp_all
theorem LowI.subE {B : Nat} {X : World} {p : Option Addr} {m c fr to : Nat} {zs : List Int} (h : LowI B X (.slice p m c) zs) (hm : zs.length = m) (hc : m ≤ c) (h1 : fr ≤ to) (h2 : to ≤ m) :
    LowI B X (.slice (if c = fr then p else p.map (·.add fr)) (to - fr) (c - fr)) ((zs.drop fr).take (to - fr)) := by
  have hlen : ((zs.drop fr).take (to - fr)).length = to - fr := by simp; omega
  have hz := h.1
  refine ⟨by omega, ?_⟩
  by_cases he : to - fr = 0
  · rw [he]; exact .inl ⟨_, _, rfl, by simp⟩
  · rcases h.2 with ⟨a, c', e, rfl⟩ | ⟨b, off, c', e, hB, hcc⟩
    · simp at hlen; omega
    · injection e with e1 e2 e3
      subst e1 e3
      refine .inr ⟨b, off + fr, c - fr, ?_, hB, fun j hj => ?_⟩
      · rw [hlen, if_neg (by omega)]
        simp [add_plainE]
      · rw [hlen] at hj
        rw [show off + fr + j = off + (fr + j) by omega, hcc (fr + j) (by omega)]
        simp [hj]
theorem okW.subE {b : Int} {ws : List Int} (h : okW b ws) (fr k : Nat) : okW b ((ws.drop fr).take k) :=
  ⟨h.1, by have := h.2.1; simp; omega, fun x hx => h.2.2 x (List.mem_of_mem_drop (List.mem_of_mem_take hx))⟩
theorem Try.sizeI64 (w : World) : (sizeOf 2).run Try.prog w = .ok 1 w := by
  have h : (Try.prog.info? 2).map (·.size) = some 1 := by kernel_rfl
  cases hq : Try.prog.info? 2 with
  | none => simp [hq] at h
  | some i => simp [hq] at h; simp [sizeOf, typeInfo, hq, h]
/-- while the starts are visited: the gap's box, and the box of the end -/
def EI (g0 g B : Nat) (w : World) (b : Int) (zs : List Int) (pre : List Nat) (W : World) : Prop := Whole W g0 2 [.int .i64 b] ∧ Whole W g 2 [.int .i64 (preW b (pre.length - 1) zs)] ∧ Below B w W
theorem EI.own (g0 g B : Nat) (w : World) (b : Int) (zs : List Int) (K : Nat) (h1 : B ≤ w.heap.size) (h2 : B ≤ K) : OwnFrom K (EI g0 g B w b zs) := fun pre X Y row ⟨ha, hc, hb⟩ hg hr =>
  ⟨ha.grown hg (ha.ne fun r e => (hr r e).2), hc.grown hg (hc.ne fun r e => (hr r e).2), (ownFrom_below (β := Unit) h1 h2) () X Y row hb hg hr⟩
def NoXE (c : Code) (pre : List Nat) (W : World) : Prop := False
theorem NoXE.own (K : Nat) (c : Code) : OwnFrom K (NoXE c) := fun pre X Y row h hg hr => h.elim
theorem subS {a b : Int} (h : -9223372036854775808 ≤ a - b ∧ a - b ≤ 9223372036854775807) : sat (a - b) = a - b := sat_in h.1 h.2
theorem span_end {g : Int} {bs : List Int} {fr n : Nat} (hok : okW g bs) (h1 : fr + n ≤ bs.length) : max 0 (preW g n ((bs.drop fr).take n) - g) = wideW g bs fr (fr + n) := by
  rw [preW_take g n n _ (Nat.le_refl _)]
  by_cases h0 : n = 0
  · subst h0
    have := hok.1
    simp [preW, wideW_self]; omega
  · rw [wideW_drop (by omega) (by omega)]
    have := wideW_bd hok (s := fr) (e := fr + n) h1
    omega
set_option maxRecDepth 100000 in
set_option maxHeartbeats 2000000 in
theorem span_main (g : Int) (p : Option Addr) (m c fr n : Nat) (bs : List Int) (w : World) (hL : LowI w.heap.size w (.slice p m c) bs) (hm : bs.length = m) (hmc : m ≤ c) (hok : okW g bs) (h1 : fr + n ≤ m) :
    Calls Try.prog 18 #[.slice p m c, .int .i64 g, .int .i64 (fr : Int), .int .i64 (n : Int)] w fun e W' => e = .returned (.tuple #[.int .i64 (wideW g bs fr (fr + n)), .int .i64 0]) ∧ Below w.heap.size w W' := by
  have HOK : Hid (okW g bs) := Lib.hid hok
  have HLOW := Lib.hid hL
  have hmk : m ≤ 10000 := by have := hok.2.1; omega
  have hb1 := hok.1.1
  have hb2 := hok.1.2
  have HRI := Lib.hid (fun X hI => by have := eright_any g p m c bs X hI hm; rw [okB_iff.2 hok] at this; exact this)
  have HLI := Lib.hid (fun X => by
    have := lies_any fr n m X (by omega) (by omega) (by omega) (by omega)
    rw [show liesB fr n m = true by simp [liesB]; omega] at this
    exact this)
  have HEND := Lib.hid (span_end hok (by rw [hm]; exact h1))
  have HM := Lib.hid hm
  have HWR : Hid (IntKind.i64.wrap ((fr : Int) + (n : Int)) = ((fr + n : Nat) : Int)) := Lib.hid (by simp [IntKind.wrap, IntKind.bits, IntKind.signed]; omega)
  obtain ⟨W0, hW0⟩ : ∃ W0, w.alloc (.cells #[.int .i64 g] 2) = W0 := ⟨_, rfl⟩
  have hB0 : Below w.heap.size w W0 := by rw [← hW0]; exact (Below.refl _ w).alloc (Nat.le_refl _) _
  have hG0 : Whole W0 w.heap.size 2 [.int .i64 g] := by rw [← hW0]; exact whole_new w [.int .i64 g] 2 _ rfl
  have hI0 := Lib.hid (hL.ints.below hB0)
  have l0 := hG0.lt
  have c0 := hG0.cellAt 0
  have HB0 := Lib.hid hB0
  have HG0 := Lib.hid hG0
  clear hL hm hok hB0 hG0
  refine (callsIn_wide (n := 3)).1 (callsIn_of_wp_marks Try.func18 rfl trivial (wpIn_wide.2 ?_) rfl)
  simp only [Try.ntmps18, List.size_toArray, List.length_cons, List.length_nil, Nat.reduceAdd, Nat.reduceSub, Array.replicate_succ, Array.replicate_zero, List.push_toArray, List.append_toArray, List.nil_append, List.cons_append]
  go_wp2_with (first
    | (go_at_call 25; refine (HRI.out _ hI0.out).mono ?_; clear HRI hW0 hI0; rintro e w1 ⟨rfl, hb1⟩; have HB1 := Lib.hid hb1; have c1 := (hb1.cell (p := ⟨w.heap.size, 0, none⟩) l0).trans c0; have z1 := hb1.size; clear c0 hb1)
    | (go_at_call 27; refine (HLI.out _).mono ?_; clear HLI; rintro e w2 ⟨rfl, rfl⟩))
  obtain ⟨V, hV⟩ : ∃ V, w1.alloc (.cells #[.int .i64 0] 2) = V := ⟨_, rfl⟩
  have bV : Below w1.heap.size w1 V := by rw [← hV]; exact (Below.refl _ w1).alloc (Nat.le_refl _) _
  have hKA : Whole V w1.heap.size 2 [.int .i64 0] := by rw [← hV]; exact whole_new w1 [.int .i64 0] 2 _ rfl
  have hs1 : V.heap.size = w1.heap.size + 1 := by rw [← hV]; simp
  have hKG : Whole V w.heap.size 2 [.int .i64 g] := (HG0.out.below HB1.out l0).below bV (by omega)
  have hBV : Below w.heap.size w V := (HB0.out.trans (HB1.out.mono HB0.out.size)).trans (bV.mono (by omega))
  rw [hV]
  clear hV
  refine region_still_tailE 7 (by kernel_rfl) (by decide +kernel) (fun w2 hw2 => ?_)
  have bW : Below V.heap.size V w2 := by rw [← hw2]; exact (Below.refl _ V).drew
  have hs2 : w2.heap.size = w1.heap.size + 1 := by rw [← hw2]; exact hs1
  have hB2 : Below w.heap.size w w2 := hBV.trans (bW.mono (by omega))
  have hA2 : Whole w2 w1.heap.size 2 [.int .i64 0] := hKA.below bW (by omega)
  have hG2 : Whole w2 w.heap.size 2 [.int .i64 g] := hKG.below bW (by omega)
  have d0 := hG2.cellAt 0
  have HLOW2 := Lib.hid (HLOW.out.keep (Y := w2) (fun k hk => hB2.block k hk))
  have HB2 := Lib.hid hB2
  have HA2 := Lib.hid hA2
  have HG2 := Lib.hid hG2
  have HS2 := Lib.hid hs2
  have l2 : w.heap.size < w2.heap.size := by omega
  clear hw2 bW bV hKA hKG hBV hs1 c1 hB2 hA2 hG2 hs2 HG0 HB0 HB1
  simp only [List.take_succ_cons, List.take_zero, List.drop_succ_cons, List.drop_zero]
  still_step
  still_step
  still_step
  still_step
  still_step
  still_step
  refine wpStill_valE rfl _ (exec_slice_lhE 22 _ _ _ rfl 2 Try.underlying22 (Try.sizeI64 _) p m c fr (fr + n) rfl rfl (by exact congrArg (Value.int .i64) HWR.out) (by omega) (by omega)) ?_
  have HSUB := HLOW2.out.subE HM.out hmc (fr := fr) (to := fr + n) (by omega) h1
  rw [show fr + n - fr = n by omega] at HSUB ⊢
  have HSUB := Lib.hid HSUB
  have HLEN : Hid (((bs.drop fr).take n).length = n) := Lib.hid (by have := HM.out; simp; omega)
  have HOKS := Lib.hid (HOK.out.subE fr n)
  generalize (bs.drop fr).take n = zs at HSUB HLEN HEND HOKS
  generalize (if c = fr then p else p.map (·.add fr)) = q at HSUB ⊢
  generalize c - fr = c2 at HSUB ⊢
  refine wpStill_nil ?_
  have hk64 : n ≤ 10000 := by have := HOKS.out.2.1; have := HLEN.out; omega
  have f8 := HA2.out.free 0
  have HWF := Lib.hid (fun X => startsF_any g q n c2 X)
  obtain ⟨W3, hW3⟩ : ∃ W3, (w2.alloc (.cells #[.int .i64 g] 2)).alloc (.cells #[.slice q n c2] 22) = W3 := ⟨_, rfl⟩
  have b3 : Below w2.heap.size w2 W3 := by rw [← hW3]; exact ((Below.refl _ w2).alloc (Nat.le_refl _) _).alloc (by simp) _
  have x1 : Whole W3 w2.heap.size 2 [.int .i64 g] := by rw [← hW3]; exact (whole_new w2 [.int .i64 g] 2 _ rfl).alloc _
  have x2 : Whole W3 (w2.heap.size + 1) 22 [.slice q n c2] := by rw [← hW3]; exact whole_new (w2.alloc (.cells #[.int .i64 g] 2)) [.slice q n c2] 22 _ (by simp)
  have s3 : W3.heap.size = w2.heap.size + 2 := by rw [← hW3]; simp
  have hB3 : Below w.heap.size w W3 := HB2.out.trans (b3.mono (by omega))
  have hA3 : Whole W3 w1.heap.size 2 [.int .i64 0] := HA2.out.below b3 (by have := HS2.out; omega)
  have hG3 : Whole W3 w.heap.size 2 [.int .i64 g] := HG2.out.below b3 (by omega)
  have HMEM : Hid (WidMem w.heap.size w2.heap.size (w2.heap.size + 1) g (.slice q n c2) zs W3) := Lib.hid ⟨hB3.size, by omega, by omega, x1.cellAt 0, x2.cellAt 0, HSUB.out.keep (fun j hj => b3.block j (by omega))⟩
  have HI0 := Lib.hid (And.intro hG3 (And.intro hA3 hB3))
  have HS3 := Lib.hid s3
  clear b3 x1 x2 s3 hB3 hA3 hG3
  go_wp2_with (go_at_call 30; refine (HWF.out _).mono ?_; clear HWF; rintro e w' ⟨rfl, rfl⟩; rw [hW3])
  have z3 : w2.heap.size + 2 ≤ W3.heap.size := by have := HS3.out; omega
  have z2 : w1.heap.size + 1 ≤ w2.heap.size := by have := HS2.out; omega
  have z1' : w.heap.size + 1 ≤ w1.heap.size := by omega
  clear hW3 f8 d0
  refine (wpIn_wide (n := 3)).1 (range_next (F := Fence.wide) rfl (by omega) (gf := 35) (lb := #[.pointer (some ⟨w2.heap.size, 0, none⟩), .pointer (some ⟨w2.heap.size + 1, 0, none⟩)]) rfl trivial (enters_of Try.func35 (by kernel_rfl) rfl)
    (Kp := KeepL (WidMem w.heap.size w2.heap.size (w2.heap.size + 1) g (.slice q n c2) zs)) (fun _ _ _ h k => h.trans k) (fun W l o h1 h2 => ⟨by simp, fun h => h.keep (by simp) (fun k hk => World.putObj_heap_other (by omega)) (World.putObj_heap_other (by omega)) (World.putObj_heap_other (by omega))⟩) (starts_next _ (by omega) w.heap.size w2.heap.size (w2.heap.size + 1) g (.slice q n c2) zs W3 HOKS.out HMEM.out) (fun _ => rfl)
    (EI w.heap.size w1.heap.size w.heap.size w g zs) NoXE (EI.own _ _ _ _ _ _ _ (Nat.le_refl _) (by omega)) (fun c => NoXE.own _ c) ⟨HI0.out.1, by simpa [preW] using HI0.out.2.1, HI0.out.2.2⟩ ?round ?done ?stop)
  case round =>
    rintro l pre x V hl ⟨hG, hA, hbV⟩ ⟨hx1, hx2⟩
    have HX1 := Lib.hid hx1
    clear hx1
    apply Exists.intro
    apply Exists.intro
    refine ⟨?_, ?_, ?_, ?_⟩
    · intro K hK
      dsimp only [encS]
      gi_wp2
      exact hK
    · exact (KeepsOthers.refl V).from _
    · exact ⟨Nat.le_refl _, id⟩
    · intro V₂ hgV hnc' hbl
      have hA2 := hA.grown hgV (hA.ne hnc')
      have hG2 := hG.grown hgV (hG.ne hnc')
      have hb2 : Below w.heap.size w V₂ := hbV.grown hgV hbV.size (fun k e => by cases e; omega)
      have c8 := hA2.cellAt 0
      have f8 := hA2.free 0
      have l8 := hA2.lt
      have c0 := hG2.cellAt 0
      have l0 := hG2.lt
      have HA3 := Lib.hid hA2
      have HG3 := Lib.hid hG2
      have HBV := Lib.hid hb2
      have hbd := begW_bd HOKS.out (k := x) hx2
      have HSU := Lib.hid (sub_any (begW g zs x) g V₂ (by omega) (by omega) (by omega) (by omega))
      have HST : Hid (sat (begW g zs x - g) = preW g x zs) := Lib.hid (by rw [subS (by omega)]; unfold begW; omega)
      clear hA hG hbV hgV hnc' hbl hA2 hG2 hb2
      gi_wp2_with (refine ⟨trivial, ?_⟩; gi_at_call 31; refine (callsIn_wide.2 HSU.out).mono ?_; clear HSU; rintro e w7 ⟨rfl, rfl⟩; rw [HST.out])
      refine ⟨(KeepsOthers.setCell _ _ _).from _, ⟨by simp, fun h => h.keep (by simp) (fun k hk => Below.heap_setCell _ _ _ _ (by show k ≠ w1.heap.size; omega)) (Below.heap_setCell _ _ _ _ (by show w2.heap.size ≠ w1.heap.size; omega)) (Below.heap_setCell _ _ _ _ (by show w2.heap.size + 1 ≠ w1.heap.size; omega))⟩, HG3.out.other _ _ (by show w.heap.size ≠ w1.heap.size; omega), ?_, HBV.out.setCell (p := ⟨w1.heap.size, 0, none⟩) (by show w.heap.size ≤ w1.heap.size; omega) _⟩
      have := HA3.out.set 0 (.int .i64 (preW g x zs))
      rw [HX1.out] at this ⊢
      simpa using this
  case done =>
    rintro D xs V hD hxs ⟨hG, hA, hbV⟩ hK
    rw [hxs, HLEN.out, show n + 1 - 1 = n by omega] at hA
    have c8 := hA.cellAt 0
    have l8 := hA.lt
    have c0 := hG.cellAt 0
    have l0 := hG.lt
    have hpb := preW_bd HOKS.out n (by rw [HLEN.out]; exact Nat.le_refl _)
    have HSU := Lib.hid (sub_any (preW g n zs) g V (by omega) (by omega) (by omega) (by omega))
    have HST : Hid (sat (preW g n zs - g) = preW g n zs - g) := Lib.hid (subS (by omega))
    have HBV := Lib.hid hbV
    have HM2 := Lib.hid ((Marks.nil w.heap.size V).cons (D := D) (by omega) hK (fun E hE => by cases hE))
    clear hA hG hbV hK hxs
    generalize preW g n zs - g = u at HSU HST HEND
    go_wp2_with (go_at_call 31; refine HSU.out.mono ?_; clear HSU; rintro e w7 ⟨rfl, rfl⟩; rw [HST.out])
    all_goals exact leaves_marks w.heap.size [D] _ HM2.out (fun W' hck hbk => ⟨_, results_tmp2 rfl _ _ _, ⟨by rw [← HEND.out]; first | (rw [show max 0 u = u by omega]; rfl) | (rw [show max 0 u = 0 by omega]; rfl), HBV.out.trans hbk⟩⟩)
  case stop =>
    rintro D c pre V hD _ h hK
    exact h.elim
set_option maxHeartbeats 2000000 in
theorem span_bad (g : Int) (p : Option Addr) (m c : Nat) (fr n : Int) (bs : List Int) (w : World) (hI : Ints w (.slice p m c) bs) (hm : bs.length = m) (f1 : -9223372036854775808 ≤ fr) (f2 : fr ≤ 9223372036854775807) (h : okB g bs = false ∨ liesB fr n m = false) :
    Calls Try.prog 18 #[.slice p m c, .int .i64 g, .int .i64 fr, .int .i64 n] w fun e W' => e = .returned (.tuple #[.int .i64 0, .int .i64 100]) ∧ Below w.heap.size w W' := by
  obtain ⟨W0, hW0⟩ : ∃ W0, w.alloc (.cells #[.int .i64 g] 2) = W0 := ⟨_, rfl⟩
  have hB0 : Below w.heap.size w W0 := by rw [← hW0]; exact (Below.refl _ w).alloc (Nat.le_refl _) _
  have hG0 : Whole W0 w.heap.size 2 [.int .i64 g] := by rw [← hW0]; exact whole_new w [.int .i64 g] 2 _ rfl
  have hI0 := Lib.hid (hI.below hB0)
  have l0 := hG0.lt
  have c0 := hG0.cellAt 0
  have HB0 := Lib.hid hB0
  have hmk : m ≤ 9223372036854775807 := by have := hI.1; omega
  cases hok : okB g bs with
  | false =>
    have HRI := Lib.hid (fun X hI => by have := eright_any g p m c bs X hI hm; rw [hok] at this; exact this)
    clear hI hm hok h hB0 hG0
    refine (callsIn_wide (n := 3)).1 (callsIn_of_wp_marks Try.func18 rfl trivial (wpIn_wide.2 ?_) rfl)
    simp only [Try.ntmps18, List.size_toArray, List.length_cons, List.length_nil, Nat.reduceAdd, Nat.reduceSub, Array.replicate_succ, Array.replicate_zero, List.push_toArray, List.append_toArray, List.nil_append, List.cons_append]
    go_wp2_with (first
      | (go_at_call 25; refine (HRI.out _ hI0.out).mono ?_; clear HRI hW0 hI0; rintro e w1 ⟨rfl, hb1⟩; have HB1 := Lib.hid (HB0.out.trans (hb1.mono HB0.out.size)); clear c0 hb1))
    exact leaves_marks w.heap.size [] _ (Marks.nil _ _) (fun W' hck hbk => ⟨_, results_tmp2 rfl _ _ _, ⟨rfl, HB1.out.trans hbk⟩⟩)
  | true =>
    rw [hok] at h
    have hl : liesB fr n m = false := by rcases h with h | h; cases h; exact h
    have HRI := Lib.hid (fun X hI => by have := eright_any g p m c bs X hI hm; rw [hok] at this; exact this)
    have HLI := Lib.hid (fun X => by
      have := lies_any fr n m X (by omega) (by omega) f2 f1
      rw [hl] at this
      exact this)
    clear hI hm hok h hl hB0 hG0
    refine (callsIn_wide (n := 3)).1 (callsIn_of_wp_marks Try.func18 rfl trivial (wpIn_wide.2 ?_) rfl)
    simp only [Try.ntmps18, List.size_toArray, List.length_cons, List.length_nil, Nat.reduceAdd, Nat.reduceSub, Array.replicate_succ, Array.replicate_zero, List.push_toArray, List.append_toArray, List.nil_append, List.cons_append]
    go_wp2_with (first
      | (go_at_call 25; refine (HRI.out _ hI0.out).mono ?_; clear HRI hW0 hI0; rintro e w1 ⟨rfl, hb1⟩; have HB1 := Lib.hid (HB0.out.trans (hb1.mono HB0.out.size)); clear c0 hb1)
      | (go_at_call 27; refine (HLI.out _).mono ?_; clear HLI; rintro e w2 ⟨rfl, rfl⟩))
    exact leaves_marks w.heap.size [] _ (Marks.nil _ _) (fun W' hck hbk => ⟨_, results_tmp2 rfl _ _ _, ⟨rfl, HB1.out.trans hbk⟩⟩)
/-- what edges.Span answers -/
def spanV (g : Int) (bs : List Int) (fr n : Int) : Int × Int := if okB g bs = true ∧ liesB fr n bs.length = true then (wideW g bs fr.toNat (fr.toNat + n.toNat), 0) else (0, 100)
theorem span_any (g : Int) (p : Option Addr) (m c : Nat) (fr n : Int) (bs : List Int) (w : World) (hL : LowI w.heap.size w (.slice p m c) bs) (hm : bs.length = m) (hmc : m ≤ c) (f1 : -9223372036854775808 ≤ fr) (f2 : fr ≤ 9223372036854775807) :
    Calls Try.prog 18 #[.slice p m c, .int .i64 g, .int .i64 fr, .int .i64 n] w fun e W' => e = .returned (.tuple #[.int .i64 (spanV g bs fr n).1, .int .i64 (spanV g bs fr n).2]) ∧ Below w.heap.size w W' := by
  unfold spanV
  split
  · rename_i h
    obtain ⟨h1, h2⟩ := h
    simp only [liesB, Bool.and_eq_true, decide_eq_true_eq] at h2
    have := span_main g p m c fr.toNat n.toNat bs w hL hm hmc (okB_iff.1 h1) (by omega)
    rwa [Int.toNat_of_nonneg (by omega), Int.toNat_of_nonneg (by omega)] at this
  · rename_i h
    refine span_bad g p m c fr n bs w hL.ints hm f1 f2 ?_
    cases h1 : okB g bs with
    | false => exact .inl rfl
    | true =>
      cases h2 : liesB fr n m with
      | false => exact .inr rfl
      | true => exact absurd ⟨h1, by rw [hm]; exact h2⟩ h
end Go.Proofs.Ytlnfgmmgkmhehaa
