/- The document's Computed of a page, and its Depths and Parents. -/
/- Loads and stores of whole values, in regions whose order is drawn, too. Nothing of the program. -/
import Derived.Test.YtecnapecmioamaaTRefDep
import Derived.Test.YtecnapecmioamaaSRefComp
import Derived.Test.YtecnapecmioamaaTComp
import Derived.Test.YtecnapecmioamaaTCut
import Derived.Test.YtecnapecmioamaaSBase
import Derived.Laws.Rows
import Derived.Laws.Tables
import Derived.OrdersHeld
import Derived.LoopTactic
import Derived.StillTail
import Derived.StillTailTactics
namespace Go.Proofs.Ytecnapecmioamaa
open Go.RowKit Go.Shelf
set_option linter.unusedVariables false
set_option linter.unusedSimpArgs false
attribute [local go_sem] Oper.semAt_some

/-- a node, its style computed -/
def compQ (n : Nd) : Nd := { n with s := compS n.s }
theorem refcomp_call (s : Sty) (hv : validS s = true) (X : World) : Calls Try.prog 41 #[.agg s.cells.toArray] X fun e W' => e = .returned (.tuple #[.agg (compS s).cells.toArray, .int .i64 0]) ∧ Below X.heap.size X W' := by
  have hR : compR s = .tuple #[(compS s).val, .int .i64 0] := by unfold compR; rw [hv]; rfl
  refine (refComp_ok s X hv).mono ?_
  rintro e W' ⟨rfl, hb⟩
  rw [hR]
  exact ⟨rfl, hb⟩
theorem compQ_ok {n : Nd} {W : World} (h : n.ok W) : (compQ n).ok W := h
set_option maxRecDepth 100000 in
set_option maxHeartbeats 2000000 in
theorem refComputed_own (p : Option Addr) (m cap : Nat) (ns : List Nd) (w : World) (hm : ns.length = m) (hm2 : m ≤ 65536) (hP : PageAt w (.slice p m cap) ns) (hv : ∀ n ∈ ns, validS n.s = true) :
    Calls Try.prog 23 #[.slice p m cap] w fun e W' => ∃ v, e = .returned v ∧ PageAt W' v (ns.map compQ) ∧ W'.ownsRow w.heap.size 47 34 v m (flatN (ns.map compQ)) ∧ Below w.heap.size w W' := by
  have HP := Lib.hid hP
  have HM := Lib.hid hm
  have HV := Lib.hid hv
  clear hP hm hv
  cases hi0 : Try.prog.info? 47 with
  | none => have := Try.infoNd2; rw [hi0] at this; cases this
  | some i0 =>
  have hq := Try.infoNd2
  rw [hi0] at hq
  simp only [Option.map_some, Option.some.injEq, Prod.mk.injEq] at hq
  obtain ⟨hz0, hz1, hz2⟩ := hq
  have HZ0 := Lib.hid hz0
  clear hz0
  go_enter Try.func23, Try.ntmps23
  go_wp2
  go_loopw [3, 4] (fun v i x => ∃ k : Nat, k ≤ m ∧ i = .int .i64 k ∧ Hid (x.ownsRow w.heap.size 47 34 v k (flatN ((ns.take k).map compQ))) ∧ Hid (Below w.heap.size w x)) (fun _ i _ => m - (intOf i).toNat)
  case atStart => exact ⟨0, Nat.zero_le _, rfl, Lib.hid (World.ownsRow_nil _ _ _ _), Lib.hid (Below.refl _ _)⟩
  case round =>
    obtain ⟨k, hk, rfl, HO, HB⟩ := hrel
    by_cases hlt : k < m
    · obtain ⟨b, off, rfl, hc⟩ := page_some HP.out (by rw [HM.out]; omega)
      obtain ⟨n, hn⟩ : ∃ n, ns[k]? = some n := ⟨_, List.getElem?_eq_getElem (by rw [HM.out]; exact hlt)⟩
      have hmem : n ∈ ns := List.mem_iff_getElem?.2 ⟨k, hn⟩
      have hok := HP.out.2.1 n hmem
      have LN := Lib.hid ((hc k n hn).below HB.out).load
      have iN := Lib.hid (nd_info n)
      have oN := Lib.hid (nd_one n w hok)
      have zN : Hid (Nd.zero.cells.toArray.size = n.cells.toArray.size) := Lib.hid (by simp [Nd.len])
      have HOK := Lib.hid hok
      have SN : Hid ((ns.take (k + 1)).map compQ = (ns.take k).map compQ ++ [compQ n]) := Lib.hid (by rw [List.take_add_one, hn]; simp)
      obtain ⟨cs, hcs⟩ : ∃ cs, n.cells.toArray = cs := ⟨_, rfl⟩
      rw [hcs] at LN iN oN zN
      have HCE := Lib.hid hcs
      have hz0 : w.heap.size ≤ wr.heap.size := HB.out.size
      have CC := Lib.hid (refcomp_call n.s (HV.out n hmem))
      have SL : Hid (∀ X, Whole X wr.heap.size 47 n.cells → ∀ j v, n.s.cells.toArray[j]? = some v → X.cell? ((⟨wr.heap.size, 2, none⟩ : Addr).add j) = some v) := Lib.hid fun X hX j v hj => (NdAt.whole hX).style j v hj
      have iS := Lib.hid (sty_info' n.s)
      have iT := Lib.hid (sty_info' (compS n.s))
      have oT := Lib.hid (cells_one (compS n.s))
      have zT : Hid (Sty.zero.cells.toArray.size = (compS n.s).cells.toArray.size) := Lib.hid rfl
      have TH : Hid (∀ Y, Whole Y wr.heap.size 47 n.cells → Y.there wr.heap.size 2 (compS n.s).cells.toArray.size) := Lib.hid fun Y hY => there_style hY _
      have WS : Hid (∀ Y, Whole Y wr.heap.size 47 n.cells → Whole (Y.setCells wr.heap.size 2 (compS n.s).cells.toArray.toList) wr.heap.size 47 (compQ n).cells) := Lib.hid fun Y hY => whole_style hY _
      have TL : Hid (∀ Z g, Whole Z g 44 (compS n.s).cells → ∀ j v, (compS n.s).cells.toArray[j]? = some v → Z.cell? ((⟨g, 0, none⟩ : Addr).add j) = some v) := Lib.hid fun Z g hZ j v hj => by rw [add_plain, Nat.zero_add, hZ.cellAt]; simpa using hj
      obtain ⟨sc, hsc⟩ : ∃ sc, n.s.cells.toArray = sc := ⟨_, rfl⟩
      obtain ⟨tc, htc⟩ : ∃ tc, (compS n.s).cells.toArray = tc := ⟨_, rfl⟩
      rw [hsc] at CC SL iS
      rw [htc] at CC iT oT zT TH WS TL
      have HTE := Lib.hid htc
      clear hsc htc
      obtain ⟨ccs, hccs⟩ : ∃ ccs, (compQ n).cells.toArray = ccs := ⟨_, rfl⟩
      have LC : Hid (∀ V, Whole V wr.heap.size 47 (compQ n).cells → ∀ j v, ccs[j]? = some v → V.cell? ((⟨wr.heap.size, 0, none⟩ : Addr).add j) = some v) := Lib.hid fun V hV j v hj => by
        rw [← hccs] at hj; exact (NdAt.whole hV).load j v hj
      have iC : Hid ((Try.prog.info? 47).map (·.size) = some ccs.size) := Lib.hid (by rw [← hccs]; exact nd_info (compQ n))
      have oC : Hid (ccs.all (·.oneCell') = true) := Lib.hid (by rw [← hccs]; exact nd_one (compQ n) w (compQ_ok HOK.out))
      have HCN := Lib.hid hccs
      have OW : Hid (∀ X, Below wr.heap.size wr X → X.ownsRow w.heap.size 47 34 u3 k (flatN ((ns.take k).map compQ))) := Lib.hid fun X hX => own_same34 HO.out fun g e => hX.block g (HO.out.lt g e).2
      have hcsz : ccs.size = 34 := by rw [← hccs]; simp [Nd.len]
      have hfill := copy_fill ccs hcsz
      clear hccs hcs hn hmem hok hc
      go_wp2_with (first
        | (refine wpList_load_at rfl 47 (.tmp 16) rfl _ rfl cs _ LN.out Try.underlying47 rfl iN.out ?_)
        | (refine wpList_store_row rfl 47 (.tmp 5) (.tmp 17) rfl _ cs rfl rfl 47 Nd.zero.cells.toArray (whole_new wr Nd.zero.cells 47 _ rfl) iN.out zN.out oN.out ?_; refine at_world (fun X => Whole X wr.heap.size 47 n.cells ∧ Below wr.heap.size wr X) ⟨by rw [← HCE.out]; exact whole_row (whole_new wr Nd.zero.cells 47 _ rfl) _, ((Below.refl _ wr).alloc (Nat.le_refl _) _).trans (below_row _ _ _ (Nat.le_refl _))⟩ (fun X hX => ?_); obtain ⟨KX, BX⟩ := hX; have KXX := Lib.hid KX; have BXX := Lib.hid BX; clear KX BX LN oN zN)
        | (refine wpList_load_at rfl 44 (.tmp 19) rfl _ rfl sc _ (SL.out X KXX.out) Try.underlying44 rfl iS.out ?_)
        | (go_at_call 41; refine (CC.out X).mono ?_; clear CC; rintro e Y ⟨rfl, hbY⟩; have KY := Lib.hid (KXX.out.below hbY KXX.out.lt); have BY := Lib.hid (BXX.out.trans (hbY.mono BXX.out.size)); clear hbY SL)
        | (refine wpList_store_row rfl 44 (.tmp 6) (.tmp 22) rfl _ tc rfl rfl 44 Sty.zero.cells.toArray (whole_new Y Sty.zero.cells 44 _ rfl) iT.out zT.out oT.out ?_; refine at_world (fun Z => Whole Z wr.heap.size 47 n.cells ∧ Whole Z Y.heap.size 44 (compS n.s).cells ∧ Below wr.heap.size wr Z) ⟨whole_row_other (KY.out.alloc _) _ _ (by have := KY.out.lt; omega), by rw [← HTE.out]; exact whole_row (whole_new Y Sty.zero.cells 44 _ rfl) _, (BY.out.alloc BY.out.size _).trans (below_row _ _ _ BY.out.size)⟩ (fun Z hZ => ?_); obtain ⟨kz, tz, bz⟩ := hZ; have KZ := Lib.hid kz; have TZ := Lib.hid tz; have BZ := Lib.hid bz; clear kz tz bz zT)
        | (refine wpList_load_at rfl 44 (.tmp 6) rfl _ rfl tc _ (TL.out Z _ TZ.out) Try.underlying44 rfl iT.out ?_)
        | (refine wpList_store_mid rfl 44 (.tmp 25) (.tmp 24) rfl wr.heap.size 2 tc rfl rfl (TH.out Z KZ.out) iT.out oT.out ?_; refine at_world (fun V => Whole V wr.heap.size 47 (compQ n).cells ∧ Below wr.heap.size wr V) ⟨WS.out Z KZ.out, below_setCells (Nat.le_refl _) _ _ _ BZ.out⟩ (fun V hV => ?_); obtain ⟨kv, bv⟩ := hV; have KV := Lib.hid kv; have BV := Lib.hid bv; clear kv bv TH WS oT)
        | (refine wpList_load_at rfl 47 (.tmp 5) rfl _ rfl ccs _ (LC.out V KV.out) Try.underlying47 rfl iC.out ?_)
        | (at_builtin; refine wpList_append_own_at _ rfl _ _ 22 rfl w.heap.size 47 i0 (.agg Nd.zero.cells.toArray) 34 288 Try.underlying22 hi0 HZ0.out hz1 hz2 nd_size0 (by decide) _ _ _ rfl ((OW.out V BV.out).alloc _) ⟨V.heap.size, 0, none⟩ 1 1 (compQ n).cells rfl ?c0 ?c1 ?c2 ?c3 ?c4 ?c5 ?_))
      case c0 => rw [Nd.len]
      case c1 =>
        intro j u hj
        have h := HCN.out
        simp only [← h]
        first
          | (simpa using hj)
          | (exact list_new _ (compQ n).cells _ _ (by simp) j u hj)
      case c2 =>
        intro u hu
        have h := oC.out
        rw [← HCN.out] at h
        exact (Array.all_eq_true_iff_forall_mem.1 h) u (by simpa using hu)
      case c3 => unfold maxLen; omega
      case c4 => omega
      case c5 => first | (simp; have := BV.out.size; omega) | (have := BV.out.size; omega)
      intro v' W7 hown7 hgrow7 _ hat7
      have hO7 : Hid (W7.ownsRow w.heap.size 47 34 v' (k + 1) (flatN ((ns.take (k + 1)).map compQ))) := Lib.hid (by rw [SN.out, flatN_snoc]; simpa using hown7)
      have hB7 : Hid (Below w.heap.size w W7) := Lib.hid (((HB.out.trans (BV.out.mono hz0)).alloc (by have := BV.out.size; omega) _).grown hgrow7 (by simp; have := BV.out.size; omega) (fun g e => (HO.out.lt g e).1))
      clear hown7 hgrow7 hat7
      go_wp2
      go_roundw
      case rel => exact ⟨k + 1, by omega, by go_num, hO7, hB7⟩
      case measure => (simp [intOf]; try omega)
    · obtain rfl : m = k := by omega
      have hpg : PageAt wr u3 (ns.map compQ) := by
        have h := HO.out
        rw [List.take_of_length_le (by rw [HM.out]; exact Nat.le_refl _)] at h
        exact own_page h fun nd hnd => by
          obtain ⟨a, ha, rfl⟩ := List.mem_map.1 hnd
          exact compQ_ok ((HP.out.2.1 a ha).below HB.out)
      have HPG := Lib.hid hpg
      have HOE : Hid (wr.ownsRow w.heap.size 47 34 u3 m (flatN (ns.map compQ))) := Lib.hid (by
        have h := HO.out
        rwa [List.take_of_length_le (by rw [HM.out]; exact Nat.le_refl _)] at h)
      obtain ⟨p3, c3, rfl⟩ := hpg.form
      clear hpg HO
      go_wp2
      go_ret
      exact ⟨_, rfl, HPG.out, HOE.out, HB.out⟩
theorem refComputed_at (p : Option Addr) (m cap : Nat) (ns : List Nd) (w : World) (hm : ns.length = m) (hm2 : m ≤ 65536) (hP : PageAt w (.slice p m cap) ns) (hv : ∀ n ∈ ns, validS n.s = true) :
    Calls Try.prog 23 #[.slice p m cap] w fun e W' => ∃ v, e = .returned v ∧ PageAt W' v (ns.map compQ) ∧ Below w.heap.size w W' :=
  (refComputed_own p m cap ns w hm hm2 hP hv).mono fun e W' ⟨v, h1, h2, _, h3⟩ => ⟨v, h1, h2, h3⟩
end Go.Proofs.Ytecnapecmioamaa

namespace Go.Proofs.Ytecnapecmioamaa
open Go.RowKit
set_option linter.unusedVariables false
attribute [local go_sem] Oper.semAt_some

/-- loads of whole values that lie anywhere -/
theorem run_loadVarC {P : Program} (w : World) (p : Addr) (ty : TypeId) (cs : Array Value) (d : TypeDesc) (hc : ∀ j v, cs[j]? = some v → w.cell? (p.add j) = some v)
    (hu : P.underlying ty = some d) (hd : (match d with | .struct _ | .array _ _ => true | _ => false) = true) (hi : (P.info? ty).map (·.size) = some cs.size) :
    (loadVar ty p).run P w = .ok (.agg cs) w := by
  have hl : (loadCells p cs.toList.length).run P w = .ok cs.toList.toArray w :=
    run_loadCells_list (P := P) w p cs.toList (fun j v hv => hc j v (by simpa using hv))
  cases hq : P.info? ty with
  | none => simp [hq] at hi
  | some i =>
    have hs : i.size = cs.size := by simpa [hq] using hi
    have hagg : (isAgg ty).run P w = .ok true w := by
      unfold isAgg
      rw [Sem.run_bind, run_underlying hu w]
      cases d <;> simp_all
    simp only [Array.length_toList, Array.toArray_toList] at hl
    simp [loadVar, Sem.run_bind, hagg, sizeOf, typeInfo, hq, hs, hl]
theorem wp_loadC {P : Program} {o : Oper} {a : Act} {w : World} {K : Act → World → Prop} {Q : Exit → Act → World → Prop} (ty : TypeId) (x : Operand) (ho : o.op = .load ty x)
    (p : Addr) (hx : a.eval x = .pointer (some p)) (cs : Array Value) (d : TypeDesc) (hc : ∀ j v, cs[j]? = some v → w.cell? (p.add j) = some v)
    (hu : P.underlying ty = some d) (hd : (match d with | .struct _ | .array _ _ => true | _ => false) = true) (hi : (P.info? ty).map (·.size) = some cs.size)
    (h : K (a.put o.dst (.agg cs)) w) : o.wp P a w K Q := by
  unfold Oper.wp execOp
  simp only [ho, hx, Instr.loadAt, Instr.sureAddr, Sem.run_bind, Sem.run_pure, Result.andThen_ok, run_loadVarC w p ty cs d hc hu hd hi]
  exact h
theorem wpList_loadC {P : Program} {ops : Array Oper} {rest : List Oper} {o : Oper} {a : Act} {w : World} {Q : Exit → Act → World → Prop} (hgd : o.guard = none) (ty : TypeId) (x : Operand) (ho : o.op = .load ty x)
    (p : Addr) (hx : a.eval x = .pointer (some p)) (cs : Array Value) (d : TypeDesc) (hc : ∀ j v, cs[j]? = some v → w.cell? (p.add j) = some v)
    (hu : P.underlying ty = some d) (hd : (match d with | .struct _ | .array _ _ => true | _ => false) = true) (hi : (P.info? ty).map (·.size) = some cs.size)
    (h : wpList P ops Q rest (a.put o.dst (.agg cs)) w) : wpList P ops Q (o :: rest) a w :=
  wpList_plain hgd fun _ hK => wp_loadC ty x ho p hx cs d hc hu hd hi (hK _ _ h)
theorem wpList_loadCw {P : Program} {ops : Array Oper} {rest : List Oper} {o : Oper} {a : Act} {w : World} {Q : Exit → Act → World → Prop} (hgd : Region.wanted o (yielded ops a.tmps) = true) (ty : TypeId) (x : Operand) (ho : o.op = .load ty x)
    (p : Addr) (hx : a.eval x = .pointer (some p)) (cs : Array Value) (d : TypeDesc) (hc : ∀ j v, cs[j]? = some v → w.cell? (p.add j) = some v)
    (hu : P.underlying ty = some d) (hd : (match d with | .struct _ | .array _ _ => true | _ => false) = true) (hi : (P.info? ty).map (·.size) = some cs.size)
    (h : wpList P ops Q rest (a.put o.dst (.agg cs)) w) : wpList P ops Q (o :: rest) a w :=
  wpList_step fun K hK => by rw [if_pos hgd]; exact wp_loadC ty x ho p hx cs d hc hu hd hi (hK _ _ h)
theorem add_plainC (b o j : Nat) : (⟨b, o, none⟩ : Addr).add j = ⟨b, o + j, none⟩ := by unfold Addr.add; split <;> simp_all
theorem wpAnyH_takeC {P : Program} {md : Region.Mode} {ops : Array Oper} {Q : Exit → Act → World → Prop} {S : World → Prop} {i : Nat} {oi : Oper} {v : Value} {fuel : Nat} {listed : Array Bool} {a : Act} {w : World} (dst : Option Tmp) (hi : ops[i]? = some oi) (hd : oi.dst = dst)
    (hs : Region.noSelect ops = true) (hf : Region.free md ops listed i = true) (hr : (Region.ready md ops listed).contains i = true)
    (hQ : ∀ c a w, Q (.panic c) (a.put dst v) w → Q (.panic c) a w) (hy : YieldsIf P ops S oi v a) (hS : S w)
    (h : wpAnyH P md ops Q S fuel (listed.setIfInBounds i true) (a.put dst v) w) : wpAnyH P md ops Q S (fuel + 1) listed a w := by
  subst hd
  exact wpAnyH_take hi hs hf hr hQ hy hS h
theorem region_held_atC {P : Program} {ops : Array Oper} {Q : Exit → Act → World → Prop} {S : World → Prop} {id : Nat} {a : Act} {w : World} (hm : P.follows .mixedOrders = true)
    (h : ∀ w2 : World, w.drew = w2 → wpAnyH P .any ops Q S ops.size (Array.replicate ops.size false) a w2) : (Code.region id ops true).wp P Q a w := wp_region_held hm (h _ rfl)
theorem yields_loadC {P : Program} {ops : Array Oper} {S : World → Prop} {op : Oper} {a : Act} (hw : Region.wanted op (yielded ops a.tmps) = true) (ty : TypeId) (x : Operand) (ho : op.op = .load ty x)
    (p : Addr) (hx : a.eval x = .pointer (some p)) (cs : Array Value) (d : TypeDesc) (hc : ∀ X, S X → ∀ j v, cs[j]? = some v → X.cell? (p.add j) = some v)
    (hu : P.underlying ty = some d) (hd : (match d with | .struct _ | .array _ _ => true | _ => false) = true) (hi : (P.info? ty).map (·.size) = some cs.size) : YieldsIf P ops S op (.agg cs) a :=
  .inl ⟨hw, fun w hw' => by
    unfold execOp
    simp only [ho, hx, Instr.loadAt, Instr.sureAddr, Sem.run_bind, Sem.run_pure, Result.andThen_ok, run_loadVarC w p ty cs d (hc w hw') hu hd hi]⟩
theorem whole_rowA {W : World} {g t : Nat} {xs : List Value} (h : Whole W g t xs) (ys : Array Value) : Whole (W.setRow g ys) g t ys.toList := setRow_heap W g xs.toArray ys t (0, 0) h
theorem whole_rowO {W : World} {g t : Nat} {xs : List Value} (h : Whole W g t xs) (k : Nat) (ys : Array Value) (hne : g ≠ k) : Whole (W.setRow k ys) g t xs := (setRow_other W k g ys hne).trans h
theorem Whole.loads {W : World} {g t : Nat} {cs : Array Value} (h : Whole W g t cs.toList) (j : Nat) (v : Value) (hv : cs[j]? = some v) : W.cell? ((⟨g, 0, none⟩ : Addr).add j) = some v := by
  have := h.cellAt j
  rw [Array.getElem?_toList, hv] at this
  rw [add_plainC, Nat.zero_add]; exact this
theorem wp_store_rowC {P : Program} {o : Oper} {a : Act} {w : World} {K : Act → World → Prop} {Q : Exit → Act → World → Prop} (hd : o.dst = none) (ty : TypeId) (x y : Operand) (ho : o.op = .store ty x y)
    (g : Nat) (cells : Array Value) (hx : a.eval x = .pointer (some ⟨g, 0, none⟩)) (hy : a.eval y = .agg cells)
    (t : TypeId) (old : Array Value) (hg : w.heap[g]? = some (.cells old t (0, 0))) (hi : (P.info? ty).map (·.size) = some cells.size)
    (hold : old.size = cells.size) (h1 : cells.all (·.oneCell') = true) (h : K a (w.setRow g cells)) : o.wp P a w K Q := by
  refine wp_store_row ty x y ho g cells hx hy t old hg hi hold h1 ?_
  rw [hd]; exact h
end Go.Proofs.Ytecnapecmioamaa
