/- What the laws of layer 8 want: the cut text; the law's own check of known lines. -/
import Derived.Test.YthgkjgaebgpplaaLnBox
import Derived.Test.YthgkjgaebgpplaaNOpen
namespace Go.Proofs.Ythgkjgaebgpplaa
open Go.RowKit Go.Shelf
set_option linter.unusedVariables false
attribute [local go_sem] Oper.semAt_some

theorem wpList_val {P : Program} {ops : Array Oper} {w : World} {Q : Exit → Act → World → Prop} {a : Act} {o : Oper} {rest : List Oper} (hg : o.guard = none) (v : Value) (hr : (execOp a.eval o).run P w = .ok (.value v) w) (h : wpList P ops Q rest (a.put o.dst v) w) : wpList P ops Q (o :: rest) a w :=
  wpList_plain hg fun K hK => by
    unfold Oper.wp
    rw [hr]
    exact hK _ _ h
theorem exec_slice_h {P : Program} {w : World} {a : Act} {o : Oper} (t : TypeId) (x hi : Operand) (ho : o.op = .slice t x none (some hi) none) (e : TypeId) (ht : P.underlying t = some (.slice e)) (hs : (sizeOf e).run P w = .ok 1 w)
    (p : Option Addr) (m c to : Nat) (hx : a.eval x = .slice p m c) (hh : a.eval hi = .int .i64 to) (h2 : to ≤ c) :
    (execOp a.eval o).run P w = .ok (.value (.slice p to c)) w := by
  have he : P.elem t = e := by simp [Program.elem, ht]
  have ht' : P.underlying t = some (.slice (P.elem t)) := by rw [he]; exact ht
  unfold execOp
  simp only [ho, hx, Option.map_some, Option.map_none, hh]
  simp [run_sliceAt_slice (P := P) w t _ _ _ _ ht', run_slice_h (P := P) w t p m c ht' .i64 (to : Int) (by omega) (by omega), he, hs, sliced, Result.andThen]
  intro _; cases p <;> simp [go_sem]
theorem LowI.head {B : Nat} {X : World} {p : Option Addr} {m c to : Nat} {zs : List Int} (h : LowI B X (.slice p m c) zs) (hm : zs.length = m) (h2 : to ≤ m) :
    LowI B X (.slice p to c) (zs.take to) := by
  have hlen : (zs.take to).length = to := by simp; omega
  have hz := h.1
  refine ⟨by omega, ?_⟩
  by_cases he : to = 0
  · rw [he]; exact .inl ⟨_, _, rfl, by simp⟩
  · rcases h.2 with ⟨a, c', e, rfl⟩ | ⟨b, off, c', e, hB, hcc⟩
    · simp at hlen; omega
    · injection e with e1 e2 e3
      subst e1 e3
      refine .inr ⟨b, off, c, ?_, hB, fun j hj => ?_⟩
      · rw [hlen]
      · rw [hlen] at hj
        rw [hcc j (by omega)]
        simp [hj]
theorem whole_rowL {W : World} {g t : Nat} {xs : List Value} (h : Whole W g t xs) (ys : List Value) : Whole (W.setRow g ys.toArray) g t ys := setRow_heap W g xs.toArray ys.toArray t (0, 0) h
theorem below_rowL {B : Nat} (W : World) (g : Nat) (cs : Array Value) (h : B ≤ g) : Below B W (W.setRow g cs) := ⟨rfl, rfl, rfl, by simp, fun k hk => setRow_other W g k cs (by omega)⟩
theorem nd_oneL (n : Nd) (W : World) (h : n.ok W) : n.cells.toArray.all (·.oneCell') = true := by
  obtain ⟨p1, l1, c1, e1, _⟩ := h.2.2.1
  obtain ⟨p2, l2, c2, e2, _⟩ := h.2.2.2
  simp [Nd.cells, ndCells, e1, e2, Sty.cells, styCells, Value.oneCell']
def ndZL : Nd := ⟨0, .slice none 0 0, [], Sty.zero, .slice none 0 0, [], 0, 0⟩
theorem ndZL_ok (W : World) : ndZL.ok W := ⟨⟨by simp [ndZL], .inl ⟨none, 0, rfl, rfl⟩⟩, ⟨by simp [ndZL], .inl ⟨none, 0, rfl, rfl⟩⟩, ⟨none, 0, 0, rfl, by omega, by omega⟩, ⟨none, 0, 0, rfl, by omega, by omega⟩⟩
theorem set31 (n : Nd) (v : Value) (ws : List Int) : n.cells.set 31 v = ({ n with wv := v, ws := ws } : Nd).cells := rfl
/-- a text with at most 200 of the words -/
def CutOf (n n' : Nd) : Prop := n'.k = n.k ∧ n'.b = n.b ∧ n'.h = n.h ∧ n'.ws = n.ws.take 200
theorem results_node {fn : Func} {W : World} {g : Nat} {n : Nd} {tmps : Array Value} (hf : fn.results = #[.cell 2 35]) (ht : tmps.getD 2 undef = .pointer (some ⟨g, 0, none⟩)) (hw : Whole W g 35 n.cells) :
    (results fn tmps).run Try.prog W = .ok n.val W :=
  results_cell_row hf tmps W g 35 n.cells.toArray (0, 0) _ ht hw Try.underlying35 rfl (nd_info n)
set_option maxRecDepth 100000 in
set_option maxHeartbeats 2000000 in
theorem lncut_at (n : Nd) (w : World) (p : Option Addr) (m c k : Nat) (hok : n.ok w) (hwv : n.wv = .slice p m c) (hm : n.ws.length = m) (hmc : m ≤ c) (hc : c ≤ 9223372036854775807) (hk : min m 200 = k) :
    Calls Try.prog 11 #[n.val] w fun e W' => ∃ n', e = .returned n'.val ∧ (∀ Z, n.ok Z → n'.ok Z) ∧ CutOf n n' ∧ Below w.heap.size w W' := by
  have HN0 := NdIn.new n w hok
  obtain ⟨cs, hcs⟩ : ∃ cs, n.cells.toArray = cs := ⟨_, rfl⟩
  obtain ⟨W0, hW0⟩ : ∃ W0, (w.alloc (.cells cs 35)).alloc (.cells ndZL.cells.toArray 35) = W0 := ⟨_, rfl⟩
  have HN : NdIn n w.heap.size W0 := by rw [← hW0, ← hcs]; exact HN0.alloc _
  have HNH := Lib.hid HN
  have hZ : Whole W0 (w.heap.size + 1) 35 ndZL.cells := by rw [← hW0]; exact whole_new (w.alloc (.cells cs 35)) ndZL.cells 35 _ (by simp)
  have HZ := Lib.hid hZ
  have HB0 : Hid (Below w.heap.size w W0) := Lib.hid (by rw [← hW0]; exact ((Below.refl _ w).alloc (Nat.le_refl _) _).alloc (by simp) _)
  have HLOW : Hid (LowI w.heap.size w (.slice p m c) n.ws) := Lib.hid (by rw [← hwv]; exact .of hok.2.1)
  have HOK := Lib.hid hok
  rw [show n.val = .agg n.cells.toArray from rfl, hcs]
  have e31 := HN.w
  rw [hwv] at e31
  have f31 := HN.row.free 31
  have l1 := HN.row.lt
  have HM := Lib.hid hm
  have hk1 : k ≤ m := by omega
  have hmn : min (m : Int) 200 = (k : Int) := by omega
  have hmn2 : (if (200 : Int) < (m : Int) then (200 : Int) else (m : Int)) = (k : Int) := by split <;> omega
  have HK := Lib.hid hk
  have HWV := Lib.hid hwv
  clear HN0 HN hok hwv hm hk hcs hZ
  have hW0' : (w.alloc (.cells cs 35)).alloc (.cells #[.int .i64 0, .slice none 0 0, .int .i64 0, .int .i64 0, .int .i64 0, .int .i64 0, .int .i64 0, .int .i64 0, .int .i64 0, .int .i64 0, .int .i64 0, .int .i64 0, .int .u32 0, .int .i64 0, .int .i64 0, .int .u32 0, .int .i64 0, .int .i64 0, .int .u32 0, .int .i64 0, .int .i64 0, .int .u32 0, .int .i64 0, .int .i64 0, .int .i64 0, .bool false, .bool false, .int .i64 0, .int .i64 0, .bool false, .bool false, .slice none 0 0, .int .i64 0, .int .i64 0] 35) = W0 := hW0
  clear hW0
  go_enter Try.func11, Try.ntmps11
  go_wp2_with (with_reducible refine wpList_val rfl _ (exec_slice_h 33 _ _ rfl 2 Try.underlying33 (Try.sizeI64 _) p m c k rfl rfl (by omega)) ?_; refine Hid.out ?_)
  refine Lib.hid ?_
  have hlow := (HLOW.out.keep (Y := W0) (fun j hj => HB0.out.block j hj)).head HM.out hk1
  obtain ⟨n', hn'⟩ : ∃ n' : Nd, n' = { n with wv := .slice p k c, ws := n.ws.take k } := ⟨_, rfl⟩
  obtain ⟨W1, hW1⟩ : ∃ W1, W0.setCell ⟨w.heap.size, 31, none⟩ (.slice p k c) = W1 := ⟨_, rfl⟩
  have hb1 : Below w.heap.size w W1 := by rw [← hW1]; exact HB0.out.setCell (p := ⟨w.heap.size, 31, none⟩) (Nat.le_refl _) _
  have hr1 : Whole W1 w.heap.size 35 n'.cells := by rw [← hW1, hn']; exact HNH.out.row.set 31 _
  have hz1 : Whole W1 (w.heap.size + 1) 35 ndZL.cells := by rw [← hW1]; exact HZ.out.other _ _ (by show w.heap.size + 1 ≠ w.heap.size; omega)
  have hlow1 : LowI w.heap.size W1 (.slice p k c) (n.ws.take k) := by
    rw [← hW1]; exact hlow.keep fun j hj => Below.heap_setCell _ _ _ _ (by show j ≠ w.heap.size; omega)
  have hok1 : n'.ok W1 := by
    have h1 := HOK.out.below hb1
    rw [hn']
    exact ⟨h1.1, hlow1.ints, h1.2.2.1, ⟨_, _, _, rfl, by omega, hc⟩⟩
  have hcut : CutOf n n' := by
    rw [hn']
    refine ⟨rfl, rfl, rfl, ?_⟩
    show n.ws.take k = n.ws.take 200
    by_cases h200 : m ≤ 200
    · rw [List.take_of_length_le (by have := HM.out; have := HK.out; omega), List.take_of_length_le (by have := HM.out; omega)]
    · rw [show k = 200 by have := HK.out; omega]
  obtain ⟨ds, hds⟩ : ∃ ds, n'.cells.toArray = ds := ⟨_, rfl⟩
  have HL1 : Hid (∀ j v, ds[j]? = some v → W1.cell? ((⟨w.heap.size, 0, none⟩ : Addr).add j) = some v) := Lib.hid (by rw [← hds]; exact (NdAt.whole hr1).load)
  have iD : Hid ((Try.prog.info? 35).map (·.size) = some ds.size) := Lib.hid (by rw [← hds]; exact nd_info n')
  have oD : Hid (ds.all (·.oneCell') = true) := Lib.hid (by rw [← hds]; exact nd_oneL n' W1 hok1)
  have zD : Hid (ndZL.cells.toArray.size = ds.size) := Lib.hid (by rw [← hds]; simp [Nd.len])
  have HOKZ : Hid (∀ Z, n.ok Z → n'.ok Z) := Lib.hid fun Z hZ => by
    have h1 := LowI.of hZ.2.1
    rw [HWV.out] at h1
    rw [hn']
    exact ⟨hZ.1, (h1.head HM.out hk1).ints, hZ.2.2.1, ⟨_, _, _, rfl, by omega, hc⟩⟩
  have HF : Hid (∀ Y, W1.setRow (w.heap.size + 1) ds = Y → Whole Y (w.heap.size + 1) 35 n'.cells ∧ n'.ok Y ∧ Below w.heap.size w Y) := Lib.hid fun Y hY => by
    have hbY : Below w.heap.size w Y := by rw [← hY]; exact hb1.trans (below_rowL _ _ _ (by omega))
    refine ⟨by rw [← hY, ← hds]; exact whole_rowL hz1 _, ?_, hbY⟩
    have h1 := HOK.out.below hbY
    rw [hn']
    refine ⟨h1.1, (hlow1.keep fun j hj => ?_).ints, h1.2.2.1, ⟨_, _, _, rfl, by omega, hc⟩⟩
    rw [← hY]; exact setRow_other _ _ _ _ (by omega)
  have HZ1 := Lib.hid hz1
  have HC := Lib.hid hcut
  have HDS := Lib.hid hds
  clear hW0' hlow hn' hb1 hr1 hz1 hlow1 hok1 hcut hds
  go_wp2_with (first
    | (with_reducible refine wpList_load_at rfl 35 (.tmp 1) rfl _ rfl ds _ HL1.out Try.underlying35 rfl iD.out ?_)
    | (refine wpList_store_row rfl 35 (.tmp 2) (.tmp 11) rfl _ ds rfl rfl 35 ndZL.cells.toArray HZ1.out iD.out zD.out oD.out ?_; obtain ⟨Y, hY⟩ : ∃ Y, W1.setRow (w.heap.size + 1) ds = Y := ⟨_, rfl⟩; rw [hY]; have HFY := Lib.hid (HF.out Y hY); clear hY))
  refine bodyPost_ret (results_node (g := w.heap.size + 1) rfl rfl HFY.out.1) rfl ⟨n', rfl, HOKZ.out, HC.out, HFY.out.2.2⟩
theorem lncut_any (n : Nd) (w : World) (hok : n.ok w) : Calls Try.prog 11 #[n.val] w fun e W' => ∃ n', e = .returned n'.val ∧ (∀ Z, n.ok Z → n'.ok Z) ∧ CutOf n n' ∧ Below w.heap.size w W' := by
  obtain ⟨p, m, c, hwv, hmc, hc⟩ := hok.2.2.2
  obtain ⟨p', c', hwv'⟩ := hok.2.1.form
  have hm : n.ws.length = m := by rw [hwv] at hwv'; injection hwv' with _ e _; exact e.symm
  exact lncut_at n w p m c _ hok hwv hm hmc hc rfl
end Go.Proofs.Ythgkjgaebgpplaa
