/- What the laws' shown answers. Written by mk_CoSh.py. -/
/- The laws' shown. -/
import Derived.Test.YtceippgkmoijdaaCoOne
namespace Go.Proofs.Ytceippgkmoijdaa
open Go.RowKit Go.Shelf Go.Sort Go.Maps
set_option linter.unusedVariables false
set_option linter.unusedSimpArgs false
attribute [local go_sem] Oper.semAt_some

theorem wpList_valS {P : Program} {ops : Array Oper} {w : World} {Q : Exit → Act → World → Prop} {a : Act} {o : Oper} {rest : List Oper} (dst : Option Tmp) (hd : o.dst = dst) (hg : o.guard = none) (v : Value) (hr : (execOp a.eval o).run P w = .ok (.value v) w) (h : wpList P ops Q rest (a.put dst v) w) : wpList P ops Q (o :: rest) a w := by
  subst hd
  exact wpList_plain hg fun K hK => by
    unfold Oper.wp
    rw [hr]
    exact hK _ _ h
theorem results_fm {fn : Func} {W : World} {g q : Nat} {xs : List Value} {tmps : Array Value} (hl : xs.length = 20) (hf : fn.results = #[.cell q 30]) (ht : tmps.getD q undef = .pointer (some ⟨g, 0, none⟩)) (h : Whole W g 30 xs) :
    (results fn tmps).run Try.prog W = .ok (.agg xs.toArray) W :=
  results_cell_row hf tmps W g 30 xs.toArray (0, 0) _ ht h Try.underlying30 rfl (by rw [List.size_toArray, hl]; kernel_rfl)
def zeroFm : List Value := [.int .i64 0, .int .i64 0, .slice none 0 0, .slice none 0 0, .slice none 0 0, .slice none 0 0, .slice none 0 0, .slice none 0 0, .int .i64 0, .int .i64 0, .int .u32 0, .int .i64 0, .int .i64 0, .int .u32 0, .int .i64 0, .int .i64 0, .int .u32 0, .int .i64 0, .int .i64 0, .int .u32 0]
def oneV (a b : Nat) : FmV := ⟨.slice (some ⟨a, 0, none⟩) 1 1, .slice (some ⟨b, 0, none⟩) 1 1, .slice none 0 0, .slice none 0 0, .slice none 0 0, .slice none 0 0⟩
theorem build_pz (w : World) : (Instr.buildSlice 22 1 #[(0, .agg #[.int .i64 0, .int .i64 0, .int .i64 0, .int .i64 1, .int .i64 1])]).run Try.prog w = .ok (.slice (some ⟨w.heap.size, 0, none⟩) 1 1) (w.alloc (.cells #[.int .i64 0, .int .i64 0, .int .i64 0, .int .i64 1, .int .i64 1] 52)) := by kernel_rfl
theorem build_fr (f : Fr) (w : World) : (Instr.buildSlice 23 1 #[(0, f.val)]).run Try.prog w = .ok (.slice (some ⟨w.heap.size, 0, none⟩) 1 1) (w.alloc (.cells f.cells.toArray 28)) := by
  obtain ⟨⟨a0, a1, a2⟩, ⟨b0, b1, b2⟩, ⟨c0, c1, c2⟩, ⟨d0, d1, d2⟩⟩ := f
  kernel_rfl
/-- one's boxes -/
structure OneW (W X : World) : Prop where
  res : Whole X W.heap.size 30 zeroFm
  la : Whole X (W.heap.size + 1) 27 [.int .i64 3, .int .i64 4, .int .u32 0]
  lb : Whole X (W.heap.size + 2) 27 [.int .i64 4, .int .i64 6, .int .u32 0]
  be : Below W.heap.size W X
theorem OneW.below {W X Y : World} (h : OneW W X) (hb : Below X.heap.size X Y) : OneW W Y := ⟨h.res.below hb h.res.lt, h.la.below hb h.la.lt, h.lb.below hb h.lb.lt, h.be.trans (hb.mono h.be.size)⟩
set_option maxRecDepth 100000 in
set_option maxHeartbeats 4000000 in
theorem one_any (W : World) : Calls Try.prog 22 #[] W fun e X => ∃ v, e = .returned (oneF.val v) ∧ FmAt X oneF v ∧ Below W.heap.size W X := by
  have KA : Hid (OneW W (((W.alloc (.cells zeroFm.toArray 30)).alloc (.cells #[.int .i64 3, .int .i64 4, .int .u32 0] 27)).alloc (.cells #[.int .i64 4, .int .i64 6, .int .u32 0] 27))) := Lib.hid ⟨((whole_new W zeroFm 30 _ rfl).alloc _).alloc _, (whole_new (W.alloc _) [.int .i64 3, .int .i64 4, .int .u32 0] 27 _ (by simp)).alloc _, whole_new ((W.alloc _).alloc _) [.int .i64 4, .int .i64 6, .int .u32 0] 27 _ (by simp), ((((Below.refl _ W).alloc (Nat.le_refl _) _).alloc (by simp) _).alloc (by simp; omega) _)⟩
  go_enter Try.func22, Try.ntmps22
  go_wp2_with (refine at_worldX (fun X => OneW W X) KA.out (fun X hX => ?_); have KX := Lib.hid hX; clear hX KA; refine Hid.out ?_)
  refine Lib.hid ?_
  refine wpList_valS (some 5) rfl rfl (.agg #[.int .i64 0, .int .i64 0, .int .i64 0, .int .i64 1, .int .i64 1]) (by kernel_rfl) ?_
  try simp only [Act.put, List.setIfInBounds_toArray, List.set_cons_succ, List.set_cons_zero]
  refine wpList_build1 rfl 22 (.tmp 5) rfl _ _ rfl (build_pz X) ?_
  have HP := Lib.hid (whole_new X [.int .i64 0, .int .i64 0, .int .i64 0, .int .i64 1, .int .i64 1] 52 _ rfl)
  have BP := Lib.hid ((Below.refl X.heap.size X).alloc (Nat.le_refl _) (.cells #[.int .i64 0, .int .i64 0, .int .i64 0, .int .i64 1, .int .i64 1] 52))
  have KY := Lib.hid (KX.out.below BP.out)
  obtain ⟨gp, hgp⟩ : ∃ g, X.heap.size = g := ⟨_, rfl⟩
  obtain ⟨Y, hY⟩ : ∃ Y, X.alloc (.cells #[.int .i64 0, .int .i64 0, .int .i64 0, .int .i64 1, .int .i64 1] 52) = Y := ⟨_, rfl⟩
  have HP2 : Hid (Whole Y gp 52 [.int .i64 0, .int .i64 0, .int .i64 0, .int .i64 1, .int .i64 1]) := Lib.hid (by rw [← hY, ← hgp]; exact HP.out)
  rw [hY] at KY
  rw [hgp, hY]
  have HLW : Hid (W.heap.size < gp) := Lib.hid (by rw [← hgp]; exact KX.out.res.lt)
  clear HP BP KX hgp hY
  try simp only [Act.put, List.setIfInBounds_toArray, List.set_cons_succ, List.set_cons_zero]
  refine wpList_loadC rfl 27 (.tmp 1) rfl ⟨W.heap.size + 1, 0, none⟩ rfl (#[.int .i64 3, .int .i64 4, .int .u32 0] : Array Value) _ (show Whole _ _ _ (#[.int .i64 3, .int .i64 4, .int .u32 0] : Array Value).toList from KY.out.la).loads Try.underlying27 rfl (by kernel_rfl) ?_
  try simp only [Act.put, List.setIfInBounds_toArray, List.set_cons_succ, List.set_cons_zero]
  refine wpList_loadC rfl 27 (.tmp 1) rfl ⟨W.heap.size + 1, 0, none⟩ rfl (#[.int .i64 3, .int .i64 4, .int .u32 0] : Array Value) _ (show Whole _ _ _ (#[.int .i64 3, .int .i64 4, .int .u32 0] : Array Value).toList from KY.out.la).loads Try.underlying27 rfl (by kernel_rfl) ?_
  try simp only [Act.put, List.setIfInBounds_toArray, List.set_cons_succ, List.set_cons_zero]
  refine wpList_loadC rfl 27 (.tmp 1) rfl ⟨W.heap.size + 1, 0, none⟩ rfl (#[.int .i64 3, .int .i64 4, .int .u32 0] : Array Value) _ (show Whole _ _ _ (#[.int .i64 3, .int .i64 4, .int .u32 0] : Array Value).toList from KY.out.la).loads Try.underlying27 rfl (by kernel_rfl) ?_
  try simp only [Act.put, List.setIfInBounds_toArray, List.set_cons_succ, List.set_cons_zero]
  refine wpList_loadC rfl 27 (.tmp 1) rfl ⟨W.heap.size + 1, 0, none⟩ rfl (#[.int .i64 3, .int .i64 4, .int .u32 0] : Array Value) _ (show Whole _ _ _ (#[.int .i64 3, .int .i64 4, .int .u32 0] : Array Value).toList from KY.out.la).loads Try.underlying27 rfl (by kernel_rfl) ?_
  try simp only [Act.put, List.setIfInBounds_toArray, List.set_cons_succ, List.set_cons_zero]
  refine wpList_valS (some 11) rfl rfl ((⟨oneA, oneA, oneA, oneA⟩ : Fr).val) (by kernel_rfl) ?_
  try simp only [Act.put, List.setIfInBounds_toArray, List.set_cons_succ, List.set_cons_zero]
  refine wpList_build1 rfl 23 (.tmp 11) rfl _ _ rfl (build_fr (⟨oneA, oneA, oneA, oneA⟩ : Fr) Y) ?_
  have HC := Lib.hid (whole_new Y ((⟨oneA, oneA, oneA, oneA⟩ : Fr)).cells 28 _ rfl)
  have BC := Lib.hid ((Below.refl Y.heap.size Y).alloc (Nat.le_refl _) (.cells ((⟨oneA, oneA, oneA, oneA⟩ : Fr)).cells.toArray 28))
  have KZ := Lib.hid (KY.out.below BC.out)
  have HPZ := Lib.hid (HP2.out.below BC.out HP2.out.lt)
  obtain ⟨gc, hgc⟩ : ∃ g, Y.heap.size = g := ⟨_, rfl⟩
  obtain ⟨Z, hZ⟩ : ∃ Z, Y.alloc (.cells ((⟨oneA, oneA, oneA, oneA⟩ : Fr)).cells.toArray 28) = Z := ⟨_, rfl⟩
  have HC2 : Hid (Whole Z gc 28 ((⟨oneA, oneA, oneA, oneA⟩ : Fr)).cells) := Lib.hid (by rw [← hZ, ← hgc]; exact HC.out)
  rw [hZ] at KZ HPZ
  rw [hgc, hZ]
  have HLC : Hid (W.heap.size < gc) := Lib.hid (by rw [← hgc]; exact KY.out.res.lt)
  clear HC BC KY HP2 hgc hZ
  try simp only [Act.put, List.setIfInBounds_toArray, List.set_cons_succ, List.set_cons_zero]
  refine wpList_loadC rfl 27 (.tmp 2) rfl ⟨W.heap.size + 2, 0, none⟩ rfl (#[.int .i64 4, .int .i64 6, .int .u32 0] : Array Value) _ (show Whole _ _ _ (#[.int .i64 4, .int .i64 6, .int .u32 0] : Array Value).toList from KZ.out.lb).loads Try.underlying27 rfl (by kernel_rfl) ?_
  try simp only [Act.put, List.setIfInBounds_toArray, List.set_cons_succ, List.set_cons_zero]
  refine wpList_loadC rfl 27 (.tmp 2) rfl ⟨W.heap.size + 2, 0, none⟩ rfl (#[.int .i64 4, .int .i64 6, .int .u32 0] : Array Value) _ (show Whole _ _ _ (#[.int .i64 4, .int .i64 6, .int .u32 0] : Array Value).toList from KZ.out.lb).loads Try.underlying27 rfl (by kernel_rfl) ?_
  try simp only [Act.put, List.setIfInBounds_toArray, List.set_cons_succ, List.set_cons_zero]
  refine wpList_loadC rfl 27 (.tmp 2) rfl ⟨W.heap.size + 2, 0, none⟩ rfl (#[.int .i64 4, .int .i64 6, .int .u32 0] : Array Value) _ (show Whole _ _ _ (#[.int .i64 4, .int .i64 6, .int .u32 0] : Array Value).toList from KZ.out.lb).loads Try.underlying27 rfl (by kernel_rfl) ?_
  try simp only [Act.put, List.setIfInBounds_toArray, List.set_cons_succ, List.set_cons_zero]
  refine wpList_loadC rfl 27 (.tmp 2) rfl ⟨W.heap.size + 2, 0, none⟩ rfl (#[.int .i64 4, .int .i64 6, .int .u32 0] : Array Value) _ (show Whole _ _ _ (#[.int .i64 4, .int .i64 6, .int .u32 0] : Array Value).toList from KZ.out.lb).loads Try.underlying27 rfl (by kernel_rfl) ?_
  try simp only [Act.put, List.setIfInBounds_toArray, List.set_cons_succ, List.set_cons_zero]
  refine wpList_valS (some 17) rfl rfl ((⟨oneB, oneB, oneB, oneB⟩ : Fr).val) (by kernel_rfl) ?_
  try simp only [Act.put, List.setIfInBounds_toArray, List.set_cons_succ, List.set_cons_zero]
  refine wpList_valS (some 18) rfl rfl (oneF.val (oneV gp gc)) (by kernel_rfl) ?_
  try simp only [Act.put, List.setIfInBounds_toArray, List.set_cons_succ, List.set_cons_zero]
  refine wpList_store_row rfl 30 (.tmp 0) (.tmp 18) rfl W.heap.size (oneF.cells (oneV gp gc)).toArray rfl rfl 30 zeroFm.toArray KZ.out.res (by rw [List.size_toArray, Fm.cells_len]; kernel_rfl) (by rw [List.size_toArray, List.size_toArray, Fm.cells_len]; rfl) (by simp [Fm.cells, oneF, oneV, Fr.cells, Li.cells, Value.oneCell']) ?_
  have HR := Lib.hid (whole_rowA KZ.out.res (oneF.cells (oneV gp gc)).toArray)
  have HPR := Lib.hid (whole_rowO HPZ.out W.heap.size (oneF.cells (oneV gp gc)).toArray (by have := HLW.out; omega))
  have HCR := Lib.hid (whole_rowO HC2.out W.heap.size (oneF.cells (oneV gp gc)).toArray (by have := HLC.out; omega))
  have HBR := Lib.hid (KZ.out.be.trans (below_setRow (Below.refl W.heap.size Z) W.heap.size (oneF.cells (oneV gp gc)).toArray (Nat.le_refl _)))
  generalize Z.setRow W.heap.size (oneF.cells (oneV gp gc)).toArray = V at HR HPR HCR HBR ⊢
  go_wp2
  refine bodyPost_ret (results_fm (Fm.cells_len oneF (oneV gp gc)) (g := W.heap.size) rfl rfl HR.out) rfl ⟨oneV gp gc, rfl, ⟨?_, ?_, ?_, RowsK.none, RowsK.none, RowsK.none, RowsK.none, ⟨by decide, by decide⟩, ⟨by decide, by decide⟩⟩, HBR.out⟩
  · refine ⟨by decide, .inr ⟨gp, 0, 1, rfl, fun i x hx => ?_⟩⟩
    rcases i with _ | i
    · simp [oneF] at hx
      subst hx
      exact ⟨HPR.out.cellAt 0, HPR.out.cellAt 1, HPR.out.cellAt 2, HPR.out.cellAt 3, HPR.out.cellAt 4⟩
    · simp [oneF] at hx
  · intro p hp
    simp [oneF] at hp
    subst hp
    exact ⟨⟨by decide, by decide⟩, ⟨by decide, by decide⟩, ⟨by decide, by decide⟩, ⟨by decide, by decide⟩, ⟨by decide, by decide⟩⟩
  · exact RowsK.whole Fr.cells_len (zs := [(⟨oneA, oneA, oneA, oneA⟩ : Fr)]) (m := 1) (by simpa using HCR.out) rfl 1 (by decide)
end Go.Proofs.Ytceippgkmoijdaa

namespace Go.Proofs.Ytceippgkmoijdaa
open Go.RowKit Go.Shelf Go.Sort Go.Maps
set_option linter.unusedVariables false
set_option linter.unusedSimpArgs false
attribute [local go_sem] Oper.semAt_some

def minusF : Fm := ⟨-1, 0, [], [], [], [], [], [], ⟨⟨0, 0, 0⟩, ⟨0, 0, 0⟩, ⟨0, 0, 0⟩, ⟨0, 0, 0⟩⟩⟩
def minusV : FmV := ⟨.slice none 0 0, .slice none 0 0, .slice none 0 0, .slice none 0 0, .slice none 0 0, .slice none 0 0⟩
theorem minus_at (W : World) : FmAt W minusF minusV := ⟨⟨by decide, .inl ⟨none, 0, rfl, rfl⟩⟩, by intro p hp; simp [minusF] at hp, RowsK.none, RowsK.none, RowsK.none, RowsK.none, RowsK.none, ⟨by decide, by decide⟩, ⟨by decide, by decide⟩⟩
theorem minus_no : ¬ okF minusF := fun h => by have := h.size.1.1; revert this; decide
theorem wpList_valG {P : Program} {ops : Array Oper} {w : World} {Q : Exit → Act → World → Prop} {a : Act} {o : Oper} {rest : List Oper} (dst : Option Tmp) (hd : o.dst = dst) (hw : Region.wanted o (yielded ops a.tmps) = true) (v : Value) (hr : (execOp a.eval o).run P w = .ok (.value v) w) (h : wpList P ops Q rest (a.put dst v) w) : wpList P ops Q (o :: rest) a w := by
  subst hd
  exact wpList_step fun K hK => by
    rw [if_pos hw]
    unfold Oper.wp
    rw [hr]
    exact hK _ _ h
theorem Try.infoI64Q : (Try.prog.info? 2).map (fun i => (i.zero, i.size, i.bytes)) = some (some (.int .i64 0), 1, 8) := by kernel_rfl
theorem run_eq4 (w : World) : (binOp BinOp.eql 39 (.agg #[.int .i64 3, .int .i64 3, .int .i64 3, .int .i64 3]) (.agg #[.int .i64 3, .int .i64 3, .int .i64 3, .int .i64 3])).run Try.prog w = .ok (.bool true) w := by
  cases hi : Try.prog.info? 2 with
  | none => have := Try.infoI64Q; rw [hi] at this; cases this
  | some i =>
    have k1 : Try.prog.cellsOf 2 = 1 := by kernel_rfl
    have he : Try.prog.plainKey 2 = true := by kernel_rfl
    have h := run_equalIn_array (P := Try.prog) w 9999 #[.int .i64 3, .int .i64 3, .int .i64 3, .int .i64 3] #[.int .i64 3, .int .i64 3, .int .i64 3, .int .i64 3] Try.underlying39 hi
    have p0 := run_part_plain (P := Try.prog) w he (xs := #[.int .i64 3, .int .i64 3, .int .i64 3, .int .i64 3]) (off := 0) rfl
    have p1 := run_part_plain (P := Try.prog) w he (xs := #[.int .i64 3, .int .i64 3, .int .i64 3, .int .i64 3]) (off := 1) rfl
    have p2 := run_part_plain (P := Try.prog) w he (xs := #[.int .i64 3, .int .i64 3, .int .i64 3, .int .i64 3]) (off := 2) rfl
    have p3 := run_part_plain (P := Try.prog) w he (xs := #[.int .i64 3, .int .i64 3, .int .i64 3, .int .i64 3]) (off := 3) rfl
    have q0 := run_equalIn_int (P := Try.prog) w 9998 2 .i64 .i64 3 3 Try.underlying2
    go_simp
    simp [Op.eqItems, List.range_succ, k1, p0, p1, p2, p3, q0]
theorem wpList_binQ {P : Program} {ops : Array Oper} {rest : List Oper} {o : Oper} {a : Act} {w : World} {Q : Exit → Act → World → Prop} (hgd : Region.wanted o (yielded ops a.tmps) = true) (b : BinOp) (t t2 : TypeId) (x y : Operand) (ho : o.op = .binOp b t x y t2)
    (u v r : Value) (hx : a.eval x = u) (hy : a.eval y = v) (he : (eqGuard b t x y u v).run P w = .ok () w) (hr : (binOp b t u v).run P w = .ok r w)
    (h : wpList P ops Q rest (a.put o.dst r) w) : wpList P ops Q (o :: rest) a w :=
  wpList_step fun K hK => by
    rw [if_pos hgd]
    unfold Oper.wp execOp
    simp only [ho, hx, hy, Sem.run_bind, Sem.run_pure, Result.andThen_ok, he, hr]
    exact hK _ _ h
set_option maxRecDepth 100000 in
set_option maxHeartbeats 4000000 in
theorem shown12_any (W : World) : Calls Try.prog 9 #[] W fun e X => e = .returned (.bool true) ∧ Below W.heap.size W X := by
  have H1 := Lib.hid (fun X => one_any X)
  go_enter Try.func9, Try.ntmps9
  go_wp2_with fail
  refine (H1.out W).mono ?_
  rintro e w1 ⟨v1, rfl, f1, b1⟩
  have E1 := Lib.hid (edges_ok oneF v1 1 1 w1 f1 one_ok one_hue)
  have B1 := Lib.hid b1
  clear f1 b1
  obtain ⟨x1, hx1⟩ : ∃ x, oneF.val v1 = x := ⟨_, rfl⟩
  rw [hx1] at E1
  try rw [hx1]
  clear hx1
  go_wp2_with fail
  refine E1.out.mono ?_
  rintro e w2 ⟨u, rfl, hu, b2⟩
  rw [one_edges] at hu
  obtain ⟨p, c, hpc⟩ := hu.slice
  subst hpc
  have hu' : RowsK Ed.cells 10 w2 (.slice p 4 c) [⟨0, 0, true, oneE, 2⟩, ⟨1, 0, true, oneE, 2⟩, ⟨0, 0, false, oneE, 2⟩, ⟨0, 1, false, oneE, 2⟩] := hu
  have U2 := Lib.hid hu'
  have B2 := Lib.hid (B1.out.trans (b2.mono B1.out.size))
  have N2 := Lib.hid (edges_no minusF minusV w2 (minus_at w2) minus_no)
  clear hu hu' b2 E1
  go_wp2_with fail
  refine N2.out.mono ?_
  rintro e w3 ⟨rfl, b3⟩
  have U3 := Lib.hid (U2.out.below b3)
  have B3 := Lib.hid (B2.out.trans (b3.mono B2.out.size))
  clear b3 U2 N2
  go_wp2_with fail
  refine (H1.out w3).mono ?_
  rintro e w4 ⟨v4, rfl, f4, b4⟩
  have U4 := Lib.hid (U3.out.below b4)
  have B4 := Lib.hid (B3.out.trans (b4.mono B3.out.size))
  have I4' := Lib.hid (ins_ok oneF v4 1 1 p 4 c _ w4 f4 one_ok one_hue U4.out (by omega) (fun e he => by
    simp only [List.mem_cons, List.not_mem_nil, or_false] at he
    rcases he with rfl | rfl | rfl | rfl <;> exact ⟨⟨by decide, by decide⟩, ⟨by decide, by decide⟩, ⟨by decide, by decide⟩⟩) (by decide))
  clear b4 f4 U3
  obtain ⟨x4, hx4⟩ : ∃ x, oneF.val v4 = x := ⟨_, rfl⟩
  rw [hx4] at I4'
  try rw [hx4]
  clear hx4
  go_wp2_with fail
  refine I4'.out.mono ?_
  rintro e w5 ⟨G, rfl, hl, b5⟩
  rw [← one_edges, one_ins] at hl
  have L5 := Lib.hid hl
  have U5 := Lib.hid (U4.out.below b5)
  have B5 := Lib.hid (B4.out.trans (b5.mono B4.out.size))
  clear hl b5 I4' U4
  obtain ⟨g, o, rfl, lg, hc0⟩ := U5.out.at 0 _ rfl
  obtain ⟨g', o', he, -, hc3⟩ := U5.out.at 3 _ rfl
  injection he with he
  injection he with he1 he2 he3
  subst he1 he2
  have y1 : w5.cell? ⟨g, o + 6, none⟩ = some (.int .i64 5) := hc0 6 _ rfl
  have y2 : w5.cell? ⟨g, o + 3 * 10 + 9, none⟩ = some (.int .i64 2) := hc3 9 _ rfl
  have y2' : w5.cell? ⟨g, o + 39, none⟩ = some (.int .i64 2) := y2
  have z0 : w5.cell? ⟨G, 0, none⟩ = some (.int .i64 3) := Whole.cellAt L5.out 0
  have z1 : w5.cell? ⟨G, 1, none⟩ = some (.int .i64 3) := Whole.cellAt L5.out 1
  have z2 : w5.cell? ⟨G, 2, none⟩ = some (.int .i64 3) := Whole.cellAt L5.out 2
  have z3 : w5.cell? ⟨G, 3, none⟩ = some (.int .i64 3) := Whole.cellAt L5.out 3
  have lG : G < w5.heap.size := Whole.lt L5.out
  clear hc0 hc3 U5
  go_wp2_with (first
    | (refine wpList_binQ (by simp [Region.wanted, yielded, Act.put] <;> rfl) .eql 39 39 (.tmp 59) (.tmp 60) rfl _ _ (.bool true) rfl rfl (by first | rfl | kernel_rfl | simp [eqGuard]) (run_eq4 w5) ?_)
    | fail)
  go_ret
  exact ⟨rfl, B5.out⟩
end Go.Proofs.Ytceippgkmoijdaa
