/- Contracts of a net's rectangles: of a place (cell), of the gaps (standing, lying). Written by mk_EGap.py. -/
import Derived.Test.YtlnfgmmgkmhehaaECell
namespace Go.Proofs.Ytlnfgmmgkmhehaa
open Go.RowKit Go.Shelf
set_option linter.unusedVariables false
set_option linter.unusedSimpArgs false
attribute [local go_sem] Oper.semAt_some

theorem F0 : floatOfInt .f64 0 = 0 := by decide +kernel
theorem csub_F {a b c d e f : Int} (ha : a.natAbs < 2 ^ 52) (hb : b.natAbs < 2 ^ 52) (hc : c.natAbs < 2 ^ 52) (hd : d.natAbs < 2 ^ 52) (he : a - c = e) (hf : b - d = f) (X : World) :
    (binOp .sub 43 (.complex .f64 (floatOfInt .f64 a) (floatOfInt .f64 b)) (.complex .f64 (floatOfInt .f64 c) (floatOfInt .f64 d))).run Try.prog X = .ok (.complex .f64 (floatOfInt .f64 e) (floatOfInt .f64 f)) X := by
  subst he hf
  exact run_complex_sum X .sub (.inr rfl) _ _ _ _ _ _ _ _ (csub_FZ a b c d ha hb hc hd)
theorem results_rectE {fn : Func} {W : World} {g n : Nat} {q : RR.R} {tmps : Array Value} (hf : fn.results = #[.cell n 38]) (ht : tmps.getD n undef = .pointer (some ⟨g, 0, none⟩)) (h : Whole W g 38 q.cells) :
    (results fn tmps).run Try.prog W = .ok q.val W :=
  results_cell_row hf tmps W g 38 q.cells.toArray (0, 0) _ ht h Try.underlying38 rfl (by kernel_rfl)
theorem at_worldE {a : Act} {W : World} {Q : Exit → Act → World → Prop} (p : World → Prop) (h : p W) (k : ∀ X, p X → Q .normal a X) : Q .normal a W := k W h
theorem put4E {X : World} {g : Nat} {a b c d x y u v : Int} (h : Whole X g 38 [.int .i64 a, .int .i64 b, .int .i64 c, .int .i64 d]) : Whole ((((X.setCell ⟨g, 0, none⟩ (.int .i64 x)).setCell ⟨g, 1, none⟩ (.int .i64 y)).setCell ⟨g, 2, none⟩ (.int .i64 u)).setCell ⟨g, 3, none⟩ (.int .i64 v)) g 38 [.int .i64 x, .int .i64 y, .int .i64 u, .int .i64 v] :=
  (((h.set 0 (.int .i64 x)).set 1 (.int .i64 y)).set 2 (.int .i64 u)).set 3 (.int .i64 v)
set_option maxRecDepth 100000 in
set_option maxHeartbeats 4000000 in
theorem standing_any {B : Nat} (px py c r : Nat) (cs rs : List Int) (g0 g1 : Int) (i : Nat) (w : World) (hN : NetAt B w px py cs rs g0 g1) (hc : cs.length = c) (hr : rs.length = r) (h1 : i ≤ c) (hc2 : c ≤ 10000) (hr2 : r ≤ 10000) (ok0 : okW g0 cs) (ok1 : okW g1 rs) :
    Calls Try.prog 16 #[netV px py c r g0 g1, .int .i64 (i : Int)] w fun e w' => e = .returned (RR.R.val ⟨begW g0 cs i - g0, 0, g0, begW g1 rs r⟩) ∧ Below w.heap.size w w' := by
  have HST0 := Lib.hid (fun X (h : Below w.heap.size w X) => start_any px py c r cs rs g0 g1 i 0 X (hN.below h) hc hr h1 (Nat.zero_le _) hc2 hr2)
  have HSTR := Lib.hid (fun X (h : Below w.heap.size w X) => start_any px py c r cs rs g0 g1 i r X (hN.below h) hc hr h1 (Nat.le_refl _) hc2 hr2)
  have HRO := Lib.hid (fun X => rows_any px py c r g0 g1 X hr2)
  have b1 := begW_bd ok0 (k := i) (by omega)
  have b2 := begW_bd ok1 (k := r) (by omega)
  have e0 : begW g1 rs 0 = g1 := by unfold begW; cases rs <;> simp [preW]
  rw [e0] at HST0
  have hx := ok0.1
  have hy := ok1.1
  have b3 : 0 ≤ begW g0 cs i - g0 := by have := preW_bd ok0 i (by omega); unfold begW; omega
  have hs1 := csub_F (a := begW g0 cs i) (b := g1) (c := g0) (d := 0) (e := begW g0 cs i - g0) (f := g1) (by omega) (by omega) (by omega) (by omega) rfl (by omega)
  have hs2 := csub_F (a := begW g0 cs i - g0) (b := g1) (c := 0) (d := g1) (e := begW g0 cs i - g0) (f := 0) (by omega) (by omega) (by omega) (by omega) (by omega) (by omega)
  have HBT := Lib.hid (fun X => between_any (begW g0 cs i - g0) 0 (begW g0 cs i) (begW g1 rs r) X (by omega) (by omega) (by omega) (by omega))
  rw [show begW g0 cs i - (begW g0 cs i - g0) = g0 by omega, show begW g1 rs r - 0 = begW g1 rs r by omega] at HBT
  rw [F0] at hs1 hs2 HBT
  unfold netV at *
  dsimp only [RR.R.val] at HBT
  generalize begW g0 cs i - g0 = x1 at *
  generalize begW g0 cs i = x2 at *
  generalize begW g1 rs r = y2 at *
  generalize floatOfInt .f64 g0 = fx at *
  generalize floatOfInt .f64 g1 = fy at *
  generalize floatOfInt .f64 x1 = fx1 at *
  generalize floatOfInt .f64 x2 = fx2 at *
  generalize floatOfInt .f64 y2 = fy2 at *
  clear b1 b2 b3 e0 hx hy ok0 ok1 hN hc hr
  obtain ⟨gn, hgn⟩ : ∃ gn, w.heap.size = gn := ⟨_, rfl⟩
  have N1 := whole_new w [.slice (some ⟨px, 0, none⟩) (c + 1) (c + 1), .slice (some ⟨py, 0, none⟩) (r + 1) (r + 1), .complex .f64 fx 0, .complex .f64 0 fy] 45 gn hgn.symm
  have N2 := N1.alloc (.cells #[.int .i64 0, .int .i64 0, .int .i64 0, .int .i64 0] 38)
  have P2 := whole_new (w.alloc (.cells #[.slice (some ⟨px, 0, none⟩) (c + 1) (c + 1), .slice (some ⟨py, 0, none⟩) (r + 1) (r + 1), .complex .f64 fx 0, .complex .f64 0 fy] 45)) [.int .i64 0, .int .i64 0, .int .i64 0, .int .i64 0] 38 (gn + 1) (by simp [hgn])
  obtain ⟨W0, hW0⟩ : ∃ W0, (w.alloc (.cells #[.slice (some ⟨px, 0, none⟩) (c + 1) (c + 1), .slice (some ⟨py, 0, none⟩) (r + 1) (r + 1), .complex .f64 fx 0, .complex .f64 0 fy] 45)).alloc (.cells #[.int .i64 0, .int .i64 0, .int .i64 0, .int .i64 0] 38) = W0 := ⟨_, rfl⟩
  have HB0 : Hid (Below w.heap.size w W0) := Lib.hid (by rw [← hW0]; exact ((Below.refl _ w).alloc (Nat.le_refl _) _).alloc (by simp) _)
  have N2' : Whole W0 gn 45 [.slice (some ⟨px, 0, none⟩) (c + 1) (c + 1), .slice (some ⟨py, 0, none⟩) (r + 1) (r + 1), .complex .f64 fx 0, .complex .f64 0 fy] := by rw [← hW0]; exact N2
  have P2' : Whole W0 (gn + 1) 38 [.int .i64 0, .int .i64 0, .int .i64 0, .int .i64 0] := by rw [← hW0]; exact P2
  have n0 := N2'.cellAt 0
  have n1 := N2'.cellAt 1
  have n2 := N2'.cellAt 2
  have n3 := N2'.cellAt 3
  obtain ⟨gp, hgp⟩ : ∃ gp, gn + 1 = gp := ⟨_, rfl⟩
  have lgg : gn < gp := by omega
  have lgp := P2'.lt
  rw [hgp] at P2' lgp
  have HG0 := Lib.hid P2'
  have HGN := Lib.hid hgn
  simp only [List.getElem?_cons_zero, List.getElem?_cons_succ] at n0 n1 n2 n3
  clear N1 N2 P2 N2' P2'
  go_enter Try.func16, Try.ntmps16
  go_wp2
  try rw [hW0]
  try simp only [hgn, hgp]
  clear hW0 hgn hgp
  refine region_held_atE (S := fun X => Hid (Below gp W0 X)) (by kernel_rfl) (fun w9 hw9 => ?_)
  have SV : Hid (Below gp W0 w9) := Lib.hid (by rw [← hw9]; exact (Below.refl _ _).drew)
  have HG : Hid (Whole w9 gp 38 [.int .i64 0, .int .i64 0, .int .i64 0, .int .i64 0]) := Lib.hid (by rw [← hw9]; exact HG0.out)
  clear hw9 HG0
  try simp only [Act.put, List.setIfInBounds_toArray, List.set_cons_succ, List.set_cons_zero]
  refine wpAnyH_takeD (i := 0) (v := .agg #[.slice (some ⟨px, 0, none⟩) (c + 1) (c + 1), .slice (some ⟨py, 0, none⟩) (r + 1) (r + 1), .complex .f64 fx 0, .complex .f64 0 fy]) (some 5) rfl rfl (by kernel_rfl) (by kernel_rfl) (by kernel_rfl) (fun _ _ _ h => h) (Or.inl ⟨by rfl, ?_⟩) SV ?_
  · intro X hX; have o0 := (hX.out.cell (p := ⟨gn, 0, none⟩) lgg).trans n0; have o1 := (hX.out.cell (p := ⟨gn, 1, none⟩) lgg).trans n1; have o2 := (hX.out.cell (p := ⟨gn, 2, none⟩) lgg).trans n2; have o3 := (hX.out.cell (p := ⟨gn, 3, none⟩) lgg).trans n3; have lX := hX.out.size; have lbX : gn < X.heap.size := (by omega); go_simp
  try simp only [Act.put, List.setIfInBounds_toArray, List.set_cons_succ, List.set_cons_zero]
  refine wpAnyH_takeD (i := 1) (v := .int .i64 (i : Int)) (some 6) rfl rfl (by kernel_rfl) (by kernel_rfl) (by kernel_rfl) (fun _ _ _ h => h) (Or.inl ⟨by rfl, ?_⟩) SV ?_
  · intro X hX; go_simp
  try simp only [Act.put, List.setIfInBounds_toArray, List.set_cons_succ, List.set_cons_zero]
  refine wpAnyH_takeD (i := 3) (v := .pointer (some ⟨gn, 2, none⟩)) (some 8) rfl rfl (by kernel_rfl) (by kernel_rfl) (by kernel_rfl) (fun _ _ _ h => h) (Or.inl ⟨by rfl, ?_⟩) SV ?_
  · intro X hX; go_simp
  try simp only [Act.put, List.setIfInBounds_toArray, List.set_cons_succ, List.set_cons_zero]
  refine wpAnyH_takeD (i := 4) (v := .complex .f64 fx 0) (some 9) rfl rfl (by kernel_rfl) (by kernel_rfl) (by kernel_rfl) (fun _ _ _ h => h) (Or.inl ⟨by rfl, ?_⟩) SV ?_
  · intro X hX; have o0 := (hX.out.cell (p := ⟨gn, 0, none⟩) lgg).trans n0; have o1 := (hX.out.cell (p := ⟨gn, 1, none⟩) lgg).trans n1; have o2 := (hX.out.cell (p := ⟨gn, 2, none⟩) lgg).trans n2; have o3 := (hX.out.cell (p := ⟨gn, 3, none⟩) lgg).trans n3; have lX := hX.out.size; have lbX : gn < X.heap.size := (by omega); go_simp
  try simp only [Act.put, List.setIfInBounds_toArray, List.set_cons_succ, List.set_cons_zero]
  refine wpAnyH_takeD (i := 6) (v := .pointer (some ⟨gn, 3, none⟩)) (some 11) rfl rfl (by kernel_rfl) (by kernel_rfl) (by kernel_rfl) (fun _ _ _ h => h) (Or.inl ⟨by rfl, ?_⟩) SV ?_
  · intro X hX; go_simp
  try simp only [Act.put, List.setIfInBounds_toArray, List.set_cons_succ, List.set_cons_zero]
  refine wpAnyH_takeD (i := 7) (v := .complex .f64 0 fy) (some 12) rfl rfl (by kernel_rfl) (by kernel_rfl) (by kernel_rfl) (fun _ _ _ h => h) (Or.inl ⟨by rfl, ?_⟩) SV ?_
  · intro X hX; have o0 := (hX.out.cell (p := ⟨gn, 0, none⟩) lgg).trans n0; have o1 := (hX.out.cell (p := ⟨gn, 1, none⟩) lgg).trans n1; have o2 := (hX.out.cell (p := ⟨gn, 2, none⟩) lgg).trans n2; have o3 := (hX.out.cell (p := ⟨gn, 3, none⟩) lgg).trans n3; have lX := hX.out.size; have lbX : gn < X.heap.size := (by omega); go_simp
  try simp only [Act.put, List.setIfInBounds_toArray, List.set_cons_succ, List.set_cons_zero]
  refine wpAnyH_takeD (i := 9) (v := .agg #[.slice (some ⟨px, 0, none⟩) (c + 1) (c + 1), .slice (some ⟨py, 0, none⟩) (r + 1) (r + 1), .complex .f64 fx 0, .complex .f64 0 fy]) (some 14) rfl rfl (by kernel_rfl) (by kernel_rfl) (by kernel_rfl) (fun _ _ _ h => h) (Or.inl ⟨by rfl, ?_⟩) SV ?_
  · intro X hX; have o0 := (hX.out.cell (p := ⟨gn, 0, none⟩) lgg).trans n0; have o1 := (hX.out.cell (p := ⟨gn, 1, none⟩) lgg).trans n1; have o2 := (hX.out.cell (p := ⟨gn, 2, none⟩) lgg).trans n2; have o3 := (hX.out.cell (p := ⟨gn, 3, none⟩) lgg).trans n3; have lX := hX.out.size; have lbX : gn < X.heap.size := (by omega); go_simp
  try simp only [Act.put, List.setIfInBounds_toArray, List.set_cons_succ, List.set_cons_zero]
  refine wpAnyH_takeD (i := 10) (v := .int .i64 (i : Int)) (some 15) rfl rfl (by kernel_rfl) (by kernel_rfl) (by kernel_rfl) (fun _ _ _ h => h) (Or.inl ⟨by rfl, ?_⟩) SV ?_
  · intro X hX; go_simp
  try simp only [Act.put, List.setIfInBounds_toArray, List.set_cons_succ, List.set_cons_zero]
  refine wpAnyH_takeD (i := 11) (v := .agg #[.slice (some ⟨px, 0, none⟩) (c + 1) (c + 1), .slice (some ⟨py, 0, none⟩) (r + 1) (r + 1), .complex .f64 fx 0, .complex .f64 0 fy]) (some 16) rfl rfl (by kernel_rfl) (by kernel_rfl) (by kernel_rfl) (fun _ _ _ h => h) (Or.inl ⟨by rfl, ?_⟩) SV ?_
  · intro X hX; have o0 := (hX.out.cell (p := ⟨gn, 0, none⟩) lgg).trans n0; have o1 := (hX.out.cell (p := ⟨gn, 1, none⟩) lgg).trans n1; have o2 := (hX.out.cell (p := ⟨gn, 2, none⟩) lgg).trans n2; have o3 := (hX.out.cell (p := ⟨gn, 3, none⟩) lgg).trans n3; have lX := hX.out.size; have lbX : gn < X.heap.size := (by omega); go_simp
  try simp only [Act.put, List.setIfInBounds_toArray, List.set_cons_succ, List.set_cons_zero]
  refine wpAnyH_all (rs := [2]) (by kernel_rfl) (by simp) ?_
  intro ii hii; obtain rfl : ii = 2 := by simpa using hii
  clear hii
  refine wpOp_step rfl (fun K hK => ?_)
  go_simp
  refine (HST0.out _ (HB0.out.trans (SV.out.mono (by have := HGN.out; omega)))).mono ?_
  rintro e w1a ⟨rfl, hb1a⟩
  have S1a : Hid (Below gp W0 w1a) := Lib.hid (SV.out.trans (hb1a.mono (Nat.le_trans (Nat.le_of_lt lgp) SV.out.size)))
  have G1a := Lib.hid (HG.out.below hb1a HG.out.lt)
  refine hK _ _ ⟨S1a, ?_⟩
  clear hK K hb1a SV HG
  have SV := S1a
  have HG := G1a
  clear S1a G1a
  try simp only [Act.put, List.setIfInBounds_toArray, List.set_cons_succ, List.set_cons_zero]
  refine wpAnyH_takeD (i := 5) (v := .complex .f64 fx1 fy) (some 10) rfl rfl (by kernel_rfl) (by kernel_rfl) (by kernel_rfl) (fun _ _ _ h => h) (Or.inl ⟨by rfl, ?_⟩) SV ?_
  · intro X hX; go_simp
  try simp only [Act.put, List.setIfInBounds_toArray, List.set_cons_succ, List.set_cons_zero]
  refine wpAnyH_takeD (i := 8) (v := .complex .f64 fx1 0) (some 13) rfl rfl (by kernel_rfl) (by kernel_rfl) (by kernel_rfl) (fun _ _ _ h => h) (Or.inl ⟨by rfl, ?_⟩) SV ?_
  · intro X hX; go_simp
  try simp only [Act.put, List.setIfInBounds_toArray, List.set_cons_succ, List.set_cons_zero]
  refine wpAnyH_all (rs := [12]) (by kernel_rfl) (by simp) ?_
  intro ii hii; obtain rfl : ii = 12 := by simpa using hii
  clear hii
  refine wpOp_step rfl (fun K hK => ?_)
  go_simp
  refine (HRO.out _).mono ?_
  rintro e w1b ⟨rfl, hb1b⟩
  have S1b : Hid (Below gp W0 w1b) := Lib.hid (SV.out.trans (hb1b.mono (Nat.le_trans (Nat.le_of_lt lgp) SV.out.size)))
  have G1b := Lib.hid (HG.out.below hb1b HG.out.lt)
  refine hK _ _ ⟨S1b, ?_⟩
  clear hK K hb1b SV HG
  have SV := S1b
  have HG := G1b
  clear S1b G1b
  try simp only [Act.put, List.setIfInBounds_toArray, List.set_cons_succ, List.set_cons_zero]
  refine wpAnyH_all (rs := [13]) (by kernel_rfl) (by simp) ?_
  intro ii hii; obtain rfl : ii = 13 := by simpa using hii
  clear hii
  refine wpOp_step rfl (fun K hK => ?_)
  go_simp
  refine (HSTR.out _ (HB0.out.trans (SV.out.mono (by have := HGN.out; omega)))).mono ?_
  rintro e w1c ⟨rfl, hb1c⟩
  have S1c : Hid (Below gp W0 w1c) := Lib.hid (SV.out.trans (hb1c.mono (Nat.le_trans (Nat.le_of_lt lgp) SV.out.size)))
  have G1c := Lib.hid (HG.out.below hb1c HG.out.lt)
  refine hK _ _ ⟨S1c, ?_⟩
  clear hK K hb1c SV HG
  have SV := S1c
  have HG := G1c
  clear S1c G1c
  try simp only [Act.put, List.setIfInBounds_toArray, List.set_cons_succ, List.set_cons_zero]
  refine wpAnyH_all (rs := [14]) (by kernel_rfl) (by simp) ?_
  intro ii hii; obtain rfl : ii = 14 := by simpa using hii
  clear hii
  refine wpOp_step rfl (fun K hK => ?_)
  go_simp
  refine (HBT.out _).mono ?_
  rintro e w1d ⟨rfl, hb1d⟩
  have S1d : Hid (Below gp W0 w1d) := Lib.hid (SV.out.trans (hb1d.mono (Nat.le_trans (Nat.le_of_lt lgp) SV.out.size)))
  have G1d := Lib.hid (HG.out.below hb1d HG.out.lt)
  refine hK _ _ ⟨S1d, ?_⟩
  clear hK K hb1d SV HG
  have SV := S1d
  have HG := G1d
  clear S1d G1d
  try simp only [Act.put, List.setIfInBounds_toArray, List.set_cons_succ, List.set_cons_zero]
  refine wpAnyH_all (rs := [15]) (by kernel_rfl) (by simp) ?_
  intro ii hii; obtain rfl : ii = 15 := by simpa using hii
  clear hii
  have qf0 := HG.out.free 0
  have qf1 := HG.out.free 1
  have qf2 := HG.out.free 2
  have qf3 := HG.out.free 3
  have qc0 := HG.out.cellAt 0
  have qc1 := HG.out.cellAt 1
  have qc2 := HG.out.cellAt 2
  have qc3 := HG.out.cellAt 3
  have ql := HG.out.lt
  refine wpOp_step rfl (fun K hK => ?_)
  go_simp
  have SX := (((SV.out.setCell (p := ⟨gp, 0, none⟩) (Nat.le_refl _) (.int .i64 (x1))).setCell (p := ⟨gp, 1, none⟩) (Nat.le_refl _) (.int .i64 (0))).setCell (p := ⟨gp, 2, none⟩) (Nat.le_refl _) (.int .i64 (g0))).setCell (p := ⟨gp, 3, none⟩) (Nat.le_refl _) (.int .i64 (y2))
  have KX := put4E (x := x1) (y := 0) (u := g0) (v := y2) HG.out
  clear qc0 qc1 qc2 qc3 qf0 qf1 qf2 qf3 ql
  refine hK _ _ ⟨Lib.hid SX, ?_⟩
  clear hK K
  refine wpAnyH_done (by kernel_rfl) ?_ _
  refine at_worldE (fun Y => Below gp W0 Y ∧ Whole Y gp 38 (RR.R.cells ⟨x1, 0, g0, y2⟩)) ⟨SX, KX⟩ (fun Y hY => ?_)
  obtain ⟨SY, KY⟩ := hY
  clear SX KX HG SV
  go_wp2
  refine bodyPost_ret (results_rectE (q := ⟨x1, 0, g0, y2⟩) rfl rfl KY) rfl ⟨rfl, ?_⟩
  exact HB0.out.trans (SY.mono (by have := HGN.out; omega))
set_option maxRecDepth 100000 in
set_option maxHeartbeats 4000000 in
theorem lying_any {B : Nat} (px py c r : Nat) (cs rs : List Int) (g0 g1 : Int) (i j : Nat) (w : World) (hN : NetAt B w px py cs rs g0 g1) (hc : cs.length = c) (hr : rs.length = r) (h1 : i < c) (h2 : j ≤ r) (hc2 : c ≤ 10000) (hr2 : r ≤ 10000) (ok0 : okW g0 cs) (ok1 : okW g1 rs) :
    Calls Try.prog 17 #[netV px py c r g0 g1, .int .i64 (i : Int), .int .i64 (j : Int)] w fun e w' => e = .returned (RR.R.val ⟨begW g0 cs i, begW g1 rs j - g1, wideW g0 cs i (i + 1), g1⟩) ∧ Below w.heap.size w w' := by
  have HST0 := Lib.hid (fun X (h : Below w.heap.size w X) => start_any px py c r cs rs g0 g1 i j X (hN.below h) hc hr (by omega) h2 hc2 hr2)
  have HSTR := Lib.hid (fun X (h : Below w.heap.size w X) => start_any px py c r cs rs g0 g1 (i + 1) j X (hN.below h) hc hr (by omega) h2 hc2 hr2)
  have b1 := begW_bd ok0 (k := i) (by omega)
  have b2 := begW_bd ok1 (k := j) (by omega)
  have b4 := begW_bd ok0 (k := i + 1) (by omega)
  have hx := ok0.1
  have hy := ok1.1
  have b3 : 0 ≤ begW g1 rs j - g1 := by have := preW_bd ok1 j (by omega); unfold begW; omega
  have b5 := wideW_bd ok0 (s := i) (e := i + 1) (by omega)
  have e5 : begW g0 cs (i + 1) - g0 - begW g0 cs i = wideW g0 cs i (i + 1) := by rw [wideW_lt (by omega)]; unfold begW; omega
  have hs1 := csub_F (a := begW g0 cs i) (b := begW g1 rs j) (c := 0) (d := g1) (e := begW g0 cs i) (f := begW g1 rs j - g1) (by omega) (by omega) (by omega) (by omega) (by omega) rfl
  have hs2 := csub_F (a := begW g0 cs (i + 1)) (b := begW g1 rs j) (c := g0) (d := 0) (e := begW g0 cs (i + 1) - g0) (f := begW g1 rs j) (by omega) (by omega) (by omega) (by omega) rfl (by omega)
  have HBT := Lib.hid (fun X => between_any (begW g0 cs i) (begW g1 rs j - g1) (begW g0 cs (i + 1) - g0) (begW g1 rs j) X (by omega) (by omega) (by omega) (by omega))
  rw [e5, show begW g1 rs j - (begW g1 rs j - g1) = g1 by omega] at HBT
  rw [F0] at hs1 hs2
  have hadd : ((i : Int) + 1) = ((i + 1 : Nat) : Int) := by omega
  have hwr : IntKind.i64.wrap ((i : Int) + 1) = (i : Int) + 1 := by simp [IntKind.wrap, IntKind.bits, IntKind.signed]; omega
  unfold netV at *
  dsimp only [RR.R.val] at HBT
  generalize begW g0 cs (i + 1) - g0 = x3 at *
  generalize begW g1 rs j - g1 = y1 at *
  generalize wideW g0 cs i (i + 1) = u1 at *
  generalize begW g0 cs (i + 1) = x2 at *
  generalize begW g0 cs i = x1 at *
  generalize begW g1 rs j = y2 at *
  rw [← hadd] at HSTR
  generalize floatOfInt .f64 g0 = fx at *
  generalize floatOfInt .f64 g1 = fy at *
  generalize floatOfInt .f64 x1 = fx1 at *
  generalize floatOfInt .f64 x2 = fx2 at *
  generalize floatOfInt .f64 x3 = fx3 at *
  generalize floatOfInt .f64 y1 = fy1 at *
  generalize floatOfInt .f64 y2 = fy2 at *
  clear b1 b2 b3 b4 b5 e5 hx hy ok0 ok1 hN hc hr hadd
  obtain ⟨gn, hgn⟩ : ∃ gn, w.heap.size = gn := ⟨_, rfl⟩
  have N1 := whole_new w [.slice (some ⟨px, 0, none⟩) (c + 1) (c + 1), .slice (some ⟨py, 0, none⟩) (r + 1) (r + 1), .complex .f64 fx 0, .complex .f64 0 fy] 45 gn hgn.symm
  have N2 := N1.alloc (.cells #[.int .i64 0, .int .i64 0, .int .i64 0, .int .i64 0] 38)
  have P2 := whole_new (w.alloc (.cells #[.slice (some ⟨px, 0, none⟩) (c + 1) (c + 1), .slice (some ⟨py, 0, none⟩) (r + 1) (r + 1), .complex .f64 fx 0, .complex .f64 0 fy] 45)) [.int .i64 0, .int .i64 0, .int .i64 0, .int .i64 0] 38 (gn + 1) (by simp [hgn])
  obtain ⟨W0, hW0⟩ : ∃ W0, (w.alloc (.cells #[.slice (some ⟨px, 0, none⟩) (c + 1) (c + 1), .slice (some ⟨py, 0, none⟩) (r + 1) (r + 1), .complex .f64 fx 0, .complex .f64 0 fy] 45)).alloc (.cells #[.int .i64 0, .int .i64 0, .int .i64 0, .int .i64 0] 38) = W0 := ⟨_, rfl⟩
  have HB0 : Hid (Below w.heap.size w W0) := Lib.hid (by rw [← hW0]; exact ((Below.refl _ w).alloc (Nat.le_refl _) _).alloc (by simp) _)
  have N2' : Whole W0 gn 45 [.slice (some ⟨px, 0, none⟩) (c + 1) (c + 1), .slice (some ⟨py, 0, none⟩) (r + 1) (r + 1), .complex .f64 fx 0, .complex .f64 0 fy] := by rw [← hW0]; exact N2
  have P2' : Whole W0 (gn + 1) 38 [.int .i64 0, .int .i64 0, .int .i64 0, .int .i64 0] := by rw [← hW0]; exact P2
  have n0 := N2'.cellAt 0
  have n1 := N2'.cellAt 1
  have n2 := N2'.cellAt 2
  have n3 := N2'.cellAt 3
  obtain ⟨gp, hgp⟩ : ∃ gp, gn + 1 = gp := ⟨_, rfl⟩
  have lgg : gn < gp := by omega
  have lgp := P2'.lt
  rw [hgp] at P2' lgp
  have HG0 := Lib.hid P2'
  have HGN := Lib.hid hgn
  simp only [List.getElem?_cons_zero, List.getElem?_cons_succ] at n0 n1 n2 n3
  clear N1 N2 P2 N2' P2'
  go_enter Try.func17, Try.ntmps17
  go_wp2
  try rw [hW0]
  try simp only [hgn, hgp]
  clear hW0 hgn hgp
  refine region_held_atE (S := fun X => Hid (Below gp W0 X)) (by kernel_rfl) (fun w9 hw9 => ?_)
  have SV : Hid (Below gp W0 w9) := Lib.hid (by rw [← hw9]; exact (Below.refl _ _).drew)
  have HG : Hid (Whole w9 gp 38 [.int .i64 0, .int .i64 0, .int .i64 0, .int .i64 0]) := Lib.hid (by rw [← hw9]; exact HG0.out)
  clear hw9 HG0
  try simp only [Act.put, List.setIfInBounds_toArray, List.set_cons_succ, List.set_cons_zero]
  refine wpAnyH_takeD (i := 0) (v := .agg #[.slice (some ⟨px, 0, none⟩) (c + 1) (c + 1), .slice (some ⟨py, 0, none⟩) (r + 1) (r + 1), .complex .f64 fx 0, .complex .f64 0 fy]) (some 7) rfl rfl (by kernel_rfl) (by kernel_rfl) (by kernel_rfl) (fun _ _ _ h => h) (Or.inl ⟨by rfl, ?_⟩) SV ?_
  · intro X hX; have o0 := (hX.out.cell (p := ⟨gn, 0, none⟩) lgg).trans n0; have o1 := (hX.out.cell (p := ⟨gn, 1, none⟩) lgg).trans n1; have o2 := (hX.out.cell (p := ⟨gn, 2, none⟩) lgg).trans n2; have o3 := (hX.out.cell (p := ⟨gn, 3, none⟩) lgg).trans n3; have lX := hX.out.size; have lbX : gn < X.heap.size := (by omega); go_simp
  try simp only [Act.put, List.setIfInBounds_toArray, List.set_cons_succ, List.set_cons_zero]
  refine wpAnyH_takeD (i := 1) (v := .int .i64 (i : Int)) (some 8) rfl rfl (by kernel_rfl) (by kernel_rfl) (by kernel_rfl) (fun _ _ _ h => h) (Or.inl ⟨by rfl, ?_⟩) SV ?_
  · intro X hX; go_simp
  try simp only [Act.put, List.setIfInBounds_toArray, List.set_cons_succ, List.set_cons_zero]
  refine wpAnyH_takeD (i := 2) (v := .int .i64 (j : Int)) (some 9) rfl rfl (by kernel_rfl) (by kernel_rfl) (by kernel_rfl) (fun _ _ _ h => h) (Or.inl ⟨by rfl, ?_⟩) SV ?_
  · intro X hX; go_simp
  try simp only [Act.put, List.setIfInBounds_toArray, List.set_cons_succ, List.set_cons_zero]
  refine wpAnyH_takeD (i := 4) (v := .pointer (some ⟨gn, 3, none⟩)) (some 11) rfl rfl (by kernel_rfl) (by kernel_rfl) (by kernel_rfl) (fun _ _ _ h => h) (Or.inl ⟨by rfl, ?_⟩) SV ?_
  · intro X hX; go_simp
  try simp only [Act.put, List.setIfInBounds_toArray, List.set_cons_succ, List.set_cons_zero]
  refine wpAnyH_takeD (i := 5) (v := .complex .f64 0 fy) (some 12) rfl rfl (by kernel_rfl) (by kernel_rfl) (by kernel_rfl) (fun _ _ _ h => h) (Or.inl ⟨by rfl, ?_⟩) SV ?_
  · intro X hX; have o0 := (hX.out.cell (p := ⟨gn, 0, none⟩) lgg).trans n0; have o1 := (hX.out.cell (p := ⟨gn, 1, none⟩) lgg).trans n1; have o2 := (hX.out.cell (p := ⟨gn, 2, none⟩) lgg).trans n2; have o3 := (hX.out.cell (p := ⟨gn, 3, none⟩) lgg).trans n3; have lX := hX.out.size; have lbX : gn < X.heap.size := (by omega); go_simp
  try simp only [Act.put, List.setIfInBounds_toArray, List.set_cons_succ, List.set_cons_zero]
  refine wpAnyH_takeD (i := 7) (v := .agg #[.slice (some ⟨px, 0, none⟩) (c + 1) (c + 1), .slice (some ⟨py, 0, none⟩) (r + 1) (r + 1), .complex .f64 fx 0, .complex .f64 0 fy]) (some 14) rfl rfl (by kernel_rfl) (by kernel_rfl) (by kernel_rfl) (fun _ _ _ h => h) (Or.inl ⟨by rfl, ?_⟩) SV ?_
  · intro X hX; have o0 := (hX.out.cell (p := ⟨gn, 0, none⟩) lgg).trans n0; have o1 := (hX.out.cell (p := ⟨gn, 1, none⟩) lgg).trans n1; have o2 := (hX.out.cell (p := ⟨gn, 2, none⟩) lgg).trans n2; have o3 := (hX.out.cell (p := ⟨gn, 3, none⟩) lgg).trans n3; have lX := hX.out.size; have lbX : gn < X.heap.size := (by omega); go_simp
  try simp only [Act.put, List.setIfInBounds_toArray, List.set_cons_succ, List.set_cons_zero]
  refine wpAnyH_takeD (i := 8) (v := .int .i64 (i : Int)) (some 15) rfl rfl (by kernel_rfl) (by kernel_rfl) (by kernel_rfl) (fun _ _ _ h => h) (Or.inl ⟨by rfl, ?_⟩) SV ?_
  · intro X hX; go_simp
  try simp only [Act.put, List.setIfInBounds_toArray, List.set_cons_succ, List.set_cons_zero]
  refine wpAnyH_takeD (i := 9) (v := .int .i64 ((i : Int) + 1)) (some 16) rfl rfl (by kernel_rfl) (by kernel_rfl) (by kernel_rfl) (fun _ _ _ h => h) (Or.inl ⟨by rfl, ?_⟩) SV ?_
  · intro X hX; go_simp
  try simp only [Act.put, List.setIfInBounds_toArray, List.set_cons_succ, List.set_cons_zero]
  refine wpAnyH_takeD (i := 10) (v := .int .i64 (j : Int)) (some 17) rfl rfl (by kernel_rfl) (by kernel_rfl) (by kernel_rfl) (fun _ _ _ h => h) (Or.inl ⟨by rfl, ?_⟩) SV ?_
  · intro X hX; go_simp
  try simp only [Act.put, List.setIfInBounds_toArray, List.set_cons_succ, List.set_cons_zero]
  refine wpAnyH_takeD (i := 12) (v := .pointer (some ⟨gn, 2, none⟩)) (some 19) rfl rfl (by kernel_rfl) (by kernel_rfl) (by kernel_rfl) (fun _ _ _ h => h) (Or.inl ⟨by rfl, ?_⟩) SV ?_
  · intro X hX; go_simp
  try simp only [Act.put, List.setIfInBounds_toArray, List.set_cons_succ, List.set_cons_zero]
  refine wpAnyH_takeD (i := 13) (v := .complex .f64 fx 0) (some 20) rfl rfl (by kernel_rfl) (by kernel_rfl) (by kernel_rfl) (fun _ _ _ h => h) (Or.inl ⟨by rfl, ?_⟩) SV ?_
  · intro X hX; have o0 := (hX.out.cell (p := ⟨gn, 0, none⟩) lgg).trans n0; have o1 := (hX.out.cell (p := ⟨gn, 1, none⟩) lgg).trans n1; have o2 := (hX.out.cell (p := ⟨gn, 2, none⟩) lgg).trans n2; have o3 := (hX.out.cell (p := ⟨gn, 3, none⟩) lgg).trans n3; have lX := hX.out.size; have lbX : gn < X.heap.size := (by omega); go_simp
  try simp only [Act.put, List.setIfInBounds_toArray, List.set_cons_succ, List.set_cons_zero]
  refine wpAnyH_all (rs := [3]) (by kernel_rfl) (by simp) ?_
  intro ii hii; obtain rfl : ii = 3 := by simpa using hii
  clear hii
  refine wpOp_step rfl (fun K hK => ?_)
  go_simp
  refine (HST0.out _ (HB0.out.trans (SV.out.mono (by have := HGN.out; omega)))).mono ?_
  rintro e w1a ⟨rfl, hb1a⟩
  have S1a : Hid (Below gp W0 w1a) := Lib.hid (SV.out.trans (hb1a.mono (Nat.le_trans (Nat.le_of_lt lgp) SV.out.size)))
  have G1a := Lib.hid (HG.out.below hb1a HG.out.lt)
  refine hK _ _ ⟨S1a, ?_⟩
  clear hK K hb1a SV HG
  have SV := S1a
  have HG := G1a
  clear S1a G1a
  try simp only [Act.put, List.setIfInBounds_toArray, List.set_cons_succ, List.set_cons_zero]
  refine wpAnyH_takeD (i := 6) (v := .complex .f64 fx1 fy1) (some 13) rfl rfl (by kernel_rfl) (by kernel_rfl) (by kernel_rfl) (fun _ _ _ h => h) (Or.inl ⟨by rfl, ?_⟩) SV ?_
  · intro X hX; go_simp
  try simp only [Act.put, List.setIfInBounds_toArray, List.set_cons_succ, List.set_cons_zero]
  refine wpAnyH_all (rs := [11]) (by kernel_rfl) (by simp) ?_
  intro ii hii; obtain rfl : ii = 11 := by simpa using hii
  clear hii
  refine wpOp_step rfl (fun K hK => ?_)
  go_simp
  refine (HSTR.out _ (HB0.out.trans (SV.out.mono (by have := HGN.out; omega)))).mono ?_
  rintro e w1b ⟨rfl, hb1b⟩
  have S1b : Hid (Below gp W0 w1b) := Lib.hid (SV.out.trans (hb1b.mono (Nat.le_trans (Nat.le_of_lt lgp) SV.out.size)))
  have G1b := Lib.hid (HG.out.below hb1b HG.out.lt)
  refine hK _ _ ⟨S1b, ?_⟩
  clear hK K hb1b SV HG
  have SV := S1b
  have HG := G1b
  clear S1b G1b
  try simp only [Act.put, List.setIfInBounds_toArray, List.set_cons_succ, List.set_cons_zero]
  refine wpAnyH_takeD (i := 14) (v := .complex .f64 fx3 fy2) (some 21) rfl rfl (by kernel_rfl) (by kernel_rfl) (by kernel_rfl) (fun _ _ _ h => h) (Or.inl ⟨by rfl, ?_⟩) SV ?_
  · intro X hX; go_simp
  try simp only [Act.put, List.setIfInBounds_toArray, List.set_cons_succ, List.set_cons_zero]
  refine wpAnyH_all (rs := [15]) (by kernel_rfl) (by simp) ?_
  intro ii hii; obtain rfl : ii = 15 := by simpa using hii
  clear hii
  refine wpOp_step rfl (fun K hK => ?_)
  go_simp
  refine (HBT.out _).mono ?_
  rintro e w1d ⟨rfl, hb1d⟩
  have S1d : Hid (Below gp W0 w1d) := Lib.hid (SV.out.trans (hb1d.mono (Nat.le_trans (Nat.le_of_lt lgp) SV.out.size)))
  have G1d := Lib.hid (HG.out.below hb1d HG.out.lt)
  refine hK _ _ ⟨S1d, ?_⟩
  clear hK K hb1d SV HG
  have SV := S1d
  have HG := G1d
  clear S1d G1d
  try simp only [Act.put, List.setIfInBounds_toArray, List.set_cons_succ, List.set_cons_zero]
  refine wpAnyH_all (rs := [16]) (by kernel_rfl) (by simp) ?_
  intro ii hii; obtain rfl : ii = 16 := by simpa using hii
  clear hii
  have qf0 := HG.out.free 0
  have qf1 := HG.out.free 1
  have qf2 := HG.out.free 2
  have qf3 := HG.out.free 3
  have qc0 := HG.out.cellAt 0
  have qc1 := HG.out.cellAt 1
  have qc2 := HG.out.cellAt 2
  have qc3 := HG.out.cellAt 3
  have ql := HG.out.lt
  refine wpOp_step rfl (fun K hK => ?_)
  go_simp
  have SX := (((SV.out.setCell (p := ⟨gp, 0, none⟩) (Nat.le_refl _) (.int .i64 (x1))).setCell (p := ⟨gp, 1, none⟩) (Nat.le_refl _) (.int .i64 (y1))).setCell (p := ⟨gp, 2, none⟩) (Nat.le_refl _) (.int .i64 (u1))).setCell (p := ⟨gp, 3, none⟩) (Nat.le_refl _) (.int .i64 (g1))
  have KX := put4E (x := x1) (y := y1) (u := u1) (v := g1) HG.out
  clear qc0 qc1 qc2 qc3 qf0 qf1 qf2 qf3 ql
  refine hK _ _ ⟨Lib.hid SX, ?_⟩
  clear hK K
  refine wpAnyH_done (by kernel_rfl) ?_ _
  refine at_worldE (fun Y => Below gp W0 Y ∧ Whole Y gp 38 (RR.R.cells ⟨x1, y1, u1, g1⟩)) ⟨SX, KX⟩ (fun Y hY => ?_)
  obtain ⟨SY, KY⟩ := hY
  clear SX KX HG SV
  go_wp2
  refine bodyPost_ret (results_rectE (q := ⟨x1, y1, u1, g1⟩) rfl rfl KY) rfl ⟨rfl, ?_⟩
  exact HB0.out.trans (SY.mono (by have := HGN.out; omega))
end Go.Proofs.Ytlnfgmmgkmhehaa
