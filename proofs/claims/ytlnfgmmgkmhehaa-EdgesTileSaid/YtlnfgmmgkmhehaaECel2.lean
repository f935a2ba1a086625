/- Contract of the rectangle of a place (cell of edges.net). Written by mk_ECel2.py. -/
import Derived.Test.YtlnfgmmgkmhehaaEGap
namespace Go.Proofs.Ytlnfgmmgkmhehaa
open Go.RowKit Go.Shelf
set_option linter.unusedVariables false
set_option linter.unusedSimpArgs false
attribute [local go_sem] Oper.semAt_some

/-- the boxes of cell: the net, the place, the answer -/
structure CB (gn px py c r fx fy : Nat) (pn : Int) (fr fc nh nw : Nat) (X : World) : Prop where
  n : Whole X gn 45 [.slice (some ⟨px, 0, none⟩) (c + 1) (c + 1), .slice (some ⟨py, 0, none⟩) (r + 1) (r + 1), .complex .f64 fx 0, .complex .f64 0 fy]
  p : Whole X (gn + 1) 27 [.int .i64 pn, .int .i64 (fr : Int), .int .i64 (fc : Int), .int .i64 (nh : Int), .int .i64 (nw : Int)]
  z : Whole X (gn + 1 + 1) 38 [.int .i64 0, .int .i64 0, .int .i64 0, .int .i64 0]
theorem CB.below {gn px py c r fx fy : Nat} {pn : Int} {fr fc nh nw : Nat} {X Y : World} (h : CB gn px py c r fx fy pn fr fc nh nw X) (hb : Below X.heap.size X Y) : CB gn px py c r fx fy pn fr fc nh nw Y :=
  ⟨h.n.below hb h.n.lt, h.p.below hb h.p.lt, h.z.below hb h.z.lt⟩
set_option maxRecDepth 100000 in
set_option maxHeartbeats 4000000 in
theorem cell_any {B : Nat} (px py c r : Nat) (cs rs : List Int) (g0 g1 : Int) (pn : Int) (fr fc nh nw : Nat) (w : World) (hN : NetAt B w px py cs rs g0 g1) (hc : cs.length = c) (hr : rs.length = r) (h1 : fc + nw ≤ c) (h2 : fr + nh ≤ r) (hw0 : 0 < nw) (hh0 : 0 < nh) (hc2 : c ≤ 10000) (hr2 : r ≤ 10000) (ok0 : okW g0 cs) (ok1 : okW g1 rs) :
    Calls Try.prog 13 #[netV px py c r g0 g1, .agg #[.int .i64 pn, .int .i64 (fr : Int), .int .i64 (fc : Int), .int .i64 (nh : Int), .int .i64 (nw : Int)]] w fun e w' => e = .returned (RR.R.val ⟨begW g0 cs fc, begW g1 rs fr, wideW g0 cs fc (fc + nw), wideW g1 rs fr (fr + nh)⟩) ∧ Below w.heap.size w w' := by
  have HSA := Lib.hid (fun X (h : Below w.heap.size w X) => start_any px py c r cs rs g0 g1 fc fr X (hN.below h) hc hr (by omega) (by omega) hc2 hr2)
  have HSB := Lib.hid (fun X (h : Below w.heap.size w X) => start_any px py c r cs rs g0 g1 (fc + nw) (fr + nh) X (hN.below h) hc hr h1 h2 hc2 hr2)
  have b1 := begW_bd ok0 (k := fc) (by omega)
  have b2 := begW_bd ok1 (k := fr) (by omega)
  have b3 := begW_bd ok0 (k := fc + nw) (by omega)
  have b4 := begW_bd ok1 (k := fr + nh) (by omega)
  have hx := ok0.1
  have hy := ok1.1
  have b5 := wideW_bd ok0 (s := fc) (e := fc + nw) (by omega)
  have b6 := wideW_bd ok1 (s := fr) (e := fr + nh) (by omega)
  have e5 : begW g0 cs (fc + nw) - g0 - begW g0 cs fc = wideW g0 cs fc (fc + nw) := by rw [wideW_lt (by omega)]; unfold begW; omega
  have e6 : begW g1 rs (fr + nh) - g1 - begW g1 rs fr = wideW g1 rs fr (fr + nh) := by rw [wideW_lt (by omega)]; unfold begW; omega
  have hs1 := csub_F (a := begW g0 cs (fc + nw)) (b := begW g1 rs (fr + nh)) (c := g0) (d := 0) (e := begW g0 cs (fc + nw) - g0) (f := begW g1 rs (fr + nh)) (by omega) (by omega) (by omega) (by omega) rfl (by omega)
  have hs2 := csub_F (a := begW g0 cs (fc + nw) - g0) (b := begW g1 rs (fr + nh)) (c := 0) (d := g1) (e := begW g0 cs (fc + nw) - g0) (f := begW g1 rs (fr + nh) - g1) (by omega) (by omega) (by omega) (by omega) (by omega) rfl
  have HBT := Lib.hid (fun X => between_any (begW g0 cs fc) (begW g1 rs fr) (begW g0 cs (fc + nw) - g0) (begW g1 rs (fr + nh) - g1) X (by omega) (by omega) (by omega) (by omega))
  rw [e5, e6] at HBT
  rw [F0] at hs1 hs2
  have hwc : IntKind.i64.wrap ((fc : Int) + (nw : Int)) = (fc : Int) + (nw : Int) := by simp [IntKind.wrap, IntKind.bits, IntKind.signed]; omega
  have hwr : IntKind.i64.wrap ((fr : Int) + (nh : Int)) = (fr : Int) + (nh : Int) := by simp [IntKind.wrap, IntKind.bits, IntKind.signed]; omega
  unfold netV at *
  dsimp only [RR.R.val] at HBT
  generalize begW g0 cs (fc + nw) - g0 = x3 at *
  generalize begW g1 rs (fr + nh) - g1 = y3 at *
  generalize wideW g0 cs fc (fc + nw) = u1 at *
  generalize wideW g1 rs fr (fr + nh) = v1 at *
  generalize begW g0 cs (fc + nw) = x2 at *
  generalize begW g1 rs (fr + nh) = y2 at *
  generalize begW g0 cs fc = x1 at *
  generalize begW g1 rs fr = y1 at *
  rw [Int.natCast_add, Int.natCast_add] at HSB
  generalize floatOfInt .f64 g0 = fx at *
  generalize floatOfInt .f64 g1 = fy at *
  generalize floatOfInt .f64 x1 = fx1 at *
  generalize floatOfInt .f64 x2 = fx2 at *
  generalize floatOfInt .f64 x3 = fx3 at *
  generalize floatOfInt .f64 y1 = fy1 at *
  generalize floatOfInt .f64 y2 = fy2 at *
  generalize floatOfInt .f64 y3 = fy3 at *
  clear b1 b2 b3 b4 b5 b6 e5 e6 hx hy ok0 ok1 hN hc hr
  obtain ⟨gn, hgn⟩ : ∃ gn, w.heap.size = gn := ⟨_, rfl⟩
  have HGN := Lib.hid hgn
  obtain ⟨W0, hW0⟩ : ∃ W0, ((w.alloc (.cells #[.slice (some ⟨px, 0, none⟩) (c + 1) (c + 1), .slice (some ⟨py, 0, none⟩) (r + 1) (r + 1), .complex .f64 fx 0, .complex .f64 0 fy] 45)).alloc (.cells #[.int .i64 pn, .int .i64 (fr : Int), .int .i64 (fc : Int), .int .i64 (nh : Int), .int .i64 (nw : Int)] 27)).alloc (.cells #[.int .i64 0, .int .i64 0, .int .i64 0, .int .i64 0] 38) = W0 := ⟨_, rfl⟩
  have HB0 : Hid (Below w.heap.size w W0) := Lib.hid (by rw [← hW0]; exact (((Below.refl _ w).alloc (Nat.le_refl _) _).alloc (by simp) _).alloc (by simp <;> omega) _)
  have HCB : Hid (CB gn px py c r fx fy pn fr fc nh nw W0) := Lib.hid (by
    rw [← hW0]
    exact ⟨((whole_new w [.slice (some ⟨px, 0, none⟩) (c + 1) (c + 1), .slice (some ⟨py, 0, none⟩) (r + 1) (r + 1), .complex .f64 fx 0, .complex .f64 0 fy] 45 gn hgn.symm).alloc _).alloc _, (whole_new (w.alloc _) [.int .i64 pn, .int .i64 (fr : Int), .int .i64 (fc : Int), .int .i64 (nh : Int), .int .i64 (nw : Int)] 27 (gn + 1) (by simp [hgn])).alloc _, whole_new ((w.alloc _).alloc _) [.int .i64 0, .int .i64 0, .int .i64 0, .int .i64 0] 38 (gn + 1 + 1) (by simp [hgn])⟩)
  have n0 := HCB.out.n.cellAt 0
  have n1 := HCB.out.n.cellAt 1
  have n2 := HCB.out.n.cellAt 2
  have n3 := HCB.out.n.cellAt 3
  have p1 := HCB.out.p.cellAt 1
  have p2 := HCB.out.p.cellAt 2
  have p3 := HCB.out.p.cellAt 3
  have p4 := HCB.out.p.cellAt 4
  have ln := HCB.out.n.lt
  have lp := HCB.out.p.lt
  simp only [List.getElem?_cons_zero, List.getElem?_cons_succ] at n0 n1 n2 n3 p1 p2 p3 p4
  go_enter Try.func13, Try.ntmps13
  go_wp2_with fail
  try rw [hW0]
  clear hW0 hgn
  refine (HSA.out _ HB0.out).mono ?_
  rintro e w1 ⟨rfl, hb1⟩
  have HB1 := Lib.hid (HB0.out.trans (hb1.mono HB0.out.size))
  have HC1 := Lib.hid (HCB.out.below hb1)
  clear hb1 HSA HCB HB0
  clear n0 n1 n2 n3 p1 p2 p3 p4 ln lp
  have n0 := HC1.out.n.cellAt 0
  have n1 := HC1.out.n.cellAt 1
  have n2 := HC1.out.n.cellAt 2
  have n3 := HC1.out.n.cellAt 3
  have p1 := HC1.out.p.cellAt 1
  have p2 := HC1.out.p.cellAt 2
  have p3 := HC1.out.p.cellAt 3
  have p4 := HC1.out.p.cellAt 4
  have ln := HC1.out.n.lt
  have lp := HC1.out.p.lt
  simp only [List.getElem?_cons_zero, List.getElem?_cons_succ] at n0 n1 n2 n3 p1 p2 p3 p4
  go_wp2_with fail
  refine (HSB.out _ HB1.out).mono ?_
  rintro e w2 ⟨rfl, hb2⟩
  have HB2 := Lib.hid (HB1.out.trans (hb2.mono HB1.out.size))
  have HC2 := Lib.hid (HC1.out.below hb2)
  clear hb2 HSB HC1 HB1
  clear n0 n1 n2 n3 p1 p2 p3 p4 ln lp
  have n0 := HC2.out.n.cellAt 0
  have n1 := HC2.out.n.cellAt 1
  have n2 := HC2.out.n.cellAt 2
  have n3 := HC2.out.n.cellAt 3
  have p1 := HC2.out.p.cellAt 1
  have p2 := HC2.out.p.cellAt 2
  have p3 := HC2.out.p.cellAt 3
  have p4 := HC2.out.p.cellAt 4
  have ln := HC2.out.n.lt
  have lp := HC2.out.p.lt
  simp only [List.getElem?_cons_zero, List.getElem?_cons_succ] at n0 n1 n2 n3 p1 p2 p3 p4
  go_wp2_with fail
  refine (HBT.out _).mono ?_
  rintro e w3 ⟨rfl, hb3⟩
  have HB3 := Lib.hid (HB2.out.trans (hb3.mono HB2.out.size))
  have HC3 := Lib.hid (HC2.out.below hb3)
  clear hb3 HBT HC2 HB2
  clear n0 n1 n2 n3 p1 p2 p3 p4 ln lp
  have qf0 := HC3.out.z.free 0
  have qf1 := HC3.out.z.free 1
  have qf2 := HC3.out.z.free 2
  have qf3 := HC3.out.z.free 3
  have qc0 := HC3.out.z.cellAt 0
  have qc1 := HC3.out.z.cellAt 1
  have qc2 := HC3.out.z.cellAt 2
  have qc3 := HC3.out.z.cellAt 3
  have ql := HC3.out.z.lt
  go_wp2
  refine bodyPost_ret (results_rectE (q := ⟨x1, y1, u1, v1⟩) rfl rfl (put4E HC3.out.z)) rfl ⟨rfl, ?_⟩
  have hgg : w.heap.size ≤ gn + 1 + 1 := by have := HGN.out; omega
  exact (((HB3.out.setCell (p := ⟨gn + 1 + 1, 0, none⟩) hgg _).setCell (p := ⟨gn + 1 + 1, 1, none⟩) hgg _).setCell (p := ⟨gn + 1 + 1, 2, none⟩) hgg _).setCell (p := ⟨gn + 1 + 1, 3, none⟩) hgg _
end Go.Proofs.Ytlnfgmmgkmhehaa
