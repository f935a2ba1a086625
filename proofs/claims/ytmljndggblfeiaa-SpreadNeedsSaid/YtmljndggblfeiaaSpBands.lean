/- Contract of (spread.widths).bands: bands with other Mins and Maxs. -/
import Derived.Test.YtmljndggblfeiaaSpWd
import Derived.OrdersHeld
namespace Go.Proofs.Ytmljndggblfeiaa
open Go.RowKit Go.Shelf
set_option linter.unusedVariables false
set_option linter.unusedSimpArgs false
attribute [local go_sem] Oper.semAt_some

def fillT (T : List Ba) (m k : Nat) : List Ba := T.take k ++ List.replicate (m - k) ⟨0, 0, 0, 0⟩
theorem fillT_len (T : List Ba) (m k : Nat) (hT : T.length = m) (hk : k ≤ m) : (fillT T m k).length = m := by simp [fillT]; omega
theorem fillT_set (T : List Ba) (m k : Nat) (hT : T.length = m) (b : Ba) (hb : T[k]? = some b) : (fillT T m k).set k b = fillT T m (k + 1) := by
  have hk : k < m := by rw [← hT]; exact (List.getElem?_eq_some_iff.1 hb).1
  unfold fillT
  rw [List.set_append_right _ _ (by simp; omega), List.length_take, Nat.min_eq_left (by omega), Nat.sub_self, List.take_add_one, hb]
  obtain ⟨e, he⟩ : ∃ e, m - k = e + 1 := ⟨m - k - 1, by omega⟩
  rw [he, show m - (k + 1) = e by omega, List.replicate_succ, List.set_cons_zero, List.append_assoc]; rfl
set_option maxRecDepth 100000 in
set_option maxHeartbeats 4000000 in
theorem bandsW_any (p p0 p1 : Option Addr) (m c n0 c0 n1 c1 : Nat) (bs : List Ba) (d : Wd) (W : World) (hm : m ≤ 10000) (hr : RowsK Ba.cells 4 W (.slice p m c) bs)
    (hw : 1 ≤ m → ∃ gl gm sl sm, p0 = some ⟨gl, 0, none⟩ ∧ p1 = some ⟨gm, 0, none⟩ ∧ m = n0 ∧ m = n1 ∧ IRow W gl d.lo sl ∧ IRow W gm d.hi sm ∧ d.lo.length = m ∧ d.hi.length = m) :
    Calls Try.prog 21 #[.agg #[.slice p0 n0 c0, .slice p1 n1 c1], .slice p m c] W fun e X => ∃ G, e = .returned (.slice (some ⟨G, 0, none⟩) m m) ∧ W.heap.size ≤ G ∧ BsAt G (wdIn bs d) X ∧ Below W.heap.size W X := by
  have HL := Lib.hid hr.len
  have HAT := Lib.hid (fun k s h => hr.at k s h)
  have HWD := Lib.hid hw
  have HTL : Hid ((wdIn bs d).length = m) := Lib.hid (by rw [wdIn_len]; exact hr.len)
  have HTG := Lib.hid (fun (k : Nat) (b : Ba) (h : bs[k]? = some b) => show (wdIn bs d)[k]? = some ({ b with mn := d.lo[k]?.getD 0, mx := d.hi[k]?.getD 0 } : Ba) by rw [wdIn_get, h]; rfl)
  have hmk := make_bands m hm
  obtain ⟨zc, hzc⟩ : ∃ zc, ((List.replicate m (⟨0, 0, 0, 0⟩ : Ba)).flatMap Ba.cells).toArray = zc := ⟨_, rfl⟩
  rw [hzc] at hmk
  have HZC := Lib.hid hzc
  have mixed : Try.prog.follows Departure.mixedOrders = true := by kernel_rfl
  clear hr hw hzc
  obtain ⟨b2, hb2⟩ : ∃ b, W.heap.size = b := ⟨_, rfl⟩
  obtain ⟨G, hG⟩ : ∃ b, W.heap.size + 1 = b := ⟨_, rfl⟩
  obtain ⟨W1, hW1⟩ : ∃ W1, (W.alloc (.cells #[.slice p0 n0 c0, .slice p1 n1 c1] 47)).alloc (.cells zc 39) = W1 := ⟨_, rfl⟩
  have HB1 : Hid (Below W.heap.size W W1) := Lib.hid (by rw [← hW1]; exact ((Below.refl _ W).alloc (Nat.le_refl _) _).alloc (by simp) _)
  have K2 : Hid (Whole W1 b2 47 [.slice p0 n0 c0, .slice p1 n1 c1]) := Lib.hid (by rw [← hW1]; exact (whole_new W [.slice p0 n0 c0, .slice p1 n1 c1] _ b2 hb2.symm).alloc _)
  have HS0 : Hid (BsAt G (fillT (wdIn bs d) m 0) W1) := Lib.hid (by
    unfold BsAt fillT
    rw [← hW1, List.take_zero, List.nil_append, Nat.sub_zero]
    have := whole_new (W.alloc (.cells #[.slice p0 n0 c0, .slice p1 n1 c1] 47)) ((List.replicate m (⟨0, 0, 0, 0⟩ : Ba)).flatMap Ba.cells) 39 G (by simp [hG])
    rwa [HZC.out] at this)
  have HGB : Hid (W.heap.size = b2 ∧ b2 + 1 = G) := Lib.hid (by omega)
  go_enter Try.func21, Try.ntmps21
  go_wp2_with fail
  try rw [hW1]
  try rw [hb2]
  try rw [HGB.out.2]
  clear hW1 hG hb2 hmk HZC
  obtain ⟨T, hT⟩ : ∃ T, T = wdIn bs d := ⟨_, rfl⟩
  rw [← hT] at HTL HTG HS0
  have HTE := Lib.hid hT
  clear hT
  go_loopw [13] (fun s13 X => ∃ k : Nat, k ≤ m ∧ s13 = .int .i64 (k : Int) ∧ Hid (Whole X b2 47 [.slice p0 n0 c0, .slice p1 n1 c1]) ∧ Hid (BsAt G (fillT T m k) X) ∧ Hid (Below W.heap.size W X)) (fun s13 _ => m - (intOf s13).toNat)
  case atStart => exact ⟨0, Nat.zero_le _, rfl, K2, HS0, HB1⟩
  case round =>
    obtain ⟨k, hk, rfl, K2X, HSX, HBX⟩ := hrel
    clear K2 HS0 HB1
    by_cases hlt : k < m
    · obtain ⟨s, hs⟩ : ∃ s, bs[k]? = some s := ⟨_, List.getElem?_eq_getElem (by rw [HL.out]; exact hlt)⟩
      obtain ⟨b, off, rfl, lb, hc⟩ := HAT.out k s hs
      have cc := fun i u (h : s.cells[i]? = some u) => (HBX.out.cell (p := ⟨b, off + k * 4 + i, none⟩) lb).trans (hc i u h)
      obtain ⟨gl, gm, sl, sm, rfl, rfl, rfl, rfl, hrl, hrm, hll, hlm⟩ := HWD.out (by omega)
      have x1 := (HBX.out.cell (p := ⟨gl, k, none⟩) hrl.lt).trans (hrl.cell k (by omega))
      have x2 := (HBX.out.cell (p := ⟨gm, k, none⟩) hrm.lt).trans (hrm.cell k (by omega))
      have HT1 := Lib.hid (HTG.out k s hs)
      have HST := Lib.hid (fillT_set T m k HTL.out _ HT1.out)
      have HLN := Lib.hid (fillT_len T m k HTL.out hk)
      generalize d.lo[k]?.getD 0 = za at *
      generalize d.hi[k]?.getD 0 = zb at *
      obtain ⟨mn, mx, sh, wt⟩ := s
      dsimp only at HT1 HST
      have q0 : wr.cell? ⟨b, off + k * 4, none⟩ = some (.int .i64 mn) := cc 0 _ rfl
      have q1 : wr.cell? ⟨b, off + k * 4 + 1, none⟩ = some (.int .i64 mx) := cc 1 _ rfl
      have q2 : wr.cell? ⟨b, off + k * 4 + 2, none⟩ = some (.int .i64 sh) := cc 2 _ rfl
      have q3 : wr.cell? ⟨b, off + k * 4 + 3, none⟩ = some (.int .i64 wt) := cc 3 _ rfl
      obtain ⟨V, hV⟩ : ∃ V, wr.alloc (.cells #[.int .i64 mn, .int .i64 mx, .int .i64 sh, .int .i64 wt] 39) = V := ⟨_, rfl⟩
      have BV : Below wr.heap.size wr V := by rw [← hV]; exact (Below.refl _ wr).alloc (Nat.le_refl _) _
      have K7 : Whole V wr.heap.size 39 [.int .i64 mn, .int .i64 mx, .int .i64 sh, .int .i64 wt] := hV ▸ whole_new wr [.int .i64 mn, .int .i64 mx, .int .i64 sh, .int .i64 wt] 39 _ rfl
      have K2V := K2X.out.below BV K2X.out.lt
      have HSV := HSX.out.below BV HSX.out.lt
      have HBV := Lib.hid (HBX.out.trans (BV.mono HBX.out.size))
      have x1V := (BV.cell (p := ⟨gl, k, none⟩) (cell_lt x1)).trans x1
      have x2V := (BV.cell (p := ⟨gm, k, none⟩) (cell_lt x2)).trans x2
      have y0 := K2V.cellAt 0
      have y1 := K2V.cellAt 1
      have z0 := K7.cellAt 0
      have z1 := K7.cellAt 1
      have f0 := K7.free 0
      have f1 := K7.free 1
      simp only [List.getElem?_cons_zero, List.getElem?_cons_succ] at y0 y1 z0 z1
      have l2 := K2V.lt
      have l7 := K7.lt
      have lgl := cell_lt x1V
      have lgm := cell_lt x2V
      have ngm : gm ≠ wr.heap.size := by have := HBX.out.size; have := hrm.lt; omega
      have x2S : (V.setCell ⟨wr.heap.size, 0, none⟩ (.int .i64 za)).cell? ⟨gm, k, none⟩ = some (.int .i64 zb) := (World.cell?_setCell_other _ _ _ _ (by intro e; simp only [Addr.mk.injEq] at e; exact ngm e.1.symm)).trans x2V
      have x2D : (V.setCell ⟨wr.heap.size, 0, none⟩ (.int .i64 za)).drew.cell? ⟨gm, k, none⟩ = some (.int .i64 zb) := x2S
      have ng : G ≠ wr.heap.size := by have := HSX.out.lt; omega
      have n2 : b2 ≠ wr.heap.size := by have := K2X.out.lt; omega
      have K7E := (K7.set 0 (.int .i64 za)).set 1 (.int .i64 zb)
      have K2E := (K2V.other ⟨wr.heap.size, 0, none⟩ (.int .i64 za) n2).other ⟨wr.heap.size, 1, none⟩ (.int .i64 zb) n2
      have HSE : BsAt G (fillT T m k) ((V.setCell ⟨wr.heap.size, 0, none⟩ (.int .i64 za)).setCell ⟨wr.heap.size, 1, none⟩ (.int .i64 zb)) := (Whole.other (Whole.other HSV ⟨wr.heap.size, 0, none⟩ (.int .i64 za) ng) ⟨wr.heap.size, 1, none⟩ (.int .i64 zb) ng)
      have HBE : Below W.heap.size W ((V.setCell ⟨wr.heap.size, 0, none⟩ (.int .i64 za)).setCell ⟨wr.heap.size, 1, none⟩ (.int .i64 zb)) := (HBV.out.setCell (p := ⟨wr.heap.size, 0, none⟩) HBX.out.size _).setCell (p := ⟨wr.heap.size, 1, none⟩) HBX.out.size _
      simp only [List.set_cons_zero, List.set_cons_succ] at K7E
      obtain ⟨Y, hY⟩ : ∃ Y, ((V.setCell ⟨wr.heap.size, 0, none⟩ (.int .i64 za)).setCell ⟨wr.heap.size, 1, none⟩ (.int .i64 zb)).drew = Y := ⟨_, rfl⟩
      have K7Y : Hid (Whole Y wr.heap.size 39 [.int .i64 za, .int .i64 zb, .int .i64 sh, .int .i64 wt]) := Lib.hid (hY ▸ K7E.below (below_dn _ _ 1) K7E.lt)
      have K2Y : Hid (Whole Y b2 47 [.slice (some ⟨gl, 0, none⟩) m c0, .slice (some ⟨gm, 0, none⟩) m c1]) := Lib.hid (hY ▸ K2E.below (below_dn _ _ 1) K2E.lt)
      have HSY : Hid (BsAt G (fillT T m k) Y) := Lib.hid (hY ▸ HSE.below (below_dn _ _ 1) HSE.lt)
      have HBY : Hid (Below W.heap.size W Y) := Lib.hid (hY ▸ HBE.trans (below_dn _ _ 1))
      have HY := Lib.hid hY
      clear hY K7E K2E HSE HBE K2V HSV K7 HBV cc hc hs hrl hrm hll hlm K2X HSX BV x1 x2 HT1 ng n2
      go_wp2_with fail
      try rw [hV]
      clear hV q0 q1 q2 q3
      go_big_region_o
      all_goals try rw [HY.out]
      clear y0 y1 z0 z1 f0 f1 l2 l7 lgl lgm x1V x2V
      have o0 := K7Y.out.cellAt 0
      have o1 := K7Y.out.cellAt 1
      have o2 := K7Y.out.cellAt 2
      have o3 := K7Y.out.cellAt 3
      simp only [List.getElem?_cons_zero, List.getElem?_cons_succ] at o0 o1 o2 o3
      have l7 := K7Y.out.lt
      have lG := HSY.out.lt
      obtain ⟨ob, hob⟩ : ∃ ob, (fillT T m k)[k]? = some ob := ⟨_, List.getElem?_eq_getElem (by rw [HLN.out]; exact hlt)⟩
      have t0 : Y.cell? ⟨G, k * 4, none⟩ = some (.int .i64 ob.mn) := HSY.out.cell k ob hob 0 (by omega)
      have t1 : Y.cell? ⟨G, k * 4 + 1, none⟩ = some (.int .i64 ob.mx) := HSY.out.cell k ob hob 1 (by omega)
      have t2 : Y.cell? ⟨G, k * 4 + 2, none⟩ = some (.int .i64 ob.sh) := HSY.out.cell k ob hob 2 (by omega)
      have t3 : Y.cell? ⟨G, k * 4 + 3, none⟩ = some (.int .i64 ob.wt) := HSY.out.cell k ob hob 3 (by omega)
      have g0 : Y.frozen? ⟨G, k * 4, none⟩ = false := Whole.free HSY.out _
      have g1 : Y.frozen? ⟨G, k * 4 + 1, none⟩ = false := Whole.free HSY.out _
      have g2 : Y.frozen? ⟨G, k * 4 + 2, none⟩ = false := Whole.free HSY.out _
      have g3 : Y.frozen? ⟨G, k * 4 + 3, none⟩ = false := Whole.free HSY.out _
      have HSF : Hid (BsAt G (fillT T m (k + 1)) (Y.setCells G (k * 4) (Ba.cells ⟨za, zb, sh, wt⟩))) := Lib.hid (by rw [← HST.out]; exact HSY.out.put k _ (by rw [HLN.out]; exact hlt))
      have HBF : Hid (Below W.heap.size W (Y.setCells G (k * 4) (Ba.cells ⟨za, zb, sh, wt⟩))) := Lib.hid (below_setCells4 HBY.out (by have := HGB.out; omega) _)
      have K2F : Hid (Whole (Y.setCells G (k * 4) (Ba.cells ⟨za, zb, sh, wt⟩)) b2 47 [.slice (some ⟨gl, 0, none⟩) m c0, .slice (some ⟨gm, 0, none⟩) m c1]) := Lib.hid (whole_setCells4 K2Y.out (by have := HGB.out; omega) _)
      clear hob HST HLN K7Y HSY HBY K2Y HY
      go_wp2
      go_roundw
      case rel => exact ⟨k + 1, by omega, by go_num, K2F, HSF, HBF⟩
      case measure => simp [intOf]; omega
    · obtain rfl : m = k := by omega
      have HE : Hid (fillT T m m = T) := Lib.hid (by unfold fillT; rw [List.take_of_length_le (by rw [HTL.out]; exact Nat.le_refl _), Nat.sub_self]; simp)
      rw [HE.out] at HSX
      go_wp2
      go_ret
      exact ⟨G, rfl, by have := HGB.out; omega, by rw [← HTE.out]; exact HSX.out, HBX.out⟩
end Go.Proofs.Ytmljndggblfeiaa
