/- The document's own Winner. Written by mk_CRefW.py. -/
import Derived.Test.YtmcgieameodkbaaCRefA
import Derived.Test.YtmcgieameodkbaaCRefB
import Derived.Test.YtmcgieameodkbaaCApp
namespace Go.Proofs.Ytmcgieameodkbaa
open Go.RowKit Go.Shelf Go.Sort Go.Lib
set_option linter.unusedVariables false
set_option linter.unusedSimpArgs false

/-- the best of some, held against the first of all -/
theorem take_snocC (zs : List Si) (i : Nat) (x : Si) (h : zs[i]? = some x) : zs.take (i + 1) = zs.take i ++ [x] := by
  have hi := (List.getElem?_eq_some_iff.1 h).1
  rw [List.take_succ_eq_append_getElem hi]
  rw [List.getElem?_eq_getElem hi] at h; injection h with h; rw [h]
theorem winF_head (a : Si) (r : List Si) : winF a (a :: r) = winF a r := by
  unfold winF; rw [List.foldl_cons, if_neg (cmpS_irr a)]
set_option maxRecDepth 100000 in
set_option maxHeartbeats 4000000 in
theorem refWinner_any (p : Option Addr) (m c : Nat) (zs : List Si) (W : World) (hz : Sides W (.slice p m c) zs) (hm : zs.length = m) :
    Calls Try.prog 18 #[.slice p m c] W fun e W' => e = .returned (.tuple #[(winR zs).1.val, .int .i64 (winR zs).2]) ∧ Below W.heap.size W W' := by
  have hmx : m ≤ 9223372036854775807 := by have := hz.1; omega
  obtain ⟨w0, hw0⟩ : ∃ w0, W.alloc (.cells #[.int .i64 0, .int .i64 0, .int .u32 0, .int .i64 0, .int .i64 0, .int .i64 0] 26) = w0 := ⟨_, rfl⟩
  have hk0 : Whole w0 W.heap.size 26 [.int .i64 0, .int .i64 0, .int .u32 0, .int .i64 0, .int .i64 0, .int .i64 0] := by rw [← hw0]; exact whole_new W _ _ _ rfl
  have hb0 : Below W.heap.size W w0 := by rw [← hw0]; exact (Below.refl _ W).alloc (Nat.le_refl _) _
  have HK := Lib.hid hk0
  have HB := Lib.hid hb0
  have HZ := Lib.hid (hz.below hb0)
  have HM := Lib.hid hm
  have HW0 := Lib.hid hw0
  clear hz hm hw0 hk0 hb0
  cases zs with
  | nil =>
    have hm0 : 0 = m := by simpa using HM.out
    subst hm0
    go_enter Try.func18, Try.ntmps18
    go_wp2_with fail
    rw [HW0.out]
    have z0 := HK.out.cellAt 0
    have z1 := HK.out.cellAt 1
    have z2 := HK.out.cellAt 2
    have z3 := HK.out.cellAt 3
    have z4 := HK.out.cellAt 4
    have z5 := HK.out.cellAt 5
    have y0 := HK.out.free 0
    have y1 := HK.out.free 1
    have y2 := HK.out.free 2
    have y3 := HK.out.free 3
    have y4 := HK.out.free 4
    have y5 := HK.out.free 5
    have lz := HK.out.lt
    go_wp2
    try simp only [Exit.inBlock, Exit.then]
    refine bodyPost_ret (results_sideC (g := W.heap.size) (s := Si.zero) rfl rfl rfl HK.out) rfl ⟨?_, HB.out⟩
    rfl
  | cons a r =>
    have h0' : ((m : Int) == 0) = false := by have := HM.out; simp at this; simp; omega
    have hm1 : 1 ≤ m := by have := HM.out; simp at this; omega
    obtain ⟨zs, hzs⟩ : ∃ zs, zs = a :: r := ⟨_, rfl⟩
    have HH : Hid (zs[0]? = some a) := Lib.hid (by rw [hzs]; rfl)
    have HZS := Lib.hid hzs
    rw [← hzs] at HZ HM ⊢
    clear hzs
    obtain ⟨b, off, cap, hsl, hbl, hcx⟩ : ∃ b off cap, (Value.slice p m c) = .slice (some ⟨b, off, none⟩) m cap ∧ b < w0.heap.size ∧ ∀ j x, zs[j]? = some x → ∀ i v, x.cells[i]? = some v → w0.cell? ⟨b, off + j * 6 + i, none⟩ = some v := by
      obtain ⟨_, ⟨_, _, _, e⟩ | ⟨b, off, cap, e, hb, hc⟩⟩ := HZ.out
      · have := HM.out; rw [e] at this; simp at this; omega
      · rw [HM.out] at e
        refine ⟨b, off, cap, e, hb, fun j x hx i v hv => ?_⟩
        have hj := (List.getElem?_eq_some_iff.1 hx).1
        refine hc j hj i v ?_
        rw [getElem!_pos zs j hj]
        rw [List.getElem?_eq_getElem hj] at hx; injection hx with hx; rw [hx]; exact hv
    injection hsl with h1 h2 h3
    subst h1 h3
    have HBL := Lib.hid hbl
    have HCX : Hid (∀ X, Below w0.heap.size w0 X → ∀ j x, zs[j]? = some x → ∀ i v, x.cells[i]? = some v → X.cell? ⟨b, off + j * 6 + i, none⟩ = some v) := Lib.hid (fun X hX j x hx i v hv => (hX.cell (p := ⟨b, off + j * 6 + i, none⟩) HBL.out).trans (hcx j x hx i v hv))
    clear hcx h2 hbl HZ
    go_enter Try.func18, Try.ntmps18
    go_wp2_with fail
    rw [HW0.out]
    go_wp2
    go_loopw [4, 5] (fun s4 s5 X => ∃ i t : Nat, i ≤ m ∧ t < m ∧ s5 = .int .i64 (i : Int) ∧ s4 = .int .i64 (t : Int) ∧ Hid (Below w0.heap.size w0 X) ∧ Hid ((zs.take i).all rightS = true) ∧ Hid (zs[t]? = some (winF a (zs.take i)))) (fun _ s5 _ => m - (intOf s5).toNat)
    case atStart => exact ⟨0, 0, Nat.zero_le _, by omega, rfl, rfl, Lib.hid (Below.refl _ _), Lib.hid rfl, HH⟩
    case round =>
      obtain ⟨i, t, hi, ht, rfl, rfl, HX, HA, HT⟩ := hrel
      by_cases hlt : i < m
      · have hltz : (i : Int) < (m : Int) := by omega
        have htz : (t : Int) < (m : Int) := by omega
        obtain ⟨x, hx⟩ : ∃ x, zs[i]? = some x := ⟨_, List.getElem?_eq_getElem (by have := HM.out; omega)⟩
        have HXI := Lib.hid hx
        have htk := take_snocC zs i x hx
        obtain ⟨q, hq⟩ : ∃ q, rightS x = q := ⟨_, rfl⟩
        have hrr := fun X => refRight_any x X
        rw [hq] at hrr
        have HTK := Lib.hid htk
        have HQ := Lib.hid hq
        have HXX := Lib.hid hx
        obtain ⟨wn, hwn⟩ : ∃ wn, winF a (zs.take i) = wn := ⟨_, rfl⟩
        rw [hwn] at HT
        have HWN := Lib.hid hwn
        have hww := fun X => refWins_any x wn X
        obtain ⟨d, hd⟩ : ∃ d, decide (cmpS x wn < 0) = d := ⟨_, rfl⟩
        rw [hd] at hww
        have HD := Lib.hid hd
        have HC1 := Lib.hid (fun X hX => HCX.out X hX i x HXI.out)
        have HC2 := Lib.hid (fun X hX => HCX.out X hX t wn HT.out)
        clear hx htk hq hwn hd
        have HXE : Hid (∀ X : Si, X = x → X = x) := Lib.hid fun _ h => h
        obtain ⟨st, wd, co, bb, ro, cl⟩ := x
        obtain ⟨st', wd', co', bb', ro', cl'⟩ := wn
        unfold Si.val at hrr hww
        dsimp only at hrr hww
        have HRR := Lib.hid hrr
        have HWW := Lib.hid hww
        clear hrr hww HXE
        have u0 : wr.cell? ⟨b, off + i * 6, none⟩ = some (.int .i64 st) := HC1.out wr HX.out 0 _ rfl
        have u1 : wr.cell? ⟨b, off + i * 6 + 1, none⟩ = some (.int .i64 wd) := HC1.out wr HX.out 1 _ rfl
        have u2 : wr.cell? ⟨b, off + i * 6 + 2, none⟩ = some (.int .u32 co) := HC1.out wr HX.out 2 _ rfl
        have u3 : wr.cell? ⟨b, off + i * 6 + 3, none⟩ = some (.int .i64 bb) := HC1.out wr HX.out 3 _ rfl
        have u4 : wr.cell? ⟨b, off + i * 6 + 4, none⟩ = some (.int .i64 ro) := HC1.out wr HX.out 4 _ rfl
        have u5 : wr.cell? ⟨b, off + i * 6 + 5, none⟩ = some (.int .i64 cl) := HC1.out wr HX.out 5 _ rfl
        have lX : b < wr.heap.size := Nat.lt_of_lt_of_le HBL.out HX.out.size
        go_wp2_with fail
        refine (HRR.out _).mono ?_
        rintro e w1 ⟨rfl, hb1⟩
        have HX1 := Lib.hid (HX.out.trans (hb1.mono HX.out.size))
        clear hb1 u0 u1 u2 u3 u4 u5 lX HX HRR
        cases q with
        | false =>
          have hk1 := HK.out.below HX1.out HK.out.lt
          have hb1 := HB.out.trans (HX1.out.mono HB.out.size)
          have HKE := Lib.hid hk1
          have HBE := Lib.hid hb1
          have z0 := hk1.cellAt 0
          have z1 := hk1.cellAt 1
          have z2 := hk1.cellAt 2
          have z3 := hk1.cellAt 3
          have z4 := hk1.cellAt 4
          have z5 := hk1.cellAt 5
          have y0 := hk1.free 0
          have y1 := hk1.free 1
          have y2 := hk1.free 2
          have y3 := hk1.free 3
          have y4 := hk1.free 4
          have y5 := hk1.free 5
          have lz := hk1.lt
          clear hk1 hb1
          go_wp2
          have HK2 := Lib.hid ((((((HKE.out.set 0 (.int .i64 0)).set 1 (.int .i64 0)).set 2 (.int .u32 0)).set 3 (.int .i64 0)).set 4 (.int .i64 0)).set 5 (.int .i64 0))
          have HB2 := Lib.hid ((((((HBE.out.setCell (p := ⟨W.heap.size, 0, none⟩) (Nat.le_refl _) (.int .i64 0)).setCell (p := ⟨W.heap.size, 1, none⟩) (Nat.le_refl _) (.int .i64 0)).setCell (p := ⟨W.heap.size, 2, none⟩) (Nat.le_refl _) (.int .u32 0)).setCell (p := ⟨W.heap.size, 3, none⟩) (Nat.le_refl _) (.int .i64 0)).setCell (p := ⟨W.heap.size, 4, none⟩) (Nat.le_refl _) (.int .i64 0)).setCell (p := ⟨W.heap.size, 5, none⟩) (Nat.le_refl _) (.int .i64 0))
          clear z0 z1 z2 z3 z4 z5 y0 y1 y2 y3 y4 y5
          try simp only [Exit.inBlock, Exit.then]
          generalize ((((((w1.setCell ⟨W.heap.size, 0, none⟩ (.int .i64 0)).setCell ⟨W.heap.size, 1, none⟩ (.int .i64 0)).setCell ⟨W.heap.size, 2, none⟩ (.int .u32 0)).setCell ⟨W.heap.size, 3, none⟩ (.int .i64 0)).setCell ⟨W.heap.size, 4, none⟩ (.int .i64 0)).setCell ⟨W.heap.size, 5, none⟩ (.int .i64 0)) = wz at HK2 HB2 ⊢
          refine bodyPost_ret (results_sideC (g := W.heap.size) (s := Si.zero) rfl rfl rfl HK2.out) rfl ⟨?_, HB2.out⟩
          have hall : zs.all rightS = false := by
            cases hq : zs.all rightS with
            | false => rfl
            | true => have := List.all_eq_true.1 hq _ (List.mem_of_getElem? HXX.out); rw [HQ.out] at this; cases this
          rw [winR_none hall]
          rfl
        | true =>
          go_wp2
          refine region_held_atC (S := fun X => Hid (Below w0.heap.size w0 X)) (by kernel_rfl) (fun w5 hw5 => ?_)
          have SV : Hid (Below w0.heap.size w0 w5) := Lib.hid (by rw [← hw5]; exact ⟨HX1.out.os, HX1.out.tape, HX1.out.output, HX1.out.size, HX1.out.block⟩)
          clear hw5
          try simp only [Act.put, List.setIfInBounds_toArray, List.set_cons_succ, List.set_cons_zero]
          refine wpAnyH_takeC (i := 0) (v := .slice (some ⟨b, off, none⟩) m c) (some 26) rfl rfl (by kernel_rfl) (by kernel_rfl) (by kernel_rfl) (fun _ _ _ h => h) (Or.inl ⟨by rfl, fun X hX => by go_simp⟩) SV ?_
          try simp only [Act.put, List.setIfInBounds_toArray, List.set_cons_succ, List.set_cons_zero]
          refine wpAnyH_takeC (i := 1) (v := .int .i64 (i : Int)) (some 27) rfl rfl (by kernel_rfl) (by kernel_rfl) (by kernel_rfl) (fun _ _ _ h => h) (Or.inl ⟨by rfl, fun X hX => by go_simp⟩) SV ?_
          try simp only [Act.put, List.setIfInBounds_toArray, List.set_cons_succ, List.set_cons_zero]
          refine wpAnyH_takeC (i := 2) (v := .pointer (some ⟨b, off + i * 6, none⟩)) (some 28) rfl rfl (by kernel_rfl) (by kernel_rfl) (by kernel_rfl) (fun _ _ _ h => h) (Or.inl ⟨by rfl, fun X hX => by go_simp⟩) SV ?_
          try simp only [Act.put, List.setIfInBounds_toArray, List.set_cons_succ, List.set_cons_zero]
          refine wpAnyH_takeC (i := 3) (v := .agg #[.int .i64 st, .int .i64 wd, .int .u32 co, .int .i64 bb, .int .i64 ro, .int .i64 cl]) (some 29) rfl rfl (by kernel_rfl) (by kernel_rfl) (by kernel_rfl) (fun _ _ _ h => h) (Or.inl ⟨by rfl, fun X hX => by have u0 : X.cell? ⟨b, off + i * 6, none⟩ = some (.int .i64 st) := HC1.out X hX.out 0 _ rfl; have u1 : X.cell? ⟨b, off + i * 6 + 1, none⟩ = some (.int .i64 wd) := HC1.out X hX.out 1 _ rfl; have u2 : X.cell? ⟨b, off + i * 6 + 2, none⟩ = some (.int .u32 co) := HC1.out X hX.out 2 _ rfl; have u3 : X.cell? ⟨b, off + i * 6 + 3, none⟩ = some (.int .i64 bb) := HC1.out X hX.out 3 _ rfl; have u4 : X.cell? ⟨b, off + i * 6 + 4, none⟩ = some (.int .i64 ro) := HC1.out X hX.out 4 _ rfl; have u5 : X.cell? ⟨b, off + i * 6 + 5, none⟩ = some (.int .i64 cl) := HC1.out X hX.out 5 _ rfl; have lX : b < X.heap.size := Nat.lt_of_lt_of_le HBL.out hX.out.size; go_simp⟩) SV ?_
          try simp only [Act.put, List.setIfInBounds_toArray, List.set_cons_succ, List.set_cons_zero]
          refine wpAnyH_takeC (i := 4) (v := .slice (some ⟨b, off, none⟩) m c) (some 30) rfl rfl (by kernel_rfl) (by kernel_rfl) (by kernel_rfl) (fun _ _ _ h => h) (Or.inl ⟨by rfl, fun X hX => by go_simp⟩) SV ?_
          try simp only [Act.put, List.setIfInBounds_toArray, List.set_cons_succ, List.set_cons_zero]
          refine wpAnyH_takeC (i := 5) (v := .int .i64 (t : Int)) (some 31) rfl rfl (by kernel_rfl) (by kernel_rfl) (by kernel_rfl) (fun _ _ _ h => h) (Or.inl ⟨by rfl, fun X hX => by go_simp⟩) SV ?_
          try simp only [Act.put, List.setIfInBounds_toArray, List.set_cons_succ, List.set_cons_zero]
          refine wpAnyH_takeC (i := 6) (v := .pointer (some ⟨b, off + t * 6, none⟩)) (some 32) rfl rfl (by kernel_rfl) (by kernel_rfl) (by kernel_rfl) (fun _ _ _ h => h) (Or.inl ⟨by rfl, fun X hX => by go_simp⟩) SV ?_
          try simp only [Act.put, List.setIfInBounds_toArray, List.set_cons_succ, List.set_cons_zero]
          refine wpAnyH_takeC (i := 7) (v := .agg #[.int .i64 st', .int .i64 wd', .int .u32 co', .int .i64 bb', .int .i64 ro', .int .i64 cl']) (some 33) rfl rfl (by kernel_rfl) (by kernel_rfl) (by kernel_rfl) (fun _ _ _ h => h) (Or.inl ⟨by rfl, fun X hX => by have u0 : X.cell? ⟨b, off + t * 6, none⟩ = some (.int .i64 st') := HC2.out X hX.out 0 _ rfl; have u1 : X.cell? ⟨b, off + t * 6 + 1, none⟩ = some (.int .i64 wd') := HC2.out X hX.out 1 _ rfl; have u2 : X.cell? ⟨b, off + t * 6 + 2, none⟩ = some (.int .u32 co') := HC2.out X hX.out 2 _ rfl; have u3 : X.cell? ⟨b, off + t * 6 + 3, none⟩ = some (.int .i64 bb') := HC2.out X hX.out 3 _ rfl; have u4 : X.cell? ⟨b, off + t * 6 + 4, none⟩ = some (.int .i64 ro') := HC2.out X hX.out 4 _ rfl; have u5 : X.cell? ⟨b, off + t * 6 + 5, none⟩ = some (.int .i64 cl') := HC2.out X hX.out 5 _ rfl; have lX : b < X.heap.size := Nat.lt_of_lt_of_le HBL.out hX.out.size; go_simp⟩) SV ?_

          refine wpAnyH_all (rs := [8]) (by kernel_rfl) (by simp) ?_
          intro ii hii; obtain rfl : ii = 8 := by simpa using hii
          clear hii
          refine wpOp_step rfl (fun K hK => ?_)
          go_simp
          refine (HWW.out _).mono ?_
          rintro e w6 ⟨rfl, hb6⟩
          have HB6 : Hid (Below w0.heap.size w0 w6) := Lib.hid (SV.out.trans (hb6.mono SV.out.size))
          refine hK _ _ ⟨HB6, ?_⟩
          clear hK K hb6 SV
          have SV := HB6
          try simp only [Act.put, List.setIfInBounds_toArray, List.set_cons_succ, List.set_cons_zero]
          refine wpAnyH_takeC (i := 9) (v := .bool d) (some 7) rfl rfl (by kernel_rfl) (by kernel_rfl) (by kernel_rfl) (fun _ _ _ h => h) (Or.inl ⟨by rfl, fun X hX => by go_simp⟩) SV ?_

          try simp only [Act.put, List.setIfInBounds_toArray, List.set_cons_succ, List.set_cons_zero]
          refine wpAnyH_done (by kernel_rfl) ?_ _
          clear SV
          have HAL : Hid ((zs.take (i + 1)).all rightS = true) := Lib.hid (by rw [HTK.out, List.all_append, HA.out]; simp [HQ.out])
          cases d with
          | true =>
            go_wp2
            go_roundw
            case rel => exact ⟨i + 1, i, by omega, hlt, by go_num, rfl, HB6, HAL, Lib.hid (by rw [HTK.out, winF_snoc, HWN.out, if_pos (of_decide_eq_true HD.out)]; exact HXX.out)⟩
            case measure => simp [intOf]; omega
          | false =>
            go_wp2
            go_roundw
            case rel => exact ⟨i + 1, t, by omega, ht, by go_num, rfl, HB6, HAL, Lib.hid (by rw [HTK.out, winF_snoc, HWN.out, if_neg (of_decide_eq_false HD.out)]; exact HT.out)⟩
            case measure => simp [intOf]; omega
      · have hltz : ¬ (i : Int) < (m : Int) := by omega
        have htz : (t : Int) < (m : Int) := by omega
        have hmi : m = i := by omega
        have hall : zs.take i = zs := List.take_of_length_le (by have := HM.out; omega)
        rw [hall] at HA HT
        have hres : winR zs = (winF a r, 0) := by rw [HZS.out] at HA ⊢; exact winR_some HA.out
        have hwf : winF a zs = winF a r := by rw [HZS.out]; exact winF_head a r
        rw [hwf] at HT
        obtain ⟨wn, hwn⟩ : ∃ wn, winF a r = wn := ⟨_, rfl⟩
        rw [hwn] at HT hres
        have HRES := Lib.hid hres
        clear hwn
        have HC2 := Lib.hid (fun X hX => HCX.out X hX t wn HT.out)
        clear hall hres hwf hmi
        obtain ⟨st, wd, co, bb, ro, cl⟩ := wn
        have u0 : wr.cell? ⟨b, off + t * 6, none⟩ = some (.int .i64 st) := HC2.out wr HX.out 0 _ rfl
        have u1 : wr.cell? ⟨b, off + t * 6 + 1, none⟩ = some (.int .i64 wd) := HC2.out wr HX.out 1 _ rfl
        have u2 : wr.cell? ⟨b, off + t * 6 + 2, none⟩ = some (.int .u32 co) := HC2.out wr HX.out 2 _ rfl
        have u3 : wr.cell? ⟨b, off + t * 6 + 3, none⟩ = some (.int .i64 bb) := HC2.out wr HX.out 3 _ rfl
        have u4 : wr.cell? ⟨b, off + t * 6 + 4, none⟩ = some (.int .i64 ro) := HC2.out wr HX.out 4 _ rfl
        have u5 : wr.cell? ⟨b, off + t * 6 + 5, none⟩ = some (.int .i64 cl) := HC2.out wr HX.out 5 _ rfl
        have lX : b < wr.heap.size := Nat.lt_of_lt_of_le HBL.out HX.out.size
        have hk1 := HK.out.below HX.out HK.out.lt
        have hb1 := HB.out.trans (HX.out.mono HB.out.size)
        have HKE := Lib.hid hk1
        have HBE := Lib.hid hb1
        have z0 := hk1.cellAt 0
        have z1 := hk1.cellAt 1
        have z2 := hk1.cellAt 2
        have z3 := hk1.cellAt 3
        have z4 := hk1.cellAt 4
        have z5 := hk1.cellAt 5
        have y0 := hk1.free 0
        have y1 := hk1.free 1
        have y2 := hk1.free 2
        have y3 := hk1.free 3
        have y4 := hk1.free 4
        have y5 := hk1.free 5
        have lz := hk1.lt
        clear hk1 hb1
        go_wp2
        have HK2 := Lib.hid ((((((HKE.out.set 0 (.int .i64 st)).set 1 (.int .i64 wd)).set 2 (.int .u32 co)).set 3 (.int .i64 bb)).set 4 (.int .i64 ro)).set 5 (.int .i64 cl))
        have HB2 := Lib.hid ((((((HBE.out.setCell (p := ⟨W.heap.size, 0, none⟩) (Nat.le_refl _) (.int .i64 st)).setCell (p := ⟨W.heap.size, 1, none⟩) (Nat.le_refl _) (.int .i64 wd)).setCell (p := ⟨W.heap.size, 2, none⟩) (Nat.le_refl _) (.int .u32 co)).setCell (p := ⟨W.heap.size, 3, none⟩) (Nat.le_refl _) (.int .i64 bb)).setCell (p := ⟨W.heap.size, 4, none⟩) (Nat.le_refl _) (.int .i64 ro)).setCell (p := ⟨W.heap.size, 5, none⟩) (Nat.le_refl _) (.int .i64 cl))
        clear z0 z1 z2 z3 z4 z5 y0 y1 y2 y3 y4 y5
        try simp only [Exit.inBlock, Exit.then]
        generalize ((((((wr.setCell ⟨W.heap.size, 0, none⟩ (.int .i64 st)).setCell ⟨W.heap.size, 1, none⟩ (.int .i64 wd)).setCell ⟨W.heap.size, 2, none⟩ (.int .u32 co)).setCell ⟨W.heap.size, 3, none⟩ (.int .i64 bb)).setCell ⟨W.heap.size, 4, none⟩ (.int .i64 ro)).setCell ⟨W.heap.size, 5, none⟩ (.int .i64 cl)) = wz at HK2 HB2 ⊢
        refine bodyPost_ret (results_sideC (g := W.heap.size) (s := ⟨st, wd, co, bb, ro, cl⟩) rfl rfl rfl HK2.out) rfl ⟨?_, HB2.out⟩
        rw [HRES.out]
        rfl
end Go.Proofs.Ytmcgieameodkbaa
