/- The winner is the first of all sorted, and wins against all others, or is the same; none of the sorted wins against the one ahead of it: for all sides (the first sixty). -/
import Derived.Test.YtbhpclligoemcaaRows
import Derived.WalkKit
import Derived.ProofKit
import Derived.OpenShut
import Derived.Below
import Derived.Test.YtbhpclligoemcaaCFirst
import Derived.Test.YtbhpclligoemcaaCOpen
import Derived.ShutString
namespace Go.Proofs.Ytbhpclligoemcaa.contestFirst
open Go.ChangeShapes Go.WideShapes Go.ChangeAt Go.RowKit
set_option linter.unusedVariables false

theorem own : ownKnob Try.prog.godebug = none := by kernel_rfl
theorem laidOut : laidOutB Try.prog = true := by kernel_rfl

set_option maxRecDepth 100000 in
set_option maxHeartbeats 8000000 in
theorem walk (W : World) (a0 : Option Addr) (len0 cap0 : Nat) (z0 : List Si) (w0 : SideRow W a0 len0 cap0 z0) :
    Calls Try.prog 8 #[.slice a0 len0 cap0] W fun e w' => e = .returned (.bool true) ∧ Below W.heap.size W w' := by
  obtain ⟨p, hz, hl, hcap, htop, hcut⟩ := cut_any w0
  have hhue : ∀ x ∈ z0.take 60, x.hue := fun x hx => (w0.1 x (List.mem_of_mem_take hx)).hue
  have hm60 : min len0 60 ≤ 60 := by omega
  have HC := Lib.hid hcut
  generalize min len0 60 = m at *
  generalize z0.take 60 = zs at *
  clear w0 hcut
  have HWl := Lib.hid (fun X (h : Sides X (.slice p m cap0) zs) => winner_any p m cap0 zs X h hl hcap htop hhue)
  have HZ : Hid (Sides W (.slice p m cap0) zs) := Lib.hid hz
  have HS := Lib.hid (fun X => shown_any X)
  have HH := Lib.hid hhue
  have HL := Lib.hid hl
  clear hz hhue hl
  cases hr : zs.all rightS with
  | false =>
    have HS1 := Lib.hid (fun sv X h => sortedS_bad sv zs X h hr)
    rw [winR_none hr] at HWl
    simp only [Si.zero, Si.val] at HWl
    clear hr
    go_enter Try.func8, Try.ntmps8
    go_wp2_with fail
    refine (HS.out _).mono ?_
    rintro e w1 ⟨rfl, hb1⟩
    have HB1 := Lib.hid hb1
    clear hb1
    go_wp2_with fail
    refine (HC.out _).mono ?_
    rintro e w1' ⟨rfl, rfl⟩
    go_wp2_with fail
    refine (HWl.out _ (HZ.out.below HB1.out)).mono ?_
    rintro e w2 ⟨rfl, hb2⟩
    have HB2 := Lib.hid (HB1.out.trans (hb2.mono HB1.out.size))
    clear hb2 HB1 HWl
    obtain ⟨g4, hg4⟩ : ∃ g4, w2.heap.size = g4 := ⟨_, rfl⟩
    have K4 := Lib.hid (whole_new w2 [.int .i64 0, .int .i64 0, .int .u32 0, .int .i64 0, .int .i64 0, .int .i64 0] 26 g4 hg4.symm)
    have HB3 := Lib.hid (HB2.out.alloc HB2.out.size (.cells #[.int .i64 0, .int .i64 0, .int .u32 0, .int .i64 0, .int .i64 0, .int .i64 0] 26))
    have HG4 := Lib.hid hg4
    clear hg4 HB2
    go_wp2_with fail
    refine (HS1.out _ _ (HZ.out.below HB3.out)).mono ?_
    rintro e w4 ⟨rfl, hb4⟩
    have HB4 := Lib.hid (HB3.out.trans (hb4.mono HB3.out.size))
    clear hb4 HS1 HB3
    go_wp2
    go_ret
    exact ⟨by first | rfl | (simp; done), HB4.out⟩
  | true =>
    have HS1 := Lib.hid (fun q d X h => sortedS_good q m d zs X h hr HH.out (by have := HL.out; omega))
    cases zs with
    | nil =>
      have hm0 : m = 0 := by simpa using HL.out.symm
      subst hm0
      simp only [winR, Si.zero, Si.val] at HWl
      clear hr
      go_enter Try.func8, Try.ntmps8
      go_wp2_with fail
      refine (HS.out _).mono ?_
      rintro e w1 ⟨rfl, hb1⟩
      have HB1 := Lib.hid hb1
      clear hb1
      go_wp2_with fail
      refine (HC.out _).mono ?_
      rintro e w1' ⟨rfl, rfl⟩
      go_wp2_with fail
      refine (HWl.out _ (HZ.out.below HB1.out)).mono ?_
      rintro e w2 ⟨rfl, hb2⟩
      have HB2 := Lib.hid (HB1.out.trans (hb2.mono HB1.out.size))
      clear hb2 HB1 HWl
      obtain ⟨g4, hg4⟩ : ∃ g4, w2.heap.size = g4 := ⟨_, rfl⟩
      have K4 := Lib.hid (whole_new w2 [.int .i64 0, .int .i64 0, .int .u32 0, .int .i64 0, .int .i64 0, .int .i64 0] 26 g4 hg4.symm)
      have HB3 := Lib.hid (HB2.out.alloc HB2.out.size (.cells #[.int .i64 0, .int .i64 0, .int .u32 0, .int .i64 0, .int .i64 0, .int .i64 0] 26))
      have HG4 := Lib.hid hg4
      clear hg4 HB2
      go_wp2_with fail
      refine (HS1.out _ _ _ (HZ.out.below HB3.out)).mono ?_
      rintro e w4 ⟨v4, ds, rfl, _, _, hb4⟩
      have HB4 := Lib.hid (HB3.out.trans (hb4.mono HB3.out.size))
      clear hb4 HS1 HB3
      go_wp2
      go_ret
      exact ⟨by first | rfl | (simp; done), HB4.out⟩
    | cons s r =>
      rw [winR_some hr] at HWl
      have HR := Lib.hid (List.all_eq_true.1 hr)
      have HIN : Hid (winF s r ∈ s :: r) := Lib.hid (winF_mem s r)
      have HAG : Hid (∀ x ∈ s :: r, x ≠ winF s r → cmpS (winF s r) x < 0) := Lib.hid (fun x hx hne => win_against hx hne)
      have HHD : Hid (∀ ds, IsSort (s :: r) ds → ds[0]? = some (winF s r)) := Lib.hid (fun ds h => sort_head h)
      have hm0 : 0 < m := by have := HL.out; simp at this; omega
      generalize winF s r = win at *
      generalize s :: r = zs at *
      have HWN := Lib.hid (fun (a b : Si) (ha : a ∈ zs) (hb : b ∈ zs) X => wins_any a b (HH.out a ha) (HH.out b hb) X)
      obtain ⟨st, wd, co, bb, ro, cl⟩ := win
      simp only [Si.val] at HWl
      clear hr
      go_enter Try.func8, Try.ntmps8
      go_wp2_with fail
      refine (HS.out _).mono ?_
      rintro e w1 ⟨rfl, hb1⟩
      have HB1 := Lib.hid hb1
      clear hb1
      go_wp2_with fail
      refine (HC.out _).mono ?_
      rintro e w1' ⟨rfl, rfl⟩
      go_wp2_with fail
      refine (HWl.out _ (HZ.out.below HB1.out)).mono ?_
      rintro e w2 ⟨rfl, hb2⟩
      have HB2 := Lib.hid (HB1.out.trans (hb2.mono HB1.out.size))
      clear hb2 HB1 HWl
      obtain ⟨g4, hg4⟩ : ∃ g4, w2.heap.size = g4 := ⟨_, rfl⟩
      have K4 := Lib.hid (whole_new w2 [.int .i64 st, .int .i64 wd, .int .u32 co, .int .i64 bb, .int .i64 ro, .int .i64 cl] 26 g4 hg4.symm)
      have HB3 := Lib.hid (HB2.out.alloc HB2.out.size (.cells #[.int .i64 st, .int .i64 wd, .int .u32 co, .int .i64 bb, .int .i64 ro, .int .i64 cl] 26))
      have HG4 := Lib.hid hg4
      clear hg4 HB2
      go_wp2_with fail
      refine (HS1.out _ _ _ (HZ.out.below HB3.out)).mono ?_
      rintro e w4 ⟨v4, ds, rfl, hs4, ho4, hb4⟩
      rw [HL.out] at ho4
      obtain ⟨q, c, rfl, hqc, hqx⟩ := own_formC ho4
      have hdl : ds.length = m := hs4.1.length_eq.trans HL.out
      have HB4 := Lib.hid (HB3.out.trans (hb4.mono HB3.out.size))
      have HDS := Lib.hid (own_sidesC (zs := ds) (by rw [hdl]; exact ho4) (by omega))
      have HZ4 := Lib.hid (HZ.out.below HB4.out)
      have K4' := Lib.hid (K4.out.below hb4 K4.out.lt)
      have HI4 := Lib.hid hs4
      have HDL := Lib.hid hdl
      clear hb4 HS1 HB3 K4 ho4 hs4 hdl HZ HS HC
      rw [HG4.out]
      obtain ⟨b0, o0, rfl, hb0, hc0⟩ := HDS.out.at 0 _ (HHD.out ds HI4.out)
      have q0 : w4.cell? ⟨b0, o0, none⟩ = some (.int .i64 st) := by have := hc0 0 _ rfl; simpa using this
      have q1 : w4.cell? ⟨b0, o0 + 1, none⟩ = some (.int .i64 wd) := hc0 1 _ rfl
      have q2 : w4.cell? ⟨b0, o0 + 2, none⟩ = some (.int .u32 co) := hc0 2 _ rfl
      have q3 : w4.cell? ⟨b0, o0 + 3, none⟩ = some (.int .i64 bb) := hc0 3 _ rfl
      have q4 : w4.cell? ⟨b0, o0 + 4, none⟩ = some (.int .i64 ro) := hc0 4 _ rfl
      have q5 : w4.cell? ⟨b0, o0 + 5, none⟩ = some (.int .i64 cl) := hc0 5 _ rfl

      have k0 := K4'.out.cellAt 0
      have k1 := K4'.out.cellAt 1
      have k2 := K4'.out.cellAt 2
      have k3 := K4'.out.cellAt 3
      have k4 := K4'.out.cellAt 4
      have k5 := K4'.out.cellAt 5
      have lk := K4'.out.lt
      simp only [List.getElem?_cons_zero, List.getElem?_cons_succ] at k0 k1 k2 k3 k4 k5
      clear hc0
      go_wp2
      go_quiet (fail)
      go_wp2
      have HDN := Lib.hid (fun X (hX : Below w4.heap.size w4 X) => (K4'.out.below hX K4'.out.lt))
      have HZX := Lib.hid (fun X (hX : Below w4.heap.size w4 X) => (HZ4.out.below hX))
      have HDX := Lib.hid (fun X (hX : Below w4.heap.size w4 X) => (HDS.out.below hX))
      clear q0 q1 q2 q3 q4 q5 k0 k1 k2 k3 k4 k5 lk hb0
      go_loopw [8] (fun s8 X => ∃ k : Nat, k ≤ m ∧ s8 = .int .i64 (k : Int) ∧ Hid (Below w4.heap.size w4 X)) (fun s8 _ => m - (intOf s8).toNat)
      case atStart => exact ⟨0, Nat.zero_le _, rfl, Lib.hid (below_dn _ _ _)⟩
      case round =>
        obtain ⟨k, hk, rfl, HB⟩ := hrel
        by_cases hlt : k < m
        · obtain ⟨x, hx⟩ : ∃ x, zs[k]? = some x := ⟨_, List.getElem?_eq_getElem (by have := HL.out; omega)⟩
          have hxm : x ∈ zs := List.mem_of_getElem? hx
          have hwx := fun X => HWN.out ⟨st, wd, co, bb, ro, cl⟩ x HIN.out hxm X
          rw [winsR_fit (HR.out _ HIN.out) (HR.out _ hxm)] at hwx
          obtain ⟨d, hd⟩ : ∃ d, decide (cmpS ⟨st, wd, co, bb, ro, cl⟩ x < 0) = d := ⟨_, rfl⟩
          rw [hd] at hwx
          have hcase : d = true ∨ (d = false ∧ x = ⟨st, wd, co, bb, ro, cl⟩) := by
            by_cases he : x = ⟨st, wd, co, bb, ro, cl⟩
            · right
              refine ⟨?_, he⟩
              rw [← hd, he]; simp [cmpS_irr]
            · left; rw [← hd]; simp [HAG.out x hxm he]
          have HX := Lib.hid hx
          clear hd hx hxm
          obtain ⟨st', wd', co', bb', ro', cl'⟩ := x
          obtain ⟨b, off, rfl, hbl, hcx⟩ := HZ4.out.at k _ HX.out
          have HCX := Lib.hid (fun X (hX : Below w4.heap.size w4 X) i v hv => (hX.cell (p := ⟨b, off + k * 6 + i, none⟩) hbl).trans (hcx i v hv))
          unfold Si.val at hwx
          dsimp only at hwx
          have HWX := Lib.hid hwx
          have hbX : b < wr.heap.size := by have := HB.out.size; omega
          clear hcx hwx
          go_wp2
          refine region_held_atC (S := fun X => Hid (Below w4.heap.size w4 X)) (by kernel_rfl) (fun w5 hw5 => ?_)
          have SV : Hid (Below w4.heap.size w4 w5) := Lib.hid (by rw [← hw5]; exact ⟨HB.out.os, HB.out.tape, HB.out.output, HB.out.size, HB.out.block⟩)
          clear hw5
          try simp only [Act.put, List.setIfInBounds_toArray, List.set_cons_succ, List.set_cons_zero]
          refine wpAnyH_takeC (i := 0) (v := .agg #[.int .i64 st, .int .i64 wd, .int .u32 co, .int .i64 bb, .int .i64 ro, .int .i64 cl]) (some 62) rfl rfl (by kernel_rfl) (by kernel_rfl) (by kernel_rfl) (fun _ _ _ h => h) (Or.inl ⟨by rfl, fun X hX => by have hkk := HDN.out X hX.out; have k0 := hkk.cellAt 0; have k1 := hkk.cellAt 1; have k2 := hkk.cellAt 2; have k3 := hkk.cellAt 3; have k4 := hkk.cellAt 4; have k5 := hkk.cellAt 5; have lk := hkk.lt; simp only [List.getElem?_cons_zero, List.getElem?_cons_succ] at k0 k1 k2 k3 k4 k5; go_simp⟩) SV ?_
          try simp only [Act.put, List.setIfInBounds_toArray, List.set_cons_succ, List.set_cons_zero]
          refine wpAnyH_takeC (i := 1) (v := .slice (some ⟨b, off, none⟩) m cap0) (some 63) rfl rfl (by kernel_rfl) (by kernel_rfl) (by kernel_rfl) (fun _ _ _ h => h) (Or.inl ⟨by rfl, fun X hX => by go_simp⟩) SV ?_
          try simp only [Act.put, List.setIfInBounds_toArray, List.set_cons_succ, List.set_cons_zero]
          refine wpAnyH_takeC (i := 2) (v := .int .i64 (k : Int)) (some 64) rfl rfl (by kernel_rfl) (by kernel_rfl) (by kernel_rfl) (fun _ _ _ h => h) (Or.inl ⟨by rfl, fun X hX => by go_simp⟩) SV ?_
          try simp only [Act.put, List.setIfInBounds_toArray, List.set_cons_succ, List.set_cons_zero]
          refine wpAnyH_takeC (i := 3) (v := .pointer (some ⟨b, off + k * 6, none⟩)) (some 65) rfl rfl (by kernel_rfl) (by kernel_rfl) (by kernel_rfl) (fun _ _ _ h => h) (Or.inl ⟨by rfl, fun X hX => by go_simp⟩) SV ?_
          try simp only [Act.put, List.setIfInBounds_toArray, List.set_cons_succ, List.set_cons_zero]
          refine wpAnyH_takeC (i := 4) (v := .agg #[.int .i64 st', .int .i64 wd', .int .u32 co', .int .i64 bb', .int .i64 ro', .int .i64 cl']) (some 66) rfl rfl (by kernel_rfl) (by kernel_rfl) (by kernel_rfl) (fun _ _ _ h => h) (Or.inl ⟨by rfl, fun X hX => by have u0 : X.cell? ⟨b, off + k * 6, none⟩ = some (.int .i64 st') := HCX.out X hX.out 0 _ rfl; have u1 : X.cell? ⟨b, off + k * 6 + 1, none⟩ = some (.int .i64 wd') := HCX.out X hX.out 1 _ rfl; have u2 : X.cell? ⟨b, off + k * 6 + 2, none⟩ = some (.int .u32 co') := HCX.out X hX.out 2 _ rfl; have u3 : X.cell? ⟨b, off + k * 6 + 3, none⟩ = some (.int .i64 bb') := HCX.out X hX.out 3 _ rfl; have u4 : X.cell? ⟨b, off + k * 6 + 4, none⟩ = some (.int .i64 ro') := HCX.out X hX.out 4 _ rfl; have u5 : X.cell? ⟨b, off + k * 6 + 5, none⟩ = some (.int .i64 cl') := HCX.out X hX.out 5 _ rfl; have lX : b < X.heap.size := Nat.lt_of_lt_of_le hbl hX.out.size; go_simp⟩) SV ?_
          try simp only [Act.put, List.setIfInBounds_toArray, List.set_cons_succ, List.set_cons_zero]
          refine wpAnyH_all (rs := [5]) (by kernel_rfl) (by simp) ?_
          intro ii hii; obtain rfl : ii = 5 := by simpa using hii
          clear hii
          refine wpOp_step rfl (fun K hK => ?_)
          go_simp
          refine (HWX.out _).mono ?_
          rintro e w6 ⟨rfl, hb6⟩
          have HB6 : Hid (Below w4.heap.size w4 w6) := Lib.hid (SV.out.trans (hb6.mono SV.out.size))
          refine hK _ _ ⟨HB6, ?_⟩
          clear hK K hb6 SV
          have SV := HB6
          try simp only [Act.put, List.setIfInBounds_toArray, List.set_cons_succ, List.set_cons_zero]
          refine wpAnyH_takeC (i := 6) (v := .tuple #[.bool d, .int .i64 0]) (some 61) rfl rfl (by kernel_rfl) (by kernel_rfl) (by kernel_rfl) (fun _ _ _ h => h) (Or.inl ⟨by rfl, fun X hX => by go_simp⟩) SV ?_
          try simp only [Act.put, List.setIfInBounds_toArray, List.set_cons_succ, List.set_cons_zero]
          refine wpAnyH_takeC (i := 7) (v := .bool d) (some 68) rfl rfl (by kernel_rfl) (by kernel_rfl) (by kernel_rfl) (fun _ _ _ h => h) (Or.inl ⟨by rfl, fun X hX => by go_simp⟩) SV ?_
          try simp only [Act.put, List.setIfInBounds_toArray, List.set_cons_succ, List.set_cons_zero]
          refine wpAnyH_takeC (i := 8) (v := .int .i64 0) (some 69) rfl rfl (by kernel_rfl) (by kernel_rfl) (by kernel_rfl) (fun _ _ _ h => h) (Or.inl ⟨by rfl, fun X hX => by go_simp⟩) SV ?_
          try simp only [Act.put, List.setIfInBounds_toArray, List.set_cons_succ, List.set_cons_zero]
          refine wpAnyH_takeC (i := 9) (v := .bool d) (some 9) rfl rfl (by kernel_rfl) (by kernel_rfl) (by kernel_rfl) (fun _ _ _ h => h) (Or.inl ⟨by rfl, fun X hX => by go_simp⟩) SV ?_
          try simp only [Act.put, List.setIfInBounds_toArray, List.set_cons_succ, List.set_cons_zero]
          refine wpAnyH_takeC (i := 10) (v := .int .i64 0) (some 10) rfl rfl (by kernel_rfl) (by kernel_rfl) (by kernel_rfl) (fun _ _ _ h => h) (Or.inl ⟨by rfl, fun X hX => by go_simp⟩) SV ?_
          try simp only [Act.put, List.setIfInBounds_toArray, List.set_cons_succ, List.set_cons_zero]
          refine wpAnyH_done (by kernel_rfl) ?_ _
          clear SV
          have hb6' : b < w6.heap.size := Nat.lt_of_lt_of_le hbl HB6.out.size
          have hkk := HDN.out w6 HB6.out
          have k0 := hkk.cellAt 0
          have k1 := hkk.cellAt 1
          have k2 := hkk.cellAt 2
          have k3 := hkk.cellAt 3
          have k4 := hkk.cellAt 4
          have k5 := hkk.cellAt 5
          have lk := hkk.lt
          simp only [List.getElem?_cons_zero, List.getElem?_cons_succ] at k0 k1 k2 k3 k4 k5
          clear hkk
          have u0 : w6.cell? ⟨b, off + k * 6, none⟩ = some (.int .i64 st') := HCX.out w6 HB6.out 0 _ rfl
          have u1 : w6.cell? ⟨b, off + k * 6 + 1, none⟩ = some (.int .i64 wd') := HCX.out w6 HB6.out 1 _ rfl
          have u2 : w6.cell? ⟨b, off + k * 6 + 2, none⟩ = some (.int .u32 co') := HCX.out w6 HB6.out 2 _ rfl
          have u3 : w6.cell? ⟨b, off + k * 6 + 3, none⟩ = some (.int .i64 bb') := HCX.out w6 HB6.out 3 _ rfl
          have u4 : w6.cell? ⟨b, off + k * 6 + 4, none⟩ = some (.int .i64 ro') := HCX.out w6 HB6.out 4 _ rfl
          have u5 : w6.cell? ⟨b, off + k * 6 + 5, none⟩ = some (.int .i64 cl') := HCX.out w6 HB6.out 5 _ rfl
          rcases hcase with rfl | ⟨rfl, he⟩
          · go_wp2
            go_quiet (fail)
            go_wp2
            go_roundw
            case rel => exact ⟨k + 1, by omega, by go_num, Lib.hid (HB6.out.trans (below_dn _ _ _))⟩
            case measure => simp [intOf]; omega
          · simp only [Si.mk.injEq] at he
            obtain ⟨rfl, rfl, rfl, rfl, rfl, rfl⟩ := he
            go_wp2
            go_quiet (fail)
            go_wp2
            go_roundw
            case rel => exact ⟨k + 1, by omega, by go_num, Lib.hid (HB6.out.trans (below_dn _ _ _))⟩
            case measure => simp [intOf]; omega
        · go_wp2
          go_loopw [11] (fun s11 X => ∃ j : Nat, 1 ≤ j ∧ j ≤ m ∧ s11 = .int .i64 (j : Int) ∧ Hid (Below w4.heap.size w4 X)) (fun s11 _ => m - (intOf s11).toNat)
          case atStart => exact ⟨1, Nat.le_refl _, by omega, rfl, HB⟩
          case round =>
            clear HB
            obtain ⟨j, hj1, hj, rfl, HB⟩ := hrel
            by_cases hjl : j < m
            · obtain ⟨i, hi⟩ : ∃ i, j = i + 1 := ⟨j - 1, by omega⟩
              obtain ⟨x, hx⟩ : ∃ x, ds[j]? = some x := ⟨_, List.getElem?_eq_getElem (by have := HDL.out; omega)⟩
              obtain ⟨y, hy⟩ : ∃ y, ds[i]? = some y := ⟨_, List.getElem?_eq_getElem (by have := HDL.out; omega)⟩
              have hxm : x ∈ zs := HI4.out.1.mem_iff.1 (List.mem_of_getElem? hx)
              have hym : y ∈ zs := HI4.out.1.mem_iff.1 (List.mem_of_getElem? hy)
              have hwx := fun X => HWN.out x y hxm hym X
              rw [winsR_fit (HR.out _ hxm) (HR.out _ hym)] at hwx
              have hd : decide (cmpS x y < 0) = false := by
                have := sort_next HI4.out hy (hi ▸ hx)
                simpa using this
              rw [hd] at hwx
              have hi1 : (j : Int) - 1 = (i : Int) := by omega
              have hij : i < j := by omega
              have HX := Lib.hid hx
              have HY := Lib.hid hy
              clear hd hx hxm hy hym hi
              obtain ⟨st', wd', co', bb', ro', cl'⟩ := x
              obtain ⟨st2, wd2, co2, bb2, ro2, cl2⟩ := y
              obtain ⟨b', off', e1, hbl, hcx⟩ := HDS.out.at j _ HX.out
              injection e1 with e1
              injection e1 with e1 e2
              subst e1 e2
              obtain ⟨b', off', e1, _, hcy⟩ := HDS.out.at i _ HY.out
              injection e1 with e1
              injection e1 with e1 e2
              subst e1 e2
              have HCX := Lib.hid (fun X (hX : Below w4.heap.size w4 X) t v hv => (hX.cell (p := ⟨b0, o0 + j * 6 + t, none⟩) hbl).trans (hcx t v hv))
              have HCY := Lib.hid (fun X (hX : Below w4.heap.size w4 X) t v hv => (hX.cell (p := ⟨b0, o0 + i * 6 + t, none⟩) hbl).trans (hcy t v hv))
              unfold Si.val at hwx
              dsimp only at hwx
              have HWX := Lib.hid hwx
              have hbX : b0 < wr.heap.size := by have := HB.out.size; omega
              clear hcx hcy hwx
              go_wp2
              have hwr : IntKind.i64.wrap (i : Int) = (i : Int) := by simp [IntKind.wrap, IntKind.bits, IntKind.signed]; omega
              refine region_held_atC (S := fun X => Hid (Below w4.heap.size w4 X)) (by kernel_rfl) (fun w5 hw5 => ?_)
              have SV : Hid (Below w4.heap.size w4 w5) := Lib.hid (by rw [← hw5]; exact ⟨HB.out.os, HB.out.tape, HB.out.output, HB.out.size, HB.out.block⟩)
              clear hw5
              try simp only [Act.put, List.setIfInBounds_toArray, List.set_cons_succ, List.set_cons_zero]
              refine wpAnyH_takeC (i := 0) (v := .slice (some ⟨b0, o0, none⟩) m c) (some 91) rfl rfl (by kernel_rfl) (by kernel_rfl) (by kernel_rfl) (fun _ _ _ h => h) (Or.inl ⟨by rfl, fun X hX => by go_simp⟩) SV ?_
              try simp only [Act.put, List.setIfInBounds_toArray, List.set_cons_succ, List.set_cons_zero]
              refine wpAnyH_takeC (i := 1) (v := .int .i64 (j : Int)) (some 92) rfl rfl (by kernel_rfl) (by kernel_rfl) (by kernel_rfl) (fun _ _ _ h => h) (Or.inl ⟨by rfl, fun X hX => by go_simp⟩) SV ?_
              try simp only [Act.put, List.setIfInBounds_toArray, List.set_cons_succ, List.set_cons_zero]
              refine wpAnyH_takeC (i := 2) (v := .pointer (some ⟨b0, o0 + j * 6, none⟩)) (some 93) rfl rfl (by kernel_rfl) (by kernel_rfl) (by kernel_rfl) (fun _ _ _ h => h) (Or.inl ⟨by rfl, fun X hX => by go_simp⟩) SV ?_
              try simp only [Act.put, List.setIfInBounds_toArray, List.set_cons_succ, List.set_cons_zero]
              refine wpAnyH_takeC (i := 3) (v := .agg #[.int .i64 st', .int .i64 wd', .int .u32 co', .int .i64 bb', .int .i64 ro', .int .i64 cl']) (some 94) rfl rfl (by kernel_rfl) (by kernel_rfl) (by kernel_rfl) (fun _ _ _ h => h) (Or.inl ⟨by rfl, fun X hX => by have u0 : X.cell? ⟨b0, o0 + j * 6, none⟩ = some (.int .i64 st') := HCX.out X hX.out 0 _ rfl; have u1 : X.cell? ⟨b0, o0 + j * 6 + 1, none⟩ = some (.int .i64 wd') := HCX.out X hX.out 1 _ rfl; have u2 : X.cell? ⟨b0, o0 + j * 6 + 2, none⟩ = some (.int .u32 co') := HCX.out X hX.out 2 _ rfl; have u3 : X.cell? ⟨b0, o0 + j * 6 + 3, none⟩ = some (.int .i64 bb') := HCX.out X hX.out 3 _ rfl; have u4 : X.cell? ⟨b0, o0 + j * 6 + 4, none⟩ = some (.int .i64 ro') := HCX.out X hX.out 4 _ rfl; have u5 : X.cell? ⟨b0, o0 + j * 6 + 5, none⟩ = some (.int .i64 cl') := HCX.out X hX.out 5 _ rfl; have lX : b0 < X.heap.size := Nat.lt_of_lt_of_le hbl hX.out.size; go_simp⟩) SV ?_
              try simp only [Act.put, List.setIfInBounds_toArray, List.set_cons_succ, List.set_cons_zero]
              refine wpAnyH_takeC (i := 4) (v := .slice (some ⟨b0, o0, none⟩) m c) (some 95) rfl rfl (by kernel_rfl) (by kernel_rfl) (by kernel_rfl) (fun _ _ _ h => h) (Or.inl ⟨by rfl, fun X hX => by go_simp⟩) SV ?_
              try simp only [Act.put, List.setIfInBounds_toArray, List.set_cons_succ, List.set_cons_zero]
              refine wpAnyH_takeC (i := 5) (v := .int .i64 (j : Int)) (some 96) rfl rfl (by kernel_rfl) (by kernel_rfl) (by kernel_rfl) (fun _ _ _ h => h) (Or.inl ⟨by rfl, fun X hX => by go_simp⟩) SV ?_
              try simp only [Act.put, List.setIfInBounds_toArray, List.set_cons_succ, List.set_cons_zero]
              refine wpAnyH_takeC (i := 6) (v := .int .i64 (i : Int)) (some 97) rfl rfl (by kernel_rfl) (by kernel_rfl) (by kernel_rfl) (fun _ _ _ h => h) (Or.inl ⟨by rfl, fun X hX => by go_simp⟩) SV ?_
              try simp only [Act.put, List.setIfInBounds_toArray, List.set_cons_succ, List.set_cons_zero]
              refine wpAnyH_takeC (i := 7) (v := .pointer (some ⟨b0, o0 + i * 6, none⟩)) (some 98) rfl rfl (by kernel_rfl) (by kernel_rfl) (by kernel_rfl) (fun _ _ _ h => h) (Or.inl ⟨by rfl, fun X hX => by have him : i < m := (by omega); go_simp⟩) SV ?_
              try simp only [Act.put, List.setIfInBounds_toArray, List.set_cons_succ, List.set_cons_zero]
              refine wpAnyH_takeC (i := 8) (v := .agg #[.int .i64 st2, .int .i64 wd2, .int .u32 co2, .int .i64 bb2, .int .i64 ro2, .int .i64 cl2]) (some 99) rfl rfl (by kernel_rfl) (by kernel_rfl) (by kernel_rfl) (fun _ _ _ h => h) (Or.inl ⟨by rfl, fun X hX => by have u0 : X.cell? ⟨b0, o0 + i * 6, none⟩ = some (.int .i64 st2) := HCY.out X hX.out 0 _ rfl; have u1 : X.cell? ⟨b0, o0 + i * 6 + 1, none⟩ = some (.int .i64 wd2) := HCY.out X hX.out 1 _ rfl; have u2 : X.cell? ⟨b0, o0 + i * 6 + 2, none⟩ = some (.int .u32 co2) := HCY.out X hX.out 2 _ rfl; have u3 : X.cell? ⟨b0, o0 + i * 6 + 3, none⟩ = some (.int .i64 bb2) := HCY.out X hX.out 3 _ rfl; have u4 : X.cell? ⟨b0, o0 + i * 6 + 4, none⟩ = some (.int .i64 ro2) := HCY.out X hX.out 4 _ rfl; have u5 : X.cell? ⟨b0, o0 + i * 6 + 5, none⟩ = some (.int .i64 cl2) := HCY.out X hX.out 5 _ rfl; have lX : b0 < X.heap.size := Nat.lt_of_lt_of_le hbl hX.out.size; go_simp⟩) SV ?_
              try simp only [Act.put, List.setIfInBounds_toArray, List.set_cons_succ, List.set_cons_zero]
              refine wpAnyH_all (rs := [9]) (by kernel_rfl) (by simp) ?_
              intro ii hii; obtain rfl : ii = 9 := by simpa using hii
              clear hii
              refine wpOp_step rfl (fun K hK => ?_)
              go_simp
              refine (HWX.out _).mono ?_
              rintro e w6 ⟨rfl, hb6⟩
              have HB6 : Hid (Below w4.heap.size w4 w6) := Lib.hid (SV.out.trans (hb6.mono SV.out.size))
              refine hK _ _ ⟨HB6, ?_⟩
              clear hK K hb6 SV
              have SV := HB6
              try simp only [Act.put, List.setIfInBounds_toArray, List.set_cons_succ, List.set_cons_zero]
              refine wpAnyH_takeC (i := 10) (v := .tuple #[.bool false, .int .i64 0]) (some 90) rfl rfl (by kernel_rfl) (by kernel_rfl) (by kernel_rfl) (fun _ _ _ h => h) (Or.inl ⟨by rfl, fun X hX => by go_simp⟩) SV ?_
              try simp only [Act.put, List.setIfInBounds_toArray, List.set_cons_succ, List.set_cons_zero]
              refine wpAnyH_takeC (i := 11) (v := .bool false) (some 101) rfl rfl (by kernel_rfl) (by kernel_rfl) (by kernel_rfl) (fun _ _ _ h => h) (Or.inl ⟨by rfl, fun X hX => by go_simp⟩) SV ?_
              try simp only [Act.put, List.setIfInBounds_toArray, List.set_cons_succ, List.set_cons_zero]
              refine wpAnyH_takeC (i := 12) (v := .int .i64 0) (some 102) rfl rfl (by kernel_rfl) (by kernel_rfl) (by kernel_rfl) (fun _ _ _ h => h) (Or.inl ⟨by rfl, fun X hX => by go_simp⟩) SV ?_
              try simp only [Act.put, List.setIfInBounds_toArray, List.set_cons_succ, List.set_cons_zero]
              refine wpAnyH_takeC (i := 13) (v := .bool false) (some 12) rfl rfl (by kernel_rfl) (by kernel_rfl) (by kernel_rfl) (fun _ _ _ h => h) (Or.inl ⟨by rfl, fun X hX => by go_simp⟩) SV ?_
              try simp only [Act.put, List.setIfInBounds_toArray, List.set_cons_succ, List.set_cons_zero]
              refine wpAnyH_takeC (i := 14) (v := .int .i64 0) (some 13) rfl rfl (by kernel_rfl) (by kernel_rfl) (by kernel_rfl) (fun _ _ _ h => h) (Or.inl ⟨by rfl, fun X hX => by go_simp⟩) SV ?_
              try simp only [Act.put, List.setIfInBounds_toArray, List.set_cons_succ, List.set_cons_zero]
              refine wpAnyH_done (by kernel_rfl) ?_ _
              clear SV hwr hi1
              go_wp2
              go_roundw
              case rel => exact ⟨j + 1, by omega, by omega, by go_num, HB6⟩
              case measure => simp [intOf]; omega
            · go_wp2
              go_ret
              exact ⟨by first | rfl | (simp; done), HB4.out.trans (HB.out.mono HB4.out.size)⟩

set_option maxRecDepth 100000 in
theorem lifted (os : Os) (started : os.Started) (H : Type) (enc : TypeId × Value → H) :
    ReturnsInHanded {} Try.checked os 8 .any (Rows.contestFirstSpec.pre6 enc Try.prog Try.f8 Rows.contestFirstRow.domain false) (Rows.contestFirstSpec.post enc Try.prog Try.f8 false true false false) := by
  refine returnsInHanded_of_change (C := Try.checked) own started (by kernel_rfl) Try.func8
    (ChangeSpec.witness6 (enc := enc) (C := Try.checked) false ⟨#[], #[.slice none 0 0], []⟩ 8 (by kernel_rfl) (by kernel_rfl) (by kernel_rfl) (by kernel_rfl)) ?_
  intro W base args ds gs before hval0 hW hcnd _
  have hval : ∀ (j : Nat) t v, Try.f8.params[j]? = some t → args[j]? = some v → Value.okWide Try.prog W .any base t v := hval0
  have hW' := hW
  obtain ⟨p, q, hA0, hV, rfl, hfz, hnd⟩ := hW
  have hA : DataW.TrodAll enc Try.prog W 0 (fun _ => true) true Try.f8.params.toList args.toList ds p := hA0
  rw [Try.params8] at hA hval
  obtain ⟨v0, vs0, d0, ds0, p0, q0, hargs, rfl, rfl, h0, r0⟩ := trodAll_cons hA
  obtain ⟨rfl, rfl, rfl⟩ := trodAll_nil r0
  obtain rfl : args = #[v0] := by cases args; simp_all
  obtain ⟨rfl, rfl⟩ := trodVars_none hV
  obtain ⟨a0, len0, cap0, rfl⟩ := okWide_slice Try.underlying33 (hval 0 33 v0 rfl rfl)
  have k0 := h0
  have lt0 : ∀ x ∈ p0, x.block < W.heap.size := by obtain ⟨m, hm⟩ := k0; exact DataW.trod_lt m _ _ _ hm
  obtain ⟨z0, w0⟩ : ∃ zs, SideRow W a0 len0 cap0 zs := by
    obtain ⟨fuel, hf⟩ := h0
    exact open_sides (by simpa [Value.cells] using hf)
  clear hA0 hval0
  simp only [List.append_nil] at hW'
  refine (walk W a0 len0 cap0 z0 w0).mono fun e W' ⟨he, hg⟩ => ?_
  subst he
  exact ⟨_, rfl, _, _, _, [], _, [], hW', (trodAll_cons_mk (shut_bool Try.underlying4 _) trodAll_mk0), (trodAll_cons_mk (Below.trod laidOut (by kernel_rfl) (of_decide_eq_true (by kernel_rfl)) k0 hg lt0) trodAll_mk0), rfl, hg.frame _, fun h => by cases h⟩

theorem over : Rows.contestFirstRow.holds Try.pinned (OpenSpec.ofChange Rows.contestFirstSpec) :=
  OpenClaim.holds_of_wide 8 Try.f8 rfl rfl rfl rfl rfl rfl rfl ⟨rfl, rfl, rfl, rfl, rfl⟩ rfl rfl rfl rfl rfl (by kernel_rfl) Try.func8 (by kernel_rfl)
    (of_decide_eq_true (by kernel_rfl)) (by unfold Func.isWrapper; first | (rw [if_pos (by decide +kernel)]; kernel_rfl) | (rw [if_neg (by decide +kernel)]; exact ⟨rfl, rfl⟩))
    (fun os started H enc _ => lifted os started H enc)

/-- the statement -/
theorem proved : Rows.ContestFirstSaid :=
  over
#print axioms proved
end Go.Proofs.Ytbhpclligoemcaa.contestFirst
