/- One side more lets the winner be it, or who it was; a hidden one wins against all that are not: for all sides (the first sixty), every side. -/
import Derived.Test.YtbhpclligoemcaaRows
import Derived.WalkKit
import Derived.ProofKit
import Derived.OpenShut
import Derived.Below
import Derived.Test.YtbhpclligoemcaaCApp
import Derived.Test.YtbhpclligoemcaaCOpen
import Derived.ShutString
namespace Go.Proofs.Ytbhpclligoemcaa.contestMore
open Go.ChangeShapes Go.WideShapes Go.ChangeAt Go.RowKit
set_option linter.unusedVariables false

theorem own : ownKnob Try.prog.godebug = none := by kernel_rfl
theorem laidOut : laidOutB Try.prog = true := by kernel_rfl

set_option maxRecDepth 100000 in
set_option maxHeartbeats 16000000 in
theorem walk (W : World) (a0 : Option Addr) (len0 cap0 : Nat) (z0 : List Si) (w0 : SideRow W a0 len0 cap0 z0) (a1 : Si) (w1 : a1.wf) :
    Calls Try.prog 9 #[.slice a0 len0 cap0, a1.val] W fun e w' => e = .returned (.bool true) ∧ Below W.heap.size W w' := by
  obtain ⟨p, hz, hl, hcap, htop, hcut⟩ := cut_any w0
  have hhue : ∀ x ∈ z0.take 60, x.hue := fun x hx => (w0.1 x (List.mem_of_mem_take hx)).hue
  have hm60 : min len0 60 ≤ 60 := by omega
  have HC := Lib.hid hcut
  generalize min len0 60 = m at *
  generalize z0.take 60 = zs at *
  clear w0 hcut
  have hhue2 : ∀ x ∈ zs ++ [a1], x.hue := fun x hx => by
    rcases List.mem_append.1 hx with h | h
    · exact hhue x h
    · obtain rfl : x = a1 := by simpa using h
      exact w1.hue
  have hls : (zs ++ [a1]).length = m + 1 := by simp [hl]
  have hfs : zs.flatMap Si.cells ++ [a1].flatMap Si.cells = (zs ++ [a1]).flatMap Si.cells := by simp
  have HWl := Lib.hid (fun X (h : Sides X (.slice p m cap0) zs) => winner_any p m cap0 zs X h hl hcap htop hhue)
  have HWS := Lib.hid (fun q c X (h : Sides X (.slice q (m + 1) c) (zs ++ [a1])) h1 h2 => winner_any q (m + 1) c (zs ++ [a1]) X h hls h1 h2 hhue2)
  have hmore := more_facts zs a1
  have e2 : ∀ l : List Si, (winR l).2 = 0 ∨ (winR l).2 = 110 := fun l => by
    cases l with
    | nil => exact .inr rfl
    | cons s r =>
      cases hq : (s :: r).all rightS with
      | true => rw [winR_some hq]; exact .inl rfl
      | false => rw [winR_none hq]; exact .inr rfl
  have he := e2 zs
  have hf := e2 (zs ++ [a1])
  clear e2
  obtain ⟨⟨⟨st, wd, co, bb, ro, cl⟩, e⟩, hw⟩ : ∃ r, winR zs = r := ⟨_, rfl⟩
  obtain ⟨⟨⟨st2, wd2, co2, bb2, ro2, cl2⟩, f⟩, hw2⟩ : ∃ r, winR (zs ++ [a1]) = r := ⟨_, rfl⟩
  rw [hw] at HWl hmore he
  rw [hw2] at HWS hmore hf
  clear hw hw2
  obtain ⟨st', wd', co', bb', ro', cl'⟩ := a1
  simp only [Si.val] at HWl HWS ⊢
  dsimp only at hmore he hf
  have HZ0 : Hid (Sides W (.slice p m cap0) zs) := Lib.hid hz
  have HS := Lib.hid (fun X => shown_any X)
  have HL := Lib.hid hl
  have HLS := Lib.hid hls
  have HFS := Lib.hid hfs
  have HMO := Lib.hid hmore
  have HE := Lib.hid he
  have HF := Lib.hid hf
  clear hz hhue hhue2 hl hls hfs hmore he hf w1
  obtain ⟨zc, hzc, hmk⟩ : ∃ zc : Array Value, zc.size = 61 * 6 ∧ ∀ X : World, (Instr.makeSlice 33 (.int .i64 0) (.int .i64 61)).run Try.prog X = .ok (.slice (some ⟨X.heap.size, 0, none⟩) 0 61) (X.alloc (.cells zc 26)) := by
    obtain ⟨i0, hi, hz0, hz1, hz2⟩ := info_threeC Try.infoSide3
    refine ⟨_, ?_, fun X => run_make (P := Try.prog) X 33 26 i0 _ Try.underlying33 hi hz0 .i64 .i64 0 61 (by omega) (by omega) (by rw [hz2]; omega) (by omega)⟩
    rw [hz1]; simp [madeCells, Value.cells]
  have HZC := Lib.hid hzc
  clear hzc
  have KS0 := whole_new W [.int .i64 st', .int .i64 wd', .int .u32 co', .int .i64 bb', .int .i64 ro', .int .i64 cl'] 26 W.heap.size rfl
  have HB0 : Hid (Below W.heap.size W (W.alloc (.cells #[.int .i64 st', .int .i64 wd', .int .u32 co', .int .i64 bb', .int .i64 ro', .int .i64 cl'] 26))) := Lib.hid ((Below.refl _ W).alloc (Nat.le_refl _) _)
  have HK0 := Lib.hid KS0
  clear KS0
  go_enter Try.func9, Try.ntmps9
  go_wp2_with fail
  refine (HS.out _).mono ?_
  rintro e1 w1 ⟨rfl, hb1⟩
  have HB1 := Lib.hid (HB0.out.trans (hb1.mono HB0.out.size))
  have HK1 := Lib.hid (HK0.out.below hb1 HK0.out.lt)
  clear hb1 HB0 HK0 HS
  go_wp2_with fail
  refine (HC.out _).mono ?_
  rintro e1 w1' ⟨rfl, rfl⟩
  go_wp2_with fail
  refine (HWl.out _ (HZ0.out.below HB1.out)).mono ?_
  rintro e1 w2 ⟨rfl, hb2⟩
  have HB2 := Lib.hid (HB1.out.trans (hb2.mono HB1.out.size))
  have HK2 := Lib.hid (HK1.out.below hb2 HK1.out.lt)
  clear hb2 HB1 HK1 HWl HC
  obtain ⟨g6, hg6⟩ : ∃ g6, w2.heap.size = g6 := ⟨_, rfl⟩
  obtain ⟨W4, hW4⟩ : ∃ W4, w2.alloc (.cells #[.int .i64 st, .int .i64 wd, .int .u32 co, .int .i64 bb, .int .i64 ro, .int .i64 cl] 26) = W4 := ⟨_, rfl⟩
  have HB4 : Hid (Below W.heap.size W W4) := Lib.hid (by rw [← hW4]; exact HB2.out.alloc HB2.out.size _)
  have HK4 : Hid (Whole W4 W.heap.size 26 [.int .i64 st', .int .i64 wd', .int .u32 co', .int .i64 bb', .int .i64 ro', .int .i64 cl']) := Lib.hid (by rw [← hW4]; exact HK2.out.alloc _)
  have HA4 : Hid (Whole W4 g6 26 [.int .i64 st, .int .i64 wd, .int .u32 co, .int .i64 bb, .int .i64 ro, .int .i64 cl]) := Lib.hid (by rw [← hW4]; exact whole_new w2 [.int .i64 st, .int .i64 wd, .int .u32 co, .int .i64 bb, .int .i64 ro, .int .i64 cl] 26 g6 hg6.symm)
  have HZ := Lib.hid (fun X (hX : Below W4.heap.size W4 X) => (HZ0.out.below HB4.out).below hX)
  have HG6 := Lib.hid hg6
  have HW4 := Lib.hid hW4
  clear hg6 hW4 HB2 HK2 HZ0
  go_wp2
  rw [HG6.out, HW4.out]
  clear HG6 HW4
  rename_i KK hKK
  obtain ⟨HT, -⟩ : Hid (∀ (gA : Nat) (x19 x21 x23 x24 : Value) (X : World), Below W4.heap.size W4 X → Whole X gA 26 [.int .i64 st2, .int .i64 wd2, .int .u32 co2, .int .i64 bb2, .int .i64 ro2, .int .i64 cl2] → KK { tmps := #[.slice p m cap0, .agg #[.int .i64 st', .int .i64 wd', .int .u32 co', .int .i64 bb', .int .i64 ro', .int .i64 cl'], undef, .pointer (some ⟨W.heap.size, 0, none⟩), .bool false, .bool true, .pointer (some ⟨g6, 0, none⟩), .int .i64 e, .pointer (some ⟨gA, 0, none⟩), .int .i64 f, .bool true, .slice a0 len0 cap0, .slice p m cap0, .tuple #[.agg #[.int .i64 st, .int .i64 wd, .int .u32 co, .int .i64 bb, .int .i64 ro, .int .i64 cl], .int .i64 e], .slice p m cap0, .tuple #[.agg #[.int .i64 st, .int .i64 wd, .int .u32 co, .int .i64 bb, .int .i64 ro, .int .i64 cl], .int .i64 e], .agg #[.int .i64 st, .int .i64 wd, .int .u32 co, .int .i64 bb, .int .i64 ro, .int .i64 cl], .int .i64 e, .tuple #[.agg #[.int .i64 st2, .int .i64 wd2, .int .u32 co2, .int .i64 bb2, .int .i64 ro2, .int .i64 cl2], .int .i64 f], x19, .slice p m cap0, x21, .agg #[.int .i64 st', .int .i64 wd', .int .u32 co', .int .i64 bb', .int .i64 ro', .int .i64 cl'], x23, x24, .tuple #[.agg #[.int .i64 st2, .int .i64 wd2, .int .u32 co2, .int .i64 bb2, .int .i64 ro2, .int .i64 cl2], .int .i64 f], .agg #[.int .i64 st2, .int .i64 wd2, .int .u32 co2, .int .i64 bb2, .int .i64 ro2, .int .i64 cl2], .int .i64 f, undef, undef, undef, undef, undef, undef, undef, undef, undef, undef, undef, undef, undef, undef, undef, undef, undef, undef, undef, undef, undef, undef, undef, undef, undef, undef, undef, undef, undef, undef, undef, undef, undef], defers := [] } X) ∧ True := ⟨Lib.hid (by
    intro gA x19 x21 x23 x24 X hX hA
    refine hKK _ _ ?_
    clear hKK hmk
    have hS := HK4.out.below hX HK4.out.lt
    have hQ := HA4.out.below hX HA4.out.lt
    have HBX := Lib.hid (HB4.out.trans (hX.mono HB4.out.size))
    have s0 := hS.cellAt 0
    have s1 := hS.cellAt 1
    have s2 := hS.cellAt 2
    have s3 := hS.cellAt 3
    have s4 := hS.cellAt 4
    have s5 := hS.cellAt 5
    have sl := hS.lt
    simp only [List.getElem?_cons_zero, List.getElem?_cons_succ] at s0 s1 s2 s3 s4 s5
    have q0 := hQ.cellAt 0
    have q1 := hQ.cellAt 1
    have q2 := hQ.cellAt 2
    have q3 := hQ.cellAt 3
    have q4 := hQ.cellAt 4
    have q5 := hQ.cellAt 5
    have ql := hQ.lt
    simp only [List.getElem?_cons_zero, List.getElem?_cons_succ] at q0 q1 q2 q3 q4 q5
    have b0 := hA.cellAt 0
    have b1 := hA.cellAt 1
    have b2 := hA.cellAt 2
    have b3 := hA.cellAt 3
    have b4 := hA.cellAt 4
    have b5 := hA.cellAt 5
    have bl := hA.lt
    simp only [List.getElem?_cons_zero, List.getElem?_cons_succ] at b0 b1 b2 b3 b4 b5
    clear hX hS hQ hA
    have he := HE.out
    have hf := HF.out
    clear HE HF
    rcases he with rfl | rfl
    · rcases hf with rfl | rfl
      · rcases HMO.out rfl rfl with h | ⟨h, hn⟩
        · simp only [Si.mk.injEq] at h
          obtain ⟨rfl, rfl, rfl, rfl, rfl, rfl⟩ := h
          clear HMO
          by_cases k1 : st2 = 1
          · have q1 : (st2 == 1) = true := by simpa using k1
            by_cases k2 : st = 1
            · have q2 : (st != 1) = false := by simpa using k2
              clear k1 k2
              go_wp2
              all_goals
                go_ret
                exact ⟨by first | rfl | (simp; done), HBX.out⟩
            · have q2 : (st != 1) = true := by simpa using k2
              clear k1 k2
              go_wp2
              all_goals
                go_ret
                exact ⟨by first | rfl | (simp; done), HBX.out⟩
          · have q1 : (st2 == 1) = false := by simpa using k1
            clear k1
            go_wp2
            all_goals
              go_ret
              exact ⟨by first | rfl | (simp; done), HBX.out⟩
        · simp only [Si.mk.injEq] at h
          obtain ⟨rfl, rfl, rfl, rfl, rfl, rfl⟩ := h
          clear HMO
          by_cases k1 : st' = 1
          · have k2 : st2 = 1 := by
              by_cases k2 : st2 = 1
              · exact k2
              · exact absurd ⟨k1, k2⟩ hn
            have q1 : (st' == 1) = true := by simpa using k1
            have q2 : (st2 != 1) = false := by simpa using k2
            clear k1 k2 hn
            go_wp2
            all_goals
              go_ret
              exact ⟨by first | rfl | (simp; done), HBX.out⟩
          · have q1 : (st' == 1) = false := by simpa using k1
            clear k1 hn
            go_wp2
            all_goals
              go_ret
              exact ⟨by first | rfl | (simp; done), HBX.out⟩
      · go_wp2
        go_ret
        exact ⟨by first | rfl | (simp; done), HBX.out⟩
    · go_wp2
      go_ret
      exact ⟨by first | rfl | (simp; done), HBX.out⟩), trivial⟩
  refine region_held_atC (S := fun X => Hid (Below W4.heap.size W4 X)) (by kernel_rfl) (fun w9 hw9 => ?_)
  obtain ⟨base, hbase⟩ : ∃ base, w9.heap.size = base := ⟨_, rfl⟩
  have SV : Hid (ST W4 base (.slice none 0 0) 0 [] [] w9) := Lib.hid (by
    have hlo : Below W4.heap.size W4 w9 := by rw [← hw9]; exact (Below.refl _ _).drew
    exact ⟨hlo, by rw [← hbase]; exact hlo.size, by omega, World.ownsRow_nil _ _ _ _, fun q hq => by cases hq⟩)
  have m' := hm60
  clear hw9 hbase
  try simp only [Act.put, List.setIfInBounds_toArray, List.set_cons_succ, List.set_cons_zero]
  refine wpAnyH_takeC (i := 1) (v := .slice p m cap0) (some 20) rfl rfl (by kernel_rfl) (by kernel_rfl) (by kernel_rfl) (fun _ _ _ h => h) (Or.inl ⟨by rfl, fun X hX => by go_simp⟩) (Lib.hid SV.out.lo) ?_
  try simp only [Act.put, List.setIfInBounds_toArray, List.set_cons_succ, List.set_cons_zero]
  refine wpAnyH_takeC (i := 3) (v := .agg #[.int .i64 st', .int .i64 wd', .int .u32 co', .int .i64 bb', .int .i64 ro', .int .i64 cl']) (some 22) rfl rfl (by kernel_rfl) (by kernel_rfl) (by kernel_rfl) (fun _ _ _ h => h) (Or.inl ⟨by rfl, fun X hX => by have hkk := HK4.out.below hX.out HK4.out.lt; have k0 := hkk.cellAt 0; have k1 := hkk.cellAt 1; have k2 := hkk.cellAt 2; have k3 := hkk.cellAt 3; have k4 := hkk.cellAt 4; have k5 := hkk.cellAt 5; have lk := hkk.lt; simp only [List.getElem?_cons_zero, List.getElem?_cons_succ] at k0 k1 k2 k3 k4 k5; go_simp⟩) (Lib.hid SV.out.lo) ?_
  try simp only [Act.put, List.setIfInBounds_toArray, List.set_cons_succ, List.set_cons_zero]
  refine wpAnyH_all (rs := [0, 4, 10]) (by kernel_rfl) (by simp) ?_
  intro ii hii
  rcases (show ii = 0 ∨ ii = 4 ∨ ii = 10 by simpa using hii) with rfl | rfl | rfl
  · clear hii
    refine wpOp_step rfl (fun K hK => ?_)
    go_simp
    have SX := Lib.hid (SV.out.made zc 61 HZC.out (by unfold maxLen; omega))
    refine hK _ _ ⟨Lib.hid SX.out.lo, ?_⟩
    clear hK K SV
    obtain ⟨vv, hvv⟩ : ∃ vv, Value.slice (some ⟨(World.heap w9).size, 0, none⟩) 0 61 = vv := ⟨_, rfl⟩
    rw [hvv] at SX ⊢
    clear hvv
    have SV := SX
    clear SX
    generalize World.alloc w9 (.cells zc 26) = x1 at SV ⊢
    try simp only [Act.put, List.setIfInBounds_toArray, List.set_cons_succ, List.set_cons_zero]
    refine wpAnyH_all (rs := [2, 4, 10]) (by kernel_rfl) (by simp) ?_
    intro ii hii
    rcases (show ii = 2 ∨ ii = 4 ∨ ii = 10 by simpa using hii) with rfl | rfl | rfl
    · clear hii
      refine wpOp_step rfl (fun K hK => ?_)
      obtain ⟨v2, x2, hr, ho, hg, hat⟩ := append_sides x1 base 33 vv 0 [] SV.out.own p m cap0 zs (HZ.out _ SV.out.lo) HL.out (by omega) SV.out.hx
      rw [Nat.zero_add, List.nil_append] at ho
      have SX := Lib.hid (SV.out.app ho hg hat)
      refine wp_append_runC (some 21) rfl _ _ _ rfl vv _ v2 rfl rfl hr ?_
      refine hK _ _ ⟨Lib.hid SX.out.lo, ?_⟩
      clear hK K SV hr ho hg hat
      have SV := SX
      clear SX
      try simp only [Act.put, List.setIfInBounds_toArray, List.set_cons_succ, List.set_cons_zero]
      refine wpAnyH_all (rs := [4, 10]) (by kernel_rfl) (by simp) ?_
      intro ii hii
      rcases (show ii = 4 ∨ ii = 10 by simpa using hii) with rfl | rfl
      · clear hii
        refine wpOp_step rfl (fun K hK => ?_)
        go_simp
        have SX := Lib.hid (SV.out.put 26 [.int .i64 st', .int .i64 wd', .int .u32 co', .int .i64 bb', .int .i64 ro', .int .i64 cl'])
        refine hK _ _ ⟨Lib.hid SX.out.lo, ?_⟩
        clear hK K SV
        obtain ⟨gB, hgB⟩ : ∃ gB, (World.heap x2).size = gB := ⟨_, rfl⟩
        rw [hgB] at SX ⊢
        clear hgB
        have SV := SX
        clear SX
        generalize World.alloc x2 _ = x3 at SV ⊢
        try simp only [Act.put, List.setIfInBounds_toArray, List.set_cons_succ, List.set_cons_zero]
        refine wpAnyH_all (rs := [5, 10]) (by kernel_rfl) (by simp) ?_
        intro ii hii
        rcases (show ii = 5 ∨ ii = 10 by simpa using hii) with rfl | rfl
        · clear hii
          refine wpOp_step rfl (fun K hK => ?_)
          have hB := (SV.out.pb (gB, 26, [.int .i64 st', .int .i64 wd', .int .u32 co', .int .i64 bb', .int .i64 ro', .int .i64 cl']) (by simp)).1
          obtain ⟨v3, x4, hr, ho, hg, hat⟩ := append_sides x3 base 33 v2 m _ SV.out.own (some ⟨gB, 0, none⟩) 1 1 [⟨st', wd', co', bb', ro', cl'⟩] (Sides.whole (t := 26) (show Whole _ gB 26 ([⟨st', wd', co', bb', ro', cl'⟩].flatMap Si.cells) from hB) rfl (by omega)) rfl (by omega) SV.out.hx
          have SX := Lib.hid (SV.out.app ho hg hat)
          refine wp_append_runC (some 24) rfl _ _ _ rfl v2 _ v3 rfl rfl hr ?_
          refine hK _ _ ⟨Lib.hid SX.out.lo, ?_⟩
          clear hK K SV hr ho hg hat hB
          have SV := SX
          clear SX
          try simp only [Act.put, List.setIfInBounds_toArray, List.set_cons_succ, List.set_cons_zero]
          refine wpAnyH_all (rs := [6, 10]) (by kernel_rfl) (by simp) ?_
          intro ii hii
          rcases (show ii = 6 ∨ ii = 10 by simpa using hii) with rfl | rfl
          · clear hii
            refine wpOp_step rfl (fun K hK => ?_)
            obtain ⟨q3, c3, hv3, hc3, hx3⟩ := own_formC SV.out.own
            subst hv3
            have hS3 := own_sidesC (zs := zs ++ [⟨st', wd', co', bb', ro', cl'⟩]) (W := x4) (base := base) (by rw [HLS.out, ← HFS.out]; exact SV.out.own) (by rw [HLS.out]; omega)
            go_simp
            refine (HWS.out _ _ _ hS3 hc3 hx3).mono ?_
            rintro e x5 ⟨rfl, hb6⟩
            have SX := Lib.hid (SV.out.below hb6)
            refine hK _ _ ⟨Lib.hid SX.out.lo, ?_⟩
            clear hK K SV hb6 hS3 hc3 hx3
            have SV := SX
            clear SX
            try simp only [Act.put, List.setIfInBounds_toArray, List.set_cons_succ, List.set_cons_zero]
            refine wpAnyH_takeC (i := 7) (v := .tuple #[.agg #[.int .i64 st2, .int .i64 wd2, .int .u32 co2, .int .i64 bb2, .int .i64 ro2, .int .i64 cl2], .int .i64 f]) (some 18) rfl rfl (by kernel_rfl) (by kernel_rfl) (by kernel_rfl) (fun _ _ _ h => h) (Or.inl ⟨by rfl, fun X hX => by go_simp⟩) (Lib.hid SV.out.lo) ?_
            try simp only [Act.put, List.setIfInBounds_toArray, List.set_cons_succ, List.set_cons_zero]
            refine wpAnyH_takeC (i := 8) (v := .agg #[.int .i64 st2, .int .i64 wd2, .int .u32 co2, .int .i64 bb2, .int .i64 ro2, .int .i64 cl2]) (some 26) rfl rfl (by kernel_rfl) (by kernel_rfl) (by kernel_rfl) (fun _ _ _ h => h) (Or.inl ⟨by rfl, fun X hX => by go_simp⟩) (Lib.hid SV.out.lo) ?_
            try simp only [Act.put, List.setIfInBounds_toArray, List.set_cons_succ, List.set_cons_zero]
            refine wpAnyH_takeC (i := 9) (v := .int .i64 f) (some 27) rfl rfl (by kernel_rfl) (by kernel_rfl) (by kernel_rfl) (fun _ _ _ h => h) (Or.inl ⟨by rfl, fun X hX => by go_simp⟩) (Lib.hid SV.out.lo) ?_
            try simp only [Act.put, List.setIfInBounds_toArray, List.set_cons_succ, List.set_cons_zero]
            refine wpAnyH_all (rs := [10]) (by kernel_rfl) (by simp) ?_
            intro ii hii
            obtain rfl : ii = 10 := by simpa using hii
            clear hii
            refine wpOp_step rfl (fun K hK => ?_)
            go_simp
            have SX := Lib.hid (SV.out.put 26 [.int .i64 0, .int .i64 0, .int .u32 0, .int .i64 0, .int .i64 0, .int .i64 0])
            have LgA : Hid (W4.heap.size ≤ (World.heap x5).size) := Lib.hid SV.out.lo.size
            refine hK _ _ ⟨Lib.hid SX.out.lo, ?_⟩
            clear hK K SV
            obtain ⟨gA, hgA⟩ : ∃ gA, (World.heap x5).size = gA := ⟨_, rfl⟩
            rw [hgA] at SX LgA ⊢
            clear hgA
            have SV := SX
            clear SX
            generalize World.alloc x5 _ = x6 at SV ⊢
            try simp only [Act.put, List.setIfInBounds_toArray, List.set_cons_succ, List.set_cons_zero]
            have hA := (SV.out.pb (gA, 26, [.int .i64 0, .int .i64 0, .int .u32 0, .int .i64 0, .int .i64 0, .int .i64 0]) (by simp)).1
            have hlA := (SV.out.lo)
            refine wpAnyH_all (rs := [11]) (by kernel_rfl) (by simp) ?_
            intro ii hii; obtain rfl : ii = 11 := by simpa using hii
            clear hii
            refine wpOp_step rfl (fun K hK => ?_)
            refine wp_store_rowC rfl 26 (.tmp 8) (.tmp 26) rfl gA #[.int .i64 st2, .int .i64 wd2, .int .u32 co2, .int .i64 bb2, .int .i64 ro2, .int .i64 cl2] rfl rfl 26 #[.int .i64 0, .int .i64 0, .int .u32 0, .int .i64 0, .int .i64 0, .int .i64 0] hA Try.infoSide rfl (Si.cells_one ⟨st2, wd2, co2, bb2, ro2, cl2⟩) ?_
            have KA := Lib.hid (whole_rowA hA #[.int .i64 st2, .int .i64 wd2, .int .u32 co2, .int .i64 bb2, .int .i64 ro2, .int .i64 cl2])
            have hgA4 : W4.heap.size ≤ gA := LgA.out
            have SX : Hid (Below W4.heap.size W4 (World.setRow _ gA #[.int .i64 st2, .int .i64 wd2, .int .u32 co2, .int .i64 bb2, .int .i64 ro2, .int .i64 cl2])) := Lib.hid ⟨SV.out.lo.os, SV.out.lo.tape, SV.out.lo.output, by simp; exact SV.out.lo.size, fun k hk => (setRow_other _ gA k _ (by omega)).trans (SV.out.lo.block k hk)⟩
            refine hK _ _ ⟨SX, ?_⟩
            clear hK K SV hA hlA
            try simp only [Act.put, List.setIfInBounds_toArray, List.set_cons_succ, List.set_cons_zero]
            generalize World.setRow _ gA #[.int .i64 st2, .int .i64 wd2, .int .u32 co2, .int .i64 bb2, .int .i64 ro2, .int .i64 cl2] = w9z at KA SX ⊢
            refine wpAnyH_takeC (i := 12) (v := .int .i64 f) (some 9) rfl rfl (by kernel_rfl) (by kernel_rfl) (by kernel_rfl) (fun _ _ _ h => h) (Or.inl ⟨by rfl, fun X hX => by go_simp⟩) SX ?_
            try simp only [Act.put, List.setIfInBounds_toArray, List.set_cons_succ, List.set_cons_zero]
            refine wpAnyH_done (by kernel_rfl) ?_ _
            simp only [Exit.then]
            exact HT.out gA _ _ _ _ _ SX.out KA.out
          · clear hii
            refine wpOp_step rfl (fun K hK => ?_)
            go_simp
            have SX := Lib.hid (SV.out.put 26 [.int .i64 0, .int .i64 0, .int .u32 0, .int .i64 0, .int .i64 0, .int .i64 0])
            have LgA : Hid (W4.heap.size ≤ (World.heap x4).size) := Lib.hid SV.out.lo.size
            refine hK _ _ ⟨Lib.hid SX.out.lo, ?_⟩
            clear hK K SV
            obtain ⟨gA, hgA⟩ : ∃ gA, (World.heap x4).size = gA := ⟨_, rfl⟩
            rw [hgA] at SX LgA ⊢
            clear hgA
            have SV := SX
            clear SX
            generalize World.alloc x4 _ = x7 at SV ⊢
            try simp only [Act.put, List.setIfInBounds_toArray, List.set_cons_succ, List.set_cons_zero]
            refine wpAnyH_all (rs := [6]) (by kernel_rfl) (by simp) ?_
            intro ii hii
            obtain rfl : ii = 6 := by simpa using hii
            clear hii
            refine wpOp_step rfl (fun K hK => ?_)
            obtain ⟨q3, c3, hv3, hc3, hx3⟩ := own_formC SV.out.own
            subst hv3
            have hS3 := own_sidesC (zs := zs ++ [⟨st', wd', co', bb', ro', cl'⟩]) (W := x7) (base := base) (by rw [HLS.out, ← HFS.out]; exact SV.out.own) (by rw [HLS.out]; omega)
            go_simp
            refine (HWS.out _ _ _ hS3 hc3 hx3).mono ?_
            rintro e x8 ⟨rfl, hb6⟩
            have SX := Lib.hid (SV.out.below hb6)
            refine hK _ _ ⟨Lib.hid SX.out.lo, ?_⟩
            clear hK K SV hb6 hS3 hc3 hx3
            have SV := SX
            clear SX
            try simp only [Act.put, List.setIfInBounds_toArray, List.set_cons_succ, List.set_cons_zero]
            refine wpAnyH_takeC (i := 7) (v := .tuple #[.agg #[.int .i64 st2, .int .i64 wd2, .int .u32 co2, .int .i64 bb2, .int .i64 ro2, .int .i64 cl2], .int .i64 f]) (some 18) rfl rfl (by kernel_rfl) (by kernel_rfl) (by kernel_rfl) (fun _ _ _ h => h) (Or.inl ⟨by rfl, fun X hX => by go_simp⟩) (Lib.hid SV.out.lo) ?_
            try simp only [Act.put, List.setIfInBounds_toArray, List.set_cons_succ, List.set_cons_zero]
            refine wpAnyH_takeC (i := 8) (v := .agg #[.int .i64 st2, .int .i64 wd2, .int .u32 co2, .int .i64 bb2, .int .i64 ro2, .int .i64 cl2]) (some 26) rfl rfl (by kernel_rfl) (by kernel_rfl) (by kernel_rfl) (fun _ _ _ h => h) (Or.inl ⟨by rfl, fun X hX => by go_simp⟩) (Lib.hid SV.out.lo) ?_
            try simp only [Act.put, List.setIfInBounds_toArray, List.set_cons_succ, List.set_cons_zero]
            refine wpAnyH_takeC (i := 9) (v := .int .i64 f) (some 27) rfl rfl (by kernel_rfl) (by kernel_rfl) (by kernel_rfl) (fun _ _ _ h => h) (Or.inl ⟨by rfl, fun X hX => by go_simp⟩) (Lib.hid SV.out.lo) ?_
            try simp only [Act.put, List.setIfInBounds_toArray, List.set_cons_succ, List.set_cons_zero]
            have hA := (SV.out.pb (gA, 26, [.int .i64 0, .int .i64 0, .int .u32 0, .int .i64 0, .int .i64 0, .int .i64 0]) (by simp)).1
            have hlA := (SV.out.lo)
            refine wpAnyH_all (rs := [11]) (by kernel_rfl) (by simp) ?_
            intro ii hii; obtain rfl : ii = 11 := by simpa using hii
            clear hii
            refine wpOp_step rfl (fun K hK => ?_)
            refine wp_store_rowC rfl 26 (.tmp 8) (.tmp 26) rfl gA #[.int .i64 st2, .int .i64 wd2, .int .u32 co2, .int .i64 bb2, .int .i64 ro2, .int .i64 cl2] rfl rfl 26 #[.int .i64 0, .int .i64 0, .int .u32 0, .int .i64 0, .int .i64 0, .int .i64 0] hA Try.infoSide rfl (Si.cells_one ⟨st2, wd2, co2, bb2, ro2, cl2⟩) ?_
            have KA := Lib.hid (whole_rowA hA #[.int .i64 st2, .int .i64 wd2, .int .u32 co2, .int .i64 bb2, .int .i64 ro2, .int .i64 cl2])
            have hgA4 : W4.heap.size ≤ gA := LgA.out
            have SX : Hid (Below W4.heap.size W4 (World.setRow _ gA #[.int .i64 st2, .int .i64 wd2, .int .u32 co2, .int .i64 bb2, .int .i64 ro2, .int .i64 cl2])) := Lib.hid ⟨SV.out.lo.os, SV.out.lo.tape, SV.out.lo.output, by simp; exact SV.out.lo.size, fun k hk => (setRow_other _ gA k _ (by omega)).trans (SV.out.lo.block k hk)⟩
            refine hK _ _ ⟨SX, ?_⟩
            clear hK K SV hA hlA
            try simp only [Act.put, List.setIfInBounds_toArray, List.set_cons_succ, List.set_cons_zero]
            generalize World.setRow _ gA #[.int .i64 st2, .int .i64 wd2, .int .u32 co2, .int .i64 bb2, .int .i64 ro2, .int .i64 cl2] = w9z at KA SX ⊢
            refine wpAnyH_takeC (i := 12) (v := .int .i64 f) (some 9) rfl rfl (by kernel_rfl) (by kernel_rfl) (by kernel_rfl) (fun _ _ _ h => h) (Or.inl ⟨by rfl, fun X hX => by go_simp⟩) SX ?_
            try simp only [Act.put, List.setIfInBounds_toArray, List.set_cons_succ, List.set_cons_zero]
            refine wpAnyH_done (by kernel_rfl) ?_ _
            simp only [Exit.then]
            exact HT.out gA _ _ _ _ _ SX.out KA.out
        · clear hii
          refine wpOp_step rfl (fun K hK => ?_)
          go_simp
          have SX := Lib.hid (SV.out.put 26 [.int .i64 0, .int .i64 0, .int .u32 0, .int .i64 0, .int .i64 0, .int .i64 0])
          have LgA : Hid (W4.heap.size ≤ (World.heap x3).size) := Lib.hid SV.out.lo.size
          refine hK _ _ ⟨Lib.hid SX.out.lo, ?_⟩
          clear hK K SV
          obtain ⟨gA, hgA⟩ : ∃ gA, (World.heap x3).size = gA := ⟨_, rfl⟩
          rw [hgA] at SX LgA ⊢
          clear hgA
          have SV := SX
          clear SX
          generalize World.alloc x3 _ = x9 at SV ⊢
          try simp only [Act.put, List.setIfInBounds_toArray, List.set_cons_succ, List.set_cons_zero]
          refine wpAnyH_all (rs := [5]) (by kernel_rfl) (by simp) ?_
          intro ii hii
          obtain rfl : ii = 5 := by simpa using hii
          clear hii
          refine wpOp_step rfl (fun K hK => ?_)
          have hB := (SV.out.pb (gB, 26, [.int .i64 st', .int .i64 wd', .int .u32 co', .int .i64 bb', .int .i64 ro', .int .i64 cl']) (by simp)).1
          obtain ⟨v3, x10, hr, ho, hg, hat⟩ := append_sides x9 base 33 v2 m _ SV.out.own (some ⟨gB, 0, none⟩) 1 1 [⟨st', wd', co', bb', ro', cl'⟩] (Sides.whole (t := 26) (show Whole _ gB 26 ([⟨st', wd', co', bb', ro', cl'⟩].flatMap Si.cells) from hB) rfl (by omega)) rfl (by omega) SV.out.hx
          have SX := Lib.hid (SV.out.app ho hg hat)
          refine wp_append_runC (some 24) rfl _ _ _ rfl v2 _ v3 rfl rfl hr ?_
          refine hK _ _ ⟨Lib.hid SX.out.lo, ?_⟩
          clear hK K SV hr ho hg hat hB
          have SV := SX
          clear SX
          try simp only [Act.put, List.setIfInBounds_toArray, List.set_cons_succ, List.set_cons_zero]
          refine wpAnyH_all (rs := [6]) (by kernel_rfl) (by simp) ?_
          intro ii hii
          obtain rfl : ii = 6 := by simpa using hii
          clear hii
          refine wpOp_step rfl (fun K hK => ?_)
          obtain ⟨q3, c3, hv3, hc3, hx3⟩ := own_formC SV.out.own
          subst hv3
          have hS3 := own_sidesC (zs := zs ++ [⟨st', wd', co', bb', ro', cl'⟩]) (W := x10) (base := base) (by rw [HLS.out, ← HFS.out]; exact SV.out.own) (by rw [HLS.out]; omega)
          go_simp
          refine (HWS.out _ _ _ hS3 hc3 hx3).mono ?_
          rintro e x11 ⟨rfl, hb6⟩
          have SX := Lib.hid (SV.out.below hb6)
          refine hK _ _ ⟨Lib.hid SX.out.lo, ?_⟩
          clear hK K SV hb6 hS3 hc3 hx3
          have SV := SX
          clear SX
          try simp only [Act.put, List.setIfInBounds_toArray, List.set_cons_succ, List.set_cons_zero]
          refine wpAnyH_takeC (i := 7) (v := .tuple #[.agg #[.int .i64 st2, .int .i64 wd2, .int .u32 co2, .int .i64 bb2, .int .i64 ro2, .int .i64 cl2], .int .i64 f]) (some 18) rfl rfl (by kernel_rfl) (by kernel_rfl) (by kernel_rfl) (fun _ _ _ h => h) (Or.inl ⟨by rfl, fun X hX => by go_simp⟩) (Lib.hid SV.out.lo) ?_
          try simp only [Act.put, List.setIfInBounds_toArray, List.set_cons_succ, List.set_cons_zero]
          refine wpAnyH_takeC (i := 8) (v := .agg #[.int .i64 st2, .int .i64 wd2, .int .u32 co2, .int .i64 bb2, .int .i64 ro2, .int .i64 cl2]) (some 26) rfl rfl (by kernel_rfl) (by kernel_rfl) (by kernel_rfl) (fun _ _ _ h => h) (Or.inl ⟨by rfl, fun X hX => by go_simp⟩) (Lib.hid SV.out.lo) ?_
          try simp only [Act.put, List.setIfInBounds_toArray, List.set_cons_succ, List.set_cons_zero]
          refine wpAnyH_takeC (i := 9) (v := .int .i64 f) (some 27) rfl rfl (by kernel_rfl) (by kernel_rfl) (by kernel_rfl) (fun _ _ _ h => h) (Or.inl ⟨by rfl, fun X hX => by go_simp⟩) (Lib.hid SV.out.lo) ?_
          try simp only [Act.put, List.setIfInBounds_toArray, List.set_cons_succ, List.set_cons_zero]
          have hA := (SV.out.pb (gA, 26, [.int .i64 0, .int .i64 0, .int .u32 0, .int .i64 0, .int .i64 0, .int .i64 0]) (by simp)).1
          have hlA := (SV.out.lo)
          refine wpAnyH_all (rs := [11]) (by kernel_rfl) (by simp) ?_
          intro ii hii; obtain rfl : ii = 11 := by simpa using hii
          clear hii
          refine wpOp_step rfl (fun K hK => ?_)
          refine wp_store_rowC rfl 26 (.tmp 8) (.tmp 26) rfl gA #[.int .i64 st2, .int .i64 wd2, .int .u32 co2, .int .i64 bb2, .int .i64 ro2, .int .i64 cl2] rfl rfl 26 #[.int .i64 0, .int .i64 0, .int .u32 0, .int .i64 0, .int .i64 0, .int .i64 0] hA Try.infoSide rfl (Si.cells_one ⟨st2, wd2, co2, bb2, ro2, cl2⟩) ?_
          have KA := Lib.hid (whole_rowA hA #[.int .i64 st2, .int .i64 wd2, .int .u32 co2, .int .i64 bb2, .int .i64 ro2, .int .i64 cl2])
          have hgA4 : W4.heap.size ≤ gA := LgA.out
          have SX : Hid (Below W4.heap.size W4 (World.setRow _ gA #[.int .i64 st2, .int .i64 wd2, .int .u32 co2, .int .i64 bb2, .int .i64 ro2, .int .i64 cl2])) := Lib.hid ⟨SV.out.lo.os, SV.out.lo.tape, SV.out.lo.output, by simp; exact SV.out.lo.size, fun k hk => (setRow_other _ gA k _ (by omega)).trans (SV.out.lo.block k hk)⟩
          refine hK _ _ ⟨SX, ?_⟩
          clear hK K SV hA hlA
          try simp only [Act.put, List.setIfInBounds_toArray, List.set_cons_succ, List.set_cons_zero]
          generalize World.setRow _ gA #[.int .i64 st2, .int .i64 wd2, .int .u32 co2, .int .i64 bb2, .int .i64 ro2, .int .i64 cl2] = w9z at KA SX ⊢
          refine wpAnyH_takeC (i := 12) (v := .int .i64 f) (some 9) rfl rfl (by kernel_rfl) (by kernel_rfl) (by kernel_rfl) (fun _ _ _ h => h) (Or.inl ⟨by rfl, fun X hX => by go_simp⟩) SX ?_
          try simp only [Act.put, List.setIfInBounds_toArray, List.set_cons_succ, List.set_cons_zero]
          refine wpAnyH_done (by kernel_rfl) ?_ _
          simp only [Exit.then]
          exact HT.out gA _ _ _ _ _ SX.out KA.out
      · clear hii
        refine wpOp_step rfl (fun K hK => ?_)
        go_simp
        have SX := Lib.hid (SV.out.put 26 [.int .i64 0, .int .i64 0, .int .u32 0, .int .i64 0, .int .i64 0, .int .i64 0])
        have LgA : Hid (W4.heap.size ≤ (World.heap x2).size) := Lib.hid SV.out.lo.size
        refine hK _ _ ⟨Lib.hid SX.out.lo, ?_⟩
        clear hK K SV
        obtain ⟨gA, hgA⟩ : ∃ gA, (World.heap x2).size = gA := ⟨_, rfl⟩
        rw [hgA] at SX LgA ⊢
        clear hgA
        have SV := SX
        clear SX
        generalize World.alloc x2 _ = x12 at SV ⊢
        try simp only [Act.put, List.setIfInBounds_toArray, List.set_cons_succ, List.set_cons_zero]
        refine wpAnyH_all (rs := [4]) (by kernel_rfl) (by simp) ?_
        intro ii hii
        obtain rfl : ii = 4 := by simpa using hii
        clear hii
        refine wpOp_step rfl (fun K hK => ?_)
        go_simp
        have SX := Lib.hid (SV.out.put 26 [.int .i64 st', .int .i64 wd', .int .u32 co', .int .i64 bb', .int .i64 ro', .int .i64 cl'])
        refine hK _ _ ⟨Lib.hid SX.out.lo, ?_⟩
        clear hK K SV
        obtain ⟨gB, hgB⟩ : ∃ gB, (World.heap x12).size = gB := ⟨_, rfl⟩
        rw [hgB] at SX ⊢
        clear hgB
        have SV := SX
        clear SX
        generalize World.alloc x12 _ = x13 at SV ⊢
        try simp only [Act.put, List.setIfInBounds_toArray, List.set_cons_succ, List.set_cons_zero]
        refine wpAnyH_all (rs := [5]) (by kernel_rfl) (by simp) ?_
        intro ii hii
        obtain rfl : ii = 5 := by simpa using hii
        clear hii
        refine wpOp_step rfl (fun K hK => ?_)
        have hB := (SV.out.pb (gB, 26, [.int .i64 st', .int .i64 wd', .int .u32 co', .int .i64 bb', .int .i64 ro', .int .i64 cl']) (by simp)).1
        obtain ⟨v3, x14, hr, ho, hg, hat⟩ := append_sides x13 base 33 v2 m _ SV.out.own (some ⟨gB, 0, none⟩) 1 1 [⟨st', wd', co', bb', ro', cl'⟩] (Sides.whole (t := 26) (show Whole _ gB 26 ([⟨st', wd', co', bb', ro', cl'⟩].flatMap Si.cells) from hB) rfl (by omega)) rfl (by omega) SV.out.hx
        have SX := Lib.hid (SV.out.app ho hg hat)
        refine wp_append_runC (some 24) rfl _ _ _ rfl v2 _ v3 rfl rfl hr ?_
        refine hK _ _ ⟨Lib.hid SX.out.lo, ?_⟩
        clear hK K SV hr ho hg hat hB
        have SV := SX
        clear SX
        try simp only [Act.put, List.setIfInBounds_toArray, List.set_cons_succ, List.set_cons_zero]
        refine wpAnyH_all (rs := [6]) (by kernel_rfl) (by simp) ?_
        intro ii hii
        obtain rfl : ii = 6 := by simpa using hii
        clear hii
        refine wpOp_step rfl (fun K hK => ?_)
        obtain ⟨q3, c3, hv3, hc3, hx3⟩ := own_formC SV.out.own
        subst hv3
        have hS3 := own_sidesC (zs := zs ++ [⟨st', wd', co', bb', ro', cl'⟩]) (W := x14) (base := base) (by rw [HLS.out, ← HFS.out]; exact SV.out.own) (by rw [HLS.out]; omega)
        go_simp
        refine (HWS.out _ _ _ hS3 hc3 hx3).mono ?_
        rintro e x15 ⟨rfl, hb6⟩
        have SX := Lib.hid (SV.out.below hb6)
        refine hK _ _ ⟨Lib.hid SX.out.lo, ?_⟩
        clear hK K SV hb6 hS3 hc3 hx3
        have SV := SX
        clear SX
        try simp only [Act.put, List.setIfInBounds_toArray, List.set_cons_succ, List.set_cons_zero]
        refine wpAnyH_takeC (i := 7) (v := .tuple #[.agg #[.int .i64 st2, .int .i64 wd2, .int .u32 co2, .int .i64 bb2, .int .i64 ro2, .int .i64 cl2], .int .i64 f]) (some 18) rfl rfl (by kernel_rfl) (by kernel_rfl) (by kernel_rfl) (fun _ _ _ h => h) (Or.inl ⟨by rfl, fun X hX => by go_simp⟩) (Lib.hid SV.out.lo) ?_
        try simp only [Act.put, List.setIfInBounds_toArray, List.set_cons_succ, List.set_cons_zero]
        refine wpAnyH_takeC (i := 8) (v := .agg #[.int .i64 st2, .int .i64 wd2, .int .u32 co2, .int .i64 bb2, .int .i64 ro2, .int .i64 cl2]) (some 26) rfl rfl (by kernel_rfl) (by kernel_rfl) (by kernel_rfl) (fun _ _ _ h => h) (Or.inl ⟨by rfl, fun X hX => by go_simp⟩) (Lib.hid SV.out.lo) ?_
        try simp only [Act.put, List.setIfInBounds_toArray, List.set_cons_succ, List.set_cons_zero]
        refine wpAnyH_takeC (i := 9) (v := .int .i64 f) (some 27) rfl rfl (by kernel_rfl) (by kernel_rfl) (by kernel_rfl) (fun _ _ _ h => h) (Or.inl ⟨by rfl, fun X hX => by go_simp⟩) (Lib.hid SV.out.lo) ?_
        try simp only [Act.put, List.setIfInBounds_toArray, List.set_cons_succ, List.set_cons_zero]
        have hA := (SV.out.pb (gA, 26, [.int .i64 0, .int .i64 0, .int .u32 0, .int .i64 0, .int .i64 0, .int .i64 0]) (by simp)).1
        have hlA := (SV.out.lo)
        refine wpAnyH_all (rs := [11]) (by kernel_rfl) (by simp) ?_
        intro ii hii; obtain rfl : ii = 11 := by simpa using hii
        clear hii
        refine wpOp_step rfl (fun K hK => ?_)
        refine wp_store_rowC rfl 26 (.tmp 8) (.tmp 26) rfl gA #[.int .i64 st2, .int .i64 wd2, .int .u32 co2, .int .i64 bb2, .int .i64 ro2, .int .i64 cl2] rfl rfl 26 #[.int .i64 0, .int .i64 0, .int .u32 0, .int .i64 0, .int .i64 0, .int .i64 0] hA Try.infoSide rfl (Si.cells_one ⟨st2, wd2, co2, bb2, ro2, cl2⟩) ?_
        have KA := Lib.hid (whole_rowA hA #[.int .i64 st2, .int .i64 wd2, .int .u32 co2, .int .i64 bb2, .int .i64 ro2, .int .i64 cl2])
        have hgA4 : W4.heap.size ≤ gA := LgA.out
        have SX : Hid (Below W4.heap.size W4 (World.setRow _ gA #[.int .i64 st2, .int .i64 wd2, .int .u32 co2, .int .i64 bb2, .int .i64 ro2, .int .i64 cl2])) := Lib.hid ⟨SV.out.lo.os, SV.out.lo.tape, SV.out.lo.output, by simp; exact SV.out.lo.size, fun k hk => (setRow_other _ gA k _ (by omega)).trans (SV.out.lo.block k hk)⟩
        refine hK _ _ ⟨SX, ?_⟩
        clear hK K SV hA hlA
        try simp only [Act.put, List.setIfInBounds_toArray, List.set_cons_succ, List.set_cons_zero]
        generalize World.setRow _ gA #[.int .i64 st2, .int .i64 wd2, .int .u32 co2, .int .i64 bb2, .int .i64 ro2, .int .i64 cl2] = w9z at KA SX ⊢
        refine wpAnyH_takeC (i := 12) (v := .int .i64 f) (some 9) rfl rfl (by kernel_rfl) (by kernel_rfl) (by kernel_rfl) (fun _ _ _ h => h) (Or.inl ⟨by rfl, fun X hX => by go_simp⟩) SX ?_
        try simp only [Act.put, List.setIfInBounds_toArray, List.set_cons_succ, List.set_cons_zero]
        refine wpAnyH_done (by kernel_rfl) ?_ _
        simp only [Exit.then]
        exact HT.out gA _ _ _ _ _ SX.out KA.out
    · clear hii
      refine wpOp_step rfl (fun K hK => ?_)
      go_simp
      have SX := Lib.hid (SV.out.put 26 [.int .i64 st', .int .i64 wd', .int .u32 co', .int .i64 bb', .int .i64 ro', .int .i64 cl'])
      refine hK _ _ ⟨Lib.hid SX.out.lo, ?_⟩
      clear hK K SV
      obtain ⟨gB, hgB⟩ : ∃ gB, (World.heap x1).size = gB := ⟨_, rfl⟩
      rw [hgB] at SX ⊢
      clear hgB
      have SV := SX
      clear SX
      generalize World.alloc x1 _ = x16 at SV ⊢
      try simp only [Act.put, List.setIfInBounds_toArray, List.set_cons_succ, List.set_cons_zero]
      refine wpAnyH_all (rs := [2, 10]) (by kernel_rfl) (by simp) ?_
      intro ii hii
      rcases (show ii = 2 ∨ ii = 10 by simpa using hii) with rfl | rfl
      · clear hii
        refine wpOp_step rfl (fun K hK => ?_)
        obtain ⟨v2, x17, hr, ho, hg, hat⟩ := append_sides x16 base 33 vv 0 [] SV.out.own p m cap0 zs (HZ.out _ SV.out.lo) HL.out (by omega) SV.out.hx
        rw [Nat.zero_add, List.nil_append] at ho
        have SX := Lib.hid (SV.out.app ho hg hat)
        refine wp_append_runC (some 21) rfl _ _ _ rfl vv _ v2 rfl rfl hr ?_
        refine hK _ _ ⟨Lib.hid SX.out.lo, ?_⟩
        clear hK K SV hr ho hg hat
        have SV := SX
        clear SX
        try simp only [Act.put, List.setIfInBounds_toArray, List.set_cons_succ, List.set_cons_zero]
        refine wpAnyH_all (rs := [5, 10]) (by kernel_rfl) (by simp) ?_
        intro ii hii
        rcases (show ii = 5 ∨ ii = 10 by simpa using hii) with rfl | rfl
        · clear hii
          refine wpOp_step rfl (fun K hK => ?_)
          have hB := (SV.out.pb (gB, 26, [.int .i64 st', .int .i64 wd', .int .u32 co', .int .i64 bb', .int .i64 ro', .int .i64 cl']) (by simp)).1
          obtain ⟨v3, x18, hr, ho, hg, hat⟩ := append_sides x17 base 33 v2 m _ SV.out.own (some ⟨gB, 0, none⟩) 1 1 [⟨st', wd', co', bb', ro', cl'⟩] (Sides.whole (t := 26) (show Whole _ gB 26 ([⟨st', wd', co', bb', ro', cl'⟩].flatMap Si.cells) from hB) rfl (by omega)) rfl (by omega) SV.out.hx
          have SX := Lib.hid (SV.out.app ho hg hat)
          refine wp_append_runC (some 24) rfl _ _ _ rfl v2 _ v3 rfl rfl hr ?_
          refine hK _ _ ⟨Lib.hid SX.out.lo, ?_⟩
          clear hK K SV hr ho hg hat hB
          have SV := SX
          clear SX
          try simp only [Act.put, List.setIfInBounds_toArray, List.set_cons_succ, List.set_cons_zero]
          refine wpAnyH_all (rs := [6, 10]) (by kernel_rfl) (by simp) ?_
          intro ii hii
          rcases (show ii = 6 ∨ ii = 10 by simpa using hii) with rfl | rfl
          · clear hii
            refine wpOp_step rfl (fun K hK => ?_)
            obtain ⟨q3, c3, hv3, hc3, hx3⟩ := own_formC SV.out.own
            subst hv3
            have hS3 := own_sidesC (zs := zs ++ [⟨st', wd', co', bb', ro', cl'⟩]) (W := x18) (base := base) (by rw [HLS.out, ← HFS.out]; exact SV.out.own) (by rw [HLS.out]; omega)
            go_simp
            refine (HWS.out _ _ _ hS3 hc3 hx3).mono ?_
            rintro e x19 ⟨rfl, hb6⟩
            have SX := Lib.hid (SV.out.below hb6)
            refine hK _ _ ⟨Lib.hid SX.out.lo, ?_⟩
            clear hK K SV hb6 hS3 hc3 hx3
            have SV := SX
            clear SX
            try simp only [Act.put, List.setIfInBounds_toArray, List.set_cons_succ, List.set_cons_zero]
            refine wpAnyH_takeC (i := 7) (v := .tuple #[.agg #[.int .i64 st2, .int .i64 wd2, .int .u32 co2, .int .i64 bb2, .int .i64 ro2, .int .i64 cl2], .int .i64 f]) (some 18) rfl rfl (by kernel_rfl) (by kernel_rfl) (by kernel_rfl) (fun _ _ _ h => h) (Or.inl ⟨by rfl, fun X hX => by go_simp⟩) (Lib.hid SV.out.lo) ?_
            try simp only [Act.put, List.setIfInBounds_toArray, List.set_cons_succ, List.set_cons_zero]
            refine wpAnyH_takeC (i := 8) (v := .agg #[.int .i64 st2, .int .i64 wd2, .int .u32 co2, .int .i64 bb2, .int .i64 ro2, .int .i64 cl2]) (some 26) rfl rfl (by kernel_rfl) (by kernel_rfl) (by kernel_rfl) (fun _ _ _ h => h) (Or.inl ⟨by rfl, fun X hX => by go_simp⟩) (Lib.hid SV.out.lo) ?_
            try simp only [Act.put, List.setIfInBounds_toArray, List.set_cons_succ, List.set_cons_zero]
            refine wpAnyH_takeC (i := 9) (v := .int .i64 f) (some 27) rfl rfl (by kernel_rfl) (by kernel_rfl) (by kernel_rfl) (fun _ _ _ h => h) (Or.inl ⟨by rfl, fun X hX => by go_simp⟩) (Lib.hid SV.out.lo) ?_
            try simp only [Act.put, List.setIfInBounds_toArray, List.set_cons_succ, List.set_cons_zero]
            refine wpAnyH_all (rs := [10]) (by kernel_rfl) (by simp) ?_
            intro ii hii
            obtain rfl : ii = 10 := by simpa using hii
            clear hii
            refine wpOp_step rfl (fun K hK => ?_)
            go_simp
            have SX := Lib.hid (SV.out.put 26 [.int .i64 0, .int .i64 0, .int .u32 0, .int .i64 0, .int .i64 0, .int .i64 0])
            have LgA : Hid (W4.heap.size ≤ (World.heap x19).size) := Lib.hid SV.out.lo.size
            refine hK _ _ ⟨Lib.hid SX.out.lo, ?_⟩
            clear hK K SV
            obtain ⟨gA, hgA⟩ : ∃ gA, (World.heap x19).size = gA := ⟨_, rfl⟩
            rw [hgA] at SX LgA ⊢
            clear hgA
            have SV := SX
            clear SX
            generalize World.alloc x19 _ = x20 at SV ⊢
            try simp only [Act.put, List.setIfInBounds_toArray, List.set_cons_succ, List.set_cons_zero]
            have hA := (SV.out.pb (gA, 26, [.int .i64 0, .int .i64 0, .int .u32 0, .int .i64 0, .int .i64 0, .int .i64 0]) (by simp)).1
            have hlA := (SV.out.lo)
            refine wpAnyH_all (rs := [11]) (by kernel_rfl) (by simp) ?_
            intro ii hii; obtain rfl : ii = 11 := by simpa using hii
            clear hii
            refine wpOp_step rfl (fun K hK => ?_)
            refine wp_store_rowC rfl 26 (.tmp 8) (.tmp 26) rfl gA #[.int .i64 st2, .int .i64 wd2, .int .u32 co2, .int .i64 bb2, .int .i64 ro2, .int .i64 cl2] rfl rfl 26 #[.int .i64 0, .int .i64 0, .int .u32 0, .int .i64 0, .int .i64 0, .int .i64 0] hA Try.infoSide rfl (Si.cells_one ⟨st2, wd2, co2, bb2, ro2, cl2⟩) ?_
            have KA := Lib.hid (whole_rowA hA #[.int .i64 st2, .int .i64 wd2, .int .u32 co2, .int .i64 bb2, .int .i64 ro2, .int .i64 cl2])
            have hgA4 : W4.heap.size ≤ gA := LgA.out
            have SX : Hid (Below W4.heap.size W4 (World.setRow _ gA #[.int .i64 st2, .int .i64 wd2, .int .u32 co2, .int .i64 bb2, .int .i64 ro2, .int .i64 cl2])) := Lib.hid ⟨SV.out.lo.os, SV.out.lo.tape, SV.out.lo.output, by simp; exact SV.out.lo.size, fun k hk => (setRow_other _ gA k _ (by omega)).trans (SV.out.lo.block k hk)⟩
            refine hK _ _ ⟨SX, ?_⟩
            clear hK K SV hA hlA
            try simp only [Act.put, List.setIfInBounds_toArray, List.set_cons_succ, List.set_cons_zero]
            generalize World.setRow _ gA #[.int .i64 st2, .int .i64 wd2, .int .u32 co2, .int .i64 bb2, .int .i64 ro2, .int .i64 cl2] = w9z at KA SX ⊢
            refine wpAnyH_takeC (i := 12) (v := .int .i64 f) (some 9) rfl rfl (by kernel_rfl) (by kernel_rfl) (by kernel_rfl) (fun _ _ _ h => h) (Or.inl ⟨by rfl, fun X hX => by go_simp⟩) SX ?_
            try simp only [Act.put, List.setIfInBounds_toArray, List.set_cons_succ, List.set_cons_zero]
            refine wpAnyH_done (by kernel_rfl) ?_ _
            simp only [Exit.then]
            exact HT.out gA _ _ _ _ _ SX.out KA.out
          · clear hii
            refine wpOp_step rfl (fun K hK => ?_)
            go_simp
            have SX := Lib.hid (SV.out.put 26 [.int .i64 0, .int .i64 0, .int .u32 0, .int .i64 0, .int .i64 0, .int .i64 0])
            have LgA : Hid (W4.heap.size ≤ (World.heap x18).size) := Lib.hid SV.out.lo.size
            refine hK _ _ ⟨Lib.hid SX.out.lo, ?_⟩
            clear hK K SV
            obtain ⟨gA, hgA⟩ : ∃ gA, (World.heap x18).size = gA := ⟨_, rfl⟩
            rw [hgA] at SX LgA ⊢
            clear hgA
            have SV := SX
            clear SX
            generalize World.alloc x18 _ = x21 at SV ⊢
            try simp only [Act.put, List.setIfInBounds_toArray, List.set_cons_succ, List.set_cons_zero]
            refine wpAnyH_all (rs := [6]) (by kernel_rfl) (by simp) ?_
            intro ii hii
            obtain rfl : ii = 6 := by simpa using hii
            clear hii
            refine wpOp_step rfl (fun K hK => ?_)
            obtain ⟨q3, c3, hv3, hc3, hx3⟩ := own_formC SV.out.own
            subst hv3
            have hS3 := own_sidesC (zs := zs ++ [⟨st', wd', co', bb', ro', cl'⟩]) (W := x21) (base := base) (by rw [HLS.out, ← HFS.out]; exact SV.out.own) (by rw [HLS.out]; omega)
            go_simp
            refine (HWS.out _ _ _ hS3 hc3 hx3).mono ?_
            rintro e x22 ⟨rfl, hb6⟩
            have SX := Lib.hid (SV.out.below hb6)
            refine hK _ _ ⟨Lib.hid SX.out.lo, ?_⟩
            clear hK K SV hb6 hS3 hc3 hx3
            have SV := SX
            clear SX
            try simp only [Act.put, List.setIfInBounds_toArray, List.set_cons_succ, List.set_cons_zero]
            refine wpAnyH_takeC (i := 7) (v := .tuple #[.agg #[.int .i64 st2, .int .i64 wd2, .int .u32 co2, .int .i64 bb2, .int .i64 ro2, .int .i64 cl2], .int .i64 f]) (some 18) rfl rfl (by kernel_rfl) (by kernel_rfl) (by kernel_rfl) (fun _ _ _ h => h) (Or.inl ⟨by rfl, fun X hX => by go_simp⟩) (Lib.hid SV.out.lo) ?_
            try simp only [Act.put, List.setIfInBounds_toArray, List.set_cons_succ, List.set_cons_zero]
            refine wpAnyH_takeC (i := 8) (v := .agg #[.int .i64 st2, .int .i64 wd2, .int .u32 co2, .int .i64 bb2, .int .i64 ro2, .int .i64 cl2]) (some 26) rfl rfl (by kernel_rfl) (by kernel_rfl) (by kernel_rfl) (fun _ _ _ h => h) (Or.inl ⟨by rfl, fun X hX => by go_simp⟩) (Lib.hid SV.out.lo) ?_
            try simp only [Act.put, List.setIfInBounds_toArray, List.set_cons_succ, List.set_cons_zero]
            refine wpAnyH_takeC (i := 9) (v := .int .i64 f) (some 27) rfl rfl (by kernel_rfl) (by kernel_rfl) (by kernel_rfl) (fun _ _ _ h => h) (Or.inl ⟨by rfl, fun X hX => by go_simp⟩) (Lib.hid SV.out.lo) ?_
            try simp only [Act.put, List.setIfInBounds_toArray, List.set_cons_succ, List.set_cons_zero]
            have hA := (SV.out.pb (gA, 26, [.int .i64 0, .int .i64 0, .int .u32 0, .int .i64 0, .int .i64 0, .int .i64 0]) (by simp)).1
            have hlA := (SV.out.lo)
            refine wpAnyH_all (rs := [11]) (by kernel_rfl) (by simp) ?_
            intro ii hii; obtain rfl : ii = 11 := by simpa using hii
            clear hii
            refine wpOp_step rfl (fun K hK => ?_)
            refine wp_store_rowC rfl 26 (.tmp 8) (.tmp 26) rfl gA #[.int .i64 st2, .int .i64 wd2, .int .u32 co2, .int .i64 bb2, .int .i64 ro2, .int .i64 cl2] rfl rfl 26 #[.int .i64 0, .int .i64 0, .int .u32 0, .int .i64 0, .int .i64 0, .int .i64 0] hA Try.infoSide rfl (Si.cells_one ⟨st2, wd2, co2, bb2, ro2, cl2⟩) ?_
            have KA := Lib.hid (whole_rowA hA #[.int .i64 st2, .int .i64 wd2, .int .u32 co2, .int .i64 bb2, .int .i64 ro2, .int .i64 cl2])
            have hgA4 : W4.heap.size ≤ gA := LgA.out
            have SX : Hid (Below W4.heap.size W4 (World.setRow _ gA #[.int .i64 st2, .int .i64 wd2, .int .u32 co2, .int .i64 bb2, .int .i64 ro2, .int .i64 cl2])) := Lib.hid ⟨SV.out.lo.os, SV.out.lo.tape, SV.out.lo.output, by simp; exact SV.out.lo.size, fun k hk => (setRow_other _ gA k _ (by omega)).trans (SV.out.lo.block k hk)⟩
            refine hK _ _ ⟨SX, ?_⟩
            clear hK K SV hA hlA
            try simp only [Act.put, List.setIfInBounds_toArray, List.set_cons_succ, List.set_cons_zero]
            generalize World.setRow _ gA #[.int .i64 st2, .int .i64 wd2, .int .u32 co2, .int .i64 bb2, .int .i64 ro2, .int .i64 cl2] = w9z at KA SX ⊢
            refine wpAnyH_takeC (i := 12) (v := .int .i64 f) (some 9) rfl rfl (by kernel_rfl) (by kernel_rfl) (by kernel_rfl) (fun _ _ _ h => h) (Or.inl ⟨by rfl, fun X hX => by go_simp⟩) SX ?_
            try simp only [Act.put, List.setIfInBounds_toArray, List.set_cons_succ, List.set_cons_zero]
            refine wpAnyH_done (by kernel_rfl) ?_ _
            simp only [Exit.then]
            exact HT.out gA _ _ _ _ _ SX.out KA.out
        · clear hii
          refine wpOp_step rfl (fun K hK => ?_)
          go_simp
          have SX := Lib.hid (SV.out.put 26 [.int .i64 0, .int .i64 0, .int .u32 0, .int .i64 0, .int .i64 0, .int .i64 0])
          have LgA : Hid (W4.heap.size ≤ (World.heap x17).size) := Lib.hid SV.out.lo.size
          refine hK _ _ ⟨Lib.hid SX.out.lo, ?_⟩
          clear hK K SV
          obtain ⟨gA, hgA⟩ : ∃ gA, (World.heap x17).size = gA := ⟨_, rfl⟩
          rw [hgA] at SX LgA ⊢
          clear hgA
          have SV := SX
          clear SX
          generalize World.alloc x17 _ = x23 at SV ⊢
          try simp only [Act.put, List.setIfInBounds_toArray, List.set_cons_succ, List.set_cons_zero]
          refine wpAnyH_all (rs := [5]) (by kernel_rfl) (by simp) ?_
          intro ii hii
          obtain rfl : ii = 5 := by simpa using hii
          clear hii
          refine wpOp_step rfl (fun K hK => ?_)
          have hB := (SV.out.pb (gB, 26, [.int .i64 st', .int .i64 wd', .int .u32 co', .int .i64 bb', .int .i64 ro', .int .i64 cl']) (by simp)).1
          obtain ⟨v3, x24, hr, ho, hg, hat⟩ := append_sides x23 base 33 v2 m _ SV.out.own (some ⟨gB, 0, none⟩) 1 1 [⟨st', wd', co', bb', ro', cl'⟩] (Sides.whole (t := 26) (show Whole _ gB 26 ([⟨st', wd', co', bb', ro', cl'⟩].flatMap Si.cells) from hB) rfl (by omega)) rfl (by omega) SV.out.hx
          have SX := Lib.hid (SV.out.app ho hg hat)
          refine wp_append_runC (some 24) rfl _ _ _ rfl v2 _ v3 rfl rfl hr ?_
          refine hK _ _ ⟨Lib.hid SX.out.lo, ?_⟩
          clear hK K SV hr ho hg hat hB
          have SV := SX
          clear SX
          try simp only [Act.put, List.setIfInBounds_toArray, List.set_cons_succ, List.set_cons_zero]
          refine wpAnyH_all (rs := [6]) (by kernel_rfl) (by simp) ?_
          intro ii hii
          obtain rfl : ii = 6 := by simpa using hii
          clear hii
          refine wpOp_step rfl (fun K hK => ?_)
          obtain ⟨q3, c3, hv3, hc3, hx3⟩ := own_formC SV.out.own
          subst hv3
          have hS3 := own_sidesC (zs := zs ++ [⟨st', wd', co', bb', ro', cl'⟩]) (W := x24) (base := base) (by rw [HLS.out, ← HFS.out]; exact SV.out.own) (by rw [HLS.out]; omega)
          go_simp
          refine (HWS.out _ _ _ hS3 hc3 hx3).mono ?_
          rintro e x25 ⟨rfl, hb6⟩
          have SX := Lib.hid (SV.out.below hb6)
          refine hK _ _ ⟨Lib.hid SX.out.lo, ?_⟩
          clear hK K SV hb6 hS3 hc3 hx3
          have SV := SX
          clear SX
          try simp only [Act.put, List.setIfInBounds_toArray, List.set_cons_succ, List.set_cons_zero]
          refine wpAnyH_takeC (i := 7) (v := .tuple #[.agg #[.int .i64 st2, .int .i64 wd2, .int .u32 co2, .int .i64 bb2, .int .i64 ro2, .int .i64 cl2], .int .i64 f]) (some 18) rfl rfl (by kernel_rfl) (by kernel_rfl) (by kernel_rfl) (fun _ _ _ h => h) (Or.inl ⟨by rfl, fun X hX => by go_simp⟩) (Lib.hid SV.out.lo) ?_
          try simp only [Act.put, List.setIfInBounds_toArray, List.set_cons_succ, List.set_cons_zero]
          refine wpAnyH_takeC (i := 8) (v := .agg #[.int .i64 st2, .int .i64 wd2, .int .u32 co2, .int .i64 bb2, .int .i64 ro2, .int .i64 cl2]) (some 26) rfl rfl (by kernel_rfl) (by kernel_rfl) (by kernel_rfl) (fun _ _ _ h => h) (Or.inl ⟨by rfl, fun X hX => by go_simp⟩) (Lib.hid SV.out.lo) ?_
          try simp only [Act.put, List.setIfInBounds_toArray, List.set_cons_succ, List.set_cons_zero]
          refine wpAnyH_takeC (i := 9) (v := .int .i64 f) (some 27) rfl rfl (by kernel_rfl) (by kernel_rfl) (by kernel_rfl) (fun _ _ _ h => h) (Or.inl ⟨by rfl, fun X hX => by go_simp⟩) (Lib.hid SV.out.lo) ?_
          try simp only [Act.put, List.setIfInBounds_toArray, List.set_cons_succ, List.set_cons_zero]
          have hA := (SV.out.pb (gA, 26, [.int .i64 0, .int .i64 0, .int .u32 0, .int .i64 0, .int .i64 0, .int .i64 0]) (by simp)).1
          have hlA := (SV.out.lo)
          refine wpAnyH_all (rs := [11]) (by kernel_rfl) (by simp) ?_
          intro ii hii; obtain rfl : ii = 11 := by simpa using hii
          clear hii
          refine wpOp_step rfl (fun K hK => ?_)
          refine wp_store_rowC rfl 26 (.tmp 8) (.tmp 26) rfl gA #[.int .i64 st2, .int .i64 wd2, .int .u32 co2, .int .i64 bb2, .int .i64 ro2, .int .i64 cl2] rfl rfl 26 #[.int .i64 0, .int .i64 0, .int .u32 0, .int .i64 0, .int .i64 0, .int .i64 0] hA Try.infoSide rfl (Si.cells_one ⟨st2, wd2, co2, bb2, ro2, cl2⟩) ?_
          have KA := Lib.hid (whole_rowA hA #[.int .i64 st2, .int .i64 wd2, .int .u32 co2, .int .i64 bb2, .int .i64 ro2, .int .i64 cl2])
          have hgA4 : W4.heap.size ≤ gA := LgA.out
          have SX : Hid (Below W4.heap.size W4 (World.setRow _ gA #[.int .i64 st2, .int .i64 wd2, .int .u32 co2, .int .i64 bb2, .int .i64 ro2, .int .i64 cl2])) := Lib.hid ⟨SV.out.lo.os, SV.out.lo.tape, SV.out.lo.output, by simp; exact SV.out.lo.size, fun k hk => (setRow_other _ gA k _ (by omega)).trans (SV.out.lo.block k hk)⟩
          refine hK _ _ ⟨SX, ?_⟩
          clear hK K SV hA hlA
          try simp only [Act.put, List.setIfInBounds_toArray, List.set_cons_succ, List.set_cons_zero]
          generalize World.setRow _ gA #[.int .i64 st2, .int .i64 wd2, .int .u32 co2, .int .i64 bb2, .int .i64 ro2, .int .i64 cl2] = w9z at KA SX ⊢
          refine wpAnyH_takeC (i := 12) (v := .int .i64 f) (some 9) rfl rfl (by kernel_rfl) (by kernel_rfl) (by kernel_rfl) (fun _ _ _ h => h) (Or.inl ⟨by rfl, fun X hX => by go_simp⟩) SX ?_
          try simp only [Act.put, List.setIfInBounds_toArray, List.set_cons_succ, List.set_cons_zero]
          refine wpAnyH_done (by kernel_rfl) ?_ _
          simp only [Exit.then]
          exact HT.out gA _ _ _ _ _ SX.out KA.out
      · clear hii
        refine wpOp_step rfl (fun K hK => ?_)
        go_simp
        have SX := Lib.hid (SV.out.put 26 [.int .i64 0, .int .i64 0, .int .u32 0, .int .i64 0, .int .i64 0, .int .i64 0])
        have LgA : Hid (W4.heap.size ≤ (World.heap x16).size) := Lib.hid SV.out.lo.size
        refine hK _ _ ⟨Lib.hid SX.out.lo, ?_⟩
        clear hK K SV
        obtain ⟨gA, hgA⟩ : ∃ gA, (World.heap x16).size = gA := ⟨_, rfl⟩
        rw [hgA] at SX LgA ⊢
        clear hgA
        have SV := SX
        clear SX
        generalize World.alloc x16 _ = x26 at SV ⊢
        try simp only [Act.put, List.setIfInBounds_toArray, List.set_cons_succ, List.set_cons_zero]
        refine wpAnyH_all (rs := [2]) (by kernel_rfl) (by simp) ?_
        intro ii hii
        obtain rfl : ii = 2 := by simpa using hii
        clear hii
        refine wpOp_step rfl (fun K hK => ?_)
        obtain ⟨v2, x27, hr, ho, hg, hat⟩ := append_sides x26 base 33 vv 0 [] SV.out.own p m cap0 zs (HZ.out _ SV.out.lo) HL.out (by omega) SV.out.hx
        rw [Nat.zero_add, List.nil_append] at ho
        have SX := Lib.hid (SV.out.app ho hg hat)
        refine wp_append_runC (some 21) rfl _ _ _ rfl vv _ v2 rfl rfl hr ?_
        refine hK _ _ ⟨Lib.hid SX.out.lo, ?_⟩
        clear hK K SV hr ho hg hat
        have SV := SX
        clear SX
        try simp only [Act.put, List.setIfInBounds_toArray, List.set_cons_succ, List.set_cons_zero]
        refine wpAnyH_all (rs := [5]) (by kernel_rfl) (by simp) ?_
        intro ii hii
        obtain rfl : ii = 5 := by simpa using hii
        clear hii
        refine wpOp_step rfl (fun K hK => ?_)
        have hB := (SV.out.pb (gB, 26, [.int .i64 st', .int .i64 wd', .int .u32 co', .int .i64 bb', .int .i64 ro', .int .i64 cl']) (by simp)).1
        obtain ⟨v3, x28, hr, ho, hg, hat⟩ := append_sides x27 base 33 v2 m _ SV.out.own (some ⟨gB, 0, none⟩) 1 1 [⟨st', wd', co', bb', ro', cl'⟩] (Sides.whole (t := 26) (show Whole _ gB 26 ([⟨st', wd', co', bb', ro', cl'⟩].flatMap Si.cells) from hB) rfl (by omega)) rfl (by omega) SV.out.hx
        have SX := Lib.hid (SV.out.app ho hg hat)
        refine wp_append_runC (some 24) rfl _ _ _ rfl v2 _ v3 rfl rfl hr ?_
        refine hK _ _ ⟨Lib.hid SX.out.lo, ?_⟩
        clear hK K SV hr ho hg hat hB
        have SV := SX
        clear SX
        try simp only [Act.put, List.setIfInBounds_toArray, List.set_cons_succ, List.set_cons_zero]
        refine wpAnyH_all (rs := [6]) (by kernel_rfl) (by simp) ?_
        intro ii hii
        obtain rfl : ii = 6 := by simpa using hii
        clear hii
        refine wpOp_step rfl (fun K hK => ?_)
        obtain ⟨q3, c3, hv3, hc3, hx3⟩ := own_formC SV.out.own
        subst hv3
        have hS3 := own_sidesC (zs := zs ++ [⟨st', wd', co', bb', ro', cl'⟩]) (W := x28) (base := base) (by rw [HLS.out, ← HFS.out]; exact SV.out.own) (by rw [HLS.out]; omega)
        go_simp
        refine (HWS.out _ _ _ hS3 hc3 hx3).mono ?_
        rintro e x29 ⟨rfl, hb6⟩
        have SX := Lib.hid (SV.out.below hb6)
        refine hK _ _ ⟨Lib.hid SX.out.lo, ?_⟩
        clear hK K SV hb6 hS3 hc3 hx3
        have SV := SX
        clear SX
        try simp only [Act.put, List.setIfInBounds_toArray, List.set_cons_succ, List.set_cons_zero]
        refine wpAnyH_takeC (i := 7) (v := .tuple #[.agg #[.int .i64 st2, .int .i64 wd2, .int .u32 co2, .int .i64 bb2, .int .i64 ro2, .int .i64 cl2], .int .i64 f]) (some 18) rfl rfl (by kernel_rfl) (by kernel_rfl) (by kernel_rfl) (fun _ _ _ h => h) (Or.inl ⟨by rfl, fun X hX => by go_simp⟩) (Lib.hid SV.out.lo) ?_
        try simp only [Act.put, List.setIfInBounds_toArray, List.set_cons_succ, List.set_cons_zero]
        refine wpAnyH_takeC (i := 8) (v := .agg #[.int .i64 st2, .int .i64 wd2, .int .u32 co2, .int .i64 bb2, .int .i64 ro2, .int .i64 cl2]) (some 26) rfl rfl (by kernel_rfl) (by kernel_rfl) (by kernel_rfl) (fun _ _ _ h => h) (Or.inl ⟨by rfl, fun X hX => by go_simp⟩) (Lib.hid SV.out.lo) ?_
        try simp only [Act.put, List.setIfInBounds_toArray, List.set_cons_succ, List.set_cons_zero]
        refine wpAnyH_takeC (i := 9) (v := .int .i64 f) (some 27) rfl rfl (by kernel_rfl) (by kernel_rfl) (by kernel_rfl) (fun _ _ _ h => h) (Or.inl ⟨by rfl, fun X hX => by go_simp⟩) (Lib.hid SV.out.lo) ?_
        try simp only [Act.put, List.setIfInBounds_toArray, List.set_cons_succ, List.set_cons_zero]
        have hA := (SV.out.pb (gA, 26, [.int .i64 0, .int .i64 0, .int .u32 0, .int .i64 0, .int .i64 0, .int .i64 0]) (by simp)).1
        have hlA := (SV.out.lo)
        refine wpAnyH_all (rs := [11]) (by kernel_rfl) (by simp) ?_
        intro ii hii; obtain rfl : ii = 11 := by simpa using hii
        clear hii
        refine wpOp_step rfl (fun K hK => ?_)
        refine wp_store_rowC rfl 26 (.tmp 8) (.tmp 26) rfl gA #[.int .i64 st2, .int .i64 wd2, .int .u32 co2, .int .i64 bb2, .int .i64 ro2, .int .i64 cl2] rfl rfl 26 #[.int .i64 0, .int .i64 0, .int .u32 0, .int .i64 0, .int .i64 0, .int .i64 0] hA Try.infoSide rfl (Si.cells_one ⟨st2, wd2, co2, bb2, ro2, cl2⟩) ?_
        have KA := Lib.hid (whole_rowA hA #[.int .i64 st2, .int .i64 wd2, .int .u32 co2, .int .i64 bb2, .int .i64 ro2, .int .i64 cl2])
        have hgA4 : W4.heap.size ≤ gA := LgA.out
        have SX : Hid (Below W4.heap.size W4 (World.setRow _ gA #[.int .i64 st2, .int .i64 wd2, .int .u32 co2, .int .i64 bb2, .int .i64 ro2, .int .i64 cl2])) := Lib.hid ⟨SV.out.lo.os, SV.out.lo.tape, SV.out.lo.output, by simp; exact SV.out.lo.size, fun k hk => (setRow_other _ gA k _ (by omega)).trans (SV.out.lo.block k hk)⟩
        refine hK _ _ ⟨SX, ?_⟩
        clear hK K SV hA hlA
        try simp only [Act.put, List.setIfInBounds_toArray, List.set_cons_succ, List.set_cons_zero]
        generalize World.setRow _ gA #[.int .i64 st2, .int .i64 wd2, .int .u32 co2, .int .i64 bb2, .int .i64 ro2, .int .i64 cl2] = w9z at KA SX ⊢
        refine wpAnyH_takeC (i := 12) (v := .int .i64 f) (some 9) rfl rfl (by kernel_rfl) (by kernel_rfl) (by kernel_rfl) (fun _ _ _ h => h) (Or.inl ⟨by rfl, fun X hX => by go_simp⟩) SX ?_
        try simp only [Act.put, List.setIfInBounds_toArray, List.set_cons_succ, List.set_cons_zero]
        refine wpAnyH_done (by kernel_rfl) ?_ _
        simp only [Exit.then]
        exact HT.out gA _ _ _ _ _ SX.out KA.out
    · clear hii
      refine wpOp_step rfl (fun K hK => ?_)
      go_simp
      have SX := Lib.hid (SV.out.put 26 [.int .i64 0, .int .i64 0, .int .u32 0, .int .i64 0, .int .i64 0, .int .i64 0])
      have LgA : Hid (W4.heap.size ≤ (World.heap x1).size) := Lib.hid SV.out.lo.size
      refine hK _ _ ⟨Lib.hid SX.out.lo, ?_⟩
      clear hK K SV
      obtain ⟨gA, hgA⟩ : ∃ gA, (World.heap x1).size = gA := ⟨_, rfl⟩
      rw [hgA] at SX LgA ⊢
      clear hgA
      have SV := SX
      clear SX
      generalize World.alloc x1 _ = x30 at SV ⊢
      try simp only [Act.put, List.setIfInBounds_toArray, List.set_cons_succ, List.set_cons_zero]
      refine wpAnyH_all (rs := [2, 4]) (by kernel_rfl) (by simp) ?_
      intro ii hii
      rcases (show ii = 2 ∨ ii = 4 by simpa using hii) with rfl | rfl
      · clear hii
        refine wpOp_step rfl (fun K hK => ?_)
        obtain ⟨v2, x31, hr, ho, hg, hat⟩ := append_sides x30 base 33 vv 0 [] SV.out.own p m cap0 zs (HZ.out _ SV.out.lo) HL.out (by omega) SV.out.hx
        rw [Nat.zero_add, List.nil_append] at ho
        have SX := Lib.hid (SV.out.app ho hg hat)
        refine wp_append_runC (some 21) rfl _ _ _ rfl vv _ v2 rfl rfl hr ?_
        refine hK _ _ ⟨Lib.hid SX.out.lo, ?_⟩
        clear hK K SV hr ho hg hat
        have SV := SX
        clear SX
        try simp only [Act.put, List.setIfInBounds_toArray, List.set_cons_succ, List.set_cons_zero]
        refine wpAnyH_all (rs := [4]) (by kernel_rfl) (by simp) ?_
        intro ii hii
        obtain rfl : ii = 4 := by simpa using hii
        clear hii
        refine wpOp_step rfl (fun K hK => ?_)
        go_simp
        have SX := Lib.hid (SV.out.put 26 [.int .i64 st', .int .i64 wd', .int .u32 co', .int .i64 bb', .int .i64 ro', .int .i64 cl'])
        refine hK _ _ ⟨Lib.hid SX.out.lo, ?_⟩
        clear hK K SV
        obtain ⟨gB, hgB⟩ : ∃ gB, (World.heap x31).size = gB := ⟨_, rfl⟩
        rw [hgB] at SX ⊢
        clear hgB
        have SV := SX
        clear SX
        generalize World.alloc x31 _ = x32 at SV ⊢
        try simp only [Act.put, List.setIfInBounds_toArray, List.set_cons_succ, List.set_cons_zero]
        refine wpAnyH_all (rs := [5]) (by kernel_rfl) (by simp) ?_
        intro ii hii
        obtain rfl : ii = 5 := by simpa using hii
        clear hii
        refine wpOp_step rfl (fun K hK => ?_)
        have hB := (SV.out.pb (gB, 26, [.int .i64 st', .int .i64 wd', .int .u32 co', .int .i64 bb', .int .i64 ro', .int .i64 cl']) (by simp)).1
        obtain ⟨v3, x33, hr, ho, hg, hat⟩ := append_sides x32 base 33 v2 m _ SV.out.own (some ⟨gB, 0, none⟩) 1 1 [⟨st', wd', co', bb', ro', cl'⟩] (Sides.whole (t := 26) (show Whole _ gB 26 ([⟨st', wd', co', bb', ro', cl'⟩].flatMap Si.cells) from hB) rfl (by omega)) rfl (by omega) SV.out.hx
        have SX := Lib.hid (SV.out.app ho hg hat)
        refine wp_append_runC (some 24) rfl _ _ _ rfl v2 _ v3 rfl rfl hr ?_
        refine hK _ _ ⟨Lib.hid SX.out.lo, ?_⟩
        clear hK K SV hr ho hg hat hB
        have SV := SX
        clear SX
        try simp only [Act.put, List.setIfInBounds_toArray, List.set_cons_succ, List.set_cons_zero]
        refine wpAnyH_all (rs := [6]) (by kernel_rfl) (by simp) ?_
        intro ii hii
        obtain rfl : ii = 6 := by simpa using hii
        clear hii
        refine wpOp_step rfl (fun K hK => ?_)
        obtain ⟨q3, c3, hv3, hc3, hx3⟩ := own_formC SV.out.own
        subst hv3
        have hS3 := own_sidesC (zs := zs ++ [⟨st', wd', co', bb', ro', cl'⟩]) (W := x33) (base := base) (by rw [HLS.out, ← HFS.out]; exact SV.out.own) (by rw [HLS.out]; omega)
        go_simp
        refine (HWS.out _ _ _ hS3 hc3 hx3).mono ?_
        rintro e x34 ⟨rfl, hb6⟩
        have SX := Lib.hid (SV.out.below hb6)
        refine hK _ _ ⟨Lib.hid SX.out.lo, ?_⟩
        clear hK K SV hb6 hS3 hc3 hx3
        have SV := SX
        clear SX
        try simp only [Act.put, List.setIfInBounds_toArray, List.set_cons_succ, List.set_cons_zero]
        refine wpAnyH_takeC (i := 7) (v := .tuple #[.agg #[.int .i64 st2, .int .i64 wd2, .int .u32 co2, .int .i64 bb2, .int .i64 ro2, .int .i64 cl2], .int .i64 f]) (some 18) rfl rfl (by kernel_rfl) (by kernel_rfl) (by kernel_rfl) (fun _ _ _ h => h) (Or.inl ⟨by rfl, fun X hX => by go_simp⟩) (Lib.hid SV.out.lo) ?_
        try simp only [Act.put, List.setIfInBounds_toArray, List.set_cons_succ, List.set_cons_zero]
        refine wpAnyH_takeC (i := 8) (v := .agg #[.int .i64 st2, .int .i64 wd2, .int .u32 co2, .int .i64 bb2, .int .i64 ro2, .int .i64 cl2]) (some 26) rfl rfl (by kernel_rfl) (by kernel_rfl) (by kernel_rfl) (fun _ _ _ h => h) (Or.inl ⟨by rfl, fun X hX => by go_simp⟩) (Lib.hid SV.out.lo) ?_
        try simp only [Act.put, List.setIfInBounds_toArray, List.set_cons_succ, List.set_cons_zero]
        refine wpAnyH_takeC (i := 9) (v := .int .i64 f) (some 27) rfl rfl (by kernel_rfl) (by kernel_rfl) (by kernel_rfl) (fun _ _ _ h => h) (Or.inl ⟨by rfl, fun X hX => by go_simp⟩) (Lib.hid SV.out.lo) ?_
        try simp only [Act.put, List.setIfInBounds_toArray, List.set_cons_succ, List.set_cons_zero]
        have hA := (SV.out.pb (gA, 26, [.int .i64 0, .int .i64 0, .int .u32 0, .int .i64 0, .int .i64 0, .int .i64 0]) (by simp)).1
        have hlA := (SV.out.lo)
        refine wpAnyH_all (rs := [11]) (by kernel_rfl) (by simp) ?_
        intro ii hii; obtain rfl : ii = 11 := by simpa using hii
        clear hii
        refine wpOp_step rfl (fun K hK => ?_)
        refine wp_store_rowC rfl 26 (.tmp 8) (.tmp 26) rfl gA #[.int .i64 st2, .int .i64 wd2, .int .u32 co2, .int .i64 bb2, .int .i64 ro2, .int .i64 cl2] rfl rfl 26 #[.int .i64 0, .int .i64 0, .int .u32 0, .int .i64 0, .int .i64 0, .int .i64 0] hA Try.infoSide rfl (Si.cells_one ⟨st2, wd2, co2, bb2, ro2, cl2⟩) ?_
        have KA := Lib.hid (whole_rowA hA #[.int .i64 st2, .int .i64 wd2, .int .u32 co2, .int .i64 bb2, .int .i64 ro2, .int .i64 cl2])
        have hgA4 : W4.heap.size ≤ gA := LgA.out
        have SX : Hid (Below W4.heap.size W4 (World.setRow _ gA #[.int .i64 st2, .int .i64 wd2, .int .u32 co2, .int .i64 bb2, .int .i64 ro2, .int .i64 cl2])) := Lib.hid ⟨SV.out.lo.os, SV.out.lo.tape, SV.out.lo.output, by simp; exact SV.out.lo.size, fun k hk => (setRow_other _ gA k _ (by omega)).trans (SV.out.lo.block k hk)⟩
        refine hK _ _ ⟨SX, ?_⟩
        clear hK K SV hA hlA
        try simp only [Act.put, List.setIfInBounds_toArray, List.set_cons_succ, List.set_cons_zero]
        generalize World.setRow _ gA #[.int .i64 st2, .int .i64 wd2, .int .u32 co2, .int .i64 bb2, .int .i64 ro2, .int .i64 cl2] = w9z at KA SX ⊢
        refine wpAnyH_takeC (i := 12) (v := .int .i64 f) (some 9) rfl rfl (by kernel_rfl) (by kernel_rfl) (by kernel_rfl) (fun _ _ _ h => h) (Or.inl ⟨by rfl, fun X hX => by go_simp⟩) SX ?_
        try simp only [Act.put, List.setIfInBounds_toArray, List.set_cons_succ, List.set_cons_zero]
        refine wpAnyH_done (by kernel_rfl) ?_ _
        simp only [Exit.then]
        exact HT.out gA _ _ _ _ _ SX.out KA.out
      · clear hii
        refine wpOp_step rfl (fun K hK => ?_)
        go_simp
        have SX := Lib.hid (SV.out.put 26 [.int .i64 st', .int .i64 wd', .int .u32 co', .int .i64 bb', .int .i64 ro', .int .i64 cl'])
        refine hK _ _ ⟨Lib.hid SX.out.lo, ?_⟩
        clear hK K SV
        obtain ⟨gB, hgB⟩ : ∃ gB, (World.heap x30).size = gB := ⟨_, rfl⟩
        rw [hgB] at SX ⊢
        clear hgB
        have SV := SX
        clear SX
        generalize World.alloc x30 _ = x35 at SV ⊢
        try simp only [Act.put, List.setIfInBounds_toArray, List.set_cons_succ, List.set_cons_zero]
        refine wpAnyH_all (rs := [2]) (by kernel_rfl) (by simp) ?_
        intro ii hii
        obtain rfl : ii = 2 := by simpa using hii
        clear hii
        refine wpOp_step rfl (fun K hK => ?_)
        obtain ⟨v2, x36, hr, ho, hg, hat⟩ := append_sides x35 base 33 vv 0 [] SV.out.own p m cap0 zs (HZ.out _ SV.out.lo) HL.out (by omega) SV.out.hx
        rw [Nat.zero_add, List.nil_append] at ho
        have SX := Lib.hid (SV.out.app ho hg hat)
        refine wp_append_runC (some 21) rfl _ _ _ rfl vv _ v2 rfl rfl hr ?_
        refine hK _ _ ⟨Lib.hid SX.out.lo, ?_⟩
        clear hK K SV hr ho hg hat
        have SV := SX
        clear SX
        try simp only [Act.put, List.setIfInBounds_toArray, List.set_cons_succ, List.set_cons_zero]
        refine wpAnyH_all (rs := [5]) (by kernel_rfl) (by simp) ?_
        intro ii hii
        obtain rfl : ii = 5 := by simpa using hii
        clear hii
        refine wpOp_step rfl (fun K hK => ?_)
        have hB := (SV.out.pb (gB, 26, [.int .i64 st', .int .i64 wd', .int .u32 co', .int .i64 bb', .int .i64 ro', .int .i64 cl']) (by simp)).1
        obtain ⟨v3, x37, hr, ho, hg, hat⟩ := append_sides x36 base 33 v2 m _ SV.out.own (some ⟨gB, 0, none⟩) 1 1 [⟨st', wd', co', bb', ro', cl'⟩] (Sides.whole (t := 26) (show Whole _ gB 26 ([⟨st', wd', co', bb', ro', cl'⟩].flatMap Si.cells) from hB) rfl (by omega)) rfl (by omega) SV.out.hx
        have SX := Lib.hid (SV.out.app ho hg hat)
        refine wp_append_runC (some 24) rfl _ _ _ rfl v2 _ v3 rfl rfl hr ?_
        refine hK _ _ ⟨Lib.hid SX.out.lo, ?_⟩
        clear hK K SV hr ho hg hat hB
        have SV := SX
        clear SX
        try simp only [Act.put, List.setIfInBounds_toArray, List.set_cons_succ, List.set_cons_zero]
        refine wpAnyH_all (rs := [6]) (by kernel_rfl) (by simp) ?_
        intro ii hii
        obtain rfl : ii = 6 := by simpa using hii
        clear hii
        refine wpOp_step rfl (fun K hK => ?_)
        obtain ⟨q3, c3, hv3, hc3, hx3⟩ := own_formC SV.out.own
        subst hv3
        have hS3 := own_sidesC (zs := zs ++ [⟨st', wd', co', bb', ro', cl'⟩]) (W := x37) (base := base) (by rw [HLS.out, ← HFS.out]; exact SV.out.own) (by rw [HLS.out]; omega)
        go_simp
        refine (HWS.out _ _ _ hS3 hc3 hx3).mono ?_
        rintro e x38 ⟨rfl, hb6⟩
        have SX := Lib.hid (SV.out.below hb6)
        refine hK _ _ ⟨Lib.hid SX.out.lo, ?_⟩
        clear hK K SV hb6 hS3 hc3 hx3
        have SV := SX
        clear SX
        try simp only [Act.put, List.setIfInBounds_toArray, List.set_cons_succ, List.set_cons_zero]
        refine wpAnyH_takeC (i := 7) (v := .tuple #[.agg #[.int .i64 st2, .int .i64 wd2, .int .u32 co2, .int .i64 bb2, .int .i64 ro2, .int .i64 cl2], .int .i64 f]) (some 18) rfl rfl (by kernel_rfl) (by kernel_rfl) (by kernel_rfl) (fun _ _ _ h => h) (Or.inl ⟨by rfl, fun X hX => by go_simp⟩) (Lib.hid SV.out.lo) ?_
        try simp only [Act.put, List.setIfInBounds_toArray, List.set_cons_succ, List.set_cons_zero]
        refine wpAnyH_takeC (i := 8) (v := .agg #[.int .i64 st2, .int .i64 wd2, .int .u32 co2, .int .i64 bb2, .int .i64 ro2, .int .i64 cl2]) (some 26) rfl rfl (by kernel_rfl) (by kernel_rfl) (by kernel_rfl) (fun _ _ _ h => h) (Or.inl ⟨by rfl, fun X hX => by go_simp⟩) (Lib.hid SV.out.lo) ?_
        try simp only [Act.put, List.setIfInBounds_toArray, List.set_cons_succ, List.set_cons_zero]
        refine wpAnyH_takeC (i := 9) (v := .int .i64 f) (some 27) rfl rfl (by kernel_rfl) (by kernel_rfl) (by kernel_rfl) (fun _ _ _ h => h) (Or.inl ⟨by rfl, fun X hX => by go_simp⟩) (Lib.hid SV.out.lo) ?_
        try simp only [Act.put, List.setIfInBounds_toArray, List.set_cons_succ, List.set_cons_zero]
        have hA := (SV.out.pb (gA, 26, [.int .i64 0, .int .i64 0, .int .u32 0, .int .i64 0, .int .i64 0, .int .i64 0]) (by simp)).1
        have hlA := (SV.out.lo)
        refine wpAnyH_all (rs := [11]) (by kernel_rfl) (by simp) ?_
        intro ii hii; obtain rfl : ii = 11 := by simpa using hii
        clear hii
        refine wpOp_step rfl (fun K hK => ?_)
        refine wp_store_rowC rfl 26 (.tmp 8) (.tmp 26) rfl gA #[.int .i64 st2, .int .i64 wd2, .int .u32 co2, .int .i64 bb2, .int .i64 ro2, .int .i64 cl2] rfl rfl 26 #[.int .i64 0, .int .i64 0, .int .u32 0, .int .i64 0, .int .i64 0, .int .i64 0] hA Try.infoSide rfl (Si.cells_one ⟨st2, wd2, co2, bb2, ro2, cl2⟩) ?_
        have KA := Lib.hid (whole_rowA hA #[.int .i64 st2, .int .i64 wd2, .int .u32 co2, .int .i64 bb2, .int .i64 ro2, .int .i64 cl2])
        have hgA4 : W4.heap.size ≤ gA := LgA.out
        have SX : Hid (Below W4.heap.size W4 (World.setRow _ gA #[.int .i64 st2, .int .i64 wd2, .int .u32 co2, .int .i64 bb2, .int .i64 ro2, .int .i64 cl2])) := Lib.hid ⟨SV.out.lo.os, SV.out.lo.tape, SV.out.lo.output, by simp; exact SV.out.lo.size, fun k hk => (setRow_other _ gA k _ (by omega)).trans (SV.out.lo.block k hk)⟩
        refine hK _ _ ⟨SX, ?_⟩
        clear hK K SV hA hlA
        try simp only [Act.put, List.setIfInBounds_toArray, List.set_cons_succ, List.set_cons_zero]
        generalize World.setRow _ gA #[.int .i64 st2, .int .i64 wd2, .int .u32 co2, .int .i64 bb2, .int .i64 ro2, .int .i64 cl2] = w9z at KA SX ⊢
        refine wpAnyH_takeC (i := 12) (v := .int .i64 f) (some 9) rfl rfl (by kernel_rfl) (by kernel_rfl) (by kernel_rfl) (fun _ _ _ h => h) (Or.inl ⟨by rfl, fun X hX => by go_simp⟩) SX ?_
        try simp only [Act.put, List.setIfInBounds_toArray, List.set_cons_succ, List.set_cons_zero]
        refine wpAnyH_done (by kernel_rfl) ?_ _
        simp only [Exit.then]
        exact HT.out gA _ _ _ _ _ SX.out KA.out
  · clear hii
    refine wpOp_step rfl (fun K hK => ?_)
    go_simp
    have SX := Lib.hid (SV.out.put 26 [.int .i64 st', .int .i64 wd', .int .u32 co', .int .i64 bb', .int .i64 ro', .int .i64 cl'])
    refine hK _ _ ⟨Lib.hid SX.out.lo, ?_⟩
    clear hK K SV
    obtain ⟨gB, hgB⟩ : ∃ gB, (World.heap w9).size = gB := ⟨_, rfl⟩
    rw [hgB] at SX ⊢
    clear hgB
    have SV := SX
    clear SX
    generalize World.alloc w9 _ = x39 at SV ⊢
    try simp only [Act.put, List.setIfInBounds_toArray, List.set_cons_succ, List.set_cons_zero]
    refine wpAnyH_all (rs := [0, 10]) (by kernel_rfl) (by simp) ?_
    intro ii hii
    rcases (show ii = 0 ∨ ii = 10 by simpa using hii) with rfl | rfl
    · clear hii
      refine wpOp_step rfl (fun K hK => ?_)
      go_simp
      have SX := Lib.hid (SV.out.made zc 61 HZC.out (by unfold maxLen; omega))
      refine hK _ _ ⟨Lib.hid SX.out.lo, ?_⟩
      clear hK K SV
      obtain ⟨vv, hvv⟩ : ∃ vv, Value.slice (some ⟨(World.heap x39).size, 0, none⟩) 0 61 = vv := ⟨_, rfl⟩
      rw [hvv] at SX ⊢
      clear hvv
      have SV := SX
      clear SX
      generalize World.alloc x39 (.cells zc 26) = x40 at SV ⊢
      try simp only [Act.put, List.setIfInBounds_toArray, List.set_cons_succ, List.set_cons_zero]
      refine wpAnyH_all (rs := [2, 10]) (by kernel_rfl) (by simp) ?_
      intro ii hii
      rcases (show ii = 2 ∨ ii = 10 by simpa using hii) with rfl | rfl
      · clear hii
        refine wpOp_step rfl (fun K hK => ?_)
        obtain ⟨v2, x41, hr, ho, hg, hat⟩ := append_sides x40 base 33 vv 0 [] SV.out.own p m cap0 zs (HZ.out _ SV.out.lo) HL.out (by omega) SV.out.hx
        rw [Nat.zero_add, List.nil_append] at ho
        have SX := Lib.hid (SV.out.app ho hg hat)
        refine wp_append_runC (some 21) rfl _ _ _ rfl vv _ v2 rfl rfl hr ?_
        refine hK _ _ ⟨Lib.hid SX.out.lo, ?_⟩
        clear hK K SV hr ho hg hat
        have SV := SX
        clear SX
        try simp only [Act.put, List.setIfInBounds_toArray, List.set_cons_succ, List.set_cons_zero]
        refine wpAnyH_all (rs := [5, 10]) (by kernel_rfl) (by simp) ?_
        intro ii hii
        rcases (show ii = 5 ∨ ii = 10 by simpa using hii) with rfl | rfl
        · clear hii
          refine wpOp_step rfl (fun K hK => ?_)
          have hB := (SV.out.pb (gB, 26, [.int .i64 st', .int .i64 wd', .int .u32 co', .int .i64 bb', .int .i64 ro', .int .i64 cl']) (by simp)).1
          obtain ⟨v3, x42, hr, ho, hg, hat⟩ := append_sides x41 base 33 v2 m _ SV.out.own (some ⟨gB, 0, none⟩) 1 1 [⟨st', wd', co', bb', ro', cl'⟩] (Sides.whole (t := 26) (show Whole _ gB 26 ([⟨st', wd', co', bb', ro', cl'⟩].flatMap Si.cells) from hB) rfl (by omega)) rfl (by omega) SV.out.hx
          have SX := Lib.hid (SV.out.app ho hg hat)
          refine wp_append_runC (some 24) rfl _ _ _ rfl v2 _ v3 rfl rfl hr ?_
          refine hK _ _ ⟨Lib.hid SX.out.lo, ?_⟩
          clear hK K SV hr ho hg hat hB
          have SV := SX
          clear SX
          try simp only [Act.put, List.setIfInBounds_toArray, List.set_cons_succ, List.set_cons_zero]
          refine wpAnyH_all (rs := [6, 10]) (by kernel_rfl) (by simp) ?_
          intro ii hii
          rcases (show ii = 6 ∨ ii = 10 by simpa using hii) with rfl | rfl
          · clear hii
            refine wpOp_step rfl (fun K hK => ?_)
            obtain ⟨q3, c3, hv3, hc3, hx3⟩ := own_formC SV.out.own
            subst hv3
            have hS3 := own_sidesC (zs := zs ++ [⟨st', wd', co', bb', ro', cl'⟩]) (W := x42) (base := base) (by rw [HLS.out, ← HFS.out]; exact SV.out.own) (by rw [HLS.out]; omega)
            go_simp
            refine (HWS.out _ _ _ hS3 hc3 hx3).mono ?_
            rintro e x43 ⟨rfl, hb6⟩
            have SX := Lib.hid (SV.out.below hb6)
            refine hK _ _ ⟨Lib.hid SX.out.lo, ?_⟩
            clear hK K SV hb6 hS3 hc3 hx3
            have SV := SX
            clear SX
            try simp only [Act.put, List.setIfInBounds_toArray, List.set_cons_succ, List.set_cons_zero]
            refine wpAnyH_takeC (i := 7) (v := .tuple #[.agg #[.int .i64 st2, .int .i64 wd2, .int .u32 co2, .int .i64 bb2, .int .i64 ro2, .int .i64 cl2], .int .i64 f]) (some 18) rfl rfl (by kernel_rfl) (by kernel_rfl) (by kernel_rfl) (fun _ _ _ h => h) (Or.inl ⟨by rfl, fun X hX => by go_simp⟩) (Lib.hid SV.out.lo) ?_
            try simp only [Act.put, List.setIfInBounds_toArray, List.set_cons_succ, List.set_cons_zero]
            refine wpAnyH_takeC (i := 8) (v := .agg #[.int .i64 st2, .int .i64 wd2, .int .u32 co2, .int .i64 bb2, .int .i64 ro2, .int .i64 cl2]) (some 26) rfl rfl (by kernel_rfl) (by kernel_rfl) (by kernel_rfl) (fun _ _ _ h => h) (Or.inl ⟨by rfl, fun X hX => by go_simp⟩) (Lib.hid SV.out.lo) ?_
            try simp only [Act.put, List.setIfInBounds_toArray, List.set_cons_succ, List.set_cons_zero]
            refine wpAnyH_takeC (i := 9) (v := .int .i64 f) (some 27) rfl rfl (by kernel_rfl) (by kernel_rfl) (by kernel_rfl) (fun _ _ _ h => h) (Or.inl ⟨by rfl, fun X hX => by go_simp⟩) (Lib.hid SV.out.lo) ?_
            try simp only [Act.put, List.setIfInBounds_toArray, List.set_cons_succ, List.set_cons_zero]
            refine wpAnyH_all (rs := [10]) (by kernel_rfl) (by simp) ?_
            intro ii hii
            obtain rfl : ii = 10 := by simpa using hii
            clear hii
            refine wpOp_step rfl (fun K hK => ?_)
            go_simp
            have SX := Lib.hid (SV.out.put 26 [.int .i64 0, .int .i64 0, .int .u32 0, .int .i64 0, .int .i64 0, .int .i64 0])
            have LgA : Hid (W4.heap.size ≤ (World.heap x43).size) := Lib.hid SV.out.lo.size
            refine hK _ _ ⟨Lib.hid SX.out.lo, ?_⟩
            clear hK K SV
            obtain ⟨gA, hgA⟩ : ∃ gA, (World.heap x43).size = gA := ⟨_, rfl⟩
            rw [hgA] at SX LgA ⊢
            clear hgA
            have SV := SX
            clear SX
            generalize World.alloc x43 _ = x44 at SV ⊢
            try simp only [Act.put, List.setIfInBounds_toArray, List.set_cons_succ, List.set_cons_zero]
            have hA := (SV.out.pb (gA, 26, [.int .i64 0, .int .i64 0, .int .u32 0, .int .i64 0, .int .i64 0, .int .i64 0]) (by simp)).1
            have hlA := (SV.out.lo)
            refine wpAnyH_all (rs := [11]) (by kernel_rfl) (by simp) ?_
            intro ii hii; obtain rfl : ii = 11 := by simpa using hii
            clear hii
            refine wpOp_step rfl (fun K hK => ?_)
            refine wp_store_rowC rfl 26 (.tmp 8) (.tmp 26) rfl gA #[.int .i64 st2, .int .i64 wd2, .int .u32 co2, .int .i64 bb2, .int .i64 ro2, .int .i64 cl2] rfl rfl 26 #[.int .i64 0, .int .i64 0, .int .u32 0, .int .i64 0, .int .i64 0, .int .i64 0] hA Try.infoSide rfl (Si.cells_one ⟨st2, wd2, co2, bb2, ro2, cl2⟩) ?_
            have KA := Lib.hid (whole_rowA hA #[.int .i64 st2, .int .i64 wd2, .int .u32 co2, .int .i64 bb2, .int .i64 ro2, .int .i64 cl2])
            have hgA4 : W4.heap.size ≤ gA := LgA.out
            have SX : Hid (Below W4.heap.size W4 (World.setRow _ gA #[.int .i64 st2, .int .i64 wd2, .int .u32 co2, .int .i64 bb2, .int .i64 ro2, .int .i64 cl2])) := Lib.hid ⟨SV.out.lo.os, SV.out.lo.tape, SV.out.lo.output, by simp; exact SV.out.lo.size, fun k hk => (setRow_other _ gA k _ (by omega)).trans (SV.out.lo.block k hk)⟩
            refine hK _ _ ⟨SX, ?_⟩
            clear hK K SV hA hlA
            try simp only [Act.put, List.setIfInBounds_toArray, List.set_cons_succ, List.set_cons_zero]
            generalize World.setRow _ gA #[.int .i64 st2, .int .i64 wd2, .int .u32 co2, .int .i64 bb2, .int .i64 ro2, .int .i64 cl2] = w9z at KA SX ⊢
            refine wpAnyH_takeC (i := 12) (v := .int .i64 f) (some 9) rfl rfl (by kernel_rfl) (by kernel_rfl) (by kernel_rfl) (fun _ _ _ h => h) (Or.inl ⟨by rfl, fun X hX => by go_simp⟩) SX ?_
            try simp only [Act.put, List.setIfInBounds_toArray, List.set_cons_succ, List.set_cons_zero]
            refine wpAnyH_done (by kernel_rfl) ?_ _
            simp only [Exit.then]
            exact HT.out gA _ _ _ _ _ SX.out KA.out
          · clear hii
            refine wpOp_step rfl (fun K hK => ?_)
            go_simp
            have SX := Lib.hid (SV.out.put 26 [.int .i64 0, .int .i64 0, .int .u32 0, .int .i64 0, .int .i64 0, .int .i64 0])
            have LgA : Hid (W4.heap.size ≤ (World.heap x42).size) := Lib.hid SV.out.lo.size
            refine hK _ _ ⟨Lib.hid SX.out.lo, ?_⟩
            clear hK K SV
            obtain ⟨gA, hgA⟩ : ∃ gA, (World.heap x42).size = gA := ⟨_, rfl⟩
            rw [hgA] at SX LgA ⊢
            clear hgA
            have SV := SX
            clear SX
            generalize World.alloc x42 _ = x45 at SV ⊢
            try simp only [Act.put, List.setIfInBounds_toArray, List.set_cons_succ, List.set_cons_zero]
            refine wpAnyH_all (rs := [6]) (by kernel_rfl) (by simp) ?_
            intro ii hii
            obtain rfl : ii = 6 := by simpa using hii
            clear hii
            refine wpOp_step rfl (fun K hK => ?_)
            obtain ⟨q3, c3, hv3, hc3, hx3⟩ := own_formC SV.out.own
            subst hv3
            have hS3 := own_sidesC (zs := zs ++ [⟨st', wd', co', bb', ro', cl'⟩]) (W := x45) (base := base) (by rw [HLS.out, ← HFS.out]; exact SV.out.own) (by rw [HLS.out]; omega)
            go_simp
            refine (HWS.out _ _ _ hS3 hc3 hx3).mono ?_
            rintro e x46 ⟨rfl, hb6⟩
            have SX := Lib.hid (SV.out.below hb6)
            refine hK _ _ ⟨Lib.hid SX.out.lo, ?_⟩
            clear hK K SV hb6 hS3 hc3 hx3
            have SV := SX
            clear SX
            try simp only [Act.put, List.setIfInBounds_toArray, List.set_cons_succ, List.set_cons_zero]
            refine wpAnyH_takeC (i := 7) (v := .tuple #[.agg #[.int .i64 st2, .int .i64 wd2, .int .u32 co2, .int .i64 bb2, .int .i64 ro2, .int .i64 cl2], .int .i64 f]) (some 18) rfl rfl (by kernel_rfl) (by kernel_rfl) (by kernel_rfl) (fun _ _ _ h => h) (Or.inl ⟨by rfl, fun X hX => by go_simp⟩) (Lib.hid SV.out.lo) ?_
            try simp only [Act.put, List.setIfInBounds_toArray, List.set_cons_succ, List.set_cons_zero]
            refine wpAnyH_takeC (i := 8) (v := .agg #[.int .i64 st2, .int .i64 wd2, .int .u32 co2, .int .i64 bb2, .int .i64 ro2, .int .i64 cl2]) (some 26) rfl rfl (by kernel_rfl) (by kernel_rfl) (by kernel_rfl) (fun _ _ _ h => h) (Or.inl ⟨by rfl, fun X hX => by go_simp⟩) (Lib.hid SV.out.lo) ?_
            try simp only [Act.put, List.setIfInBounds_toArray, List.set_cons_succ, List.set_cons_zero]
            refine wpAnyH_takeC (i := 9) (v := .int .i64 f) (some 27) rfl rfl (by kernel_rfl) (by kernel_rfl) (by kernel_rfl) (fun _ _ _ h => h) (Or.inl ⟨by rfl, fun X hX => by go_simp⟩) (Lib.hid SV.out.lo) ?_
            try simp only [Act.put, List.setIfInBounds_toArray, List.set_cons_succ, List.set_cons_zero]
            have hA := (SV.out.pb (gA, 26, [.int .i64 0, .int .i64 0, .int .u32 0, .int .i64 0, .int .i64 0, .int .i64 0]) (by simp)).1
            have hlA := (SV.out.lo)
            refine wpAnyH_all (rs := [11]) (by kernel_rfl) (by simp) ?_
            intro ii hii; obtain rfl : ii = 11 := by simpa using hii
            clear hii
            refine wpOp_step rfl (fun K hK => ?_)
            refine wp_store_rowC rfl 26 (.tmp 8) (.tmp 26) rfl gA #[.int .i64 st2, .int .i64 wd2, .int .u32 co2, .int .i64 bb2, .int .i64 ro2, .int .i64 cl2] rfl rfl 26 #[.int .i64 0, .int .i64 0, .int .u32 0, .int .i64 0, .int .i64 0, .int .i64 0] hA Try.infoSide rfl (Si.cells_one ⟨st2, wd2, co2, bb2, ro2, cl2⟩) ?_
            have KA := Lib.hid (whole_rowA hA #[.int .i64 st2, .int .i64 wd2, .int .u32 co2, .int .i64 bb2, .int .i64 ro2, .int .i64 cl2])
            have hgA4 : W4.heap.size ≤ gA := LgA.out
            have SX : Hid (Below W4.heap.size W4 (World.setRow _ gA #[.int .i64 st2, .int .i64 wd2, .int .u32 co2, .int .i64 bb2, .int .i64 ro2, .int .i64 cl2])) := Lib.hid ⟨SV.out.lo.os, SV.out.lo.tape, SV.out.lo.output, by simp; exact SV.out.lo.size, fun k hk => (setRow_other _ gA k _ (by omega)).trans (SV.out.lo.block k hk)⟩
            refine hK _ _ ⟨SX, ?_⟩
            clear hK K SV hA hlA
            try simp only [Act.put, List.setIfInBounds_toArray, List.set_cons_succ, List.set_cons_zero]
            generalize World.setRow _ gA #[.int .i64 st2, .int .i64 wd2, .int .u32 co2, .int .i64 bb2, .int .i64 ro2, .int .i64 cl2] = w9z at KA SX ⊢
            refine wpAnyH_takeC (i := 12) (v := .int .i64 f) (some 9) rfl rfl (by kernel_rfl) (by kernel_rfl) (by kernel_rfl) (fun _ _ _ h => h) (Or.inl ⟨by rfl, fun X hX => by go_simp⟩) SX ?_
            try simp only [Act.put, List.setIfInBounds_toArray, List.set_cons_succ, List.set_cons_zero]
            refine wpAnyH_done (by kernel_rfl) ?_ _
            simp only [Exit.then]
            exact HT.out gA _ _ _ _ _ SX.out KA.out
        · clear hii
          refine wpOp_step rfl (fun K hK => ?_)
          go_simp
          have SX := Lib.hid (SV.out.put 26 [.int .i64 0, .int .i64 0, .int .u32 0, .int .i64 0, .int .i64 0, .int .i64 0])
          have LgA : Hid (W4.heap.size ≤ (World.heap x41).size) := Lib.hid SV.out.lo.size
          refine hK _ _ ⟨Lib.hid SX.out.lo, ?_⟩
          clear hK K SV
          obtain ⟨gA, hgA⟩ : ∃ gA, (World.heap x41).size = gA := ⟨_, rfl⟩
          rw [hgA] at SX LgA ⊢
          clear hgA
          have SV := SX
          clear SX
          generalize World.alloc x41 _ = x47 at SV ⊢
          try simp only [Act.put, List.setIfInBounds_toArray, List.set_cons_succ, List.set_cons_zero]
          refine wpAnyH_all (rs := [5]) (by kernel_rfl) (by simp) ?_
          intro ii hii
          obtain rfl : ii = 5 := by simpa using hii
          clear hii
          refine wpOp_step rfl (fun K hK => ?_)
          have hB := (SV.out.pb (gB, 26, [.int .i64 st', .int .i64 wd', .int .u32 co', .int .i64 bb', .int .i64 ro', .int .i64 cl']) (by simp)).1
          obtain ⟨v3, x48, hr, ho, hg, hat⟩ := append_sides x47 base 33 v2 m _ SV.out.own (some ⟨gB, 0, none⟩) 1 1 [⟨st', wd', co', bb', ro', cl'⟩] (Sides.whole (t := 26) (show Whole _ gB 26 ([⟨st', wd', co', bb', ro', cl'⟩].flatMap Si.cells) from hB) rfl (by omega)) rfl (by omega) SV.out.hx
          have SX := Lib.hid (SV.out.app ho hg hat)
          refine wp_append_runC (some 24) rfl _ _ _ rfl v2 _ v3 rfl rfl hr ?_
          refine hK _ _ ⟨Lib.hid SX.out.lo, ?_⟩
          clear hK K SV hr ho hg hat hB
          have SV := SX
          clear SX
          try simp only [Act.put, List.setIfInBounds_toArray, List.set_cons_succ, List.set_cons_zero]
          refine wpAnyH_all (rs := [6]) (by kernel_rfl) (by simp) ?_
          intro ii hii
          obtain rfl : ii = 6 := by simpa using hii
          clear hii
          refine wpOp_step rfl (fun K hK => ?_)
          obtain ⟨q3, c3, hv3, hc3, hx3⟩ := own_formC SV.out.own
          subst hv3
          have hS3 := own_sidesC (zs := zs ++ [⟨st', wd', co', bb', ro', cl'⟩]) (W := x48) (base := base) (by rw [HLS.out, ← HFS.out]; exact SV.out.own) (by rw [HLS.out]; omega)
          go_simp
          refine (HWS.out _ _ _ hS3 hc3 hx3).mono ?_
          rintro e x49 ⟨rfl, hb6⟩
          have SX := Lib.hid (SV.out.below hb6)
          refine hK _ _ ⟨Lib.hid SX.out.lo, ?_⟩
          clear hK K SV hb6 hS3 hc3 hx3
          have SV := SX
          clear SX
          try simp only [Act.put, List.setIfInBounds_toArray, List.set_cons_succ, List.set_cons_zero]
          refine wpAnyH_takeC (i := 7) (v := .tuple #[.agg #[.int .i64 st2, .int .i64 wd2, .int .u32 co2, .int .i64 bb2, .int .i64 ro2, .int .i64 cl2], .int .i64 f]) (some 18) rfl rfl (by kernel_rfl) (by kernel_rfl) (by kernel_rfl) (fun _ _ _ h => h) (Or.inl ⟨by rfl, fun X hX => by go_simp⟩) (Lib.hid SV.out.lo) ?_
          try simp only [Act.put, List.setIfInBounds_toArray, List.set_cons_succ, List.set_cons_zero]
          refine wpAnyH_takeC (i := 8) (v := .agg #[.int .i64 st2, .int .i64 wd2, .int .u32 co2, .int .i64 bb2, .int .i64 ro2, .int .i64 cl2]) (some 26) rfl rfl (by kernel_rfl) (by kernel_rfl) (by kernel_rfl) (fun _ _ _ h => h) (Or.inl ⟨by rfl, fun X hX => by go_simp⟩) (Lib.hid SV.out.lo) ?_
          try simp only [Act.put, List.setIfInBounds_toArray, List.set_cons_succ, List.set_cons_zero]
          refine wpAnyH_takeC (i := 9) (v := .int .i64 f) (some 27) rfl rfl (by kernel_rfl) (by kernel_rfl) (by kernel_rfl) (fun _ _ _ h => h) (Or.inl ⟨by rfl, fun X hX => by go_simp⟩) (Lib.hid SV.out.lo) ?_
          try simp only [Act.put, List.setIfInBounds_toArray, List.set_cons_succ, List.set_cons_zero]
          have hA := (SV.out.pb (gA, 26, [.int .i64 0, .int .i64 0, .int .u32 0, .int .i64 0, .int .i64 0, .int .i64 0]) (by simp)).1
          have hlA := (SV.out.lo)
          refine wpAnyH_all (rs := [11]) (by kernel_rfl) (by simp) ?_
          intro ii hii; obtain rfl : ii = 11 := by simpa using hii
          clear hii
          refine wpOp_step rfl (fun K hK => ?_)
          refine wp_store_rowC rfl 26 (.tmp 8) (.tmp 26) rfl gA #[.int .i64 st2, .int .i64 wd2, .int .u32 co2, .int .i64 bb2, .int .i64 ro2, .int .i64 cl2] rfl rfl 26 #[.int .i64 0, .int .i64 0, .int .u32 0, .int .i64 0, .int .i64 0, .int .i64 0] hA Try.infoSide rfl (Si.cells_one ⟨st2, wd2, co2, bb2, ro2, cl2⟩) ?_
          have KA := Lib.hid (whole_rowA hA #[.int .i64 st2, .int .i64 wd2, .int .u32 co2, .int .i64 bb2, .int .i64 ro2, .int .i64 cl2])
          have hgA4 : W4.heap.size ≤ gA := LgA.out
          have SX : Hid (Below W4.heap.size W4 (World.setRow _ gA #[.int .i64 st2, .int .i64 wd2, .int .u32 co2, .int .i64 bb2, .int .i64 ro2, .int .i64 cl2])) := Lib.hid ⟨SV.out.lo.os, SV.out.lo.tape, SV.out.lo.output, by simp; exact SV.out.lo.size, fun k hk => (setRow_other _ gA k _ (by omega)).trans (SV.out.lo.block k hk)⟩
          refine hK _ _ ⟨SX, ?_⟩
          clear hK K SV hA hlA
          try simp only [Act.put, List.setIfInBounds_toArray, List.set_cons_succ, List.set_cons_zero]
          generalize World.setRow _ gA #[.int .i64 st2, .int .i64 wd2, .int .u32 co2, .int .i64 bb2, .int .i64 ro2, .int .i64 cl2] = w9z at KA SX ⊢
          refine wpAnyH_takeC (i := 12) (v := .int .i64 f) (some 9) rfl rfl (by kernel_rfl) (by kernel_rfl) (by kernel_rfl) (fun _ _ _ h => h) (Or.inl ⟨by rfl, fun X hX => by go_simp⟩) SX ?_
          try simp only [Act.put, List.setIfInBounds_toArray, List.set_cons_succ, List.set_cons_zero]
          refine wpAnyH_done (by kernel_rfl) ?_ _
          simp only [Exit.then]
          exact HT.out gA _ _ _ _ _ SX.out KA.out
      · clear hii
        refine wpOp_step rfl (fun K hK => ?_)
        go_simp
        have SX := Lib.hid (SV.out.put 26 [.int .i64 0, .int .i64 0, .int .u32 0, .int .i64 0, .int .i64 0, .int .i64 0])
        have LgA : Hid (W4.heap.size ≤ (World.heap x40).size) := Lib.hid SV.out.lo.size
        refine hK _ _ ⟨Lib.hid SX.out.lo, ?_⟩
        clear hK K SV
        obtain ⟨gA, hgA⟩ : ∃ gA, (World.heap x40).size = gA := ⟨_, rfl⟩
        rw [hgA] at SX LgA ⊢
        clear hgA
        have SV := SX
        clear SX
        generalize World.alloc x40 _ = x50 at SV ⊢
        try simp only [Act.put, List.setIfInBounds_toArray, List.set_cons_succ, List.set_cons_zero]
        refine wpAnyH_all (rs := [2]) (by kernel_rfl) (by simp) ?_
        intro ii hii
        obtain rfl : ii = 2 := by simpa using hii
        clear hii
        refine wpOp_step rfl (fun K hK => ?_)
        obtain ⟨v2, x51, hr, ho, hg, hat⟩ := append_sides x50 base 33 vv 0 [] SV.out.own p m cap0 zs (HZ.out _ SV.out.lo) HL.out (by omega) SV.out.hx
        rw [Nat.zero_add, List.nil_append] at ho
        have SX := Lib.hid (SV.out.app ho hg hat)
        refine wp_append_runC (some 21) rfl _ _ _ rfl vv _ v2 rfl rfl hr ?_
        refine hK _ _ ⟨Lib.hid SX.out.lo, ?_⟩
        clear hK K SV hr ho hg hat
        have SV := SX
        clear SX
        try simp only [Act.put, List.setIfInBounds_toArray, List.set_cons_succ, List.set_cons_zero]
        refine wpAnyH_all (rs := [5]) (by kernel_rfl) (by simp) ?_
        intro ii hii
        obtain rfl : ii = 5 := by simpa using hii
        clear hii
        refine wpOp_step rfl (fun K hK => ?_)
        have hB := (SV.out.pb (gB, 26, [.int .i64 st', .int .i64 wd', .int .u32 co', .int .i64 bb', .int .i64 ro', .int .i64 cl']) (by simp)).1
        obtain ⟨v3, x52, hr, ho, hg, hat⟩ := append_sides x51 base 33 v2 m _ SV.out.own (some ⟨gB, 0, none⟩) 1 1 [⟨st', wd', co', bb', ro', cl'⟩] (Sides.whole (t := 26) (show Whole _ gB 26 ([⟨st', wd', co', bb', ro', cl'⟩].flatMap Si.cells) from hB) rfl (by omega)) rfl (by omega) SV.out.hx
        have SX := Lib.hid (SV.out.app ho hg hat)
        refine wp_append_runC (some 24) rfl _ _ _ rfl v2 _ v3 rfl rfl hr ?_
        refine hK _ _ ⟨Lib.hid SX.out.lo, ?_⟩
        clear hK K SV hr ho hg hat hB
        have SV := SX
        clear SX
        try simp only [Act.put, List.setIfInBounds_toArray, List.set_cons_succ, List.set_cons_zero]
        refine wpAnyH_all (rs := [6]) (by kernel_rfl) (by simp) ?_
        intro ii hii
        obtain rfl : ii = 6 := by simpa using hii
        clear hii
        refine wpOp_step rfl (fun K hK => ?_)
        obtain ⟨q3, c3, hv3, hc3, hx3⟩ := own_formC SV.out.own
        subst hv3
        have hS3 := own_sidesC (zs := zs ++ [⟨st', wd', co', bb', ro', cl'⟩]) (W := x52) (base := base) (by rw [HLS.out, ← HFS.out]; exact SV.out.own) (by rw [HLS.out]; omega)
        go_simp
        refine (HWS.out _ _ _ hS3 hc3 hx3).mono ?_
        rintro e x53 ⟨rfl, hb6⟩
        have SX := Lib.hid (SV.out.below hb6)
        refine hK _ _ ⟨Lib.hid SX.out.lo, ?_⟩
        clear hK K SV hb6 hS3 hc3 hx3
        have SV := SX
        clear SX
        try simp only [Act.put, List.setIfInBounds_toArray, List.set_cons_succ, List.set_cons_zero]
        refine wpAnyH_takeC (i := 7) (v := .tuple #[.agg #[.int .i64 st2, .int .i64 wd2, .int .u32 co2, .int .i64 bb2, .int .i64 ro2, .int .i64 cl2], .int .i64 f]) (some 18) rfl rfl (by kernel_rfl) (by kernel_rfl) (by kernel_rfl) (fun _ _ _ h => h) (Or.inl ⟨by rfl, fun X hX => by go_simp⟩) (Lib.hid SV.out.lo) ?_
        try simp only [Act.put, List.setIfInBounds_toArray, List.set_cons_succ, List.set_cons_zero]
        refine wpAnyH_takeC (i := 8) (v := .agg #[.int .i64 st2, .int .i64 wd2, .int .u32 co2, .int .i64 bb2, .int .i64 ro2, .int .i64 cl2]) (some 26) rfl rfl (by kernel_rfl) (by kernel_rfl) (by kernel_rfl) (fun _ _ _ h => h) (Or.inl ⟨by rfl, fun X hX => by go_simp⟩) (Lib.hid SV.out.lo) ?_
        try simp only [Act.put, List.setIfInBounds_toArray, List.set_cons_succ, List.set_cons_zero]
        refine wpAnyH_takeC (i := 9) (v := .int .i64 f) (some 27) rfl rfl (by kernel_rfl) (by kernel_rfl) (by kernel_rfl) (fun _ _ _ h => h) (Or.inl ⟨by rfl, fun X hX => by go_simp⟩) (Lib.hid SV.out.lo) ?_
        try simp only [Act.put, List.setIfInBounds_toArray, List.set_cons_succ, List.set_cons_zero]
        have hA := (SV.out.pb (gA, 26, [.int .i64 0, .int .i64 0, .int .u32 0, .int .i64 0, .int .i64 0, .int .i64 0]) (by simp)).1
        have hlA := (SV.out.lo)
        refine wpAnyH_all (rs := [11]) (by kernel_rfl) (by simp) ?_
        intro ii hii; obtain rfl : ii = 11 := by simpa using hii
        clear hii
        refine wpOp_step rfl (fun K hK => ?_)
        refine wp_store_rowC rfl 26 (.tmp 8) (.tmp 26) rfl gA #[.int .i64 st2, .int .i64 wd2, .int .u32 co2, .int .i64 bb2, .int .i64 ro2, .int .i64 cl2] rfl rfl 26 #[.int .i64 0, .int .i64 0, .int .u32 0, .int .i64 0, .int .i64 0, .int .i64 0] hA Try.infoSide rfl (Si.cells_one ⟨st2, wd2, co2, bb2, ro2, cl2⟩) ?_
        have KA := Lib.hid (whole_rowA hA #[.int .i64 st2, .int .i64 wd2, .int .u32 co2, .int .i64 bb2, .int .i64 ro2, .int .i64 cl2])
        have hgA4 : W4.heap.size ≤ gA := LgA.out
        have SX : Hid (Below W4.heap.size W4 (World.setRow _ gA #[.int .i64 st2, .int .i64 wd2, .int .u32 co2, .int .i64 bb2, .int .i64 ro2, .int .i64 cl2])) := Lib.hid ⟨SV.out.lo.os, SV.out.lo.tape, SV.out.lo.output, by simp; exact SV.out.lo.size, fun k hk => (setRow_other _ gA k _ (by omega)).trans (SV.out.lo.block k hk)⟩
        refine hK _ _ ⟨SX, ?_⟩
        clear hK K SV hA hlA
        try simp only [Act.put, List.setIfInBounds_toArray, List.set_cons_succ, List.set_cons_zero]
        generalize World.setRow _ gA #[.int .i64 st2, .int .i64 wd2, .int .u32 co2, .int .i64 bb2, .int .i64 ro2, .int .i64 cl2] = w9z at KA SX ⊢
        refine wpAnyH_takeC (i := 12) (v := .int .i64 f) (some 9) rfl rfl (by kernel_rfl) (by kernel_rfl) (by kernel_rfl) (fun _ _ _ h => h) (Or.inl ⟨by rfl, fun X hX => by go_simp⟩) SX ?_
        try simp only [Act.put, List.setIfInBounds_toArray, List.set_cons_succ, List.set_cons_zero]
        refine wpAnyH_done (by kernel_rfl) ?_ _
        simp only [Exit.then]
        exact HT.out gA _ _ _ _ _ SX.out KA.out
    · clear hii
      refine wpOp_step rfl (fun K hK => ?_)
      go_simp
      have SX := Lib.hid (SV.out.put 26 [.int .i64 0, .int .i64 0, .int .u32 0, .int .i64 0, .int .i64 0, .int .i64 0])
      have LgA : Hid (W4.heap.size ≤ (World.heap x39).size) := Lib.hid SV.out.lo.size
      refine hK _ _ ⟨Lib.hid SX.out.lo, ?_⟩
      clear hK K SV
      obtain ⟨gA, hgA⟩ : ∃ gA, (World.heap x39).size = gA := ⟨_, rfl⟩
      rw [hgA] at SX LgA ⊢
      clear hgA
      have SV := SX
      clear SX
      generalize World.alloc x39 _ = x54 at SV ⊢
      try simp only [Act.put, List.setIfInBounds_toArray, List.set_cons_succ, List.set_cons_zero]
      refine wpAnyH_all (rs := [0]) (by kernel_rfl) (by simp) ?_
      intro ii hii
      obtain rfl : ii = 0 := by simpa using hii
      clear hii
      refine wpOp_step rfl (fun K hK => ?_)
      go_simp
      have SX := Lib.hid (SV.out.made zc 61 HZC.out (by unfold maxLen; omega))
      refine hK _ _ ⟨Lib.hid SX.out.lo, ?_⟩
      clear hK K SV
      obtain ⟨vv, hvv⟩ : ∃ vv, Value.slice (some ⟨(World.heap x54).size, 0, none⟩) 0 61 = vv := ⟨_, rfl⟩
      rw [hvv] at SX ⊢
      clear hvv
      have SV := SX
      clear SX
      generalize World.alloc x54 (.cells zc 26) = x55 at SV ⊢
      try simp only [Act.put, List.setIfInBounds_toArray, List.set_cons_succ, List.set_cons_zero]
      refine wpAnyH_all (rs := [2]) (by kernel_rfl) (by simp) ?_
      intro ii hii
      obtain rfl : ii = 2 := by simpa using hii
      clear hii
      refine wpOp_step rfl (fun K hK => ?_)
      obtain ⟨v2, x56, hr, ho, hg, hat⟩ := append_sides x55 base 33 vv 0 [] SV.out.own p m cap0 zs (HZ.out _ SV.out.lo) HL.out (by omega) SV.out.hx
      rw [Nat.zero_add, List.nil_append] at ho
      have SX := Lib.hid (SV.out.app ho hg hat)
      refine wp_append_runC (some 21) rfl _ _ _ rfl vv _ v2 rfl rfl hr ?_
      refine hK _ _ ⟨Lib.hid SX.out.lo, ?_⟩
      clear hK K SV hr ho hg hat
      have SV := SX
      clear SX
      try simp only [Act.put, List.setIfInBounds_toArray, List.set_cons_succ, List.set_cons_zero]
      refine wpAnyH_all (rs := [5]) (by kernel_rfl) (by simp) ?_
      intro ii hii
      obtain rfl : ii = 5 := by simpa using hii
      clear hii
      refine wpOp_step rfl (fun K hK => ?_)
      have hB := (SV.out.pb (gB, 26, [.int .i64 st', .int .i64 wd', .int .u32 co', .int .i64 bb', .int .i64 ro', .int .i64 cl']) (by simp)).1
      obtain ⟨v3, x57, hr, ho, hg, hat⟩ := append_sides x56 base 33 v2 m _ SV.out.own (some ⟨gB, 0, none⟩) 1 1 [⟨st', wd', co', bb', ro', cl'⟩] (Sides.whole (t := 26) (show Whole _ gB 26 ([⟨st', wd', co', bb', ro', cl'⟩].flatMap Si.cells) from hB) rfl (by omega)) rfl (by omega) SV.out.hx
      have SX := Lib.hid (SV.out.app ho hg hat)
      refine wp_append_runC (some 24) rfl _ _ _ rfl v2 _ v3 rfl rfl hr ?_
      refine hK _ _ ⟨Lib.hid SX.out.lo, ?_⟩
      clear hK K SV hr ho hg hat hB
      have SV := SX
      clear SX
      try simp only [Act.put, List.setIfInBounds_toArray, List.set_cons_succ, List.set_cons_zero]
      refine wpAnyH_all (rs := [6]) (by kernel_rfl) (by simp) ?_
      intro ii hii
      obtain rfl : ii = 6 := by simpa using hii
      clear hii
      refine wpOp_step rfl (fun K hK => ?_)
      obtain ⟨q3, c3, hv3, hc3, hx3⟩ := own_formC SV.out.own
      subst hv3
      have hS3 := own_sidesC (zs := zs ++ [⟨st', wd', co', bb', ro', cl'⟩]) (W := x57) (base := base) (by rw [HLS.out, ← HFS.out]; exact SV.out.own) (by rw [HLS.out]; omega)
      go_simp
      refine (HWS.out _ _ _ hS3 hc3 hx3).mono ?_
      rintro e x58 ⟨rfl, hb6⟩
      have SX := Lib.hid (SV.out.below hb6)
      refine hK _ _ ⟨Lib.hid SX.out.lo, ?_⟩
      clear hK K SV hb6 hS3 hc3 hx3
      have SV := SX
      clear SX
      try simp only [Act.put, List.setIfInBounds_toArray, List.set_cons_succ, List.set_cons_zero]
      refine wpAnyH_takeC (i := 7) (v := .tuple #[.agg #[.int .i64 st2, .int .i64 wd2, .int .u32 co2, .int .i64 bb2, .int .i64 ro2, .int .i64 cl2], .int .i64 f]) (some 18) rfl rfl (by kernel_rfl) (by kernel_rfl) (by kernel_rfl) (fun _ _ _ h => h) (Or.inl ⟨by rfl, fun X hX => by go_simp⟩) (Lib.hid SV.out.lo) ?_
      try simp only [Act.put, List.setIfInBounds_toArray, List.set_cons_succ, List.set_cons_zero]
      refine wpAnyH_takeC (i := 8) (v := .agg #[.int .i64 st2, .int .i64 wd2, .int .u32 co2, .int .i64 bb2, .int .i64 ro2, .int .i64 cl2]) (some 26) rfl rfl (by kernel_rfl) (by kernel_rfl) (by kernel_rfl) (fun _ _ _ h => h) (Or.inl ⟨by rfl, fun X hX => by go_simp⟩) (Lib.hid SV.out.lo) ?_
      try simp only [Act.put, List.setIfInBounds_toArray, List.set_cons_succ, List.set_cons_zero]
      refine wpAnyH_takeC (i := 9) (v := .int .i64 f) (some 27) rfl rfl (by kernel_rfl) (by kernel_rfl) (by kernel_rfl) (fun _ _ _ h => h) (Or.inl ⟨by rfl, fun X hX => by go_simp⟩) (Lib.hid SV.out.lo) ?_
      try simp only [Act.put, List.setIfInBounds_toArray, List.set_cons_succ, List.set_cons_zero]
      have hA := (SV.out.pb (gA, 26, [.int .i64 0, .int .i64 0, .int .u32 0, .int .i64 0, .int .i64 0, .int .i64 0]) (by simp)).1
      have hlA := (SV.out.lo)
      refine wpAnyH_all (rs := [11]) (by kernel_rfl) (by simp) ?_
      intro ii hii; obtain rfl : ii = 11 := by simpa using hii
      clear hii
      refine wpOp_step rfl (fun K hK => ?_)
      refine wp_store_rowC rfl 26 (.tmp 8) (.tmp 26) rfl gA #[.int .i64 st2, .int .i64 wd2, .int .u32 co2, .int .i64 bb2, .int .i64 ro2, .int .i64 cl2] rfl rfl 26 #[.int .i64 0, .int .i64 0, .int .u32 0, .int .i64 0, .int .i64 0, .int .i64 0] hA Try.infoSide rfl (Si.cells_one ⟨st2, wd2, co2, bb2, ro2, cl2⟩) ?_
      have KA := Lib.hid (whole_rowA hA #[.int .i64 st2, .int .i64 wd2, .int .u32 co2, .int .i64 bb2, .int .i64 ro2, .int .i64 cl2])
      have hgA4 : W4.heap.size ≤ gA := LgA.out
      have SX : Hid (Below W4.heap.size W4 (World.setRow _ gA #[.int .i64 st2, .int .i64 wd2, .int .u32 co2, .int .i64 bb2, .int .i64 ro2, .int .i64 cl2])) := Lib.hid ⟨SV.out.lo.os, SV.out.lo.tape, SV.out.lo.output, by simp; exact SV.out.lo.size, fun k hk => (setRow_other _ gA k _ (by omega)).trans (SV.out.lo.block k hk)⟩
      refine hK _ _ ⟨SX, ?_⟩
      clear hK K SV hA hlA
      try simp only [Act.put, List.setIfInBounds_toArray, List.set_cons_succ, List.set_cons_zero]
      generalize World.setRow _ gA #[.int .i64 st2, .int .i64 wd2, .int .u32 co2, .int .i64 bb2, .int .i64 ro2, .int .i64 cl2] = w9z at KA SX ⊢
      refine wpAnyH_takeC (i := 12) (v := .int .i64 f) (some 9) rfl rfl (by kernel_rfl) (by kernel_rfl) (by kernel_rfl) (fun _ _ _ h => h) (Or.inl ⟨by rfl, fun X hX => by go_simp⟩) SX ?_
      try simp only [Act.put, List.setIfInBounds_toArray, List.set_cons_succ, List.set_cons_zero]
      refine wpAnyH_done (by kernel_rfl) ?_ _
      simp only [Exit.then]
      exact HT.out gA _ _ _ _ _ SX.out KA.out
  · clear hii
    refine wpOp_step rfl (fun K hK => ?_)
    go_simp
    have SX := Lib.hid (SV.out.put 26 [.int .i64 0, .int .i64 0, .int .u32 0, .int .i64 0, .int .i64 0, .int .i64 0])
    have LgA : Hid (W4.heap.size ≤ (World.heap w9).size) := Lib.hid SV.out.lo.size
    refine hK _ _ ⟨Lib.hid SX.out.lo, ?_⟩
    clear hK K SV
    obtain ⟨gA, hgA⟩ : ∃ gA, (World.heap w9).size = gA := ⟨_, rfl⟩
    rw [hgA] at SX LgA ⊢
    clear hgA
    have SV := SX
    clear SX
    generalize World.alloc w9 _ = x59 at SV ⊢
    try simp only [Act.put, List.setIfInBounds_toArray, List.set_cons_succ, List.set_cons_zero]
    refine wpAnyH_all (rs := [0, 4]) (by kernel_rfl) (by simp) ?_
    intro ii hii
    rcases (show ii = 0 ∨ ii = 4 by simpa using hii) with rfl | rfl
    · clear hii
      refine wpOp_step rfl (fun K hK => ?_)
      go_simp
      have SX := Lib.hid (SV.out.made zc 61 HZC.out (by unfold maxLen; omega))
      refine hK _ _ ⟨Lib.hid SX.out.lo, ?_⟩
      clear hK K SV
      obtain ⟨vv, hvv⟩ : ∃ vv, Value.slice (some ⟨(World.heap x59).size, 0, none⟩) 0 61 = vv := ⟨_, rfl⟩
      rw [hvv] at SX ⊢
      clear hvv
      have SV := SX
      clear SX
      generalize World.alloc x59 (.cells zc 26) = x60 at SV ⊢
      try simp only [Act.put, List.setIfInBounds_toArray, List.set_cons_succ, List.set_cons_zero]
      refine wpAnyH_all (rs := [2, 4]) (by kernel_rfl) (by simp) ?_
      intro ii hii
      rcases (show ii = 2 ∨ ii = 4 by simpa using hii) with rfl | rfl
      · clear hii
        refine wpOp_step rfl (fun K hK => ?_)
        obtain ⟨v2, x61, hr, ho, hg, hat⟩ := append_sides x60 base 33 vv 0 [] SV.out.own p m cap0 zs (HZ.out _ SV.out.lo) HL.out (by omega) SV.out.hx
        rw [Nat.zero_add, List.nil_append] at ho
        have SX := Lib.hid (SV.out.app ho hg hat)
        refine wp_append_runC (some 21) rfl _ _ _ rfl vv _ v2 rfl rfl hr ?_
        refine hK _ _ ⟨Lib.hid SX.out.lo, ?_⟩
        clear hK K SV hr ho hg hat
        have SV := SX
        clear SX
        try simp only [Act.put, List.setIfInBounds_toArray, List.set_cons_succ, List.set_cons_zero]
        refine wpAnyH_all (rs := [4]) (by kernel_rfl) (by simp) ?_
        intro ii hii
        obtain rfl : ii = 4 := by simpa using hii
        clear hii
        refine wpOp_step rfl (fun K hK => ?_)
        go_simp
        have SX := Lib.hid (SV.out.put 26 [.int .i64 st', .int .i64 wd', .int .u32 co', .int .i64 bb', .int .i64 ro', .int .i64 cl'])
        refine hK _ _ ⟨Lib.hid SX.out.lo, ?_⟩
        clear hK K SV
        obtain ⟨gB, hgB⟩ : ∃ gB, (World.heap x61).size = gB := ⟨_, rfl⟩
        rw [hgB] at SX ⊢
        clear hgB
        have SV := SX
        clear SX
        generalize World.alloc x61 _ = x62 at SV ⊢
        try simp only [Act.put, List.setIfInBounds_toArray, List.set_cons_succ, List.set_cons_zero]
        refine wpAnyH_all (rs := [5]) (by kernel_rfl) (by simp) ?_
        intro ii hii
        obtain rfl : ii = 5 := by simpa using hii
        clear hii
        refine wpOp_step rfl (fun K hK => ?_)
        have hB := (SV.out.pb (gB, 26, [.int .i64 st', .int .i64 wd', .int .u32 co', .int .i64 bb', .int .i64 ro', .int .i64 cl']) (by simp)).1
        obtain ⟨v3, x63, hr, ho, hg, hat⟩ := append_sides x62 base 33 v2 m _ SV.out.own (some ⟨gB, 0, none⟩) 1 1 [⟨st', wd', co', bb', ro', cl'⟩] (Sides.whole (t := 26) (show Whole _ gB 26 ([⟨st', wd', co', bb', ro', cl'⟩].flatMap Si.cells) from hB) rfl (by omega)) rfl (by omega) SV.out.hx
        have SX := Lib.hid (SV.out.app ho hg hat)
        refine wp_append_runC (some 24) rfl _ _ _ rfl v2 _ v3 rfl rfl hr ?_
        refine hK _ _ ⟨Lib.hid SX.out.lo, ?_⟩
        clear hK K SV hr ho hg hat hB
        have SV := SX
        clear SX
        try simp only [Act.put, List.setIfInBounds_toArray, List.set_cons_succ, List.set_cons_zero]
        refine wpAnyH_all (rs := [6]) (by kernel_rfl) (by simp) ?_
        intro ii hii
        obtain rfl : ii = 6 := by simpa using hii
        clear hii
        refine wpOp_step rfl (fun K hK => ?_)
        obtain ⟨q3, c3, hv3, hc3, hx3⟩ := own_formC SV.out.own
        subst hv3
        have hS3 := own_sidesC (zs := zs ++ [⟨st', wd', co', bb', ro', cl'⟩]) (W := x63) (base := base) (by rw [HLS.out, ← HFS.out]; exact SV.out.own) (by rw [HLS.out]; omega)
        go_simp
        refine (HWS.out _ _ _ hS3 hc3 hx3).mono ?_
        rintro e x64 ⟨rfl, hb6⟩
        have SX := Lib.hid (SV.out.below hb6)
        refine hK _ _ ⟨Lib.hid SX.out.lo, ?_⟩
        clear hK K SV hb6 hS3 hc3 hx3
        have SV := SX
        clear SX
        try simp only [Act.put, List.setIfInBounds_toArray, List.set_cons_succ, List.set_cons_zero]
        refine wpAnyH_takeC (i := 7) (v := .tuple #[.agg #[.int .i64 st2, .int .i64 wd2, .int .u32 co2, .int .i64 bb2, .int .i64 ro2, .int .i64 cl2], .int .i64 f]) (some 18) rfl rfl (by kernel_rfl) (by kernel_rfl) (by kernel_rfl) (fun _ _ _ h => h) (Or.inl ⟨by rfl, fun X hX => by go_simp⟩) (Lib.hid SV.out.lo) ?_
        try simp only [Act.put, List.setIfInBounds_toArray, List.set_cons_succ, List.set_cons_zero]
        refine wpAnyH_takeC (i := 8) (v := .agg #[.int .i64 st2, .int .i64 wd2, .int .u32 co2, .int .i64 bb2, .int .i64 ro2, .int .i64 cl2]) (some 26) rfl rfl (by kernel_rfl) (by kernel_rfl) (by kernel_rfl) (fun _ _ _ h => h) (Or.inl ⟨by rfl, fun X hX => by go_simp⟩) (Lib.hid SV.out.lo) ?_
        try simp only [Act.put, List.setIfInBounds_toArray, List.set_cons_succ, List.set_cons_zero]
        refine wpAnyH_takeC (i := 9) (v := .int .i64 f) (some 27) rfl rfl (by kernel_rfl) (by kernel_rfl) (by kernel_rfl) (fun _ _ _ h => h) (Or.inl ⟨by rfl, fun X hX => by go_simp⟩) (Lib.hid SV.out.lo) ?_
        try simp only [Act.put, List.setIfInBounds_toArray, List.set_cons_succ, List.set_cons_zero]
        have hA := (SV.out.pb (gA, 26, [.int .i64 0, .int .i64 0, .int .u32 0, .int .i64 0, .int .i64 0, .int .i64 0]) (by simp)).1
        have hlA := (SV.out.lo)
        refine wpAnyH_all (rs := [11]) (by kernel_rfl) (by simp) ?_
        intro ii hii; obtain rfl : ii = 11 := by simpa using hii
        clear hii
        refine wpOp_step rfl (fun K hK => ?_)
        refine wp_store_rowC rfl 26 (.tmp 8) (.tmp 26) rfl gA #[.int .i64 st2, .int .i64 wd2, .int .u32 co2, .int .i64 bb2, .int .i64 ro2, .int .i64 cl2] rfl rfl 26 #[.int .i64 0, .int .i64 0, .int .u32 0, .int .i64 0, .int .i64 0, .int .i64 0] hA Try.infoSide rfl (Si.cells_one ⟨st2, wd2, co2, bb2, ro2, cl2⟩) ?_
        have KA := Lib.hid (whole_rowA hA #[.int .i64 st2, .int .i64 wd2, .int .u32 co2, .int .i64 bb2, .int .i64 ro2, .int .i64 cl2])
        have hgA4 : W4.heap.size ≤ gA := LgA.out
        have SX : Hid (Below W4.heap.size W4 (World.setRow _ gA #[.int .i64 st2, .int .i64 wd2, .int .u32 co2, .int .i64 bb2, .int .i64 ro2, .int .i64 cl2])) := Lib.hid ⟨SV.out.lo.os, SV.out.lo.tape, SV.out.lo.output, by simp; exact SV.out.lo.size, fun k hk => (setRow_other _ gA k _ (by omega)).trans (SV.out.lo.block k hk)⟩
        refine hK _ _ ⟨SX, ?_⟩
        clear hK K SV hA hlA
        try simp only [Act.put, List.setIfInBounds_toArray, List.set_cons_succ, List.set_cons_zero]
        generalize World.setRow _ gA #[.int .i64 st2, .int .i64 wd2, .int .u32 co2, .int .i64 bb2, .int .i64 ro2, .int .i64 cl2] = w9z at KA SX ⊢
        refine wpAnyH_takeC (i := 12) (v := .int .i64 f) (some 9) rfl rfl (by kernel_rfl) (by kernel_rfl) (by kernel_rfl) (fun _ _ _ h => h) (Or.inl ⟨by rfl, fun X hX => by go_simp⟩) SX ?_
        try simp only [Act.put, List.setIfInBounds_toArray, List.set_cons_succ, List.set_cons_zero]
        refine wpAnyH_done (by kernel_rfl) ?_ _
        simp only [Exit.then]
        exact HT.out gA _ _ _ _ _ SX.out KA.out
      · clear hii
        refine wpOp_step rfl (fun K hK => ?_)
        go_simp
        have SX := Lib.hid (SV.out.put 26 [.int .i64 st', .int .i64 wd', .int .u32 co', .int .i64 bb', .int .i64 ro', .int .i64 cl'])
        refine hK _ _ ⟨Lib.hid SX.out.lo, ?_⟩
        clear hK K SV
        obtain ⟨gB, hgB⟩ : ∃ gB, (World.heap x60).size = gB := ⟨_, rfl⟩
        rw [hgB] at SX ⊢
        clear hgB
        have SV := SX
        clear SX
        generalize World.alloc x60 _ = x65 at SV ⊢
        try simp only [Act.put, List.setIfInBounds_toArray, List.set_cons_succ, List.set_cons_zero]
        refine wpAnyH_all (rs := [2]) (by kernel_rfl) (by simp) ?_
        intro ii hii
        obtain rfl : ii = 2 := by simpa using hii
        clear hii
        refine wpOp_step rfl (fun K hK => ?_)
        obtain ⟨v2, x66, hr, ho, hg, hat⟩ := append_sides x65 base 33 vv 0 [] SV.out.own p m cap0 zs (HZ.out _ SV.out.lo) HL.out (by omega) SV.out.hx
        rw [Nat.zero_add, List.nil_append] at ho
        have SX := Lib.hid (SV.out.app ho hg hat)
        refine wp_append_runC (some 21) rfl _ _ _ rfl vv _ v2 rfl rfl hr ?_
        refine hK _ _ ⟨Lib.hid SX.out.lo, ?_⟩
        clear hK K SV hr ho hg hat
        have SV := SX
        clear SX
        try simp only [Act.put, List.setIfInBounds_toArray, List.set_cons_succ, List.set_cons_zero]
        refine wpAnyH_all (rs := [5]) (by kernel_rfl) (by simp) ?_
        intro ii hii
        obtain rfl : ii = 5 := by simpa using hii
        clear hii
        refine wpOp_step rfl (fun K hK => ?_)
        have hB := (SV.out.pb (gB, 26, [.int .i64 st', .int .i64 wd', .int .u32 co', .int .i64 bb', .int .i64 ro', .int .i64 cl']) (by simp)).1
        obtain ⟨v3, x67, hr, ho, hg, hat⟩ := append_sides x66 base 33 v2 m _ SV.out.own (some ⟨gB, 0, none⟩) 1 1 [⟨st', wd', co', bb', ro', cl'⟩] (Sides.whole (t := 26) (show Whole _ gB 26 ([⟨st', wd', co', bb', ro', cl'⟩].flatMap Si.cells) from hB) rfl (by omega)) rfl (by omega) SV.out.hx
        have SX := Lib.hid (SV.out.app ho hg hat)
        refine wp_append_runC (some 24) rfl _ _ _ rfl v2 _ v3 rfl rfl hr ?_
        refine hK _ _ ⟨Lib.hid SX.out.lo, ?_⟩
        clear hK K SV hr ho hg hat hB
        have SV := SX
        clear SX
        try simp only [Act.put, List.setIfInBounds_toArray, List.set_cons_succ, List.set_cons_zero]
        refine wpAnyH_all (rs := [6]) (by kernel_rfl) (by simp) ?_
        intro ii hii
        obtain rfl : ii = 6 := by simpa using hii
        clear hii
        refine wpOp_step rfl (fun K hK => ?_)
        obtain ⟨q3, c3, hv3, hc3, hx3⟩ := own_formC SV.out.own
        subst hv3
        have hS3 := own_sidesC (zs := zs ++ [⟨st', wd', co', bb', ro', cl'⟩]) (W := x67) (base := base) (by rw [HLS.out, ← HFS.out]; exact SV.out.own) (by rw [HLS.out]; omega)
        go_simp
        refine (HWS.out _ _ _ hS3 hc3 hx3).mono ?_
        rintro e x68 ⟨rfl, hb6⟩
        have SX := Lib.hid (SV.out.below hb6)
        refine hK _ _ ⟨Lib.hid SX.out.lo, ?_⟩
        clear hK K SV hb6 hS3 hc3 hx3
        have SV := SX
        clear SX
        try simp only [Act.put, List.setIfInBounds_toArray, List.set_cons_succ, List.set_cons_zero]
        refine wpAnyH_takeC (i := 7) (v := .tuple #[.agg #[.int .i64 st2, .int .i64 wd2, .int .u32 co2, .int .i64 bb2, .int .i64 ro2, .int .i64 cl2], .int .i64 f]) (some 18) rfl rfl (by kernel_rfl) (by kernel_rfl) (by kernel_rfl) (fun _ _ _ h => h) (Or.inl ⟨by rfl, fun X hX => by go_simp⟩) (Lib.hid SV.out.lo) ?_
        try simp only [Act.put, List.setIfInBounds_toArray, List.set_cons_succ, List.set_cons_zero]
        refine wpAnyH_takeC (i := 8) (v := .agg #[.int .i64 st2, .int .i64 wd2, .int .u32 co2, .int .i64 bb2, .int .i64 ro2, .int .i64 cl2]) (some 26) rfl rfl (by kernel_rfl) (by kernel_rfl) (by kernel_rfl) (fun _ _ _ h => h) (Or.inl ⟨by rfl, fun X hX => by go_simp⟩) (Lib.hid SV.out.lo) ?_
        try simp only [Act.put, List.setIfInBounds_toArray, List.set_cons_succ, List.set_cons_zero]
        refine wpAnyH_takeC (i := 9) (v := .int .i64 f) (some 27) rfl rfl (by kernel_rfl) (by kernel_rfl) (by kernel_rfl) (fun _ _ _ h => h) (Or.inl ⟨by rfl, fun X hX => by go_simp⟩) (Lib.hid SV.out.lo) ?_
        try simp only [Act.put, List.setIfInBounds_toArray, List.set_cons_succ, List.set_cons_zero]
        have hA := (SV.out.pb (gA, 26, [.int .i64 0, .int .i64 0, .int .u32 0, .int .i64 0, .int .i64 0, .int .i64 0]) (by simp)).1
        have hlA := (SV.out.lo)
        refine wpAnyH_all (rs := [11]) (by kernel_rfl) (by simp) ?_
        intro ii hii; obtain rfl : ii = 11 := by simpa using hii
        clear hii
        refine wpOp_step rfl (fun K hK => ?_)
        refine wp_store_rowC rfl 26 (.tmp 8) (.tmp 26) rfl gA #[.int .i64 st2, .int .i64 wd2, .int .u32 co2, .int .i64 bb2, .int .i64 ro2, .int .i64 cl2] rfl rfl 26 #[.int .i64 0, .int .i64 0, .int .u32 0, .int .i64 0, .int .i64 0, .int .i64 0] hA Try.infoSide rfl (Si.cells_one ⟨st2, wd2, co2, bb2, ro2, cl2⟩) ?_
        have KA := Lib.hid (whole_rowA hA #[.int .i64 st2, .int .i64 wd2, .int .u32 co2, .int .i64 bb2, .int .i64 ro2, .int .i64 cl2])
        have hgA4 : W4.heap.size ≤ gA := LgA.out
        have SX : Hid (Below W4.heap.size W4 (World.setRow _ gA #[.int .i64 st2, .int .i64 wd2, .int .u32 co2, .int .i64 bb2, .int .i64 ro2, .int .i64 cl2])) := Lib.hid ⟨SV.out.lo.os, SV.out.lo.tape, SV.out.lo.output, by simp; exact SV.out.lo.size, fun k hk => (setRow_other _ gA k _ (by omega)).trans (SV.out.lo.block k hk)⟩
        refine hK _ _ ⟨SX, ?_⟩
        clear hK K SV hA hlA
        try simp only [Act.put, List.setIfInBounds_toArray, List.set_cons_succ, List.set_cons_zero]
        generalize World.setRow _ gA #[.int .i64 st2, .int .i64 wd2, .int .u32 co2, .int .i64 bb2, .int .i64 ro2, .int .i64 cl2] = w9z at KA SX ⊢
        refine wpAnyH_takeC (i := 12) (v := .int .i64 f) (some 9) rfl rfl (by kernel_rfl) (by kernel_rfl) (by kernel_rfl) (fun _ _ _ h => h) (Or.inl ⟨by rfl, fun X hX => by go_simp⟩) SX ?_
        try simp only [Act.put, List.setIfInBounds_toArray, List.set_cons_succ, List.set_cons_zero]
        refine wpAnyH_done (by kernel_rfl) ?_ _
        simp only [Exit.then]
        exact HT.out gA _ _ _ _ _ SX.out KA.out
    · clear hii
      refine wpOp_step rfl (fun K hK => ?_)
      go_simp
      have SX := Lib.hid (SV.out.put 26 [.int .i64 st', .int .i64 wd', .int .u32 co', .int .i64 bb', .int .i64 ro', .int .i64 cl'])
      refine hK _ _ ⟨Lib.hid SX.out.lo, ?_⟩
      clear hK K SV
      obtain ⟨gB, hgB⟩ : ∃ gB, (World.heap x59).size = gB := ⟨_, rfl⟩
      rw [hgB] at SX ⊢
      clear hgB
      have SV := SX
      clear SX
      generalize World.alloc x59 _ = x69 at SV ⊢
      try simp only [Act.put, List.setIfInBounds_toArray, List.set_cons_succ, List.set_cons_zero]
      refine wpAnyH_all (rs := [0]) (by kernel_rfl) (by simp) ?_
      intro ii hii
      obtain rfl : ii = 0 := by simpa using hii
      clear hii
      refine wpOp_step rfl (fun K hK => ?_)
      go_simp
      have SX := Lib.hid (SV.out.made zc 61 HZC.out (by unfold maxLen; omega))
      refine hK _ _ ⟨Lib.hid SX.out.lo, ?_⟩
      clear hK K SV
      obtain ⟨vv, hvv⟩ : ∃ vv, Value.slice (some ⟨(World.heap x69).size, 0, none⟩) 0 61 = vv := ⟨_, rfl⟩
      rw [hvv] at SX ⊢
      clear hvv
      have SV := SX
      clear SX
      generalize World.alloc x69 (.cells zc 26) = x70 at SV ⊢
      try simp only [Act.put, List.setIfInBounds_toArray, List.set_cons_succ, List.set_cons_zero]
      refine wpAnyH_all (rs := [2]) (by kernel_rfl) (by simp) ?_
      intro ii hii
      obtain rfl : ii = 2 := by simpa using hii
      clear hii
      refine wpOp_step rfl (fun K hK => ?_)
      obtain ⟨v2, x71, hr, ho, hg, hat⟩ := append_sides x70 base 33 vv 0 [] SV.out.own p m cap0 zs (HZ.out _ SV.out.lo) HL.out (by omega) SV.out.hx
      rw [Nat.zero_add, List.nil_append] at ho
      have SX := Lib.hid (SV.out.app ho hg hat)
      refine wp_append_runC (some 21) rfl _ _ _ rfl vv _ v2 rfl rfl hr ?_
      refine hK _ _ ⟨Lib.hid SX.out.lo, ?_⟩
      clear hK K SV hr ho hg hat
      have SV := SX
      clear SX
      try simp only [Act.put, List.setIfInBounds_toArray, List.set_cons_succ, List.set_cons_zero]
      refine wpAnyH_all (rs := [5]) (by kernel_rfl) (by simp) ?_
      intro ii hii
      obtain rfl : ii = 5 := by simpa using hii
      clear hii
      refine wpOp_step rfl (fun K hK => ?_)
      have hB := (SV.out.pb (gB, 26, [.int .i64 st', .int .i64 wd', .int .u32 co', .int .i64 bb', .int .i64 ro', .int .i64 cl']) (by simp)).1
      obtain ⟨v3, x72, hr, ho, hg, hat⟩ := append_sides x71 base 33 v2 m _ SV.out.own (some ⟨gB, 0, none⟩) 1 1 [⟨st', wd', co', bb', ro', cl'⟩] (Sides.whole (t := 26) (show Whole _ gB 26 ([⟨st', wd', co', bb', ro', cl'⟩].flatMap Si.cells) from hB) rfl (by omega)) rfl (by omega) SV.out.hx
      have SX := Lib.hid (SV.out.app ho hg hat)
      refine wp_append_runC (some 24) rfl _ _ _ rfl v2 _ v3 rfl rfl hr ?_
      refine hK _ _ ⟨Lib.hid SX.out.lo, ?_⟩
      clear hK K SV hr ho hg hat hB
      have SV := SX
      clear SX
      try simp only [Act.put, List.setIfInBounds_toArray, List.set_cons_succ, List.set_cons_zero]
      refine wpAnyH_all (rs := [6]) (by kernel_rfl) (by simp) ?_
      intro ii hii
      obtain rfl : ii = 6 := by simpa using hii
      clear hii
      refine wpOp_step rfl (fun K hK => ?_)
      obtain ⟨q3, c3, hv3, hc3, hx3⟩ := own_formC SV.out.own
      subst hv3
      have hS3 := own_sidesC (zs := zs ++ [⟨st', wd', co', bb', ro', cl'⟩]) (W := x72) (base := base) (by rw [HLS.out, ← HFS.out]; exact SV.out.own) (by rw [HLS.out]; omega)
      go_simp
      refine (HWS.out _ _ _ hS3 hc3 hx3).mono ?_
      rintro e x73 ⟨rfl, hb6⟩
      have SX := Lib.hid (SV.out.below hb6)
      refine hK _ _ ⟨Lib.hid SX.out.lo, ?_⟩
      clear hK K SV hb6 hS3 hc3 hx3
      have SV := SX
      clear SX
      try simp only [Act.put, List.setIfInBounds_toArray, List.set_cons_succ, List.set_cons_zero]
      refine wpAnyH_takeC (i := 7) (v := .tuple #[.agg #[.int .i64 st2, .int .i64 wd2, .int .u32 co2, .int .i64 bb2, .int .i64 ro2, .int .i64 cl2], .int .i64 f]) (some 18) rfl rfl (by kernel_rfl) (by kernel_rfl) (by kernel_rfl) (fun _ _ _ h => h) (Or.inl ⟨by rfl, fun X hX => by go_simp⟩) (Lib.hid SV.out.lo) ?_
      try simp only [Act.put, List.setIfInBounds_toArray, List.set_cons_succ, List.set_cons_zero]
      refine wpAnyH_takeC (i := 8) (v := .agg #[.int .i64 st2, .int .i64 wd2, .int .u32 co2, .int .i64 bb2, .int .i64 ro2, .int .i64 cl2]) (some 26) rfl rfl (by kernel_rfl) (by kernel_rfl) (by kernel_rfl) (fun _ _ _ h => h) (Or.inl ⟨by rfl, fun X hX => by go_simp⟩) (Lib.hid SV.out.lo) ?_
      try simp only [Act.put, List.setIfInBounds_toArray, List.set_cons_succ, List.set_cons_zero]
      refine wpAnyH_takeC (i := 9) (v := .int .i64 f) (some 27) rfl rfl (by kernel_rfl) (by kernel_rfl) (by kernel_rfl) (fun _ _ _ h => h) (Or.inl ⟨by rfl, fun X hX => by go_simp⟩) (Lib.hid SV.out.lo) ?_
      try simp only [Act.put, List.setIfInBounds_toArray, List.set_cons_succ, List.set_cons_zero]
      have hA := (SV.out.pb (gA, 26, [.int .i64 0, .int .i64 0, .int .u32 0, .int .i64 0, .int .i64 0, .int .i64 0]) (by simp)).1
      have hlA := (SV.out.lo)
      refine wpAnyH_all (rs := [11]) (by kernel_rfl) (by simp) ?_
      intro ii hii; obtain rfl : ii = 11 := by simpa using hii
      clear hii
      refine wpOp_step rfl (fun K hK => ?_)
      refine wp_store_rowC rfl 26 (.tmp 8) (.tmp 26) rfl gA #[.int .i64 st2, .int .i64 wd2, .int .u32 co2, .int .i64 bb2, .int .i64 ro2, .int .i64 cl2] rfl rfl 26 #[.int .i64 0, .int .i64 0, .int .u32 0, .int .i64 0, .int .i64 0, .int .i64 0] hA Try.infoSide rfl (Si.cells_one ⟨st2, wd2, co2, bb2, ro2, cl2⟩) ?_
      have KA := Lib.hid (whole_rowA hA #[.int .i64 st2, .int .i64 wd2, .int .u32 co2, .int .i64 bb2, .int .i64 ro2, .int .i64 cl2])
      have hgA4 : W4.heap.size ≤ gA := LgA.out
      have SX : Hid (Below W4.heap.size W4 (World.setRow _ gA #[.int .i64 st2, .int .i64 wd2, .int .u32 co2, .int .i64 bb2, .int .i64 ro2, .int .i64 cl2])) := Lib.hid ⟨SV.out.lo.os, SV.out.lo.tape, SV.out.lo.output, by simp; exact SV.out.lo.size, fun k hk => (setRow_other _ gA k _ (by omega)).trans (SV.out.lo.block k hk)⟩
      refine hK _ _ ⟨SX, ?_⟩
      clear hK K SV hA hlA
      try simp only [Act.put, List.setIfInBounds_toArray, List.set_cons_succ, List.set_cons_zero]
      generalize World.setRow _ gA #[.int .i64 st2, .int .i64 wd2, .int .u32 co2, .int .i64 bb2, .int .i64 ro2, .int .i64 cl2] = w9z at KA SX ⊢
      refine wpAnyH_takeC (i := 12) (v := .int .i64 f) (some 9) rfl rfl (by kernel_rfl) (by kernel_rfl) (by kernel_rfl) (fun _ _ _ h => h) (Or.inl ⟨by rfl, fun X hX => by go_simp⟩) SX ?_
      try simp only [Act.put, List.setIfInBounds_toArray, List.set_cons_succ, List.set_cons_zero]
      refine wpAnyH_done (by kernel_rfl) ?_ _
      simp only [Exit.then]
      exact HT.out gA _ _ _ _ _ SX.out KA.out

set_option maxRecDepth 100000 in
theorem lifted (os : Os) (started : os.Started) (H : Type) (enc : TypeId × Value → H) :
    ReturnsInHanded {} Try.checked os 9 .any (Rows.contestMoreSpec.pre6 enc Try.prog Try.f9 Rows.contestMoreRow.domain false) (Rows.contestMoreSpec.post enc Try.prog Try.f9 false true false false) := by
  refine returnsInHanded_of_change (C := Try.checked) own started (by kernel_rfl) Try.func9
    (ChangeSpec.witness6 (enc := enc) (C := Try.checked) false ⟨#[], #[.slice none 0 0, .agg #[.int .i64 0, .int .i64 0, .int .u32 0, .int .i64 0, .int .i64 0, .int .i64 0]], []⟩ 8 (by kernel_rfl) (by kernel_rfl) (by kernel_rfl) (by kernel_rfl)) ?_
  intro W base args ds gs before hval0 hW hcnd _
  have hval : ∀ (j : Nat) t v, Try.f9.params[j]? = some t → args[j]? = some v → Value.okWide Try.prog W .any base t v := hval0
  have hW' := hW
  obtain ⟨p, q, hA0, hV, rfl, hfz, hnd⟩ := hW
  have hA : DataW.TrodAll enc Try.prog W 0 (fun _ => true) true Try.f9.params.toList args.toList ds p := hA0
  rw [Try.params9] at hA hval
  obtain ⟨v0, vs0, d0, ds0, p0, q0, hargs, rfl, rfl, h0, r0⟩ := trodAll_cons hA
  obtain ⟨v1, vs1, d1, ds1, p1, q1, rfl, rfl, rfl, h1, r1⟩ := trodAll_cons r0
  obtain ⟨rfl, rfl, rfl⟩ := trodAll_nil r1
  obtain rfl : args = #[v0, v1] := by cases args; simp_all
  obtain ⟨rfl, rfl⟩ := trodVars_none hV
  obtain ⟨a0, len0, cap0, rfl⟩ := okWide_slice Try.underlying33 (hval 0 33 v0 rfl rfl)
  have k0 := h0
  have lt0 : ∀ x ∈ p0, x.block < W.heap.size := by obtain ⟨m, hm⟩ := k0; exact DataW.trod_lt m _ _ _ hm
  obtain ⟨z0, w0⟩ : ∃ zs, SideRow W a0 len0 cap0 zs := by
    obtain ⟨fuel, hf⟩ := h0
    exact open_sides (by simpa [Value.cells] using hf)
  obtain ⟨a1, rfl, rfl, rfl, w1⟩ := open_side (hval 1 26 v1 rfl rfl) h1
  clear hA0 hval0
  simp only [List.append_nil] at hW'
  refine (walk W a0 len0 cap0 z0 w0 a1 w1).mono fun e W' ⟨he, hg⟩ => ?_
  subst he
  exact ⟨_, rfl, _, _, _, [], _, [], hW', (trodAll_cons_mk (shut_bool Try.underlying4 _) trodAll_mk0), (trodAll_cons_mk (Below.trod laidOut (by kernel_rfl) (of_decide_eq_true (by kernel_rfl)) k0 hg lt0) (trodAll_cons_mk (shut_side a1 w1) trodAll_mk0)), rfl, hg.frame _, fun h => by cases h⟩

theorem over : Rows.contestMoreRow.holds Try.pinned (OpenSpec.ofChange Rows.contestMoreSpec) :=
  OpenClaim.holds_of_wide 9 Try.f9 rfl rfl rfl rfl rfl rfl rfl ⟨rfl, rfl, rfl, rfl, rfl⟩ rfl rfl rfl rfl rfl (by kernel_rfl) Try.func9 (by kernel_rfl)
    (of_decide_eq_true (by kernel_rfl)) (by unfold Func.isWrapper; first | (rw [if_pos (by decide +kernel)]; kernel_rfl) | (rw [if_neg (by decide +kernel)]; exact ⟨rfl, rfl⟩))
    (fun os started H enc _ => lifted os started H enc)

/-- the statement -/
theorem proved : Rows.ContestMoreSaid :=
  over
#print axioms proved
end Go.Proofs.Ytbhpclligoemcaa.contestMore
