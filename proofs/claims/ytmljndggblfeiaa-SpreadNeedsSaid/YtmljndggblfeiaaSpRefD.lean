/- The document's one need, distributed over bands in place (layer 14). Written by mk_SpRefD.py. -/
import Derived.Test.YtmljndggblfeiaaSpRefC
namespace Go.Proofs.Ytmljndggblfeiaa
open Go.RowKit Go.Shelf
set_option linter.unusedVariables false
set_option linter.unusedSimpArgs false
attribute [local go_sem] Oper.semAt_some

theorem size_set' (W : World) (p : Addr) (v : Value) : (W.setCell p v).heap.size = W.heap.size := by simp
set_option maxRecDepth 100000 in
set_option maxHeartbeats 8000000 in
theorem refOne_ok (G m cap : Nat) (bs : List Ba) (sp : List Value) (wd : Wd) (gap : Int) (s : Ne) (W : World) (hb : BRow W G (wdIn bs wd) sp) (hl : bs.length = m) (hm : m ≤ 10000) (hcap : m ≤ cap) (hcap2 : cap ≤ 9223372036854775807) (hwd : WdOk m wd) (hs : NdOk gap m s) :
    Calls Try.prog 23 #[.slice (some ⟨G, 0, none⟩) m cap, s.val, .int .i64 gap] W fun e X => e = .returned (.bool true) ∧ BRow X G (wdIn bs (meetP gap wd s)) sp ∧ Upd [G] W X := by
  have hk := hs.sg hwd
  have hcm := hs.cm
  have hc0 := hs.c0
  have hk1 := hs.k1
  have hMP : meetP gap wd s = ⟨spl wd.lo s.co.toNat (lo1 gap s (seg wd.lo s.co.toNat s.cs.toNat) (seg wd.hi s.co.toNat s.cs.toNat)), spl wd.hi s.co.toNat (hi2 gap s (seg wd.lo s.co.toNat s.cs.toNat) (seg wd.hi s.co.toNat s.cs.toNat))⟩ := rfl
  rw [hMP]
  clear hMP hs
  have hll := hwd.ll
  have hhl := hwd.hl
  obtain ⟨ls, hs⟩ := wd
  dsimp only at *
  clear hwd
  generalize hc : s.co.toNat = c at *
  generalize hkk : s.cs.toNat = k at *
  have hco : s.co = (c : Int) := by omega
  have k1 := hk.k1
  have k2 := hk.k2
  have hsk := hk.sk
  have HP1 := Lib.hid (fun X => refPart_any14 s.mn gap s.cs X (by have := hk.mn0; omega) (by have := hk.mnx; have := hk.mx1; omega) (by have := hk.g0; omega) (by have := hk.g1; omega) (by omega) (by omega))
  have HP2 := Lib.hid (fun X => refPart_any14 s.mx gap s.cs X (by have := hk.mn0; have := hk.mnx; omega) (by have := hk.mx1; omega) (by have := hk.g0; omega) (by have := hk.g1; omega) (by omega) (by omega))
  have HO1 := Lib.hid (fun X a0 a1 c0 c1 (h1 : Nums .i64 X (.slice a0 k c0) (seg ls c k)) (h2 : Nums .i64 X (.slice a1 k c1) (seg hs c k)) => refOver_ok a0 a1 k c0 c1 _ _ _ X hk.al h1 h2 hk.o1)
  have HO2 := Lib.hid (fun X a0 a1 c0 c1 (h1 : Nums .i64 X (.slice a0 k c0) (hi1 gap s (seg ls c k) (seg hs c k))) (h2 : Nums .i64 X (.slice a1 k c1) (hi1 gap s (seg ls c k) (seg hs c k))) => refOver_ok a0 a1 k c0 c1 _ _ _ X hk.h1l h1 h2 hk.o2)
  have e1 : overP (partP s.mn gap s.cs) (seg ls c k) (seg hs c k) = lo1 gap s (seg ls c k) (seg hs c k) := rfl
  have e2 : overP (partP s.mx gap s.cs) (hi1 gap s (seg ls c k) (seg hs c k)) (hi1 gap s (seg ls c k) (seg hs c k)) = hi2 gap s (seg ls c k) (seg hs c k) := rfl
  have HOK2 := Lib.hid (okW_get _ hk.o2.ok)
  rw [e1] at HO1
  rw [e2] at HO2 HOK2
  clear e1 e2
  have HL1 := Lib.hid hk.lol
  have HLH := Lib.hid hk.h1l
  have HLH2 := Lib.hid hk.h2l
  have HH1 : Hid (∀ j : Nat, (hi1 gap s (seg ls c k) (seg hs c k))[j]?.getD 0 = max ((seg hs c k)[j]?.getD 0) ((lo1 gap s (seg ls c k) (seg hs c k))[j]?.getD 0)) := Lib.hid (fun j => maxL_get _ _ (by rw [hk.bl, hk.lol]) j)
  have HSA := Lib.hid hk.al
  have HSB := Lib.hid hk.bl
  clear hk
  have HTL : Hid (∀ j, j < k → (seg ls c k).take (j + 1) = (seg ls c k).take j ++ [ls[c + j]?.getD 0]) := Lib.hid (fun j hj => seg_take ls c k j (by omega) hj)
  have HTH : Hid (∀ j, j < k → (seg hs c k).take (j + 1) = (seg hs c k).take j ++ [hs[c + j]?.getD 0]) := Lib.hid (fun j hj => seg_take hs c k j (by omega) hj)
  have HSL : Hid (spl ls c (seg ls c k) = ls) := Lib.hid (spl_seg ls c k (by omega))
  have HSH : Hid (spl hs c (seg hs c k) = hs) := Lib.hid (spl_seg hs c k (by omega))
  generalize lo1 gap s (seg ls c k) (seg hs c k) = L1 at *
  generalize hi1 gap s (seg ls c k) (seg hs c k) = H1 at *
  generalize hi2 gap s (seg ls c k) (seg hs c k) = H2 at *
  generalize seg ls c k = sl at *
  generalize seg hs c k = sh at *
  obtain ⟨nd, ro, co, rs, cs, mn, mx, ⟨wk, wn⟩⟩ := s
  dsimp only at HP1 HP2 HO1 HO2 hsk hco
  subst hsk hco
  obtain ⟨p1, hp1⟩ : ∃ p, p = partP mn gap (k : Int) := ⟨_, rfl⟩
  obtain ⟨p2, hp2⟩ : ∃ p, p = partP mx gap (k : Int) := ⟨_, rfl⟩
  rw [← hp1] at HP1 HO1
  rw [← hp2] at HP2 HO2
  clear hp1 hp2 hc hkk hc0 hk1
  dsimp only [Ne.val]
  have HLN : Hid (bs.length = m ∧ ls.length = m ∧ hs.length = m ∧ c + k ≤ m) := Lib.hid ⟨hl, hll, hhl, hcm⟩
  have HBW := Lib.hid (fun X (hX : Below W.heap.size W X) => hb.below hX hb.lt)
  have lG := hb.lt
  clear hl hll hhl hb
  obtain ⟨W1, hW1⟩ : ∃ W1, (W.alloc (.cells #[.int .i64 nd, .int .i64 ro, .int .i64 c, .int .i64 rs, .int .i64 k, .int .i64 mn, .int .i64 mx, .int .i64 wk, .int .i64 wn] 37)).alloc (.cells #[.int .i64 nd, .int .i64 ro, .int .i64 c, .int .i64 rs, .int .i64 k] 33) = W1 := ⟨_, rfl⟩
  have hsz : W1.heap.size = W.heap.size + 2 := by rw [← hW1]; simp
  have HW01 : Hid (Below W.heap.size W W1) := Lib.hid (by rw [← hW1]; exact ((Below.refl _ W).alloc (Nat.le_refl _) _).alloc (by simp) _)
  obtain ⟨b4, hb4⟩ : ∃ b, b = W.heap.size := ⟨_, rfl⟩
  obtain ⟨b9, hb9⟩ : ∃ b, b = W.heap.size + 1 := ⟨_, rfl⟩
  obtain ⟨B, hB⟩ : ∃ b, b = W.heap.size + 2 := ⟨_, rfl⟩
  have K4 : Hid (Whole W1 b4 37 [.int .i64 nd, .int .i64 ro, .int .i64 c, .int .i64 rs, .int .i64 k, .int .i64 mn, .int .i64 mx, .int .i64 wk, .int .i64 wn]) := Lib.hid (by
    rw [← hW1]; exact (whole_new W _ _ b4 hb4).alloc _)
  have K9 : Hid (Whole W1 b9 33 [.int .i64 nd, .int .i64 ro, .int .i64 c, .int .i64 rs, .int .i64 k]) := Lib.hid (by
    rw [← hW1]; exact whole_new _ _ _ b9 (by simp [hb9]))
  have HWB : Hid (W.heap.size = b4 ∧ b4 + 1 = b9 ∧ b9 + 1 = B ∧ W.heap.size ≤ b9 ∧ W.heap.size + 2 = B ∧ G < b4) := Lib.hid (by omega)
  have T0 : Hid (TwoS B W W1 (sl.take 0) (sh.take 0) (.slice none 0 0) (.slice none 0 0)) := Lib.hid ⟨HW01.out, World.ownsRow_nil _ _ _ _, World.ownsRow_nil _ _ _ _, fun g e => by cases e⟩
  clear HW01
  have hck : IntKind.i64.wrap ((c : Int) + (k : Int)) = ((c + k : Nat) : Int) := by rw [IntKind.wrap_i64]; omega
  obtain ⟨ck, hckk⟩ : ∃ q, q = c + k := ⟨_, rfl⟩
  rw [← hckk] at hck
  have y2 := K9.out.cellAt 2
  have y4 := K9.out.cellAt 4
  simp only [List.getElem?_cons_zero, List.getElem?_cons_succ] at y2 y4
  have l9 := K9.out.lt
  rw [hb9] at y2 l9
  clear y4
  go_enter Try.func23, Try.ntmps23
  go_wp2_with fail
  try rw [hW1]
  rw [← hb9]
  try rw [← hb4]
  clear hW1 hb4 hb9 hB lG hsz
  clear y2 l9
  go_loopw [7, 8, 10] (fun s7 s8 s10 X => ∃ (n : Nat) (v w : Value), c ≤ n ∧ n ≤ ck ∧ v = s7 ∧ w = s8 ∧ s10 = .int .i64 (n : Int) ∧ Hid (Whole X b4 37 [.int .i64 nd, .int .i64 ro, .int .i64 c, .int .i64 rs, .int .i64 k, .int .i64 mn, .int .i64 mx, .int .i64 wk, .int .i64 wn]) ∧ Hid (Whole X b9 33 [.int .i64 nd, .int .i64 ro, .int .i64 c, .int .i64 rs, .int .i64 k]) ∧ Hid (TwoS B W X (sl.take (n - c)) (sh.take (n - c)) v w)) (fun _ _ s10 _ => ck - (intOf s10).toNat)
  case atStart => exact ⟨c, _, _, Nat.le_refl _, by omega, rfl, rfl, rfl, K4, K9, by rw [Nat.sub_self]; exact T0⟩
  case round =>
    obtain ⟨n, v, w, hn1, hn2, rfl, rfl, rfl, K4X, K9X, TX⟩ := hrel
    clear K4 K9 T0
    have y2 := K9X.out.cellAt 2
    have y4 := K9X.out.cellAt 4
    simp only [List.getElem?_cons_zero, List.getElem?_cons_succ] at y2 y4
    have l9 := K9X.out.lt
    by_cases hlt : n < ck
    · have hnm : n < m := by have := HLN.out; omega
      have TWO := (HBW.out wr TX.out.lo).two n (by rw [HLN.out.1]; exact hnm)
      obtain ⟨q0, q1⟩ := TWO
      dsimp only at q0 q1
      have HTL1 := HTL.out (n - c) (by omega)
      have HTH1 := HTH.out (n - c) (by omega)
      rw [show c + (n - c) = n by omega] at HTL1 HTH1
      have HTL2 := Lib.hid HTL1
      have HTH2 := Lib.hid HTH1
      have hla : (sl.take (n - c)).length = n - c := by have := HSA.out; rw [List.length_take]; omega
      have hlb : (sh.take (n - c)).length = n - c := by have := HSB.out; rw [List.length_take]; omega
      have HLA := Lib.hid hla
      have HLB := Lib.hid hlb
      clear HTL1 HTH1 hla hlb
      have HN1 : Hid (n + 1 - c = n - c + 1) := Lib.hid (by omega)
      rw [← HN1.out] at HTL2 HTH2
      generalize sl.take (n - c) = A at *
      generalize sh.take (n - c) = C at *
      generalize ls[n]?.getD 0 = zl at *
      generalize hzh : hs[n]?.getD 0 = zh at *
      have HVO : Hid (∀ g, v.ownBlock = some g → B ≤ g) := Lib.hid (fun g e => (TX.out.oa.lt g e).1)
      have HWO : Hid (∀ g, w.ownBlock = some g → B ≤ g) := Lib.hid (fun g e => (TX.out.oc.lt g e).1)
      have lGX := (HBW.out wr TX.out.lo).lt
      have hnk : (n : Int) < (ck : Int) := by omega
      have hnm2 : (n : Int) < (m : Int) := by omega
      go_wp2_with (at_builtin; refine Hid.out ?_)
      refine Lib.hid ?_
      refine wpList_appI (some 38) rfl rfl _ _ rfl B v A rfl (own_belowK TX.out.oa ((Below.refl _ wr).alloc (Nat.le_refl _) (.cells #[.int .i64 zl] 2))) wr.heap.size zl rfl (by simp) (by have := HLA.out; have := HLN.out; omega) (by have := TX.out.lo.size; have := HWB.out; have := l9; simp; omega) ?_
      intro v' w1 ho1 hg1 hat1
      obtain ⟨pa, na, ca, rfl⟩ := own_sliceK ho1
      have T1 := Lib.hid (TX.out.appA (by have := HWB.out; omega) (.cells #[.int .i64 zl] 2) ho1 hg1 hat1)
      have K4Y := Lib.hid ((K4X.out.alloc (.cells #[.int .i64 zl] 2)).grown hg1 (fun e => by have := HVO.out _ e; have := HWB.out; omega))
      have K9Y := Lib.hid ((K9X.out.alloc (.cells #[.int .i64 zl] 2)).grown hg1 (fun e => by have := HVO.out _ e; have := HWB.out; omega))
      rw [← HTL2.out] at T1
      have q2 := ((HBW.out w1 T1.out.lo).two n (by rw [HLN.out.1]; exact hnm)).2
      dsimp only at q2
      rw [hzh] at q2
      have lGY := (HBW.out w1 T1.out.lo).lt
      clear q0 q1 y2 y4 lGX K4X K9X TX ho1 hg1 hat1 HTL2 l9 HLA
      have l9 := K9Y.out.lt
      go_wp2_with (at_builtin; refine Hid.out ?_)
      refine Lib.hid ?_
      refine wpList_appI (some 46) rfl rfl _ _ rfl B w C rfl (own_belowK T1.out.oc ((Below.refl _ w1).alloc (Nat.le_refl _) (.cells #[.int .i64 zh] 2))) w1.heap.size zh rfl (by simp) (by have := HLB.out; have := HLN.out; omega) (by have := T1.out.lo.size; have := HWB.out; have := l9; simp; omega) ?_
      intro w' w2 ho2 hg2 hat2
      obtain ⟨pb, nb, cb, rfl⟩ := own_sliceK ho2
      have T2 := Lib.hid (T1.out.appC (by have := HWB.out; omega) (.cells #[.int .i64 zh] 2) ho2 hg2 hat2)
      have K4Z := Lib.hid ((K4Y.out.alloc (.cells #[.int .i64 zh] 2)).grown hg2 (fun e => by have := HWO.out _ e; have := HWB.out; omega))
      have K9Z := Lib.hid ((K9Y.out.alloc (.cells #[.int .i64 zh] 2)).grown hg2 (fun e => by have := HWO.out _ e; have := HWB.out; omega))
      rw [← HTH2.out] at T2
      clear q2 lGY K4Y K9Y T1 ho2 hg2 hat2 HTH2 l9 HLB HVO HWO
      go_wp2
      go_roundw
      case rel => exact ⟨n + 1, _, _, by omega, by omega, rfl, rfl, by go_num, K4Z, K9Z, T2⟩
      case measure => simp [intOf]; omega
    · obtain rfl : n = ck := by omega
      have e1 : Hid (sl.take (n - c) = sl) := Lib.hid (List.take_of_length_le (by have := HSA.out; omega))
      have e2 : Hid (sh.take (n - c) = sh) := Lib.hid (List.take_of_length_le (by have := HSB.out; omega))
      rw [e1.out, e2.out] at TX
      obtain ⟨gl, gm, al, am, hat⟩ := TX.out.wd (by have := HWB.out; omega) k1 HSA.out HSB.out
      obtain ⟨ca, rfl, ha1, ha2⟩ := hat.vl
      obtain ⟨cb, rfl, hb1, hb2⟩ := hat.vm
      have RL := Lib.hid hat.rl
      have RM := Lib.hid hat.rm
      have HX := Lib.hid hat.lo
      have hgb : B ≤ gm := by
        have := (TX.out.oc.lt gm rfl).1
        exact this
      have HNE : Hid (gm ≠ G ∧ gm ≠ b9 ∧ gm ≠ b4 ∧ G ≠ b9 ∧ G ≠ b4) := Lib.hid (by have := HWB.out; omega)
      have HGM : Hid (W.heap.size ≤ gm) := Lib.hid (by have := HWB.out; omega)
      have HC1 : Hid (k ≤ ca ∧ ca ≤ 9223372036854775807 ∧ k ≤ cb ∧ cb ≤ 9223372036854775807) := Lib.hid (by omega)
      have z5 := K4X.out.cellAt 5
      have l4 := K4X.out.lt
      simp only [List.getElem?_cons_zero, List.getElem?_cons_succ] at z5
      clear e1 e2 hat TX HTL HTH hgb ha1 ha2 hb1 hb2 hlt hn1 hn2
      go_wp2_with fail
      refine (HP1.out _).mono ?_
      rintro e w1 ⟨rfl, rfl⟩
      clear HP1
      go_wp2_with fail
      refine (HO1.out _ _ _ _ _ (RL.out.all k ca HSA.out HC1.out.1 HC1.out.2.1) (RM.out.all k cb HSB.out HC1.out.2.2.1 HC1.out.2.2.2)).mono ?_
      rintro e w2 ⟨g, cg, sg, rfl, hir, hg, hcg, hcg2, hbw⟩
      have hx2 := HX.out.trans (hbw.mono HX.out.size)
      have HX2 := Lib.hid hx2
      have K42 := Lib.hid (K4X.out.below hbw K4X.out.lt)
      have K92 := Lib.hid (K9X.out.below hbw K9X.out.lt)
      have RM2 : Hid (IRow w2 gm (mix H1 sh 0) am) := Lib.hid (by rw [mix_zero]; exact RM.out.below hbw RM.out.lt)
      have RG := Lib.hid hir
      have lGX := (HBW.out _ HX.out).lt
      have HGN : Hid (g ≠ G ∧ g ≠ gm ∧ g ≠ b9 ∧ g ≠ b4) := Lib.hid (by have := RM.out.lt; have := K4X.out.lt; have := K9X.out.lt; omega)
      have RB : Hid (BRow w2 G (wdIn bs ⟨spl ls c (mix L1 sl 0), spl hs c (mix H1 sh 0)⟩) sp) := Lib.hid (by rw [mix_zero, mix_zero, HSL.out, HSH.out]; exact HBW.out w2 hx2)
      have SU : Hid (Upd [G, gm] w2 w2) := Lib.hid (Upd.refl _ _)
      have HCG : Hid (k ≤ cg ∧ cg ≤ 9223372036854775807) := Lib.hid ⟨hcg, hcg2⟩
      have mixed : Try.prog.follows Departure.mixedOrders = true := by kernel_rfl
      clear HO1 RL RM HX K4X K9X hir hg hcg hcg2 hbw hx2 y2 y4 l9 z5 l4 lGX HBW HSL HSH
      go_wp2
      go_loopw [13] (fun s13 X => ∃ j : Nat, j ≤ k ∧ s13 = .int .i64 (j : Int) ∧ Hid (Upd [G, gm] w2 X) ∧ Hid (BRow X G (wdIn bs ⟨spl ls c (mix L1 sl j), spl hs c (mix H1 sh j)⟩) sp) ∧ Hid (IRow X gm (mix H1 sh j) am)) (fun s13 _ => k - (intOf s13).toNat)
      case atStart => exact ⟨0, Nat.zero_le _, rfl, SU, RB, RM2⟩
      case round =>
        obtain ⟨j, hj, rfl, SU1, RB1, RM1⟩ := hrel
        clear SU RB RM2
        have nG9 : b9 ∉ [G, gm] := by have := HNE.out; simp; omega
        have y2 := SU1.out.cell (K92.out.cellAt 2) nG9
        have y4 := SU1.out.cell (K92.out.cellAt 4) nG9
        have l9 := (SU1.out.whole K92.out nG9).lt
        by_cases hlt : j < k
        · have hnm : c + j < m := by have := HLN.out; omega
          have hw : IntKind.i64.wrap ((c : Int) + (j : Int)) = ((c + j : Nat) : Int) := by rw [IntKind.wrap_i64]; omega
          have ST1 := Lib.hid (fun X hi (h : BRow X G (wdIn bs ⟨spl ls c (mix L1 sl j), hi⟩) sp) => h.stepMn (by rw [HL1.out, HSA.out]) (by rw [HL1.out]; exact hlt) (by rw [HL1.out]; have := HLN.out; omega) (by have := HLN.out; omega))
          have ST2 := Lib.hid (fun X lo (h : BRow X G (wdIn bs ⟨lo, spl hs c (mix H1 sh j)⟩) sp) => h.stepMx (by rw [HLH.out, HSB.out]) (by rw [HLH.out]; exact hlt) (by rw [HLH.out]; have := HLN.out; omega) (by have := HLN.out; omega))
          have ST3 := Lib.hid (fun X (h : IRow X gm (mix H1 sh j) am) => h.step (by rw [HLH.out, HSB.out]) (by rw [HLH.out]; exact hlt))
          rw [HH1.out j] at ST2 ST3
          have LTW := Lib.hid (fun X wd (h : BRow X G (wdIn bs wd) sp) => h.two (c + j) (by have := HLN.out; omega))
          have qa := (RG.out.upd SU1.out (by have := HGN.out; simp; omega)).cell j (by rw [HL1.out]; exact hlt)
          have qm := RM1.out.cell j (by rw [mix_len _ _ _ (by rw [HLH.out, HSB.out]) (by rw [HLH.out]; exact hj), HLH.out]; exact hlt)
          rw [mix_here _ _ _ (by rw [HLH.out, HSB.out]) (by rw [HLH.out]; exact hlt)] at qm
          have QA := Lib.hid (fun X (h : Upd [G, gm] w2 X) => (RG.out.upd h (by have := HGN.out; simp; omega)).cell j (by rw [HL1.out]; exact hlt))
          obtain ⟨q0, q1⟩ := LTW.out _ _ RB1.out
          dsimp only at q0 q1
          generalize c + j = n at *
          generalize L1[j]?.getD 0 = za at *
          generalize hzb : sh[j]?.getD 0 = zb at *
          obtain ⟨mz, hmz⟩ : ∃ z, z = max zb za := ⟨_, rfl⟩
          rw [← hmz] at ST2 ST3
          have HMZ := Lib.hid hmz
          clear hmz
          have f0 := RB1.out.free (n * 4)
          have lG := RB1.out.lt
          have lg := cell_lt qa
          have hj2 : (j : Int) < (k : Int) := by omega
          go_wp2_with fail
          go_big_region_o
          have S3 : Hid (Upd [G, gm] w2 (wr.setCell ⟨G, n * 4, none⟩ (.int .i64 za)).drew) := Lib.hid ((SU1.out.trans (Upd.set wr G (n * 4) _ (by simp))).trans (Upd.drew _ _ 1))
          have B3 : Hid (BRow (wr.setCell ⟨G, n * 4, none⟩ (.int .i64 za)).drew G (wdIn bs ⟨spl ls c (mix L1 sl (j + 1)), spl hs c (mix H1 sh j)⟩) sp) := Lib.hid ((ST1.out wr _ RB1.out).below (below_dn wr.heap.size _ 1) RB1.out.lt)
          have M3 : Hid (IRow (wr.setCell ⟨G, n * 4, none⟩ (.int .i64 za)).drew gm (mix H1 sh j) am) := Lib.hid ((RM1.out.upd (Upd.set (E := [G]) wr G (n * 4) (.int .i64 za) (by simp)) (by have := HNE.out; simp; omega)).below (below_dn wr.heap.size _ 1) RM1.out.lt)
          have s3 : (wr.setCell ⟨G, n * 4, none⟩ (.int .i64 za)).drew.heap.size = wr.heap.size := by show (wr.setCell _ _).heap.size = _; simp
          clear ST1 y2 y4 l9 qa qm q0 q1 f0 lG lg SU1 RB1 RM1
          generalize (wr.setCell ⟨G, n * 4, none⟩ (.int .i64 za)).drew = w3 at *
          have y2 := S3.out.cell (K92.out.cellAt 2) nG9
          have l9 := (S3.out.whole K92.out nG9).lt
          have qa := QA.out w3 S3.out
          have qm : w3.cell? ⟨gm, j, none⟩ = some (.int .i64 zb) := by
            have h := M3.out.cell j (by rw [mix_len _ _ _ (by rw [HLH.out, HSB.out]) (by rw [HLH.out]; exact hj), HLH.out]; exact hlt)
            rw [mix_here _ _ _ (by rw [HLH.out, HSB.out]) (by rw [HLH.out]; exact hlt), hzb] at h; exact h
          obtain ⟨q0, q1⟩ := LTW.out _ _ B3.out
          dsimp only at q0 q1
          have f1 := B3.out.free (n * 4 + 1)
          have lG := B3.out.lt
          have lg := cell_lt qa
          have lm := cell_lt qm
          go_wp2_with fail
          go_big_region_o
          try rw [← HMZ.out]
          have S4 : Hid (Upd [G, gm] w2 (w3.setCell ⟨G, n * 4 + 1, none⟩ (.int .i64 mz)).drew) := Lib.hid ((S3.out.trans (Upd.set w3 G (n * 4 + 1) _ (by simp))).trans (Upd.drew _ _ 1))
          have B4 : Hid (BRow (w3.setCell ⟨G, n * 4 + 1, none⟩ (.int .i64 mz)).drew G (wdIn bs ⟨spl ls c (mix L1 sl (j + 1)), spl hs c (mix H1 sh (j + 1))⟩) sp) := Lib.hid ((ST2.out w3 _ B3.out).below (below_dn w3.heap.size _ 1) B3.out.lt)
          have M4 : Hid (IRow (w3.setCell ⟨G, n * 4 + 1, none⟩ (.int .i64 mz)).drew gm (mix H1 sh j) am) := Lib.hid ((M3.out.upd (Upd.set (E := [G]) w3 G (n * 4 + 1) (.int .i64 mz) (by simp)) (by have := HNE.out; simp; omega)).below (below_dn w3.heap.size _ 1) M3.out.lt)
          clear ST2 y2 l9 qa qm q0 q1 f1 lG lg lm S3 B3 M3 s3
          generalize (w3.setCell ⟨G, n * 4 + 1, none⟩ (.int .i64 mz)).drew = w4 at *
          have qa := QA.out w4 S4.out
          have qm : w4.cell? ⟨gm, j, none⟩ = some (.int .i64 zb) := by
            have h := M4.out.cell j (by rw [mix_len _ _ _ (by rw [HLH.out, HSB.out]) (by rw [HLH.out]; exact hj), HLH.out]; exact hlt)
            rw [mix_here _ _ _ (by rw [HLH.out, HSB.out]) (by rw [HLH.out]; exact hlt), hzb] at h; exact h
          have fm := M4.out.free j
          have lg := cell_lt qa
          have lm := cell_lt qm
          go_wp2_with fail
          go_big_region_o
          try rw [← HMZ.out]
          have S5 : Hid (Upd [G, gm] w2 (w4.setCell ⟨gm, j, none⟩ (.int .i64 mz)).drew) := Lib.hid ((S4.out.trans (Upd.set w4 gm j _ (by simp))).trans (Upd.drew _ _ 1))
          have B5 : Hid (BRow (w4.setCell ⟨gm, j, none⟩ (.int .i64 mz)).drew G (wdIn bs ⟨spl ls c (mix L1 sl (j + 1)), spl hs c (mix H1 sh (j + 1))⟩) sp) := Lib.hid ((B4.out.upd (Upd.set (E := [gm]) w4 gm j (.int .i64 mz) (by simp)) (by have := HNE.out; simp; omega)).below (below_dn w4.heap.size _ 1) B4.out.lt)
          have M5 : Hid (IRow (w4.setCell ⟨gm, j, none⟩ (.int .i64 mz)).drew gm (mix H1 sh (j + 1)) am) := Lib.hid ((ST3.out w4 M4.out).below (below_dn w4.heap.size _ 1) M4.out.lt)
          clear ST3 qa qm fm lg lm S4 B4 M4 QA LTW HMZ
          generalize (w4.setCell ⟨gm, j, none⟩ (.int .i64 mz)).drew = w5 at *
          go_wp2
          go_roundw
          case rel => exact ⟨j + 1, by omega, by go_num, S5, B5, M5⟩
          case measure => simp [intOf]; omega
        · obtain rfl : k = j := by omega
          have SU := SU1
          have RM3 : Hid (IRow wr gm H1 am) := Lib.hid (by have h := RM1.out; rwa [mix_all _ _ _ (by rw [HLH.out, HSB.out]) HLH.out] at h)
          have e1 : mix L1 sl k = L1 := mix_all _ _ _ (by rw [HL1.out, HSA.out]) HL1.out
          have e2 : mix H1 sh k = mix H2 H1 0 := by rw [mix_all _ _ _ (by rw [HLH.out, HSB.out]) HLH.out, mix_zero]
          have RB : Hid (BRow wr G (wdIn bs ⟨spl ls c L1, spl hs c (mix H2 H1 0)⟩) sp) := Lib.hid (by have h := RB1.out; rwa [e1, e2] at h)
          have nG4 : b4 ∉ [G, gm] := by have := HNE.out; simp; omega
          have K43 := Lib.hid (SU.out.whole K42.out nG4)
          have K93 := Lib.hid (SU.out.whole K92.out nG9)
          have HU : Hid (Upd [G, gm] w2 wr) := SU
          have z6 := K43.out.cellAt 6
          have l4 := K43.out.lt
          simp only [List.getElem?_cons_zero, List.getElem?_cons_succ] at z6
          clear RM1 RB1 SU1 SU e1 e2 hlt hj
          go_wp2_with fail
          refine (HP2.out _).mono ?_
          rintro e w1 ⟨rfl, rfl⟩
          clear HP2
          go_wp2_with fail
          refine (HO2.out _ _ _ _ _ (RM3.out.all k cb HLH.out HC1.out.2.2.1 HC1.out.2.2.2) (RM3.out.all k cb HLH.out HC1.out.2.2.1 HC1.out.2.2.2)).mono ?_
          rintro e w6 ⟨g2, cg2, sg2, rfl, hir, hg, hcg, hcg2, hbw⟩
          have RG2 := Lib.hid hir
          have K94 := Lib.hid (K93.out.below hbw K93.out.lt)
          have RB6 : Hid (BRow w6 G (wdIn bs ⟨spl ls c L1, spl hs c (mix H2 H1 0)⟩) sp) := Lib.hid (RB.out.below hbw RB.out.lt)
          have HGN2 : Hid (g2 ≠ G ∧ g2 ≠ b9) := Lib.hid (by have := RB.out.lt; have := K93.out.lt; omega)
          have HCG2 : Hid (k ≤ cg2 ∧ cg2 ≤ 9223372036854775807) := Lib.hid ⟨hcg, hcg2⟩
          have HU6 : Hid (Upd [G, gm] w2 w6) := Lib.hid (HU.out.trans (Upd.of_below hbw))
          have HUL : Hid (Upd [G] W w6) := Lib.hid (by
            have hW2 := HX2.out
            have hu := HU6.out
            have hb := HWB.out
            exact ⟨(hW2.mono (Nat.zero_le _)).trans hu.low, Nat.le_trans hW2.size hu.size, fun q hq hl => (hu.kp.2 q (by have := HGM.out; simp at hq ⊢; omega) (by have := hW2.size; omega)).trans (hW2.block q hl)⟩)
          have SU6 : Hid (Upd [G] W w6) := HUL
          clear HO2 RM3 RB K43 K93 HU hir hg hcg hcg2 hbw y2 y4 l9 z6 l4 nG4 nG9 K42 K92 RG HGN HCG HX2
          go_wp2
          go_loopw [16] (fun s16 X => ∃ j : Nat, j ≤ k ∧ s16 = .int .i64 (j : Int) ∧ Hid (Upd [G] w6 X) ∧ Hid (BRow X G (wdIn bs ⟨spl ls c L1, spl hs c (mix H2 H1 j)⟩) sp)) (fun s16 _ => k - (intOf s16).toNat)
          case atStart => exact ⟨0, Nat.zero_le _, rfl, Lib.hid (Upd.refl _ _), RB6⟩
          case round =>
            obtain ⟨j, hj, rfl, SU1, RB1⟩ := hrel
            clear RB6
            have nG9 : b9 ∉ [G] := by have := HNE.out; simp; omega
            have y2 := SU1.out.cell (K94.out.cellAt 2) nG9
            have y4 := SU1.out.cell (K94.out.cellAt 4) nG9
            have l9 := (SU1.out.whole K94.out nG9).lt
            by_cases hlt : j < k
            · have hnm : c + j < m := by have := HLN.out; omega
              have hw : IntKind.i64.wrap ((c : Int) + (j : Int)) = ((c + j : Nat) : Int) := by rw [IntKind.wrap_i64]; omega
              have ST2 := Lib.hid (fun X lo (h : BRow X G (wdIn bs ⟨lo, spl hs c (mix H2 H1 j)⟩) sp) => h.stepMx (by rw [HLH2.out, HLH.out]) (by rw [HLH2.out]; exact hlt) (by rw [HLH2.out]; have := HLN.out; omega) (by have := HLN.out; omega))
              have qa := (RG2.out.upd SU1.out (by have := HGN2.out; simp; omega)).cell j (by rw [HLH2.out]; exact hlt)
              obtain ⟨q0, q1⟩ := RB1.out.two (c + j) (by have := HLN.out; omega)
              dsimp only at q0 q1
              generalize c + j = n at *
              generalize H2[j]?.getD 0 = za at *
              have f1 := RB1.out.free (n * 4 + 1)
              have lG := RB1.out.lt
              have lg := cell_lt qa
              have hj2 : (j : Int) < (k : Int) := by omega
              go_wp2_with fail
              go_big_region_o
              have S4 : Hid (Upd [G] w6 (wr.setCell ⟨G, n * 4 + 1, none⟩ (.int .i64 za)).drew) := Lib.hid ((SU1.out.trans (Upd.set wr G (n * 4 + 1) _ (by simp))).trans (Upd.drew _ _ 1))
              have B4 : Hid (BRow (wr.setCell ⟨G, n * 4 + 1, none⟩ (.int .i64 za)).drew G (wdIn bs ⟨spl ls c L1, spl hs c (mix H2 H1 (j + 1))⟩) sp) := Lib.hid ((ST2.out wr _ RB1.out).below (below_dn wr.heap.size _ 1) RB1.out.lt)
              clear ST2 y2 y4 l9 qa q0 q1 f1 lG lg SU1 RB1
              generalize (wr.setCell ⟨G, n * 4 + 1, none⟩ (.int .i64 za)).drew = w7 at *
              go_wp2
              go_roundw
              case rel => exact ⟨j + 1, by omega, by go_num, S4, B4⟩
              case measure => simp [intOf]; omega
            · obtain rfl : k = j := by omega
              have RBE : Hid (BRow wr G (wdIn bs ⟨spl ls c L1, spl hs c H2⟩) sp) := Lib.hid (by have h := RB1.out; rwa [mix_all _ _ _ (by rw [HLH2.out, HLH.out]) HLH2.out] at h)
              have SUE : Hid (Upd [G] W wr) := Lib.hid (SU6.out.trans SU1.out)
              have RGE := Lib.hid (RG2.out.upd SU1.out (by have := HGN2.out; simp; omega))
              have y4E := Lib.hid y4
              have l9E := Lib.hid l9
              clear RB1 hj hlt
              go_wp2
              go_loopw [17] (fun s17 X => ∃ j : Nat, j ≤ k ∧ s17 = .int .i64 (j : Int) ∧ Hid (wr = X)) (fun s17 _ => k - (intOf s17).toNat)
              case atStart => exact ⟨0, Nat.zero_le _, rfl, Lib.hid rfl⟩
              case round =>
                obtain ⟨j, hj, rfl, HE⟩ := hrel
                obtain rfl := HE.out
                clear HE
                by_cases hlt : j < k
                · have qa := RGE.out.cell j (by rw [HLH2.out]; exact hlt)
                  have hbd := HOK2.out j
                  generalize H2[j]?.getD 0 = za at *
                  have hzw : ¬ (1125899906842623 < za) := by omega
                  have hj2 : (j : Int) < (k : Int) := by omega
                  have lg := cell_lt qa
                  go_wp2
                  go_roundw
                  case rel => exact ⟨j + 1, by omega, by go_num, Lib.hid (by first | trivial | rfl)⟩
                  case measure => simp [intOf]; omega
                · obtain rfl : k = j := by omega
                  go_wp2
                  go_ret
                  exact ⟨rfl, RBE.out, SUE.out⟩
end Go.Proofs.Ytmljndggblfeiaa
