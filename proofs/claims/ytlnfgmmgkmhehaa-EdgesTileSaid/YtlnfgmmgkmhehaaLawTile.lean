/- Cells of one column and row each, for all slots, and the gutters tile the whole extent: for all bands (the first six) and gaps. -/
import Derived.Test.YtlnfgmmgkmhehaaRows
import Derived.WalkKit
import Derived.ProofKit
import Derived.OpenShut
import Derived.Below
import Derived.Test.YtlnfgmmgkmhehaaETilE
import Derived.ShutString
namespace Go.Proofs.Ytlnfgmmgkmhehaa.edgesTile
open Go.ChangeShapes Go.WideShapes Go.ChangeAt Go.RowKit
set_option linter.unusedVariables false

theorem own : ownKnob Try.prog.godebug = none := by kernel_rfl
theorem laidOut : laidOutB Try.prog = true := by kernel_rfl

theorem low_take {W : World} {a : Option Addr} {len cap n : Nat} {zs : List Int} (h : Ints W (.slice a len cap) zs) (hl : zs.length = len) (hn : n ≤ len) : LowI W.heap.size W (.slice a n cap) (zs.take n) ∧ (zs.take n).length = n :=
  ⟨.of (ints_takeR h hl n hn), by simp; omega⟩
theorem rm_bd {r k m : Nat} (hr : r ≤ k) (hk : k ≤ 6) (hm : m ≤ 6) : r * m ≤ 36 := Nat.le_trans (Nat.mul_le_mul (Nat.le_trans hr hk) hm) (by omega)
set_option maxRecDepth 100000 in
set_option maxHeartbeats 8000000 in
theorem main (W : World) (a0 a1 : Option Addr) (len0 cap0 len1 cap1 m k : Nat) (cs rs : List Int) (g0 g1 : Int) (hL : LowI W.heap.size W (.slice a0 m cap0) cs) (hR : LowI W.heap.size W (.slice a1 k cap1) rs) (hcs : cs.length = m) (hrs : rs.length = k)
    (hm : min len0 6 = m) (hk : min len1 6 = k) (hc0 : len0 ≤ cap0) (hc1 : len1 ≤ cap1) (hx0 : cap0 ≤ 9223372036854775807) (hx1 : cap1 ≤ 9223372036854775807) :
    Calls Try.prog 3 #[.slice a0 len0 cap0, .slice a1 len1 cap1, .agg #[.int .i64 g0, .int .i64 g1]] W fun e w' => e = .returned (.bool true) ∧ Below W.heap.size W w' := by
  obtain ⟨i0, hnf, hz0, hz1, hz2⟩ := infoE Try.infoPlE
  obtain ⟨i1, hnf1, hy0, hy1, hy2⟩ := infoE Try.infoRE
  have hm6 : m ≤ 6 := by omega
  have hk6 : k ≤ 6 := by omega
  have hmc : m ≤ cap0 := by omega
  have hkc : k ≤ cap1 := by omega
  have q0 : (if 6 < (len0 : Int) then 6 else (len0 : Int)) = (m : Int) := by split <;> omega
  have q1 : (if 6 < (len1 : Int) then 6 else (len1 : Int)) = (k : Int) := by split <;> omega
  have q2 : (m : Int) ≤ (cap0 : Int) := by omega
  have q3 : (k : Int) ≤ (cap1 : Int) := by omega
  have HSH := Lib.hid (fun X => shown10_any X)
  have HLK := Lib.hid (fun X (h : Below W.heap.size W X) => (hL.keep (Y := X) (fun k hk => h.block k hk)).mono h.size)
  have HRK := Lib.hid (fun X (h : Below W.heap.size W X) => (hR.keep (Y := X) (fun k hk => h.block k hk)).mono h.size)
  have HCE := Lib.hid (fun (pl : Option Addr) (cl : Nat) X (h : Below W.heap.size W X) (hp : PsAt X (.slice pl (k * m) cl) (slotP k m)) => ecells_any pl a0 a1 (k * m) cl m cap0 k cap1 (slotP k m) cs rs g0 g1 X hp (slotP_len k m) (Nat.le_trans (rm_bd (Nat.le_refl _) hk6 hm6) (by omega)) (slotP_ok hk6 hm6) (HLK.out X h) hcs (HRK.out X h) hrs)
  rw [show ((slotP k m).map (cellE g0 g1 cs rs)) = cellsL g0 g1 cs rs by unfold cellsL; rw [hcs, hrs], slotP_place, Bool.and_true] at HCE
  have HGU := Lib.hid (fun X (h : Below W.heap.size W X) => gutters_any a0 a1 m cap0 k cap1 cs rs g0 g1 X (HLK.out X h) hcs (HRK.out X h) hrs)
  have HE0 := Lib.hid (fun X (h : Below W.heap.size W X) => extent_any g0 a0 m cap0 cs X (HLK.out X h) hcs hmc)
  have HE1 := Lib.hid (fun X (h : Below W.heap.size W X) => extent_any g1 a1 k cap1 rs X (HRK.out X h) hrs hkc)
  have HCS := Lib.hid hcs
  have HRS := Lib.hid hrs
  clear hL hR hcs hrs hm hk hc0 hc1 HLK HRK
  obtain ⟨gn, hgn⟩ : ∃ gn, W.heap.size = gn := ⟨_, rfl⟩
  obtain ⟨W0, hW0⟩ : ∃ W0, W.alloc (.cells #[.int .i64 g0, .int .i64 g1] 23) = W0 := ⟨_, rfl⟩
  have HB0 : Hid (Below W.heap.size W W0) := Lib.hid (by rw [← hW0]; exact (Below.refl _ W).alloc (Nat.le_refl _) _)
  have HA0 : Hid (Whole W0 gn 23 [.int .i64 g0, .int .i64 g1]) := Lib.hid (by rw [← hW0]; exact whole_new W [.int .i64 g0, .int .i64 g1] 23 gn hgn.symm)
  go_enter Try.func3, Try.ntmps3
  go_wp2_with fail
  try rw [hW0]
  clear hW0 hgn
  refine (HSH.out _).mono ?_
  rintro e w1 ⟨rfl, hb1⟩
  have HB1 := Lib.hid (HB0.out.trans (hb1.mono HB0.out.size))
  have HA1 := Lib.hid (HA0.out.below hb1 HA0.out.lt)
  clear hb1 HB0 HA0 HSH
  go_wp2
  go_loopw [8, 9] (fun s8 s9 X => ∃ r : Nat, r ≤ k ∧ s9 = .int .i64 (r : Int) ∧ Hid (X.ownsRow w1.heap.size 27 5 s8 (r * m) (placesV (slotP r m))) ∧ Hid (Below w1.heap.size w1 X)) (fun _ s9 _ => k - (intOf s9).toNat)
  case atStart => exact ⟨0, Nat.zero_le _, rfl, Lib.hid (by rw [Nat.zero_mul]; exact World.ownsRow_nil _ _ _ _), Lib.hid (Below.refl _ _)⟩
  case round =>
    obtain ⟨r, hr, rfl, HO, HB⟩ := hrel
    by_cases hlt : r < k
    · have hltz : (r : Int) < (k : Int) := by omega
      have hrm := rm_bd hr hk6 hm6
      obtain ⟨N, hN⟩ : ∃ N, r * m = N := ⟨_, rfl⟩
      rw [hN] at HO hrm
      have HN := Lib.hid hN
      clear hN
      go_wp2
      go_loopw [8, 10] (fun s8 s10 X => ∃ c : Nat, c ≤ m ∧ s10 = .int .i64 (c : Int) ∧ Hid (X.ownsRow w1.heap.size 27 5 s8 (N + c) (placesV (slotP r m ++ rowPz r c))) ∧ Hid (Below w1.heap.size w1 X)) (fun _ s10 _ => m - (intOf s10).toNat)
      case atStart => exact ⟨0, Nat.zero_le _, rfl, Lib.hid (by rw [show rowPz r 0 = [] from rfl, List.append_nil]; exact HO.out), HB⟩
      case round =>
        clear HO HB
        obtain ⟨c, hc, rfl, HO, HB⟩ := hrel
        by_cases hlc : c < m
        · have hlcz : (c : Int) < (m : Int) := by omega
          have hsz := HB.out.size
          go_wp2_with (at_builtin; refine Hid.out ?_)
          refine Lib.hid ?_
          refine wpList_append_own_at _ rfl _ _ 25 rfl w1.heap.size 27 i0 (.agg #[.int .i64 0, .int .i64 0, .int .i64 0, .int .i64 0, .int .i64 0]) 5 40 Try.underlying25 hnf hz0 hz1 hz2 rfl (by decide) _ (N + c) _ rfl (HO.out.alloc _) ⟨wr.heap.size, 0, none⟩ 1 1 [.int .i64 0, .int .i64 (r : Int), .int .i64 (c : Int), .int .i64 1, .int .i64 1] rfl rfl (layE _ _ _ _ rfl) (by simp [Value.oneCell']) (by unfold maxLen; omega) (by omega) (by simp; omega) ?_
          intro v' X1 ho hg _ hat
          have HO1 : Hid (X1.ownsRow w1.heap.size 27 5 v' (N + (c + 1)) (placesV (slotP r m ++ rowPz r (c + 1)))) := Lib.hid (by
            rw [rowPz_succ, ← List.append_assoc]
            have e : placesV (slotP r m ++ rowPz r c ++ [⟨0, (r : Int), (c : Int), 1, 1⟩]) = placesV (slotP r m ++ rowPz r c) ++ [.int .i64 0, .int .i64 (r : Int), .int .i64 (c : Int), .int .i64 1, .int .i64 1] := by simp [placesV, Pz.cells]
            rw [e]; exact ho)
          have HB1' : Hid (Below w1.heap.size w1 X1) := Lib.hid (own_below (HB.out.alloc hsz _) (HO.out.alloc _) (Nat.le_refl _) hg (by simp; omega))
          clear ho hg hat hsz HO HB
          go_wp2
          go_roundw
          case rel => exact ⟨c + 1, by omega, by go_num, HO1, HB1'⟩
          case measure => simp [intOf]; omega
        · have hcm : m = c := by omega
          subst hcm
          have hlcz : ¬ (m : Int) < (m : Int) := by omega
          have HO2 : Hid (wr.ownsRow w1.heap.size 27 5 u8 ((r + 1) * m) (placesV (slotP (r + 1) m))) := Lib.hid (by rw [slotP_succ, Nat.succ_mul, HN.out]; exact HO.out)
          clear HO
          go_wp2
          go_roundw
          case rel => exact ⟨r + 1, by omega, by go_num, HO2, HB⟩
          case measure => simp [intOf]; omega
    · have hrk : k = r := by omega
      subst hrk
      have hltz : ¬ (k : Int) < (k : Int) := by omega
      have hrm := rm_bd (Nat.le_refl k) hk6 hm6
      have ho := HO.out
      obtain ⟨pl, cl, rfl⟩ := own_formE ho
      have HPS := Lib.hid (own_psAt ho (slotP_len k m) (by omega))
      have HB2 := Lib.hid (HB1.out.trans (HB.out.mono HB1.out.size))
      have HA2 := Lib.hid (HA1.out.below HB.out HA1.out.lt)
      clear ho HO HB HA1 HB1 hlt
      generalize hok : (okB g0 cs && okB g1 rs) = ok at HCE HGU
      have c0 := HA2.out.cellAt 0
      have c1 := HA2.out.cellAt 1
      have la := HA2.out.lt
      simp only [List.getElem?_cons_zero, List.getElem?_cons_succ] at c0 c1
      go_wp2_with fail
      refine (HCE.out pl cl _ HB2.out HPS.out).mono ?_
      intro e w3 hp3
      obtain ⟨hb3, hp3⟩ := hp3
      have HB3 := Lib.hid (HB2.out.trans (hb3.mono HB2.out.size))
      have HA3 := Lib.hid (HA2.out.below hb3 HA2.out.lt)
      clear hb3 HA2 c0 c1 la HCE HPS
      cases ok with
      | false =>
        obtain ⟨hq, _⟩ | ⟨_, rfl⟩ := hp3
        · cases hq
        have c0 := HA3.out.cellAt 0
        have c1 := HA3.out.cellAt 1
        have la := HA3.out.lt
        simp only [List.getElem?_cons_zero, List.getElem?_cons_succ] at c0 c1
        go_wp2_with fail
        refine (HGU.out _ HB3.out).mono ?_
        intro e w4 hp4
        obtain ⟨hb4, ⟨hq, _⟩ | ⟨_, rfl⟩⟩ := hp4
        · cases hq
        have HB4 := Lib.hid (HB3.out.trans (hb4.mono HB3.out.size))
        have HA4 := Lib.hid (HA3.out.below hb4 HA3.out.lt)
        clear hb4 HA3 c0 c1 la HGU
        have c0 := HA4.out.cellAt 0
        have c1 := HA4.out.cellAt 1
        have la := HA4.out.lt
        simp only [List.getElem?_cons_zero, List.getElem?_cons_succ] at c0 c1
        go_wp2_with fail
        refine (HE0.out _ HB4.out).mono ?_
        rintro e w5 ⟨rfl, hb5⟩
        have HB5 := Lib.hid (HB4.out.trans (hb5.mono HB4.out.size))
        have HA5 := Lib.hid (HA4.out.below hb5 HA4.out.lt)
        clear hb5 HA4 c0 c1 la HE0
        have c0 := HA5.out.cellAt 0
        have c1 := HA5.out.cellAt 1
        have la := HA5.out.lt
        simp only [List.getElem?_cons_zero, List.getElem?_cons_succ] at c0 c1
        go_wp2_with fail
        refine (HE1.out _ HB5.out).mono ?_
        rintro e w6 ⟨rfl, hb6⟩
        have HB6 := Lib.hid (HB5.out.trans (hb6.mono HB5.out.size))
        clear hb6 HA5 c0 c1 la HE1
        go_wp2
        go_ret
        exact ⟨by first | rfl | (simp; done), HB6.out⟩
      | true =>
        obtain ⟨_, va, rfl, hoa⟩ | ⟨hq, _⟩ := hp3
        rotate_left
        · cases hq
        have hok2 := hok
        rw [Bool.and_eq_true] at hok2
        have HK0 := Lib.hid (okB_iff.1 hok2.1)
        have HK1 := Lib.hid (okB_iff.1 hok2.2)
        rw [show extV g0 cs = (extW g0 cs, 0) by unfold extV; rw [if_pos hok2.1]] at HE0
        rw [show extV g1 rs = (extW g1 rs, 0) by unfold extV; rw [if_pos hok2.2]] at HE1
        dsimp only at HE0 HE1
        have HOA := Lib.hid hoa
        clear hok hok2 hoa
        have c0 := HA3.out.cellAt 0
        have c1 := HA3.out.cellAt 1
        have la := HA3.out.lt
        simp only [List.getElem?_cons_zero, List.getElem?_cons_succ] at c0 c1
        go_wp2_with fail
        refine (HGU.out _ HB3.out).mono ?_
        intro e w4 hp4
        obtain ⟨hb4, ⟨_, vb, rfl, hob⟩ | ⟨hq, _⟩⟩ := hp4
        rotate_left
        · cases hq
        have HB4 := Lib.hid (HB3.out.trans (hb4.mono HB3.out.size))
        have HA4 := Lib.hid (HA3.out.below hb4 HA3.out.lt)
        have HOA4 := Lib.hid (own_laterE HOA.out hb4)
        have HOB := Lib.hid hob
        clear hb4 HA3 c0 c1 la HGU HOA hob
        have c0 := HA4.out.cellAt 0
        have c1 := HA4.out.cellAt 1
        have la := HA4.out.lt
        simp only [List.getElem?_cons_zero, List.getElem?_cons_succ] at c0 c1
        go_wp2_with fail
        refine (HE0.out _ HB4.out).mono ?_
        rintro e w5 ⟨rfl, hb5⟩
        have HB5 := Lib.hid (HB4.out.trans (hb5.mono HB4.out.size))
        have HA5 := Lib.hid (HA4.out.below hb5 HA4.out.lt)
        have HOA5 := Lib.hid (own_laterE HOA4.out hb5)
        have HOB5 := Lib.hid (own_laterE HOB.out hb5)
        clear hb5 HA4 c0 c1 la HE0 HOA4 HOB
        have c0 := HA5.out.cellAt 0
        have c1 := HA5.out.cellAt 1
        have la := HA5.out.lt
        simp only [List.getElem?_cons_zero, List.getElem?_cons_succ] at c0 c1
        go_wp2_with fail
        refine (HE1.out _ HB5.out).mono ?_
        rintro e w6 ⟨rfl, hb6⟩
        have HB6 := Lib.hid (HB5.out.trans (hb6.mono HB5.out.size))
        have HOA6 := Lib.hid (own_laterE HOA5.out hb6)
        have HOB6 := Lib.hid (own_laterE HOB5.out hb6)
        clear hb6 HA5 c0 c1 la HE1 HOA5 HOB5
        by_cases hm0 : m = 0
        · have hmz : ((m : Int) == 0) = true := by simp [hm0]
          have HMM := Lib.hid hm0
          clear hm0
          go_wp2
          go_ret
          exact ⟨by first | rfl | (simp; done), HB6.out⟩
        · have hmz : ((m : Int) == 0) = false := by simp; omega
          by_cases hk0 : k = 0
          · have hkz : ((k : Int) == 0) = true := by simp [hk0]
            have HKK := Lib.hid hk0
            clear hk0
            go_wp2
            go_ret
            exact ⟨by first | rfl | (simp; done), HB6.out⟩
          · have hkz : ((k : Int) == 0) = false := by simp; omega
            have hT := all_tiles HK0.out HK1.out (by rw [HCS.out]; exact hm0) (by rw [HRS.out]; exact hk0)
            have hRR := rects_right HK0.out HK1.out
            have hla := cellsL_len g0 g1 cs rs
            have hlb := gutE_le g0 g1 cs rs (by rw [HCS.out]; exact hm6) (by rw [HRS.out]; exact hk6)
            rw [HRS.out, HCS.out] at hla
            have x0 := extW_bd HK0.out
            have x1 := extW_bd HK1.out
            have hr0 : RR.rightB ⟨0, 0, extW g0 cs, extW g1 rs⟩ = true := by rw [RR.rightB_iff]; simp only; omega
            have hTB := (RR.tiles_doc ⟨0, 0, extW g0 cs, extW g1 rs⟩ (cellsL g0 g1 cs rs ++ gutE g0 g1 cs rs) (by rw [List.length_append]; omega) hr0 hRR).2 hT
            have HTI := Lib.hid (fun p n cap X hI hl => RR.refTiles_good 0 0 (extW g0 cs) (extW g1 rs) hr0 p n cap (cellsL g0 g1 cs rs ++ gutE g0 g1 cs rs) X hI hl hRR)
            rw [hTB] at HTI
            have HLA := Lib.hid hla
            have HLB := Lib.hid hlb
            clear hT hRR hla hlb x0 x1 hr0 hTB HK0 HK1 HCS HRS hm0 hk0
            generalize cellsL g0 g1 cs rs = LA at *
            generalize gutE g0 g1 cs rs = LB at *
            generalize extW g0 cs = ew at *
            generalize extW g1 rs = eh at *
            have hla := HLA.out
            have hlb := HLB.out
            go_wp2_with (at_make; refine Hid.out ?_)
            refine Lib.hid ?_
            refine wpList_make_own _ rfl _ _ 28 rfl w6.heap.size 38 i1 (.agg #[.int .i64 0, .int .i64 0, .int .i64 0, .int .i64 0]) 4 Try.underlying28 hnf1 hy0 hy1 .i64 .i64 100 100 rfl rfl rfl (by rw [hy2]; decide) (by unfold maxLen; omega) (Nat.le_refl _) ?_
            intro w7 ho7 hg7
            have hb7 : Below w6.heap.size w6 w7 := (Below.refl _ w6).grown hg7 (Nat.le_refl _) (fun z e => by cases e)
            have HO7 := Lib.hid ho7
            have HB7 := Lib.hid hb7
            have HOA7 := Lib.hid (own_laterE HOA6.out hb7)
            have HOB7 := Lib.hid (own_laterE HOB6.out hb7)
            have HVB := Lib.hid (fun g (e : vb.ownBlock = some g) => (HOB6.out.lt g e).2)
            clear ho7 hg7 hb7 HOA6 HOB6
            go_wp2_with (at_builtin; refine Hid.out ?_)
            refine Lib.hid ?_
            refine wpList_appE (some 115) rfl rfl _ _ rfl w6.heap.size _ 0 [] rfl HO7.out _ va LA.length LA rfl HOA7.out rfl (by omega) HB7.out.size ?_
            intro v8 w8 ho8 hg8 hat8
            have hb8 : Below w6.heap.size w6 w8 := own_below HB7.out HO7.out (Nat.le_refl _) hg8 HB7.out.size
            have hne8 : vb.ownBlock = none ∨ vb.ownBlock ≠ (Value.slice (some ⟨w6.heap.size, 0, none⟩) 0 100).ownBlock := by
              cases hv : vb.ownBlock with
              | none => exact .inl rfl
              | some gb =>
                right
                intro e
                have h1 := HVB.out gb hv
                simp [Value.ownBlock] at e
                omega
            have HOB8 := Lib.hid (HOB7.out.kept hg8 hne8)
            have HO8 := Lib.hid ho8
            have HB8 := Lib.hid hb8
            clear ho8 hg8 hat8 hb8 hne8 HO7 HB7 HOA7 HOB7
            go_wp2_with (at_builtin; refine Hid.out ?_)
            refine Lib.hid ?_
            refine wpList_appE (some 117) rfl rfl _ _ rfl w6.heap.size _ (0 + LA.length) _ rfl HO8.out _ vb LB.length LB rfl HOB8.out rfl (by omega) HB8.out.size ?_
            intro v9 w9 ho9 hg9 hat9
            have hb9 : Below w6.heap.size w6 w9 := own_below HB8.out HO8.out (Nat.le_refl _) hg9 HB8.out.size
            rw [List.nil_append, ← flatE_app, Nat.zero_add] at ho9
            obtain ⟨p9, c9, rfl⟩ := own_formE ho9
            have hR9 := RR.own_rects ho9
            have hti9 := HTI.out p9 _ c9 w9 hR9 (by omega)
            rw [HLA.out] at hti9
            have HTI9 := Lib.hid hti9
            have HB9 := Lib.hid (HB6.out.trans (hb9.mono HB6.out.size))
            clear ho9 hg9 hat9 hb9 hR9 hti9 HTI HO8 HB8 HOB8
            go_wp2_with fail
            refine HTI9.out.mono ?_
            rintro e w10 ⟨rfl, hb10⟩
            have HB10 := Lib.hid (HB9.out.trans (hb10.mono HB9.out.size))
            clear hb10 HTI9
            go_wp2
            go_ret
            exact ⟨by first | rfl | (simp; done), HB10.out⟩
theorem walk (W : World) (a0 : Option Addr) (len0 cap0 : Nat) (z0 : List Int) (w0 : Ints W (.slice a0 len0 cap0) z0 ∧ z0.length = len0 ∧ len0 ≤ cap0 ∧ cap0 ≤ maxLen) (a1 : Option Addr) (len1 cap1 : Nat) (z1 : List Int) (w1 : Ints W (.slice a1 len1 cap1) z1 ∧ z1.length = len1 ∧ len1 ≤ cap1 ∧ cap1 ≤ maxLen) (a2 : Gp) (w2 : a2.wf) :
    Calls Try.prog 3 #[.slice a0 len0 cap0, .slice a1 len1 cap1, a2.val] W fun e w' => e = .returned (.bool true) ∧ Below W.heap.size W w' := by
  obtain ⟨h1, h2, h3, h4⟩ := w0
  obtain ⟨i1, i2, i3, i4⟩ := w1
  unfold maxLen at h4 i4
  have l0 := low_take h1 h2 (show min len0 6 ≤ len0 by omega)
  have l1 := low_take i1 i2 (show min len1 6 ≤ len1 by omega)
  exact main W a0 a1 len0 cap0 len1 cap1 (min len0 6) (min len1 6) _ _ a2.x a2.y l0.1 l1.1 l0.2 l1.2 rfl rfl h3 i3 h4 i4

set_option maxRecDepth 100000 in
theorem lifted (os : Os) (started : os.Started) (H : Type) (enc : TypeId × Value → H) :
    ReturnsInHanded {} Try.checked os 3 .any (Rows.edgesTileSpec.pre6 enc Try.prog Try.f3 Rows.edgesTileRow.domain false) (Rows.edgesTileSpec.post enc Try.prog Try.f3 false true false false) := by
  refine returnsInHanded_of_change (C := Try.checked) own started (by kernel_rfl) Try.func3
    (ChangeSpec.witness6 (enc := enc) (C := Try.checked) false ⟨#[], #[.slice none 0 0, .slice none 0 0, .agg #[.int .i64 0, .int .i64 0]], []⟩ 8 (by kernel_rfl) (by kernel_rfl) (by kernel_rfl) (by kernel_rfl)) ?_
  intro W base args ds gs before hval0 hW hcnd _
  have hval : ∀ (j : Nat) t v, Try.f3.params[j]? = some t → args[j]? = some v → Value.okWide Try.prog W .any base t v := hval0
  have hW' := hW
  obtain ⟨p, q, hA0, hV, rfl, hfz, hnd⟩ := hW
  have hA : DataW.TrodAll enc Try.prog W 0 (fun _ => true) true Try.f3.params.toList args.toList ds p := hA0
  rw [Try.params3] at hA hval
  obtain ⟨v0, vs0, d0, ds0, p0, q0, hargs, rfl, rfl, h0, r0⟩ := trodAll_cons hA
  obtain ⟨v1, vs1, d1, ds1, p1, q1, rfl, rfl, rfl, h1, r1⟩ := trodAll_cons r0
  obtain ⟨v2, vs2, d2, ds2, p2, q2, rfl, rfl, rfl, h2, r2⟩ := trodAll_cons r1
  obtain ⟨rfl, rfl, rfl⟩ := trodAll_nil r2
  obtain rfl : args = #[v0, v1, v2] := by cases args; simp_all
  obtain ⟨rfl, rfl⟩ := trodVars_none hV
  obtain ⟨a0, len0, cap0, rfl⟩ := okWide_slice Try.underlying22 (hval 0 22 v0 rfl rfl)
  have k0 := h0
  have lt0 : ∀ x ∈ p0, x.block < W.heap.size := by obtain ⟨m, hm⟩ := k0; exact DataW.trod_lt m _ _ _ hm
  obtain ⟨z0, w0⟩ : ∃ zs, Ints W (.slice a0 len0 cap0) zs ∧ zs.length = len0 ∧ len0 ≤ cap0 ∧ cap0 ≤ maxLen := by
    obtain ⟨fuel, hf⟩ := h0
    exact open_ints64 (by simpa [Value.cells] using hf)
  obtain ⟨a1, len1, cap1, rfl⟩ := okWide_slice Try.underlying22 (hval 1 22 v1 rfl rfl)
  have k1 := h1
  have lt1 : ∀ x ∈ p1, x.block < W.heap.size := by obtain ⟨m, hm⟩ := k1; exact DataW.trod_lt m _ _ _ hm
  obtain ⟨z1, w1⟩ : ∃ zs, Ints W (.slice a1 len1 cap1) zs ∧ zs.length = len1 ∧ len1 ≤ cap1 ∧ cap1 ≤ maxLen := by
    obtain ⟨fuel, hf⟩ := h1
    exact open_ints64 (by simpa [Value.cells] using hf)
  obtain ⟨a2, rfl, rfl, rfl, w2⟩ := open_two (hval 2 23 v2 rfl rfl) h2
  clear hA0 hval0
  simp only [List.append_nil] at hW'
  refine (walk W a0 len0 cap0 z0 w0 a1 len1 cap1 z1 w1 a2 w2).mono fun e W' ⟨he, hg⟩ => ?_
  subst he
  exact ⟨_, rfl, _, _, _, [], _, [], hW', (trodAll_cons_mk (shut_bool Try.underlying4 _) trodAll_mk0), (trodAll_cons_mk (Below.trod laidOut (by kernel_rfl) (of_decide_eq_true (by kernel_rfl)) k0 hg lt0) (trodAll_cons_mk (Below.trod laidOut (by kernel_rfl) (of_decide_eq_true (by kernel_rfl)) k1 hg lt1) (trodAll_cons_mk (shut_two a2 w2) trodAll_mk0))), rfl, hg.frame _, fun h => by cases h⟩

theorem over : Rows.edgesTileRow.holds Try.pinned (OpenSpec.ofChange Rows.edgesTileSpec) :=
  OpenClaim.holds_of_wide 3 Try.f3 rfl rfl rfl rfl rfl rfl rfl ⟨rfl, rfl, rfl, rfl, rfl⟩ rfl rfl rfl rfl rfl (by kernel_rfl) Try.func3 (by kernel_rfl)
    (of_decide_eq_true (by kernel_rfl)) (by unfold Func.isWrapper; first | (rw [if_pos (by decide +kernel)]; kernel_rfl) | (rw [if_neg (by decide +kernel)]; exact ⟨rfl, rfl⟩))
    (fun os started H enc _ => lifted os started H enc)

/-- the statement -/
theorem proved : Rows.EdgesTileSaid :=
  over
#print axioms proved
end Go.Proofs.Ytlnfgmmgkmhehaa.edgesTile
