/- How wide some words are, and the least and most, is what the document says. -/
import Derived.Test.YthgkjgaebgpplaaRows
import Derived.WalkKit
import Derived.ProofKit
import Derived.OpenShut
import Derived.Below
import Derived.Test.YthgkjgaebgpplaaLnPre2
import Derived.ShutString
namespace Go.Proofs.Ythgkjgaebgpplaa.linesWide
open Go.ChangeShapes Go.WideShapes Go.ChangeAt Go.RowKit
set_option linter.unusedVariables false

theorem own : ownKnob Try.prog.godebug = none := by kernel_rfl
theorem laidOut : laidOutB Try.prog = true := by kernel_rfl

set_option maxRecDepth 100000 in
set_option maxHeartbeats 4000000 in
theorem walk (W : World) (a0 : Nd) (w0 : a0.ok W) (a1 : Int) (w1 : (Lit.int .i64 a1).wf = true) (a2 : Int) (w2 : (Lit.int .i64 a2).wf = true) :
    Calls Try.prog 4 #[a0.val, .int .i64 a1, .int .i64 a2] W fun e w' => e = .returned (.bool true) ∧ Below W.heap.size W w' := by
  obtain ⟨cs, hcs⟩ : ∃ cs, a0.cells.toArray = cs := ⟨_, rfl⟩
  have hT0 := TxIn.new W a0 w0
  rw [hcs] at hT0
  have HT0 := Lib.hid hT0
  have HSH := Lib.hid (fun X => shown8_any X)
  rw [show a0.val = .agg a0.cells.toArray from rfl, hcs]
  clear hcs hT0 w0
  go_enter Try.func4, Try.ntmps4
  go_wp2_with (first
    | (go_at_call 10; refine (HSH.out _).mono ?_; clear HSH; rintro e w1 ⟨rfl, hb1⟩; have HT1 := Lib.hid (HT0.out.below hb1); clear hb1 HT0)
    | (with_reducible refine wpList_load_at rfl 35 (.tmp 3) rfl _ rfl cs _ HT1.out.load Try.underlying35 rfl (nd_infoC HT1.out.eq) ?_)
    | (go_at_call 11; refine (cut_cs W _ a0 cs _ HT1.out).mono ?_; rintro e w2 ⟨n, ds, rfl, hcut, hb2, hT2, hsz, hone, hrow⟩; have HT2 := Lib.hid hT2; have HCUT := Lib.hid hcut; have HSZ := Lib.hid (hsz : ds.size = cs.size); have HONE := Lib.hid hone; have HROW := Lib.hid hrow; clear hcut hb2 hT2 hsz hone hrow HT1)
    | (refine wpList_store_row rfl 35 (.tmp 3) (.tmp 17) rfl _ ds rfl rfl 35 cs.toList.toArray HROW.out (nd_infoC HT2.out.eq) (by simpa using HSZ.out.symm) HONE.out ?_; clear HROW HSZ HONE; obtain ⟨Y, hY⟩ : ∃ Y, w2.setRow W.heap.size ds = Y := ⟨_, rfl⟩; rw [hY]; have HT := Lib.hid (hY ▸ HT2.out); clear hY HT2; refine Hid.out ?_))
  refine Lib.hid ?_
  have HWA := Lib.hid (fun X (hX : TxIn W W.heap.size a0 n ds X) => wide_cs hX a1 a2)
  have HLE := Lib.hid (fun X (hX : TxIn W W.heap.size a0 n ds X) => least_cs hX)
  have HMO := Lib.hid (fun X (hX : TxIn W W.heap.size a0 n ds X) => most_cs hX)
  have HRR := Lib.hid (fun X (hX : TxIn W W.heap.size a0 n ds X) => refRight_cs hX)
  cases ht : textB n with
  | false =>
    rw [show wideV n a1 a2 = .tuple #[.int .i64 0, .int .i64 90] by unfold wideV; rw [if_neg (fun h => by rw [ht] at h; cases h.1)]] at HWA
    rw [show leastV n = .tuple #[.int .i64 0, .int .i64 90] by unfold leastV; rw [if_neg (by rw [ht]; simp)]] at HLE
    rw [show mostV n = .tuple #[.int .i64 0, .int .i64 90] by unfold mostV; rw [if_neg (by rw [ht]; simp)]] at HMO
    rw [ht] at HRR
    clear ht
    go_wp2_with (first
      | (with_reducible refine wpList_load_at rfl 35 (.tmp 3) rfl _ rfl ds _ HT.out.load Try.underlying35 rfl (nd_infoC HT.out.eq) ?_)
      | (with_reducible refine wpList_load_at rfl 35 (.tmp 3) rfl _ rfl ds _ HU.out.load Try.underlying35 rfl (nd_infoC HU.out.eq) ?_)
      | (with_reducible refine wpList_load_at rfl 35 (.tmp 3) rfl _ rfl ds _ HV.out.load Try.underlying35 rfl (nd_infoC HV.out.eq) ?_)
      | (with_reducible refine wpList_load_at rfl 35 (.tmp 3) rfl _ rfl ds _ HX.out.load Try.underlying35 rfl (nd_infoC HX.out.eq) ?_)
      | (go_at_call 19; refine (HWA.out _ HT.out).mono ?_; clear HWA; rintro e w3 ⟨rfl, hb3⟩; have HU := Lib.hid (HT.out.below hb3); clear hb3 HT)
      | (go_at_call 20; refine (HLE.out _ HU.out).mono ?_; clear HLE; rintro e w4 ⟨rfl, hb4⟩; have HV := Lib.hid (HU.out.below hb4); clear hb4 HU)
      | (go_at_call 21; refine (HMO.out _ HV.out).mono ?_; clear HMO; rintro e w5 ⟨rfl, hb5⟩; have HX := Lib.hid (HV.out.below hb5); clear hb5 HV)
      | (go_at_call 14; refine (HRR.out _ HX.out).mono ?_; clear HRR; rintro e w6 ⟨rfl, hb6⟩; have HZ := Lib.hid (HX.out.below hb6); clear hb6 HX))
    go_ret
    exact ⟨rfl, HZ.out.lo⟩
  | true =>
    have HRL := Lib.hid (fun X (hX : TxIn W W.heap.size a0 n ds X) => refLeast_cs hX ht)
    have HRM := Lib.hid (fun X (hX : TxIn W W.heap.size a0 n ds X) => refMost_cs hX ht)
    have HRW := Lib.hid (fun X (hX : TxIn W W.heap.size a0 n ds X) => refWide_cs hX ht)
    rw [show leastV n = .tuple #[.int .i64 (leastW n.ws), .int .i64 0] by unfold leastV; rw [if_pos ht]] at HLE
    rw [show mostV n = .tuple #[.int .i64 (wideW n.b n.ws 0 n.ws.length), .int .i64 0] by unfold mostV; rw [if_pos ht]] at HMO
    obtain ⟨p, m, c, hwv, hm, hmc⟩ := tx_form HT.out
    have hm200 : m ≤ 200 := by have := HCUT.out.few; omega
    have HWV := Lib.hid hwv
    by_cases hr : 0 ≤ a1 ∧ a1 ≤ a2 ∧ a2 ≤ n.ws.length
    · have hwe : wideV n a1 a2 = .tuple #[.int .i64 (wideW n.b n.ws a1.toNat a2.toNat), .int .i64 0] := by unfold wideV; rw [if_pos ⟨ht, hr⟩]
      rw [hwe] at HWA
      obtain ⟨h1, h2, h3⟩ := hr
      rw [hm] at h3
      obtain ⟨fr, rfl⟩ := Int.eq_ofNat_of_zero_le h1
      obtain ⟨to, rfl⟩ := Int.eq_ofNat_of_zero_le (show 0 ≤ a2 by omega)
      rw [Int.toNat_natCast, Int.toNat_natCast] at HWA
      have HRW2 := Lib.hid (fun X hX => HRW.out X hX fr to (by omega) (by omega))
      rw [ht] at HRR
      have g1 : decide ((fr : Int) < 0) = false := by simp
      have g2 : decide ((to : Int) < (fr : Int)) = false := by simp; omega
      have g2n : decide (to < fr) = false := by simp; omega
      have g3 : decide ((m : Int) < (to : Int)) = false := by simp; omega
      have g3n : decide (m < to) = false := by simp; omega
      clear ht hwv hm hwe HRW h1 h2 h3
      generalize leastW n.ws = mi at *
      generalize wideW n.b n.ws 0 n.ws.length = ma at *
      generalize wideW n.b n.ws fr to = wv at *
      go_wp2_with (first
        | (with_reducible refine wpList_load_at rfl 35 (.tmp 3) rfl _ rfl ds _ HT.out.load Try.underlying35 rfl (nd_infoC HT.out.eq) ?_)
        | (with_reducible refine wpList_load_at rfl 35 (.tmp 3) rfl _ rfl ds _ HU.out.load Try.underlying35 rfl (nd_infoC HU.out.eq) ?_)
        | (with_reducible refine wpList_load_at rfl 35 (.tmp 3) rfl _ rfl ds _ HV.out.load Try.underlying35 rfl (nd_infoC HV.out.eq) ?_)
        | (with_reducible refine wpList_load_at rfl 35 (.tmp 3) rfl _ rfl ds _ HX.out.load Try.underlying35 rfl (nd_infoC HX.out.eq) ?_)
        | (go_at_call 19; refine (HWA.out _ HT.out).mono ?_; clear HWA; rintro e w3 ⟨rfl, hb3⟩; have HU := Lib.hid (HT.out.below hb3); clear hb3 HT)
        | (go_at_call 20; refine (HLE.out _ HU.out).mono ?_; clear HLE; rintro e w4 ⟨rfl, hb4⟩; have HV := Lib.hid (HU.out.below hb4); clear hb4 HU)
        | (go_at_call 21; refine (HMO.out _ HV.out).mono ?_; clear HMO; rintro e w5 ⟨rfl, hb5⟩; have HX := Lib.hid (HV.out.below hb5); clear hb5 HV)
        | (go_at_call 14; refine (HRR.out _ HX.out).mono ?_; clear HRR; rintro e w6 ⟨rfl, hb6⟩; have HZ := Lib.hid (HX.out.below hb6); clear hb6 HX)
        | (refine wpList_load_at_w rfl 35 (.tmp 3) rfl _ rfl ds _ HZ.out.load Try.underlying35 rfl (nd_infoC HZ.out.eq) ?_)
        | (refine wpList_load_at_w rfl 35 (.tmp 3) rfl _ rfl ds _ HC1.out.load Try.underlying35 rfl (nd_infoC HC1.out.eq) ?_)
        | (go_at_call 22; refine (HRL.out _ HZ.out).mono ?_; clear HRL; rintro e w7 ⟨rfl, hb7⟩; have HC1 := Lib.hid (HZ.out.below hb7); clear hb7 HZ)
        | (go_at_call 23; refine (HRM.out _ HC1.out).mono ?_; clear HRM; rintro e w8 ⟨rfl, hb8⟩; have HC2 := Lib.hid (HC1.out.below hb8); have e31 := HC2.out.wv; rw [HWV.out] at e31; have le2 := HC2.out.lt; clear hb8 HC1)
        | (refine wpList_load_at_w rfl 35 (.tmp 3) rfl _ rfl ds _ HC2.out.load Try.underlying35 rfl (nd_infoC HC2.out.eq) ?_)
        | (go_at_call 24; refine (HRW2.out _ HC2.out).mono ?_; clear HRW2; rintro e w9 ⟨rfl, hb9⟩; have HC3 := Lib.hid (HC2.out.below hb9); clear hb9))
      go_ret
      exact ⟨rfl, HC3.out.lo⟩
    · have hwe : wideV n a1 a2 = .tuple #[.int .i64 0, .int .i64 90] := by unfold wideV; rw [if_neg (fun h => hr h.2)]
      rw [hwe] at HWA
      rw [hm] at hr
      rw [ht] at HRR
      clear ht hwv hm hwe HRW
      generalize leastW n.ws = mi at *
      generalize wideW n.b n.ws 0 n.ws.length = ma at *
      by_cases k1 : a1 < 0
      · have g1 : decide (a1 < 0) = true := by simpa using k1
        clear hr
        go_wp2_with (first
          | (with_reducible refine wpList_load_at rfl 35 (.tmp 3) rfl _ rfl ds _ HT.out.load Try.underlying35 rfl (nd_infoC HT.out.eq) ?_)
          | (with_reducible refine wpList_load_at rfl 35 (.tmp 3) rfl _ rfl ds _ HU.out.load Try.underlying35 rfl (nd_infoC HU.out.eq) ?_)
          | (with_reducible refine wpList_load_at rfl 35 (.tmp 3) rfl _ rfl ds _ HV.out.load Try.underlying35 rfl (nd_infoC HV.out.eq) ?_)
          | (with_reducible refine wpList_load_at rfl 35 (.tmp 3) rfl _ rfl ds _ HX.out.load Try.underlying35 rfl (nd_infoC HX.out.eq) ?_)
          | (go_at_call 19; refine (HWA.out _ HT.out).mono ?_; clear HWA; rintro e w3 ⟨rfl, hb3⟩; have HU := Lib.hid (HT.out.below hb3); clear hb3 HT)
          | (go_at_call 20; refine (HLE.out _ HU.out).mono ?_; clear HLE; rintro e w4 ⟨rfl, hb4⟩; have HV := Lib.hid (HU.out.below hb4); clear hb4 HU)
          | (go_at_call 21; refine (HMO.out _ HV.out).mono ?_; clear HMO; rintro e w5 ⟨rfl, hb5⟩; have HX := Lib.hid (HV.out.below hb5); clear hb5 HV)
          | (go_at_call 14; refine (HRR.out _ HX.out).mono ?_; clear HRR; rintro e w6 ⟨rfl, hb6⟩; have HZ := Lib.hid (HX.out.below hb6); clear hb6 HX)
          | (refine wpList_load_at_w rfl 35 (.tmp 3) rfl _ rfl ds _ HZ.out.load Try.underlying35 rfl (nd_infoC HZ.out.eq) ?_)
          | (refine wpList_load_at_w rfl 35 (.tmp 3) rfl _ rfl ds _ HC1.out.load Try.underlying35 rfl (nd_infoC HC1.out.eq) ?_)
          | (go_at_call 22; refine (HRL.out _ HZ.out).mono ?_; clear HRL; rintro e w7 ⟨rfl, hb7⟩; have HC1 := Lib.hid (HZ.out.below hb7); clear hb7 HZ)
          | (go_at_call 23; refine (HRM.out _ HC1.out).mono ?_; clear HRM; rintro e w8 ⟨rfl, hb8⟩; have HC2 := Lib.hid (HC1.out.below hb8); have e31 := HC2.out.wv; rw [HWV.out] at e31; have le2 := HC2.out.lt; clear hb8 HC1))
        go_ret
        exact ⟨rfl, HC2.out.lo⟩
      · have g1 : decide (a1 < 0) = false := by simpa using k1
        by_cases k2 : a2 < a1
        · have g2 : decide (a2 < a1) = true := by simpa using k2
          clear hr
          go_wp2_with (first
            | (with_reducible refine wpList_load_at rfl 35 (.tmp 3) rfl _ rfl ds _ HT.out.load Try.underlying35 rfl (nd_infoC HT.out.eq) ?_)
            | (with_reducible refine wpList_load_at rfl 35 (.tmp 3) rfl _ rfl ds _ HU.out.load Try.underlying35 rfl (nd_infoC HU.out.eq) ?_)
            | (with_reducible refine wpList_load_at rfl 35 (.tmp 3) rfl _ rfl ds _ HV.out.load Try.underlying35 rfl (nd_infoC HV.out.eq) ?_)
            | (with_reducible refine wpList_load_at rfl 35 (.tmp 3) rfl _ rfl ds _ HX.out.load Try.underlying35 rfl (nd_infoC HX.out.eq) ?_)
            | (go_at_call 19; refine (HWA.out _ HT.out).mono ?_; clear HWA; rintro e w3 ⟨rfl, hb3⟩; have HU := Lib.hid (HT.out.below hb3); clear hb3 HT)
            | (go_at_call 20; refine (HLE.out _ HU.out).mono ?_; clear HLE; rintro e w4 ⟨rfl, hb4⟩; have HV := Lib.hid (HU.out.below hb4); clear hb4 HU)
            | (go_at_call 21; refine (HMO.out _ HV.out).mono ?_; clear HMO; rintro e w5 ⟨rfl, hb5⟩; have HX := Lib.hid (HV.out.below hb5); clear hb5 HV)
            | (go_at_call 14; refine (HRR.out _ HX.out).mono ?_; clear HRR; rintro e w6 ⟨rfl, hb6⟩; have HZ := Lib.hid (HX.out.below hb6); clear hb6 HX)
            | (refine wpList_load_at_w rfl 35 (.tmp 3) rfl _ rfl ds _ HZ.out.load Try.underlying35 rfl (nd_infoC HZ.out.eq) ?_)
            | (refine wpList_load_at_w rfl 35 (.tmp 3) rfl _ rfl ds _ HC1.out.load Try.underlying35 rfl (nd_infoC HC1.out.eq) ?_)
            | (go_at_call 22; refine (HRL.out _ HZ.out).mono ?_; clear HRL; rintro e w7 ⟨rfl, hb7⟩; have HC1 := Lib.hid (HZ.out.below hb7); clear hb7 HZ)
            | (go_at_call 23; refine (HRM.out _ HC1.out).mono ?_; clear HRM; rintro e w8 ⟨rfl, hb8⟩; have HC2 := Lib.hid (HC1.out.below hb8); have e31 := HC2.out.wv; rw [HWV.out] at e31; have le2 := HC2.out.lt; clear hb8 HC1))
          go_ret
          exact ⟨rfl, HC2.out.lo⟩
        · have g2 : decide (a2 < a1) = false := by simpa using k2
          have g3 : decide ((m : Int) < a2) = true := by simp; omega
          clear hr
          go_wp2_with (first
            | (with_reducible refine wpList_load_at rfl 35 (.tmp 3) rfl _ rfl ds _ HT.out.load Try.underlying35 rfl (nd_infoC HT.out.eq) ?_)
            | (with_reducible refine wpList_load_at rfl 35 (.tmp 3) rfl _ rfl ds _ HU.out.load Try.underlying35 rfl (nd_infoC HU.out.eq) ?_)
            | (with_reducible refine wpList_load_at rfl 35 (.tmp 3) rfl _ rfl ds _ HV.out.load Try.underlying35 rfl (nd_infoC HV.out.eq) ?_)
            | (with_reducible refine wpList_load_at rfl 35 (.tmp 3) rfl _ rfl ds _ HX.out.load Try.underlying35 rfl (nd_infoC HX.out.eq) ?_)
            | (go_at_call 19; refine (HWA.out _ HT.out).mono ?_; clear HWA; rintro e w3 ⟨rfl, hb3⟩; have HU := Lib.hid (HT.out.below hb3); clear hb3 HT)
            | (go_at_call 20; refine (HLE.out _ HU.out).mono ?_; clear HLE; rintro e w4 ⟨rfl, hb4⟩; have HV := Lib.hid (HU.out.below hb4); clear hb4 HU)
            | (go_at_call 21; refine (HMO.out _ HV.out).mono ?_; clear HMO; rintro e w5 ⟨rfl, hb5⟩; have HX := Lib.hid (HV.out.below hb5); clear hb5 HV)
            | (go_at_call 14; refine (HRR.out _ HX.out).mono ?_; clear HRR; rintro e w6 ⟨rfl, hb6⟩; have HZ := Lib.hid (HX.out.below hb6); clear hb6 HX)
            | (refine wpList_load_at_w rfl 35 (.tmp 3) rfl _ rfl ds _ HZ.out.load Try.underlying35 rfl (nd_infoC HZ.out.eq) ?_)
            | (refine wpList_load_at_w rfl 35 (.tmp 3) rfl _ rfl ds _ HC1.out.load Try.underlying35 rfl (nd_infoC HC1.out.eq) ?_)
            | (go_at_call 22; refine (HRL.out _ HZ.out).mono ?_; clear HRL; rintro e w7 ⟨rfl, hb7⟩; have HC1 := Lib.hid (HZ.out.below hb7); clear hb7 HZ)
            | (go_at_call 23; refine (HRM.out _ HC1.out).mono ?_; clear HRM; rintro e w8 ⟨rfl, hb8⟩; have HC2 := Lib.hid (HC1.out.below hb8); have e31 := HC2.out.wv; rw [HWV.out] at e31; have le2 := HC2.out.lt; clear hb8 HC1))
          go_ret
          exact ⟨rfl, HC2.out.lo⟩

set_option maxRecDepth 100000 in
theorem lifted (os : Os) (started : os.Started) (H : Type) (enc : TypeId × Value → H) :
    ReturnsInHanded {} Try.checked os 4 .any (Rows.linesWideSpec.pre6 enc Try.prog Try.f4 Rows.linesWideRow.domain false) (Rows.linesWideSpec.post enc Try.prog Try.f4 false true false false) := by
  refine returnsInHanded_of_change (C := Try.checked) own started (by kernel_rfl) Try.func4
    (ChangeSpec.witness6 (enc := enc) (C := Try.checked) false ⟨#[], #[.agg #[.int .i64 0, .slice none 0 0, .int .i64 0, .int .i64 0, .int .i64 0, .int .i64 0, .int .i64 0, .int .i64 0, .int .i64 0, .int .i64 0, .int .i64 0, .int .i64 0, .int .u32 0, .int .i64 0, .int .i64 0, .int .u32 0, .int .i64 0, .int .i64 0, .int .u32 0, .int .i64 0, .int .i64 0, .int .u32 0, .int .i64 0, .int .i64 0, .int .i64 0, .bool false, .bool false, .int .i64 0, .int .i64 0, .bool false, .bool false, .slice none 0 0, .int .i64 0, .int .i64 0], .int .i64 0, .int .i64 0], []⟩ 8 (by kernel_rfl) (by kernel_rfl) (by kernel_rfl) (by kernel_rfl)) ?_
  intro W base args ds gs before hval0 hW hcnd _
  have hval : ∀ (j : Nat) t v, Try.f4.params[j]? = some t → args[j]? = some v → Value.okWide Try.prog W .any base t v := hval0
  have hW' := hW
  obtain ⟨p, q, hA0, hV, rfl, hfz, hnd⟩ := hW
  have hA : DataW.TrodAll enc Try.prog W 0 (fun _ => true) true Try.f4.params.toList args.toList ds p := hA0
  rw [Try.params4] at hA hval
  obtain ⟨v0, vs0, d0, ds0, p0, q0, hargs, rfl, rfl, h0, r0⟩ := trodAll_cons hA
  obtain ⟨v1, vs1, d1, ds1, p1, q1, rfl, rfl, rfl, h1, r1⟩ := trodAll_cons r0
  obtain ⟨v2, vs2, d2, ds2, p2, q2, rfl, rfl, rfl, h2, r2⟩ := trodAll_cons r1
  obtain ⟨rfl, rfl, rfl⟩ := trodAll_nil r2
  obtain rfl : args = #[v0, v1, v2] := by cases args; simp_all
  obtain ⟨rfl, rfl⟩ := trodVars_none hV
  have k0 := h0
  have lt0 : ∀ x ∈ p0, x.block < W.heap.size := by obtain ⟨m, hm⟩ := k0; exact DataW.trod_lt m _ _ _ hm
  obtain ⟨a0, rfl, w0⟩ := open_node (hval 0 35 v0 rfl rfl) h0
  obtain ⟨a1, rfl, rfl, rfl, w1⟩ := open_int Try.underlying3 (hval 1 3 v1 rfl rfl) h1
  obtain ⟨a2, rfl, rfl, rfl, w2⟩ := open_int Try.underlying3 (hval 2 3 v2 rfl rfl) h2
  clear hA0 hval0
  simp only [List.append_nil] at hW'
  refine (walk W a0 w0 a1 w1 a2 w2).mono fun e W' ⟨he, hg⟩ => ?_
  subst he
  exact ⟨_, rfl, _, _, _, [], _, [], hW', (trodAll_cons_mk (shut_bool Try.underlying4 _) trodAll_mk0), (trodAll_cons_mk (Below.trod laidOut (by kernel_rfl) (of_decide_eq_true (by kernel_rfl)) k0 hg lt0) (trodAll_cons_mk (shut_int Try.underlying3 w1) (trodAll_cons_mk (shut_int Try.underlying3 w2) trodAll_mk0))), rfl, hg.frame _, fun h => by cases h⟩

theorem over : Rows.linesWideRow.holds Try.pinned (OpenSpec.ofChange Rows.linesWideSpec) :=
  OpenClaim.holds_of_wide 4 Try.f4 rfl rfl rfl rfl rfl rfl rfl ⟨rfl, rfl, rfl, rfl, rfl⟩ rfl rfl rfl rfl rfl (by kernel_rfl) Try.func4 (by kernel_rfl)
    (of_decide_eq_true (by kernel_rfl)) (by unfold Func.isWrapper; first | (rw [if_pos (by decide +kernel)]; kernel_rfl) | (rw [if_neg (by decide +kernel)]; exact ⟨rfl, rfl⟩))
    (fun os started H enc _ => lifted os started H enc)

/-- the statement -/
theorem proved : Rows.LinesWideSaid :=
  over
#print axioms proved
end Go.Proofs.Ythgkjgaebgpplaa.linesWide
