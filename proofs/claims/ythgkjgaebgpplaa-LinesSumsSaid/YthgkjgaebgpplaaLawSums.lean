/- How wide words are in two parts, and a blank, is how wide all are. -/
import Derived.Test.YthgkjgaebgpplaaRows
import Derived.WalkKit
import Derived.ProofKit
import Derived.OpenShut
import Derived.Below
import Derived.Test.YthgkjgaebgpplaaLnPre
import Derived.ShutString
namespace Go.Proofs.Ythgkjgaebgpplaa.linesSums
open Go.ChangeShapes Go.WideShapes Go.ChangeAt Go.RowKit
set_option linter.unusedVariables false

theorem own : ownKnob Try.prog.godebug = none := by kernel_rfl
theorem laidOut : laidOutB Try.prog = true := by kernel_rfl

theorem wide_parts {n : Nd} {fr md to : Nat} (h1 : fr ≤ md) (h2 : md ≤ to) (h3 : to ≤ n.ws.length) : wideW n.b n.ws fr to = wideW n.b n.ws fr md + wideW n.b n.ws md to + (if fr < md ∧ md < to then n.b else 0) := by
  by_cases k1 : fr < md
  · by_cases k2 : md < to
    · rw [if_pos ⟨k1, k2⟩, wideW_lt k1, wideW_lt k2, wideW_lt (by omega)]; omega
    · obtain rfl : md = to := by omega
      rw [if_neg (by omega), wideW_self]; omega
  · obtain rfl : fr = md := by omega
    rw [if_neg (by omega), wideW_self]; omega
set_option maxRecDepth 100000 in
set_option maxHeartbeats 2000000 in
theorem walk (W : World) (a0 : Nd) (w0 : a0.ok W) (a1 : Int) (w1 : (Lit.int .i64 a1).wf = true) (a2 : Int) (w2 : (Lit.int .i64 a2).wf = true) (a3 : Int) (w3 : (Lit.int .i64 a3).wf = true) :
    Calls Try.prog 8 #[a0.val, .int .i64 a1, .int .i64 a2, .int .i64 a3] W fun e w' => e = .returned (.bool true) ∧ Below W.heap.size W w' := by
  obtain ⟨cs, hcs⟩ : ∃ cs, a0.cells.toArray = cs := ⟨_, rfl⟩
  have hT0 := TxIn.new W a0 w0
  rw [hcs] at hT0
  have HT0 := Lib.hid hT0
  have HSH := Lib.hid (fun X => shown8_any X)
  rw [show a0.val = .agg a0.cells.toArray from rfl, hcs]
  clear hcs hT0 w0
  go_enter Try.func8, Try.ntmps8
  go_wp2_with (first
    | (go_at_call 10; refine (HSH.out _).mono ?_; clear HSH; rintro e w1 ⟨rfl, hb1⟩; have HT1 := Lib.hid (HT0.out.below hb1); clear hb1 HT0)
    | (with_reducible refine wpList_load_at rfl 35 (.tmp 4) rfl _ rfl cs _ HT1.out.load Try.underlying35 rfl (nd_infoC HT1.out.eq) ?_)
    | (go_at_call 11; refine (cut_cs W _ a0 cs _ HT1.out).mono ?_; rintro e w2 ⟨n, ds, rfl, hcut, hb2, hT2, hsz, hone, hrow⟩; have HT2 := Lib.hid hT2; have HCUT := Lib.hid hcut; have HSZ := Lib.hid (hsz : ds.size = cs.size); have HONE := Lib.hid hone; have HROW := Lib.hid hrow; clear hcut hb2 hT2 hsz hone hrow HT1)
    | (refine wpList_store_row rfl 35 (.tmp 4) (.tmp 19) rfl _ ds rfl rfl 35 cs.toList.toArray HROW.out (nd_infoC HT2.out.eq) (by simpa using HSZ.out.symm) HONE.out ?_; clear HROW HSZ HONE; obtain ⟨Y, hY⟩ : ∃ Y, w2.setRow W.heap.size ds = Y := ⟨_, rfl⟩; rw [hY]; have HT := Lib.hid (hY ▸ HT2.out); clear hY HT2; refine Hid.out ?_))
  refine Lib.hid ?_
  by_cases hA : textB n = true ∧ 0 ≤ a1 ∧ a1 ≤ a2 ∧ a2 ≤ n.ws.length
  · by_cases hB : a3 ≤ n.ws.length ∧ a2 ≤ a3
    · obtain ⟨ht, h1, h2, h3⟩ := hA
      obtain ⟨h4, h5⟩ := hB
      obtain ⟨fr, rfl⟩ := Int.eq_ofNat_of_zero_le h1
      obtain ⟨md, rfl⟩ := Int.eq_ofNat_of_zero_le (show 0 ≤ a2 by omega)
      obtain ⟨to, rfl⟩ := Int.eq_ofNat_of_zero_le (show 0 ≤ a3 by omega)
      have hok := (textQ ht).ok
      have e1 : wideV n fr md = .tuple #[.int .i64 (wideW n.b n.ws fr md), .int .i64 0] := by unfold wideV; rw [if_pos ⟨ht, h1, h2, h3⟩]; simp
      have e2 : wideV n md to = .tuple #[.int .i64 (wideW n.b n.ws md to), .int .i64 0] := by unfold wideV; rw [if_pos ⟨ht, by omega, h5, h4⟩]; simp
      have e3 : wideV n fr to = .tuple #[.int .i64 (wideW n.b n.ws fr to), .int .i64 0] := by unfold wideV; rw [if_pos ⟨ht, h1, by omega, h4⟩]; simp
      have q1 := wideW_bd hok (s := fr) (e := md) (by omega)
      have q2 := wideW_bd hok (s := md) (e := to) (by omega)
      have q3 := wide_parts (n := n) (fr := fr) (md := md) (to := to) (by omega) (by omega) (by omega)
      have hb0 := hok.1.1
      have hb1 := hok.1.2
      obtain ⟨b, hb⟩ : ∃ b, n.b = b := ⟨_, rfl⟩
      have c32 := HT.out.b
      rw [hb] at c32 q1 q2 q3 hb0 hb1 e1 e2 e3
      have HWA := Lib.hid (fun X (hX : TxIn W W.heap.size a0 n ds X) => wide_cs hX fr md)
      have HWB := Lib.hid (fun X (hX : TxIn W W.heap.size a0 n ds X) => wide_cs hX md to)
      have HWC := Lib.hid (fun X (hX : TxIn W W.heap.size a0 n ds X) => wide_cs hX fr to)
      rw [e1] at HWA
      rw [e2] at HWB
      rw [e3] at HWC
      clear e1 e2 e3 c32
      have HBH := Lib.hid hb
      have g1 : decide ((fr : Int) < (md : Int)) = decide (fr < md) := by simp
      generalize wideW b n.ws fr md = x1 at *
      generalize wideW b n.ws md to = x2 at *
      generalize wideW b n.ws fr to = x3 at *
      clear hok ht h1 h2 h3 h4 h5 hb
      have HARM := HT
      by_cases k1 : fr < md
      · by_cases k2 : md < to
        · rw [if_pos ⟨k1, k2⟩] at q3
          subst q3
          go_wp2_with (first
            | (with_reducible refine wpList_load_at rfl 35 (.tmp 4) rfl _ rfl ds _ HT.out.load Try.underlying35 rfl (nd_infoC HT.out.eq) ?_)
            | (with_reducible refine wpList_load_at rfl 35 (.tmp 4) rfl _ rfl ds _ HU.out.load Try.underlying35 rfl (nd_infoC HU.out.eq) ?_)
            | (with_reducible refine wpList_load_at rfl 35 (.tmp 4) rfl _ rfl ds _ HV.out.load Try.underlying35 rfl (nd_infoC HV.out.eq) ?_)
            | (go_at_call 19; first
              | (refine (HWA.out _ HT.out).mono ?_; clear HWA; rintro e w3 ⟨rfl, hb3⟩; have HU := Lib.hid (HT.out.below hb3); clear hb3 HT)
              | (refine (HWB.out _ HU.out).mono ?_; clear HWB; rintro e w4 ⟨rfl, hb4⟩; have HV := Lib.hid (HU.out.below hb4); clear hb4 HU)
              | (refine (HWC.out _ HV.out).mono ?_; clear HWC; rintro e w5 ⟨rfl, hb5⟩; have HX := Lib.hid (HV.out.below hb5); have c32 := HX.out.b; rw [HBH.out] at c32; have l5 := HX.out.lt; clear hb5 HV)))
          go_ret
          exact ⟨rfl, HX.out.lo⟩
        · rw [if_neg (by omega)] at q3
          subst q3
          go_wp2_with (first
            | (with_reducible refine wpList_load_at rfl 35 (.tmp 4) rfl _ rfl ds _ HT.out.load Try.underlying35 rfl (nd_infoC HT.out.eq) ?_)
            | (with_reducible refine wpList_load_at rfl 35 (.tmp 4) rfl _ rfl ds _ HU.out.load Try.underlying35 rfl (nd_infoC HU.out.eq) ?_)
            | (with_reducible refine wpList_load_at rfl 35 (.tmp 4) rfl _ rfl ds _ HV.out.load Try.underlying35 rfl (nd_infoC HV.out.eq) ?_)
            | (go_at_call 19; first
              | (refine (HWA.out _ HT.out).mono ?_; clear HWA; rintro e w3 ⟨rfl, hb3⟩; have HU := Lib.hid (HT.out.below hb3); clear hb3 HT)
              | (refine (HWB.out _ HU.out).mono ?_; clear HWB; rintro e w4 ⟨rfl, hb4⟩; have HV := Lib.hid (HU.out.below hb4); clear hb4 HU)
              | (refine (HWC.out _ HV.out).mono ?_; clear HWC; rintro e w5 ⟨rfl, hb5⟩; have HX := Lib.hid (HV.out.below hb5); have c32 := HX.out.b; rw [HBH.out] at c32; have l5 := HX.out.lt; clear hb5 HV)))
          go_ret
          exact ⟨rfl, HX.out.lo⟩
      · rw [if_neg (by omega)] at q3
        subst q3
        go_wp2_with (first
          | (with_reducible refine wpList_load_at rfl 35 (.tmp 4) rfl _ rfl ds _ HT.out.load Try.underlying35 rfl (nd_infoC HT.out.eq) ?_)
          | (with_reducible refine wpList_load_at rfl 35 (.tmp 4) rfl _ rfl ds _ HU.out.load Try.underlying35 rfl (nd_infoC HU.out.eq) ?_)
          | (with_reducible refine wpList_load_at rfl 35 (.tmp 4) rfl _ rfl ds _ HV.out.load Try.underlying35 rfl (nd_infoC HV.out.eq) ?_)
          | (go_at_call 19; first
            | (refine (HWA.out _ HT.out).mono ?_; clear HWA; rintro e w3 ⟨rfl, hb3⟩; have HU := Lib.hid (HT.out.below hb3); clear hb3 HT)
            | (refine (HWB.out _ HU.out).mono ?_; clear HWB; rintro e w4 ⟨rfl, hb4⟩; have HV := Lib.hid (HU.out.below hb4); clear hb4 HU)
            | (refine (HWC.out _ HV.out).mono ?_; clear HWC; rintro e w5 ⟨rfl, hb5⟩; have HX := Lib.hid (HV.out.below hb5); have c32 := HX.out.b; rw [HBH.out] at c32; have l5 := HX.out.lt; clear hb5 HV)))
        go_ret
        exact ⟨rfl, HX.out.lo⟩
    · have e2 : wideV n a2 a3 = .tuple #[.int .i64 0, .int .i64 90] := by unfold wideV; rw [if_neg (fun h => hB ⟨h.2.2.2, h.2.2.1⟩)]
      have e1 : ∃ x, wideV n a1 a2 = .tuple #[.int .i64 x, .int .i64 0] := by unfold wideV; rw [if_pos hA]; exact ⟨_, rfl⟩
      obtain ⟨x1, e1⟩ := e1
      have e3 : ∃ x y, wideV n a1 a3 = .tuple #[.int .i64 x, .int .i64 y] := by unfold wideV; split <;> exact ⟨_, _, rfl⟩
      obtain ⟨x3, y3, e3⟩ := e3
      have HWA := Lib.hid (fun X (hX : TxIn W W.heap.size a0 n ds X) => wide_cs hX a1 a2)
      have HWB := Lib.hid (fun X (hX : TxIn W W.heap.size a0 n ds X) => wide_cs hX a2 a3)
      have HWC := Lib.hid (fun X (hX : TxIn W W.heap.size a0 n ds X) => wide_cs hX a1 a3)
      rw [e1] at HWA
      rw [e2] at HWB
      rw [e3] at HWC
      clear e1 e2 e3 hA hB
      go_wp2_with (first
        | (with_reducible refine wpList_load_at rfl 35 (.tmp 4) rfl _ rfl ds _ HT.out.load Try.underlying35 rfl (nd_infoC HT.out.eq) ?_)
        | (with_reducible refine wpList_load_at rfl 35 (.tmp 4) rfl _ rfl ds _ HU.out.load Try.underlying35 rfl (nd_infoC HU.out.eq) ?_)
        | (with_reducible refine wpList_load_at rfl 35 (.tmp 4) rfl _ rfl ds _ HV.out.load Try.underlying35 rfl (nd_infoC HV.out.eq) ?_)
        | (go_at_call 19; first
          | (refine (HWA.out _ HT.out).mono ?_; clear HWA; rintro e w3 ⟨rfl, hb3⟩; have HU := Lib.hid (HT.out.below hb3); clear hb3 HT)
          | (refine (HWB.out _ HU.out).mono ?_; clear HWB; rintro e w4 ⟨rfl, hb4⟩; have HV := Lib.hid (HU.out.below hb4); clear hb4 HU)
          | (refine (HWC.out _ HV.out).mono ?_; clear HWC; rintro e w5 ⟨rfl, hb5⟩; have HX := Lib.hid (HV.out.below hb5); have c32 := HX.out.b; have l5 := HX.out.lt; clear hb5 HV)))
      go_ret
      exact ⟨rfl, HX.out.lo⟩
  · have e1 : wideV n a1 a2 = .tuple #[.int .i64 0, .int .i64 90] := by unfold wideV; rw [if_neg hA]
    have e2 : ∃ x y, wideV n a2 a3 = .tuple #[.int .i64 x, .int .i64 y] := by unfold wideV; split <;> exact ⟨_, _, rfl⟩
    obtain ⟨x2, y2, e2⟩ := e2
    have e3 : ∃ x y, wideV n a1 a3 = .tuple #[.int .i64 x, .int .i64 y] := by unfold wideV; split <;> exact ⟨_, _, rfl⟩
    obtain ⟨x3, y3, e3⟩ := e3
    have HWA := Lib.hid (fun X (hX : TxIn W W.heap.size a0 n ds X) => wide_cs hX a1 a2)
    have HWB := Lib.hid (fun X (hX : TxIn W W.heap.size a0 n ds X) => wide_cs hX a2 a3)
    have HWC := Lib.hid (fun X (hX : TxIn W W.heap.size a0 n ds X) => wide_cs hX a1 a3)
    rw [e1] at HWA
    rw [e2] at HWB
    rw [e3] at HWC
    clear e1 e2 e3 hA
    go_wp2_with (first
      | (with_reducible refine wpList_load_at rfl 35 (.tmp 4) rfl _ rfl ds _ HT.out.load Try.underlying35 rfl (nd_infoC HT.out.eq) ?_)
      | (with_reducible refine wpList_load_at rfl 35 (.tmp 4) rfl _ rfl ds _ HU.out.load Try.underlying35 rfl (nd_infoC HU.out.eq) ?_)
      | (with_reducible refine wpList_load_at rfl 35 (.tmp 4) rfl _ rfl ds _ HV.out.load Try.underlying35 rfl (nd_infoC HV.out.eq) ?_)
      | (go_at_call 19; first
        | (refine (HWA.out _ HT.out).mono ?_; clear HWA; rintro e w3 ⟨rfl, hb3⟩; have HU := Lib.hid (HT.out.below hb3); clear hb3 HT)
        | (refine (HWB.out _ HU.out).mono ?_; clear HWB; rintro e w4 ⟨rfl, hb4⟩; have HV := Lib.hid (HU.out.below hb4); clear hb4 HU)
        | (refine (HWC.out _ HV.out).mono ?_; clear HWC; rintro e w5 ⟨rfl, hb5⟩; have HX := Lib.hid (HV.out.below hb5); have c32 := HX.out.b; have l5 := HX.out.lt; clear hb5 HV)))
    go_ret
    exact ⟨rfl, HX.out.lo⟩

set_option maxRecDepth 100000 in
theorem lifted (os : Os) (started : os.Started) (H : Type) (enc : TypeId × Value → H) :
    ReturnsInHanded {} Try.checked os 8 .any (Rows.linesSumsSpec.pre6 enc Try.prog Try.f8 Rows.linesSumsRow.domain false) (Rows.linesSumsSpec.post enc Try.prog Try.f8 false true false false) := by
  refine returnsInHanded_of_change (C := Try.checked) own started (by kernel_rfl) Try.func8
    (ChangeSpec.witness6 (enc := enc) (C := Try.checked) false ⟨#[], #[.agg #[.int .i64 0, .slice none 0 0, .int .i64 0, .int .i64 0, .int .i64 0, .int .i64 0, .int .i64 0, .int .i64 0, .int .i64 0, .int .i64 0, .int .i64 0, .int .i64 0, .int .u32 0, .int .i64 0, .int .i64 0, .int .u32 0, .int .i64 0, .int .i64 0, .int .u32 0, .int .i64 0, .int .i64 0, .int .u32 0, .int .i64 0, .int .i64 0, .int .i64 0, .bool false, .bool false, .int .i64 0, .int .i64 0, .bool false, .bool false, .slice none 0 0, .int .i64 0, .int .i64 0], .int .i64 0, .int .i64 0, .int .i64 0], []⟩ 8 (by kernel_rfl) (by kernel_rfl) (by kernel_rfl) (by kernel_rfl)) ?_
  intro W base args ds gs before hval0 hW hcnd _
  have hval : ∀ (j : Nat) t v, Try.f8.params[j]? = some t → args[j]? = some v → Value.okWide Try.prog W .any base t v := hval0
  have hW' := hW
  obtain ⟨p, q, hA0, hV, rfl, hfz, hnd⟩ := hW
  have hA : DataW.TrodAll enc Try.prog W 0 (fun _ => true) true Try.f8.params.toList args.toList ds p := hA0
  rw [Try.params8] at hA hval
  obtain ⟨v0, vs0, d0, ds0, p0, q0, hargs, rfl, rfl, h0, r0⟩ := trodAll_cons hA
  obtain ⟨v1, vs1, d1, ds1, p1, q1, rfl, rfl, rfl, h1, r1⟩ := trodAll_cons r0
  obtain ⟨v2, vs2, d2, ds2, p2, q2, rfl, rfl, rfl, h2, r2⟩ := trodAll_cons r1
  obtain ⟨v3, vs3, d3, ds3, p3, q3, rfl, rfl, rfl, h3, r3⟩ := trodAll_cons r2
  obtain ⟨rfl, rfl, rfl⟩ := trodAll_nil r3
  obtain rfl : args = #[v0, v1, v2, v3] := by cases args; simp_all
  obtain ⟨rfl, rfl⟩ := trodVars_none hV
  have k0 := h0
  have lt0 : ∀ x ∈ p0, x.block < W.heap.size := by obtain ⟨m, hm⟩ := k0; exact DataW.trod_lt m _ _ _ hm
  obtain ⟨a0, rfl, w0⟩ := open_node (hval 0 35 v0 rfl rfl) h0
  obtain ⟨a1, rfl, rfl, rfl, w1⟩ := open_int Try.underlying3 (hval 1 3 v1 rfl rfl) h1
  obtain ⟨a2, rfl, rfl, rfl, w2⟩ := open_int Try.underlying3 (hval 2 3 v2 rfl rfl) h2
  obtain ⟨a3, rfl, rfl, rfl, w3⟩ := open_int Try.underlying3 (hval 3 3 v3 rfl rfl) h3
  clear hA0 hval0
  simp only [List.append_nil] at hW'
  refine (walk W a0 w0 a1 w1 a2 w2 a3 w3).mono fun e W' ⟨he, hg⟩ => ?_
  subst he
  exact ⟨_, rfl, _, _, _, [], _, [], hW', (trodAll_cons_mk (shut_bool Try.underlying4 _) trodAll_mk0), (trodAll_cons_mk (Below.trod laidOut (by kernel_rfl) (of_decide_eq_true (by kernel_rfl)) k0 hg lt0) (trodAll_cons_mk (shut_int Try.underlying3 w1) (trodAll_cons_mk (shut_int Try.underlying3 w2) (trodAll_cons_mk (shut_int Try.underlying3 w3) trodAll_mk0)))), rfl, hg.frame _, fun h => by cases h⟩

theorem over : Rows.linesSumsRow.holds Try.pinned (OpenSpec.ofChange Rows.linesSumsSpec) :=
  OpenClaim.holds_of_wide 8 Try.f8 rfl rfl rfl rfl rfl rfl rfl ⟨rfl, rfl, rfl, rfl, rfl⟩ rfl rfl rfl rfl rfl (by kernel_rfl) Try.func8 (by kernel_rfl)
    (of_decide_eq_true (by kernel_rfl)) (by unfold Func.isWrapper; first | (rw [if_pos (by decide +kernel)]; kernel_rfl) | (rw [if_neg (by decide +kernel)]; exact ⟨rfl, rfl⟩))
    (fun os started H enc _ => lifted os started H enc)

/-- the statement -/
theorem proved : Rows.LinesSumsSaid :=
  over
#print axioms proved
end Go.Proofs.Ythgkjgaebgpplaa.linesSums
