/- The least width is at most the most; how high a text is, and where its base is. -/
import Derived.Test.YthgkjgaebgpplaaRows
import Derived.WalkKit
import Derived.ProofKit
import Derived.OpenShut
import Derived.Below
import Derived.Test.YthgkjgaebgpplaaLnPre
import Derived.ShutString
namespace Go.Proofs.Ythgkjgaebgpplaa.linesBounds
open Go.ChangeShapes Go.WideShapes Go.ChangeAt Go.RowKit
set_option linter.unusedVariables false

theorem own : ownKnob Try.prog.godebug = none := by kernel_rfl
theorem laidOut : laidOutB Try.prog = true := by kernel_rfl

theorem box_lit (n : Nd) (Ls : List (Nat × Nat)) : (boxOf n Ls).toArray = #[.int .i64 (leastW n.ws), .int .i64 (wideW n.b n.ws 0 n.ws.length), .int .i64 (Ls.length * n.h), .int .i64 (if 0 < Ls.length then n.h - n.h / 4 else 0), .bool (decide (0 < Ls.length))] := rfl
set_option maxRecDepth 100000 in
set_option maxHeartbeats 2000000 in
theorem walk (W : World) (a0 : Nd) (w0 : a0.ok W) (a1 : Int) (w1 : (Lit.int .i64 a1).wf = true) :
    Calls Try.prog 7 #[a0.val, .int .i64 a1] W fun e w' => e = .returned (.bool true) ∧ Below W.heap.size W w' := by
  obtain ⟨cs, hcs⟩ : ∃ cs, a0.cells.toArray = cs := ⟨_, rfl⟩
  have hT0 := TxIn.new W a0 w0
  rw [hcs] at hT0
  have HT0 := Lib.hid hT0
  have HSH := Lib.hid (fun X => shown8_any X)
  rw [show a0.val = .agg a0.cells.toArray from rfl, hcs]
  clear hcs hT0 w0
  go_enter Try.func7, Try.ntmps7
  go_wp2_with (first
    | (go_at_call 10; refine (HSH.out _).mono ?_; clear HSH; rintro e w1 ⟨rfl, hb1⟩; have HT1 := Lib.hid (HT0.out.below hb1); clear hb1 HT0)
    | (with_reducible refine wpList_load_at rfl 35 (.tmp 2) rfl _ rfl cs _ HT1.out.load Try.underlying35 rfl (nd_infoC HT1.out.eq) ?_)
    | (go_at_call 11; refine (cut_cs W _ a0 cs _ HT1.out).mono ?_; rintro e w2 ⟨n, ds, rfl, hcut, hb2, hT2, hsz, hone, hrow⟩; have HT2 := Lib.hid hT2; have HCUT := Lib.hid hcut; have HSZ := Lib.hid (hsz : ds.size = cs.size); have HONE := Lib.hid hone; have HROW := Lib.hid hrow; clear hcut hb2 hT2 hsz hone hrow HT1)
    | (refine wpList_store_row rfl 35 (.tmp 2) (.tmp 12) rfl _ ds rfl rfl 35 cs.toList.toArray HROW.out (nd_infoC HT2.out.eq) (by simpa using HSZ.out.symm) HONE.out ?_; clear HROW HSZ HONE; obtain ⟨Y, hY⟩ : ∃ Y, w2.setRow W.heap.size ds = Y := ⟨_, rfl⟩; rw [hY]; have HT := Lib.hid (hY ▸ HT2.out); clear hY HT2; refine Hid.out ?_))
  refine Lib.hid ?_
  cases ht : textB n with
  | false =>
    have HBX := Lib.hid (fun X (hX : TxIn W W.heap.size a0 n ds X) => boxN_cs hX ht a1)
    have HBR := Lib.hid (fun X (hX : TxIn W W.heap.size a0 n ds X) => breakN_cs hX ht a1)
    clear ht
    go_wp2_with (first
      | (with_reducible refine wpList_load_at rfl 35 (.tmp 2) rfl _ rfl ds _ HT.out.load Try.underlying35 rfl (nd_infoC HT.out.eq) ?_)
      | (with_reducible refine wpList_load_at rfl 35 (.tmp 2) rfl _ rfl ds _ (HU.out.alloc _).load Try.underlying35 rfl (nd_infoC HU.out.eq) ?_)
      | (go_at_call 13; refine (HBX.out _ HT.out).mono ?_; clear HBX; rintro e w3 ⟨rfl, hb3⟩; have HU := Lib.hid (HT.out.below hb3); clear hb3 HT)
      | (go_at_call 12; refine (HBR.out _ (HU.out.alloc _)).mono ?_; clear HBR; rintro e w4 ⟨rfl, hb4⟩; have HV := Lib.hid ((HU.out.alloc _).below hb4); clear hb4 HU))
    go_ret
    exact ⟨rfl, HV.out.lo⟩
  | true =>
    have hQ := textQ ht
    have HBX := Lib.hid (fun X (hX : TxIn W W.heap.size a0 n ds X) => box_cs hX ht a1)
    have HBR := Lib.hid (fun X (hX : TxIn W W.heap.size a0 n ds X) => break_cs hX ht a1)
    obtain ⟨l1, l2, l3⟩ := leastW_bd hQ.ok
    have h0 := hQ.h.1
    have h1 := hQ.h.2
    have hn := HCUT.out.few
    obtain ⟨p, m, c, hwv, hmc, _⟩ := HT.out.nd.ok.2.2.2
    obtain ⟨p', c', hwv'⟩ := HT.out.nd.ok.2.1.form
    have hm : n.ws.length = m := by rw [hwv] at hwv'; injection hwv' with _ e _; exact e.symm
    have HWV := Lib.hid hwv
    clear hwv' ht hQ hwv
    go_wp2_with (first
      | (with_reducible refine wpList_load_at rfl 35 (.tmp 2) rfl _ rfl ds _ HT.out.load Try.underlying35 rfl (nd_infoC HT.out.eq) ?_)
      | (go_at_call 13; refine (HBX.out _ HT.out).mono ?_; clear HBX; rintro e w3 ⟨Ls, rfl, hbr, hb3⟩; refine Hid.out ?_))
    refine Lib.hid ?_
    rw [box_lit]
    have HU := Lib.hid (HT.out.below hb3)
    have HBK := Lib.hid hbr
    have hle := hbr.len
    have hso := hbr.some
    rw [hm] at hle hso hn
    have HM := Lib.hid hm
    have HH : Hid (n.h = n.h) := Lib.hid rfl
    clear hb3 hbr HT hm
    obtain ⟨k, hk⟩ : ∃ k, Ls.length = k := ⟨_, rfl⟩
    rw [hk] at hle hso ⊢
    have HK := Lib.hid hk
    clear hk
    obtain ⟨h, hh⟩ : ∃ h, n.h = h := ⟨_, rfl⟩
    rw [hh] at h0 h1 ⊢
    have HHH := Lib.hid hh
    clear hh HH
    have hkh : 0 ≤ (k : Int) * h := Int.mul_nonneg (by omega) h0
    have hkh2 : (k : Int) * h ≤ 200 * 1073741824 := Int.mul_le_mul (by omega) h1 h0 (by omega)
    obtain ⟨kh, hmul⟩ : ∃ kh, (k : Int) * h = kh := ⟨_, rfl⟩
    rw [hmul] at hkh hkh2 ⊢
    have hd4 : 0 ≤ h / 4 ∧ h / 4 ≤ h := by omega
    generalize leastW n.ws = mi at *
    generalize wideW n.b n.ws 0 n.ws.length = ma at *
    by_cases hk0 : 0 < k
    · have hd : decide (0 < k) = true := by simpa using hk0
      have hm0 : 0 < m := hso.1 hk0
      rw [if_pos hk0, hd]
      obtain ⟨ba, hba⟩ : ∃ ba, h - h / 4 = ba := ⟨_, rfl⟩
      have hb0 : 0 ≤ ba := by omega
      have hb1 : ba ≤ h := by omega
      rw [hba]
      clear hba hd4 hso
      go_wp2_with (first
        | (with_reducible refine wpList_load_at rfl 35 (.tmp 2) rfl _ rfl ds _ (HU.out.alloc _).load Try.underlying35 rfl (nd_infoC HU.out.eq) ?_)
        | (go_at_call 12; refine (HBR.out _ (HU.out.alloc _)).mono ?_; clear HBR; rintro e w4 ⟨lv, Ls2, rfl, hbr2, hol2, hb4⟩; refine Hid.out ?_))
      refine Lib.hid ?_
      obtain rfl : Ls2 = Ls := hbr2.same HBK.out
      obtain ⟨lp, lc, rfl⟩ := hol2.form
      clear hol2 hbr2
      have HV := Lib.hid ((HU.out.alloc (.cells #[.int .i64 mi, .int .i64 ma, .int .i64 kh, .int .i64 ba, .bool true] 43)).below hb4)
      have hk := (whole_new w3 [.int .i64 mi, .int .i64 ma, .int .i64 kh, .int .i64 ba, .bool true] 43 _ rfl).below hb4 (whole_new w3 [.int .i64 mi, .int .i64 ma, .int .i64 kh, .int .i64 ba, .bool true] 43 _ rfl).lt
      have y0 := hk.cellAt 0
      have y1 := hk.cellAt 1
      have y2 := hk.cellAt 2
      have y3 := hk.cellAt 3
      have y4 := hk.cellAt 4
      have ly := hk.lt
      have c31 := HV.out.wv
      rw [HWV.out] at c31
      have c33 := HV.out.h
      rw [HHH.out] at c33
      have lz := HV.out.lt
      rw [HK.out]
      clear hk hb4 HU
      go_wp2
      go_ret
      exact ⟨rfl, HV.out.lo⟩
    · obtain rfl : k = 0 := by omega
      have hm0 : m = 0 := by omega
      subst hm0
      have hd : decide (0 < 0) = false := by simp
      rw [if_neg (by omega), hd]
      clear hd4 hso
      go_wp2_with (first
        | (with_reducible refine wpList_load_at rfl 35 (.tmp 2) rfl _ rfl ds _ (HU.out.alloc _).load Try.underlying35 rfl (nd_infoC HU.out.eq) ?_)
        | (go_at_call 12; refine (HBR.out _ (HU.out.alloc _)).mono ?_; clear HBR; rintro e w4 ⟨lv, Ls2, rfl, hbr2, hol2, hb4⟩; refine Hid.out ?_))
      refine Lib.hid ?_
      obtain rfl : Ls2 = Ls := hbr2.same HBK.out
      obtain ⟨lp, lc, rfl⟩ := hol2.form
      clear hol2 hbr2
      have HV := Lib.hid ((HU.out.alloc (.cells #[.int .i64 mi, .int .i64 ma, .int .i64 kh, .int .i64 0, .bool false] 43)).below hb4)
      have hk := (whole_new w3 [.int .i64 mi, .int .i64 ma, .int .i64 kh, .int .i64 0, .bool false] 43 _ rfl).below hb4 (whole_new w3 [.int .i64 mi, .int .i64 ma, .int .i64 kh, .int .i64 0, .bool false] 43 _ rfl).lt
      have y0 := hk.cellAt 0
      have y1 := hk.cellAt 1
      have y2 := hk.cellAt 2
      have y3 := hk.cellAt 3
      have y4 := hk.cellAt 4
      have ly := hk.lt
      have c31 := HV.out.wv
      rw [HWV.out] at c31
      have c33 := HV.out.h
      rw [HHH.out] at c33
      have lz := HV.out.lt
      rw [HK.out]
      clear hk hb4 HU
      go_wp2
      go_ret
      exact ⟨rfl, HV.out.lo⟩

set_option maxRecDepth 100000 in
theorem lifted (os : Os) (started : os.Started) (H : Type) (enc : TypeId × Value → H) :
    ReturnsInHanded {} Try.checked os 7 .any (Rows.linesBoundsSpec.pre6 enc Try.prog Try.f7 Rows.linesBoundsRow.domain false) (Rows.linesBoundsSpec.post enc Try.prog Try.f7 false true false false) := by
  refine returnsInHanded_of_change (C := Try.checked) own started (by kernel_rfl) Try.func7
    (ChangeSpec.witness6 (enc := enc) (C := Try.checked) false ⟨#[], #[.agg #[.int .i64 0, .slice none 0 0, .int .i64 0, .int .i64 0, .int .i64 0, .int .i64 0, .int .i64 0, .int .i64 0, .int .i64 0, .int .i64 0, .int .i64 0, .int .i64 0, .int .u32 0, .int .i64 0, .int .i64 0, .int .u32 0, .int .i64 0, .int .i64 0, .int .u32 0, .int .i64 0, .int .i64 0, .int .u32 0, .int .i64 0, .int .i64 0, .int .i64 0, .bool false, .bool false, .int .i64 0, .int .i64 0, .bool false, .bool false, .slice none 0 0, .int .i64 0, .int .i64 0], .int .i64 0], []⟩ 8 (by kernel_rfl) (by kernel_rfl) (by kernel_rfl) (by kernel_rfl)) ?_
  intro W base args ds gs before hval0 hW hcnd _
  have hval : ∀ (j : Nat) t v, Try.f7.params[j]? = some t → args[j]? = some v → Value.okWide Try.prog W .any base t v := hval0
  have hW' := hW
  obtain ⟨p, q, hA0, hV, rfl, hfz, hnd⟩ := hW
  have hA : DataW.TrodAll enc Try.prog W 0 (fun _ => true) true Try.f7.params.toList args.toList ds p := hA0
  rw [Try.params7] at hA hval
  obtain ⟨v0, vs0, d0, ds0, p0, q0, hargs, rfl, rfl, h0, r0⟩ := trodAll_cons hA
  obtain ⟨v1, vs1, d1, ds1, p1, q1, rfl, rfl, rfl, h1, r1⟩ := trodAll_cons r0
  obtain ⟨rfl, rfl, rfl⟩ := trodAll_nil r1
  obtain rfl : args = #[v0, v1] := by cases args; simp_all
  obtain ⟨rfl, rfl⟩ := trodVars_none hV
  have k0 := h0
  have lt0 : ∀ x ∈ p0, x.block < W.heap.size := by obtain ⟨m, hm⟩ := k0; exact DataW.trod_lt m _ _ _ hm
  obtain ⟨a0, rfl, w0⟩ := open_node (hval 0 35 v0 rfl rfl) h0
  obtain ⟨a1, rfl, rfl, rfl, w1⟩ := open_int Try.underlying2 (hval 1 2 v1 rfl rfl) h1
  clear hA0 hval0
  simp only [List.append_nil] at hW'
  refine (walk W a0 w0 a1 w1).mono fun e W' ⟨he, hg⟩ => ?_
  subst he
  exact ⟨_, rfl, _, _, _, [], _, [], hW', (trodAll_cons_mk (shut_bool Try.underlying4 _) trodAll_mk0), (trodAll_cons_mk (Below.trod laidOut (by kernel_rfl) (of_decide_eq_true (by kernel_rfl)) k0 hg lt0) (trodAll_cons_mk (shut_int Try.underlying2 w1) trodAll_mk0)), rfl, hg.frame _, fun h => by cases h⟩

theorem over : Rows.linesBoundsRow.holds Try.pinned (OpenSpec.ofChange Rows.linesBoundsSpec) :=
  OpenClaim.holds_of_wide 7 Try.f7 rfl rfl rfl rfl rfl rfl rfl ⟨rfl, rfl, rfl, rfl, rfl⟩ rfl rfl rfl rfl rfl (by kernel_rfl) Try.func7 (by kernel_rfl)
    (of_decide_eq_true (by kernel_rfl)) (by unfold Func.isWrapper; first | (rw [if_pos (by decide +kernel)]; kernel_rfl) | (rw [if_neg (by decide +kernel)]; exact ⟨rfl, rfl⟩))
    (fun os started H enc _ => lifted os started H enc)

/-- the statement -/
theorem proved : Rows.LinesBoundsSaid :=
  over
#print axioms proved
end Go.Proofs.Ythgkjgaebgpplaa.linesBounds
