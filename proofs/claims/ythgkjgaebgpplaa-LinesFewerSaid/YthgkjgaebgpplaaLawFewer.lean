/- A greater width yields no more lines; at the width of all words there is one. -/
import Derived.Test.YthgkjgaebgpplaaRows
import Derived.WalkKit
import Derived.ProofKit
import Derived.OpenShut
import Derived.Below
import Derived.Test.YthgkjgaebgpplaaLnPre
import Derived.ShutString
namespace Go.Proofs.Ythgkjgaebgpplaa.linesFewer
open Go.ChangeShapes Go.WideShapes Go.ChangeAt Go.RowKit
set_option linter.unusedVariables false

theorem own : ownKnob Try.prog.godebug = none := by kernel_rfl
theorem laidOut : laidOutB Try.prog = true := by kernel_rfl

set_option maxRecDepth 100000 in
set_option maxHeartbeats 2000000 in
theorem walk (W : World) (a0 : Nd) (w0 : a0.ok W) (a1 : Int) (w1 : (Lit.int .i64 a1).wf = true) (a2 : Int) (w2 : (Lit.int .i64 a2).wf = true) :
    Calls Try.prog 6 #[a0.val, .int .i64 a1, .int .i64 a2] W fun e w' => e = .returned (.bool true) ∧ Below W.heap.size W w' := by
  obtain ⟨cs, hcs⟩ : ∃ cs, a0.cells.toArray = cs := ⟨_, rfl⟩
  have hT0 := TxIn.new W a0 w0
  rw [hcs] at hT0
  have HT0 := Lib.hid hT0
  have HSH := Lib.hid (fun X => shown8_any X)
  rw [show a0.val = .agg a0.cells.toArray from rfl, hcs]
  clear hcs hT0 w0
  go_enter Try.func6, Try.ntmps6
  go_wp2_with (first
    | (go_at_call 10; refine (HSH.out _).mono ?_; clear HSH; rintro e w1 ⟨rfl, hb1⟩; have HT1 := Lib.hid (HT0.out.below hb1); clear hb1 HT0)
    | (with_reducible refine wpList_load_at rfl 35 (.tmp 3) rfl _ rfl cs _ HT1.out.load Try.underlying35 rfl (nd_infoC HT1.out.eq) ?_)
    | (go_at_call 11; refine (cut_cs W _ a0 cs _ HT1.out).mono ?_; rintro e w2 ⟨n, ds, rfl, hcut, hb2, hT2, hsz, hone, hrow⟩; have HT2 := Lib.hid hT2; have HCUT := Lib.hid hcut; have HSZ := Lib.hid (hsz : ds.size = cs.size); have HONE := Lib.hid hone; have HROW := Lib.hid hrow; clear hcut hb2 hT2 hsz hone hrow HT1)
    | (refine wpList_store_row rfl 35 (.tmp 3) (.tmp 18) rfl _ ds rfl rfl 35 cs.toList.toArray HROW.out (nd_infoC HT2.out.eq) (by simpa using HSZ.out.symm) HONE.out ?_; clear HROW HSZ HONE; obtain ⟨Y, hY⟩ : ∃ Y, w2.setRow W.heap.size ds = Y := ⟨_, rfl⟩; rw [hY]; have HT := Lib.hid (hY ▸ HT2.out); clear hY HT2; refine Hid.out ?_))
  refine Lib.hid ?_
  by_cases hab : a2 < a1
  · have g1 : decide (a2 < a1) = true := by simpa using hab
    go_wp2
    go_ret
    exact ⟨rfl, HT.out.lo⟩
  have g1 : decide (a2 < a1) = false := by simpa using hab
  have HRT := Lib.hid (fun X (hX : TxIn W W.heap.size a0 n ds X) => right_cs hX)
  cases ht : textB n with
  | false =>
    rw [ht] at HRT
    clear ht
    go_wp2_with (first
      | (refine wpList_load_at_w rfl 35 (.tmp 3) rfl _ rfl ds _ HT.out.load Try.underlying35 rfl (nd_infoC HT.out.eq) ?_)
      | (go_at_call 15; refine (HRT.out _ HT.out).mono ?_; clear HRT; rintro e w3 ⟨rfl, hb3⟩; have HU := Lib.hid (HT.out.below hb3); clear hb3 HT))
    all_goals (go_ret; exact ⟨rfl, HU.out.lo⟩)
  | true =>
    rw [ht] at HRT
    have hQ := textQ ht
    have HQ := Lib.hid hQ.ok
    have HBA := Lib.hid (fun X (hX : TxIn W W.heap.size a0 n ds X) => break_cs hX ht a1)
    have HBB := Lib.hid (fun X (hX : TxIn W W.heap.size a0 n ds X) => break_cs hX ht a2)
    have HBZ := Lib.hid (fun X (hX : TxIn W W.heap.size a0 n ds X) => break_cs hX ht (wideW n.b n.ws 0 n.ws.length))
    have HMO := Lib.hid (fun X (hX : TxIn W W.heap.size a0 n ds X) => most_cs hX)
    have e1 : mostV n = .tuple #[.int .i64 (wideW n.b n.ws 0 n.ws.length), .int .i64 0] := by unfold mostV; rw [if_pos ht]
    rw [e1] at HMO
    obtain ⟨ma, hma⟩ : ∃ ma, wideW n.b n.ws 0 n.ws.length = ma := ⟨_, rfl⟩
    rw [hma] at HMO HBZ
    have HMA := Lib.hid hma
    obtain ⟨p, m, c, hwv, hmc, _⟩ := HT.out.nd.ok.2.2.2
    obtain ⟨p', c', hwv'⟩ := HT.out.nd.ok.2.1.form
    have hm : n.ws.length = m := by rw [hwv] at hwv'; injection hwv' with _ e _; exact e.symm
    have HWV := Lib.hid hwv
    have HM := Lib.hid hm
    have hm200 : m ≤ 200 := by have := HCUT.out.few; omega
    clear hwv' ht hQ hwv hm e1 hma
    go_wp2_with (first
      | (refine wpList_load_at_w rfl 35 (.tmp 3) rfl _ rfl ds _ HT.out.load Try.underlying35 rfl (nd_infoC HT.out.eq) ?_)
      | (with_reducible refine wpList_load_at rfl 35 (.tmp 3) rfl _ rfl ds _ HU.out.load Try.underlying35 rfl (nd_infoC HU.out.eq) ?_)
      | (go_at_call 15; refine (HRT.out _ HT.out).mono ?_; clear HRT; rintro e w3 ⟨rfl, hb3⟩; have HU := Lib.hid (HT.out.below hb3); clear hb3 HT)
      | (go_at_call 12; refine (HBA.out _ HU.out).mono ?_; clear HBA; rintro e w4 ⟨v1, Lx, rfl, hbx, hox, hb4⟩; refine Hid.out ?_))
    refine Lib.hid ?_
    obtain ⟨p1, c1, rfl⟩ := hox.form
    have HV := Lib.hid (HU.out.below hb4)
    have HBX := Lib.hid hbx
    have hlx : Lx.length ≤ 200 := by have := hbx.len; have := HM.out; omega
    clear hox hb4 hbx HU
    go_wp2_with (first
      | (with_reducible refine wpList_load_at rfl 35 (.tmp 3) rfl _ rfl ds _ HV.out.load Try.underlying35 rfl (nd_infoC HV.out.eq) ?_)
      | (go_at_call 12; refine (HBB.out _ HV.out).mono ?_; clear HBB; rintro e w5 ⟨v2, Ly, rfl, hby, hoy, hb5⟩; refine Hid.out ?_))
    refine Lib.hid ?_
    obtain ⟨p2, c2, rfl⟩ := hoy.form
    have HX := Lib.hid (HV.out.below hb5)
    have hyx : Ly.length ≤ Lx.length := Broke.fewer HQ.out (by omega) (Nat.le_refl 0) HBX.out hby
    clear hoy hb5 hby HV
    go_wp2_with (first
      | (with_reducible refine wpList_load_at rfl 35 (.tmp 3) rfl _ rfl ds _ HX.out.load Try.underlying35 rfl (nd_infoC HX.out.eq) ?_)
      | (with_reducible refine wpList_load_at rfl 35 (.tmp 3) rfl _ rfl ds _ HY.out.load Try.underlying35 rfl (nd_infoC HY.out.eq) ?_)
      | (go_at_call 21; refine (HMO.out _ HX.out).mono ?_; clear HMO; rintro e w6 ⟨rfl, hb6⟩; have HY := Lib.hid (HX.out.below hb6); clear hb6 HX)
      | (go_at_call 12; refine (HBZ.out _ HY.out).mono ?_; clear HBZ; rintro e w7 ⟨v3, Lz, rfl, hbz, hoz, hb7⟩; refine Hid.out ?_))
    refine Lib.hid ?_
    obtain ⟨p3, c3, rfl⟩ := hoz.form
    have HZ := Lib.hid (HY.out.below hb7)
    have hzz : Lz.length = min m 1 := by have := Broke.most HQ.out (L := Lz) (by rw [HMA.out]; exact hbz); rwa [HM.out] at this
    clear hoz hb7 hbz HY
    have c31 := HZ.out.wv
    rw [HWV.out] at c31
    have lz := HZ.out.lt
    generalize Lx.length = kx at *
    generalize Ly.length = ky at *
    generalize Lz.length = kz at *
    have g2 : decide ((ky : Int) ≤ (kx : Int)) = true := by simp; omega
    have g3 : min (m : Int) 1 = (kz : Int) := by omega
    have g4 : (if (1 : Int) < (m : Int) then (1 : Int) else (m : Int)) = (kz : Int) := by split <;> omega
    have HKZ := Lib.hid hzz
    clear hzz hab
    go_wp2
    all_goals (go_ret; exact ⟨rfl, HZ.out.lo⟩)

set_option maxRecDepth 100000 in
theorem lifted (os : Os) (started : os.Started) (H : Type) (enc : TypeId × Value → H) :
    ReturnsInHanded {} Try.checked os 6 .any (Rows.linesFewerSpec.pre6 enc Try.prog Try.f6 Rows.linesFewerRow.domain false) (Rows.linesFewerSpec.post enc Try.prog Try.f6 false true false false) := by
  refine returnsInHanded_of_change (C := Try.checked) own started (by kernel_rfl) Try.func6
    (ChangeSpec.witness6 (enc := enc) (C := Try.checked) false ⟨#[], #[.agg #[.int .i64 0, .slice none 0 0, .int .i64 0, .int .i64 0, .int .i64 0, .int .i64 0, .int .i64 0, .int .i64 0, .int .i64 0, .int .i64 0, .int .i64 0, .int .i64 0, .int .u32 0, .int .i64 0, .int .i64 0, .int .u32 0, .int .i64 0, .int .i64 0, .int .u32 0, .int .i64 0, .int .i64 0, .int .u32 0, .int .i64 0, .int .i64 0, .int .i64 0, .bool false, .bool false, .int .i64 0, .int .i64 0, .bool false, .bool false, .slice none 0 0, .int .i64 0, .int .i64 0], .int .i64 0, .int .i64 0], []⟩ 8 (by kernel_rfl) (by kernel_rfl) (by kernel_rfl) (by kernel_rfl)) ?_
  intro W base args ds gs before hval0 hW hcnd _
  have hval : ∀ (j : Nat) t v, Try.f6.params[j]? = some t → args[j]? = some v → Value.okWide Try.prog W .any base t v := hval0
  have hW' := hW
  obtain ⟨p, q, hA0, hV, rfl, hfz, hnd⟩ := hW
  have hA : DataW.TrodAll enc Try.prog W 0 (fun _ => true) true Try.f6.params.toList args.toList ds p := hA0
  rw [Try.params6] at hA hval
  obtain ⟨v0, vs0, d0, ds0, p0, q0, hargs, rfl, rfl, h0, r0⟩ := trodAll_cons hA
  obtain ⟨v1, vs1, d1, ds1, p1, q1, rfl, rfl, rfl, h1, r1⟩ := trodAll_cons r0
  obtain ⟨v2, vs2, d2, ds2, p2, q2, rfl, rfl, rfl, h2, r2⟩ := trodAll_cons r1
  obtain ⟨rfl, rfl, rfl⟩ := trodAll_nil r2
  obtain rfl : args = #[v0, v1, v2] := by cases args; simp_all
  obtain ⟨rfl, rfl⟩ := trodVars_none hV
  have k0 := h0
  have lt0 : ∀ x ∈ p0, x.block < W.heap.size := by obtain ⟨m, hm⟩ := k0; exact DataW.trod_lt m _ _ _ hm
  obtain ⟨a0, rfl, w0⟩ := open_node (hval 0 35 v0 rfl rfl) h0
  obtain ⟨a1, rfl, rfl, rfl, w1⟩ := open_int Try.underlying2 (hval 1 2 v1 rfl rfl) h1
  obtain ⟨a2, rfl, rfl, rfl, w2⟩ := open_int Try.underlying2 (hval 2 2 v2 rfl rfl) h2
  clear hA0 hval0
  simp only [List.append_nil] at hW'
  refine (walk W a0 w0 a1 w1 a2 w2).mono fun e W' ⟨he, hg⟩ => ?_
  subst he
  exact ⟨_, rfl, _, _, _, [], _, [], hW', (trodAll_cons_mk (shut_bool Try.underlying4 _) trodAll_mk0), (trodAll_cons_mk (Below.trod laidOut (by kernel_rfl) (of_decide_eq_true (by kernel_rfl)) k0 hg lt0) (trodAll_cons_mk (shut_int Try.underlying2 w1) (trodAll_cons_mk (shut_int Try.underlying2 w2) trodAll_mk0))), rfl, hg.frame _, fun h => by cases h⟩

theorem over : Rows.linesFewerRow.holds Try.pinned (OpenSpec.ofChange Rows.linesFewerSpec) :=
  OpenClaim.holds_of_wide 6 Try.f6 rfl rfl rfl rfl rfl rfl rfl ⟨rfl, rfl, rfl, rfl, rfl⟩ rfl rfl rfl rfl rfl (by kernel_rfl) Try.func6 (by kernel_rfl)
    (of_decide_eq_true (by kernel_rfl)) (by unfold Func.isWrapper; first | (rw [if_pos (by decide +kernel)]; kernel_rfl) | (rw [if_neg (by decide +kernel)]; exact ⟨rfl, rfl⟩))
    (fun os started H enc _ => lifted os started H enc)

/-- the statement -/
theorem proved : Rows.LinesFewerSaid :=
  over
#print axioms proved
end Go.Proofs.Ythgkjgaebgpplaa.linesFewer
