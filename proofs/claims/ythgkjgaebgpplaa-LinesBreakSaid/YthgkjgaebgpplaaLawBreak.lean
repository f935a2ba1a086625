/- Which texts are right, their lines, and what they need: as the document says. -/
import Derived.Test.YthgkjgaebgpplaaRows
import Derived.WalkKit
import Derived.ProofKit
import Derived.OpenShut
import Derived.Below
import Derived.Test.YthgkjgaebgpplaaLnPre2
import Derived.ShutString
namespace Go.Proofs.Ythgkjgaebgpplaa.linesBreak
open Go.ChangeShapes Go.WideShapes Go.ChangeAt Go.RowKit
set_option linter.unusedVariables false

theorem own : ownKnob Try.prog.godebug = none := by kernel_rfl
theorem laidOut : laidOutB Try.prog = true := by kernel_rfl

theorem yields_row5 {P : Program} {ops : Array Oper} {S : World → Prop} {op : Oper} {a : Act} (hw : Region.wanted op (yielded ops a.tmps) = true) (ty : TypeId) (x : Operand) (ho : op.op = .load ty x)
    (g : Nat) (hx : a.eval x = .pointer (some ⟨g, 0, none⟩)) (t : TypeId) (cs : List Value) (d : TypeDesc) (hc : ∀ X, S X → Whole X g t cs)
    (hu : P.underlying ty = some d) (hd : (match d with | .struct _ | .array _ _ => true | _ => false) = true) (hi : (P.info? ty).map (·.size) = some cs.toArray.size) : YieldsIf P ops S op (.agg cs.toArray) a :=
  .inl ⟨hw, fun w hw' => by
    unfold execOp
    simp only [ho, hx, Instr.loadAt, Instr.sureAddr, Sem.run_bind, Sem.run_pure, Result.andThen_ok, run_loadVar_row (P := P) w g t ty cs.toArray (0, 0) d (hc w hw') hu hd hi]⟩
theorem wpAnyH_takeD {P : Program} {md : Region.Mode} {ops : Array Oper} {Q : Exit → Act → World → Prop} {S : World → Prop} {i : Nat} {oi : Oper} {v : Value} {fuel : Nat} {listed : Array Bool} {a : Act} {w : World} (dst : Option Tmp) (hi : ops[i]? = some oi) (hd : oi.dst = dst)
    (hs : Region.noSelect ops = true) (hf : Region.free md ops listed i = true) (hr : (Region.ready md ops listed).contains i = true)
    (hQ : ∀ c a w, Q (.panic c) (a.put dst v) w → Q (.panic c) a w) (hy : YieldsIf P ops S oi v a) (hS : S w)
    (h : wpAnyH P md ops Q S fuel (listed.setIfInBounds i true) (a.put dst v) w) : wpAnyH P md ops Q S (fuel + 1) listed a w := by
  subst hd
  exact wpAnyH_take hi hs hf hr hQ hy hS h
theorem Try.infoBx : (Try.prog.info? 43).map (·.size) = some 5 := by kernel_rfl
set_option maxRecDepth 100000 in
set_option maxHeartbeats 4000000 in
theorem walk (W : World) (a0 : Nd) (w0 : a0.ok W) (a1 : Int) (w1 : (Lit.int .i64 a1).wf = true) :
    Calls Try.prog 3 #[a0.val, .int .i64 a1] W fun e w' => e = .returned (.bool true) ∧ Below W.heap.size W w' := by
  obtain ⟨cs, hcs⟩ : ∃ cs, a0.cells.toArray = cs := ⟨_, rfl⟩
  have hT0 := TxIn.new W a0 w0
  rw [hcs] at hT0
  have HT0 := Lib.hid hT0
  have HSH := Lib.hid (fun X => shown8_any X)
  rw [show a0.val = .agg a0.cells.toArray from rfl, hcs]
  clear hcs hT0 w0
  go_enter Try.func3, Try.ntmps3
  go_wp2_with (first
    | (go_at_call 10; refine (HSH.out _).mono ?_; clear HSH; rintro e w1 ⟨rfl, hb1⟩; have HT1 := Lib.hid (HT0.out.below hb1); clear hb1 HT0)
    | (with_reducible refine wpList_load_at rfl 35 (.tmp 2) rfl _ rfl cs _ HT1.out.load Try.underlying35 rfl (nd_infoC HT1.out.eq) ?_)
    | (go_at_call 11; refine (cut_cs W _ a0 cs _ HT1.out).mono ?_; rintro e w2 ⟨n, ds, rfl, hcut, hb2, hT2, hsz, hone, hrow⟩; have HT2 := Lib.hid hT2; have HCUT := Lib.hid hcut; have HSZ := Lib.hid (hsz : ds.size = cs.size); have HONE := Lib.hid hone; have HROW := Lib.hid hrow; clear hcut hb2 hT2 hsz hone hrow HT1)
    | (refine wpList_store_row rfl 35 (.tmp 2) (.tmp 13) rfl _ ds rfl rfl 35 cs.toList.toArray HROW.out (nd_infoC HT2.out.eq) (by simpa using HSZ.out.symm) HONE.out ?_; clear HROW HSZ HONE; obtain ⟨Y, hY⟩ : ∃ Y, w2.setRow W.heap.size ds = Y := ⟨_, rfl⟩; rw [hY]; have HT := Lib.hid (hY ▸ HT2.out); clear hY HT2; refine Hid.out ?_))
  refine Lib.hid ?_
  have HRT := Lib.hid (fun X (hX : TxIn W W.heap.size a0 n ds X) => right_cs hX)
  have HRR := Lib.hid (fun X (hX : TxIn W W.heap.size a0 n ds X) => refRight_cs hX)
  cases ht : textB n with
  | false =>
    have HBX := Lib.hid (fun X (hX : TxIn W W.heap.size a0 n ds X) => boxN_cs hX ht a1)
    have HBR := Lib.hid (fun X (hX : TxIn W W.heap.size a0 n ds X) => breakN_cs hX ht a1)
    rw [ht] at HRT HRR
    clear ht
    have hE := fun X => box_eql 0 0 0 0 false X
    go_wp2_with (first
      | (with_reducible refine wpList_load_at rfl 35 (.tmp 2) rfl _ rfl ds _ HT.out.load Try.underlying35 rfl (nd_infoC HT.out.eq) ?_)
      | (with_reducible refine wpList_load_at rfl 35 (.tmp 2) rfl _ rfl ds _ HU.out.load Try.underlying35 rfl (nd_infoC HU.out.eq) ?_)
      | (refine wpList_load_at_w rfl 35 (.tmp 2) rfl _ rfl ds _ HX.out.load Try.underlying35 rfl (nd_infoC HX.out.eq) ?_)
      | (with_reducible refine wpList_load_at rfl 35 (.tmp 2) rfl _ rfl ds _ (HV.out.alloc _).load Try.underlying35 rfl (nd_infoC HV.out.eq) ?_)
      | (go_at_call 12; refine (HBR.out _ HT.out).mono ?_; clear HBR; rintro e w3 ⟨rfl, hb3⟩; have HU := Lib.hid (HT.out.below hb3); clear hb3 HT)
      | (go_at_call 13; refine (HBX.out _ HU.out).mono ?_; clear HBX; rintro e w4 ⟨rfl, hb4⟩; have HV := Lib.hid (HU.out.below hb4); clear hb4 HU)
      | (go_at_call 14; refine (HRR.out _ (HV.out.alloc _)).mono ?_; clear HRR; rintro e w5 ⟨rfl, hb5⟩; have HX := Lib.hid ((HV.out.alloc (.cells #[.int .i64 0, .int .i64 0, .int .i64 0, .int .i64 0, .bool false] 43)).below hb5); have hk := (whole_new w4 [.int .i64 0, .int .i64 0, .int .i64 0, .int .i64 0, .bool false] 43 _ rfl).below hb5 (whole_new w4 [.int .i64 0, .int .i64 0, .int .i64 0, .int .i64 0, .bool false] 43 _ rfl).lt; have HK := Lib.hid hk; clear hb5 HV hk)
      | (go_at_call 15; refine (HRT.out _ HX.out).mono ?_; clear HRT; rintro e w6 ⟨rfl, hb6⟩; have HZ := Lib.hid (HX.out.below hb6); have hk6 := HK.out.below hb6 HK.out.lt; have y0 := hk6.cellAt 0; have y1 := hk6.cellAt 1; have y2 := hk6.cellAt 2; have y3 := hk6.cellAt 3; have y4 := hk6.cellAt 4; have ly := hk6.lt; clear hb6 HX hk6 HK))
    go_ret
    exact ⟨by simp, HZ.out.lo⟩
  | true =>
    have HBX := Lib.hid (fun X (hX : TxIn W W.heap.size a0 n ds X) => box_cs hX ht a1)
    have HBR := Lib.hid (fun X (hX : TxIn W W.heap.size a0 n ds X) => break_cs hX ht a1)
    have HDB := Lib.hid (fun X (hX : TxIn W W.heap.size a0 n ds X) => refBreak_cs hX ht a1)
    have HDX := Lib.hid (fun X (hX : TxIn W W.heap.size a0 n ds X) => refBox_cs hX ht a1)
    rw [ht] at HRT HRR
    have hn := HCUT.out.few
    have HFEW := Lib.hid hn
    clear ht hn
    go_wp2_with (first
      | (with_reducible refine wpList_load_at rfl 35 (.tmp 2) rfl _ rfl ds _ HT.out.load Try.underlying35 rfl (nd_infoC HT.out.eq) ?_)
      | (go_at_call 12; refine (HBR.out _ HT.out).mono ?_; clear HBR; rintro e w3 ⟨lv, Ls, rfl, hbr, hol, hb3⟩; refine Hid.out ?_))
    refine Lib.hid ?_
    have HLN := Lib.hid (hol.lns (by have := hbr.len; have := HFEW.out; omega))
    have HBK := Lib.hid hbr
    have HU := Lib.hid (HT.out.below hb3)
    obtain ⟨lp, lc, rfl⟩ := hol.form
    clear hbr hol hb3 HT
    go_wp2_with (first
      | (with_reducible refine wpList_load_at rfl 35 (.tmp 2) rfl _ rfl ds _ HU.out.load Try.underlying35 rfl (nd_infoC HU.out.eq) ?_)
      | (go_at_call 13; refine (HBX.out _ HU.out).mono ?_; clear HBX; rintro e w4 ⟨Lb, rfl, hbr, hb4⟩; refine Hid.out ?_))
    refine Lib.hid ?_
    obtain rfl : Lb = Ls := hbr.same HBK.out
    have HV := Lib.hid (HU.out.below hb4)
    have HLV := Lib.hid (HLN.out.below hb4)
    clear hbr hb4 HU HLN
    rw [box_lit]
    have HBL := Lib.hid (fun Lc (h : Broke (IsLine n.b a1 n.ws) 0 Lc n.ws.length) => show (boxOf n Lc).toArray = #[.int .i64 (leastW n.ws), .int .i64 (wideW n.b n.ws 0 n.ws.length), .int .i64 (Lb.length * n.h), .int .i64 (if 0 < Lb.length then n.h - n.h / 4 else 0), .bool (decide (0 < Lb.length))] from by
      obtain rfl : Lc = Lb := h.same HBK.out
      exact box_lit n Lc)
    generalize leastW n.ws = mi at *
    generalize wideW n.b n.ws 0 n.ws.length = ma at *
    generalize (Lb.length : Int) * n.h = hi at *
    generalize (if 0 < Lb.length then n.h - n.h / 4 else 0) = ba at *
    generalize decide (0 < Lb.length) = hb at *
    go_wp2_with (first
      | (with_reducible refine wpList_load_at rfl 35 (.tmp 2) rfl _ rfl ds _ (HV.out.alloc _).load Try.underlying35 rfl (nd_infoC HV.out.eq) ?_)
      | (go_at_call 14; refine (HRR.out _ (HV.out.alloc _)).mono ?_; clear HRR; rintro e w5 ⟨rfl, hb5⟩; refine Hid.out ?_))
    refine Lib.hid ?_
    obtain ⟨g, hg⟩ : ∃ g, w4.heap.size = g := ⟨_, rfl⟩
    have HX := Lib.hid ((HV.out.alloc (.cells #[.int .i64 mi, .int .i64 ma, .int .i64 hi, .int .i64 ba, .bool hb] 43)).below hb5)
    have hk := (whole_new w4 [.int .i64 mi, .int .i64 ma, .int .i64 hi, .int .i64 ba, .bool hb] 43 _ rfl).below hb5 (whole_new w4 [.int .i64 mi, .int .i64 ma, .int .i64 hi, .int .i64 ba, .bool hb] 43 _ rfl).lt
    have HLX := Lib.hid ((HLV.out.below ((Below.refl _ w4).alloc (Nat.le_refl _) (.cells #[.int .i64 mi, .int .i64 ma, .int .i64 hi, .int .i64 ba, .bool hb] 43))).below hb5)
    rw [hg] at hk ⊢
    have HK := Lib.hid hk
    clear hb5 HV hk HLV hg
    go_wp2
    refine region_held_at (S := fun X => Hid (TxIn W W.heap.size a0 n ds X ∧ Whole X g 43 [.int .i64 mi, .int .i64 ma, .int .i64 hi, .int .i64 ba, .bool hb] ∧ LnsAt X (.slice lp Lb.length lc) Lb)) (by kernel_rfl) (fun w9 hw9 => ?_)
    have SV : Hid (TxIn W W.heap.size a0 n ds w9 ∧ Whole w9 g 43 [.int .i64 mi, .int .i64 ma, .int .i64 hi, .int .i64 ba, .bool hb] ∧ LnsAt w9 (.slice lp Lb.length lc) Lb) := Lib.hid ⟨HX.out.below (by rw [← hw9]; exact (Below.refl _ _).drew), (by rw [← hw9]; exact HK.out), HLX.out.below (by rw [← hw9]; exact (Below.refl _ _).drew)⟩
    clear hw9 HX HK HLX
    skip
    refine wpAnyH_takeD (i := 0) (v := .bool true) (some 54) rfl rfl (by kernel_rfl) (by kernel_rfl) (by kernel_rfl) (fun _ _ _ h => h) (Or.inl ⟨by rfl, ?_⟩) SV ?_
    · intro X hX; go_simp
    try simp only [Act.put, List.setIfInBounds_toArray, List.set_cons_succ, List.set_cons_zero]
    refine wpAnyH_takeD (i := 1) (v := .bool true) (some 55) rfl rfl (by kernel_rfl) (by kernel_rfl) (by kernel_rfl) (fun _ _ _ h => h) (Or.inl ⟨by rfl, ?_⟩) SV ?_
    · intro X hX; go_simp
    try simp only [Act.put, List.setIfInBounds_toArray, List.set_cons_succ, List.set_cons_zero]
    refine wpAnyH_takeD (i := 2) (v := .agg ds) (some 56) rfl rfl (by kernel_rfl) (by kernel_rfl) (by kernel_rfl) (fun _ _ _ h => h) (yields_loadL (by rfl) 35 (.tmp 2) rfl _ rfl ds _ (fun X hX => hX.out.1.load) Try.underlying35 rfl (nd_infoC SV.out.1.eq)) SV ?_
    try simp only [Act.put, List.setIfInBounds_toArray, List.set_cons_succ, List.set_cons_zero]
    refine wpAnyH_all (rs := [3]) (by kernel_rfl) (by simp) ?_
    intro ii hii; obtain rfl : ii = 3 := by simpa using hii
    refine wpOp_step rfl (fun K hK => ?_)
    go_simp
    refine (HRT.out _ SV.out.1).mono ?_
    rintro e10 w10 ⟨rfl, hb10⟩
    have S7 : Hid (TxIn W W.heap.size a0 n ds w10 ∧ Whole w10 g 43 [.int .i64 mi, .int .i64 ma, .int .i64 hi, .int .i64 ba, .bool hb] ∧ LnsAt w10 (.slice lp Lb.length lc) Lb) := Lib.hid ⟨SV.out.1.below hb10, SV.out.2.1.below hb10 SV.out.2.1.lt, SV.out.2.2.below hb10⟩
    refine hK _ _ ⟨S7, ?_⟩
    clear hK K hii hb10 SV
    have SV := S7
    clear S7
    try simp only [Act.put, List.setIfInBounds_toArray, List.set_cons_succ, List.set_cons_zero]
    refine wpAnyH_takeD (i := 4) (v := .bool true) (some 58) rfl rfl (by kernel_rfl) (by kernel_rfl) (by kernel_rfl) (fun _ _ _ h => h) (Or.inl ⟨by rfl, ?_⟩) SV ?_
    · intro X hX; go_simp
    try simp only [Act.put, List.setIfInBounds_toArray, List.set_cons_succ, List.set_cons_zero]
    refine wpAnyH_takeD (i := 5) (v := .bool true) (some 59) rfl rfl (by kernel_rfl) (by kernel_rfl) (by kernel_rfl) (fun _ _ _ h => h) (Or.inl ⟨by rfl, ?_⟩) SV ?_
    · intro X hX; go_simp
    try simp only [Act.put, List.setIfInBounds_toArray, List.set_cons_succ, List.set_cons_zero]
    refine wpAnyH_takeD (i := 6) (v := .int .i64 0) (some 60) rfl rfl (by kernel_rfl) (by kernel_rfl) (by kernel_rfl) (fun _ _ _ h => h) (Or.inl ⟨by rfl, ?_⟩) SV ?_
    · intro X hX; go_simp
    try simp only [Act.put, List.setIfInBounds_toArray, List.set_cons_succ, List.set_cons_zero]
    refine wpAnyH_takeD (i := 7) (v := .bool true) (some 61) rfl rfl (by kernel_rfl) (by kernel_rfl) (by kernel_rfl) (fun _ _ _ h => h) (Or.inl ⟨by rfl, ?_⟩) SV ?_
    · intro X hX; go_simp
    try simp only [Act.put, List.setIfInBounds_toArray, List.set_cons_succ, List.set_cons_zero]
    refine wpAnyH_takeD (i := 8) (v := .bool true) (some 62) rfl rfl (by kernel_rfl) (by kernel_rfl) (by kernel_rfl) (fun _ _ _ h => h) (Or.inl ⟨by rfl, ?_⟩) SV ?_
    · intro X hX; go_simp
    try simp only [Act.put, List.setIfInBounds_toArray, List.set_cons_succ, List.set_cons_zero]
    refine wpAnyH_takeD (i := 9) (v := .bool true) (some 63) rfl rfl (by kernel_rfl) (by kernel_rfl) (by kernel_rfl) (fun _ _ _ h => h) (Or.inl ⟨by rfl, ?_⟩) SV ?_
    · intro X hX; go_simp
    try simp only [Act.put, List.setIfInBounds_toArray, List.set_cons_succ, List.set_cons_zero]
    refine wpAnyH_takeD (i := 10) (v := .int .i64 0) (some 64) rfl rfl (by kernel_rfl) (by kernel_rfl) (by kernel_rfl) (fun _ _ _ h => h) (Or.inl ⟨by rfl, ?_⟩) SV ?_
    · intro X hX; go_simp
    try simp only [Act.put, List.setIfInBounds_toArray, List.set_cons_succ, List.set_cons_zero]
    refine wpAnyH_takeD (i := 11) (v := .bool true) (some 65) rfl rfl (by kernel_rfl) (by kernel_rfl) (by kernel_rfl) (fun _ _ _ h => h) (Or.inl ⟨by rfl, ?_⟩) SV ?_
    · intro X hX; go_simp
    try simp only [Act.put, List.setIfInBounds_toArray, List.set_cons_succ, List.set_cons_zero]
    refine wpAnyH_takeD (i := 12) (v := .bool true) (some 66) rfl rfl (by kernel_rfl) (by kernel_rfl) (by kernel_rfl) (fun _ _ _ h => h) (Or.inl ⟨by rfl, ?_⟩) SV ?_
    · intro X hX; go_simp
    try simp only [Act.put, List.setIfInBounds_toArray, List.set_cons_succ, List.set_cons_zero]
    refine wpAnyH_takeD (i := 13) (v := .bool true) (some 67) rfl rfl (by kernel_rfl) (by kernel_rfl) (by kernel_rfl) (fun _ _ _ h => h) (Or.inl ⟨by rfl, ?_⟩) SV ?_
    · intro X hX; go_simp
    try simp only [Act.put, List.setIfInBounds_toArray, List.set_cons_succ, List.set_cons_zero]
    refine wpAnyH_takeD (i := 14) (v := .slice lp Lb.length lc) (some 68) rfl rfl (by kernel_rfl) (by kernel_rfl) (by kernel_rfl) (fun _ _ _ h => h) (Or.inl ⟨by rfl, ?_⟩) SV ?_
    · intro X hX; go_simp
    try simp only [Act.put, List.setIfInBounds_toArray, List.set_cons_succ, List.set_cons_zero]
    refine wpAnyH_takeD (i := 15) (v := .agg ds) (some 69) rfl rfl (by kernel_rfl) (by kernel_rfl) (by kernel_rfl) (fun _ _ _ h => h) (yields_loadL (by rfl) 35 (.tmp 2) rfl _ rfl ds _ (fun X hX => hX.out.1.load) Try.underlying35 rfl (nd_infoC SV.out.1.eq)) SV ?_
    try simp only [Act.put, List.setIfInBounds_toArray, List.set_cons_succ, List.set_cons_zero]
    refine wpAnyH_takeD (i := 16) (v := .int .i64 a1) (some 70) rfl rfl (by kernel_rfl) (by kernel_rfl) (by kernel_rfl) (fun _ _ _ h => h) (Or.inl ⟨by rfl, ?_⟩) SV ?_
    · intro X hX; go_simp
    try simp only [Act.put, List.setIfInBounds_toArray, List.set_cons_succ, List.set_cons_zero]
    refine wpAnyH_all (rs := [17]) (by kernel_rfl) (by simp) ?_
    intro ii hii; obtain rfl : ii = 17 := by simpa using hii
    refine wpOp_step rfl (fun K hK => ?_)
    go_simp
    refine (HDB.out _ SV.out.1).mono ?_
    rintro e10 w10 ⟨lv2, Ls2, rfl, hbr2, hol2, hb10⟩
    obtain rfl : Lb = Ls2 := (hbr2.same HBK.out).symm
    have HL2 := Lib.hid (hol2.lns (by have := hbr2.len; have := HFEW.out; omega))
    clear hbr2 hol2
    have S7 : Hid (TxIn W W.heap.size a0 n ds w10 ∧ Whole w10 g 43 [.int .i64 mi, .int .i64 ma, .int .i64 hi, .int .i64 ba, .bool hb] ∧ LnsAt w10 (.slice lp Lb.length lc) Lb) := Lib.hid ⟨SV.out.1.below hb10, SV.out.2.1.below hb10 SV.out.2.1.lt, SV.out.2.2.below hb10⟩
    refine hK _ _ ⟨S7, ?_⟩
    clear hK K hii hb10 SV
    have SV := S7
    clear S7
    try simp only [Act.put, List.setIfInBounds_toArray, List.set_cons_succ, List.set_cons_zero]
    refine wpAnyH_all (rs := [18]) (by kernel_rfl) (by simp) ?_
    intro ii hii; obtain rfl : ii = 18 := by simpa using hii
    refine wpOp_step rfl (fun K hK => ?_)
    go_simp
    refine (lnsame_any _ _ _ _ SV.out.2.2 HL2.out).mono ?_
    rintro e10 w10 ⟨rfl, hb10⟩
    clear HL2
    have S7 : Hid (TxIn W W.heap.size a0 n ds w10 ∧ Whole w10 g 43 [.int .i64 mi, .int .i64 ma, .int .i64 hi, .int .i64 ba, .bool hb] ∧ LnsAt w10 (.slice lp Lb.length lc) Lb) := Lib.hid ⟨SV.out.1.below hb10, SV.out.2.1.below hb10 SV.out.2.1.lt, SV.out.2.2.below hb10⟩
    refine hK _ _ ⟨S7, ?_⟩
    clear hK K hii hb10 SV
    have SV := S7
    clear S7
    try simp only [Act.put, List.setIfInBounds_toArray, List.set_cons_succ, List.set_cons_zero]
    refine wpAnyH_takeD (i := 19) (v := .bool true) (some 73) rfl rfl (by kernel_rfl) (by kernel_rfl) (by kernel_rfl) (fun _ _ _ h => h) (Or.inl ⟨by rfl, ?_⟩) SV ?_
    · intro X hX; go_simp
    try simp only [Act.put, List.setIfInBounds_toArray, List.set_cons_succ, List.set_cons_zero]
    refine wpAnyH_takeD (i := 20) (v := .bool true) (some 74) rfl rfl (by kernel_rfl) (by kernel_rfl) (by kernel_rfl) (fun _ _ _ h => h) (Or.inl ⟨by rfl, ?_⟩) SV ?_
    · intro X hX; go_simp
    try simp only [Act.put, List.setIfInBounds_toArray, List.set_cons_succ, List.set_cons_zero]
    refine wpAnyH_takeD (i := 21) (v := .agg #[.int .i64 mi, .int .i64 ma, .int .i64 hi, .int .i64 ba, .bool hb]) (some 75) rfl rfl (by kernel_rfl) (by kernel_rfl) (by kernel_rfl) (fun _ _ _ h => h) (yields_row5 (by rfl) 43 (.tmp 8) rfl g rfl 43 [.int .i64 mi, .int .i64 ma, .int .i64 hi, .int .i64 ba, .bool hb] _ (fun X hX => hX.out.2.1) Try.underlying43 rfl (by rw [Try.infoBx]; rfl)) SV ?_
    try simp only [Act.put, List.setIfInBounds_toArray, List.set_cons_succ, List.set_cons_zero]
    refine wpAnyH_takeD (i := 22) (v := .agg ds) (some 76) rfl rfl (by kernel_rfl) (by kernel_rfl) (by kernel_rfl) (fun _ _ _ h => h) (yields_loadL (by rfl) 35 (.tmp 2) rfl _ rfl ds _ (fun X hX => hX.out.1.load) Try.underlying35 rfl (nd_infoC SV.out.1.eq)) SV ?_
    try simp only [Act.put, List.setIfInBounds_toArray, List.set_cons_succ, List.set_cons_zero]
    refine wpAnyH_takeD (i := 23) (v := .int .i64 a1) (some 77) rfl rfl (by kernel_rfl) (by kernel_rfl) (by kernel_rfl) (fun _ _ _ h => h) (Or.inl ⟨by rfl, ?_⟩) SV ?_
    · intro X hX; go_simp
    try simp only [Act.put, List.setIfInBounds_toArray, List.set_cons_succ, List.set_cons_zero]
    refine wpAnyH_all (rs := [24]) (by kernel_rfl) (by simp) ?_
    intro ii hii; obtain rfl : ii = 24 := by simpa using hii
    refine wpOp_step rfl (fun K hK => ?_)
    go_simp
    refine (HDX.out _ SV.out.1).mono ?_
    rintro e10 w10 ⟨Lc, rfl, hbr3, hb10⟩
    rw [HBL.out Lc hbr3]
    clear hbr3
    have S7 : Hid (TxIn W W.heap.size a0 n ds w10 ∧ Whole w10 g 43 [.int .i64 mi, .int .i64 ma, .int .i64 hi, .int .i64 ba, .bool hb] ∧ LnsAt w10 (.slice lp Lb.length lc) Lb) := Lib.hid ⟨SV.out.1.below hb10, SV.out.2.1.below hb10 SV.out.2.1.lt, SV.out.2.2.below hb10⟩
    refine hK _ _ ⟨S7, ?_⟩
    clear hK K hii hb10 SV
    have SV := S7
    clear S7
    try simp only [Act.put, List.setIfInBounds_toArray, List.set_cons_succ, List.set_cons_zero]
    refine wpAnyH_takeD (i := 25) (v := .bool true) (some 79) rfl rfl (by kernel_rfl) (by kernel_rfl) (by kernel_rfl) (fun _ _ _ h => h) (Or.inl ⟨by rfl, ?_⟩) SV ?_
    · intro X hX; have hE := box_eql mi ma hi ba hb; go_simp
    try simp only [Act.put, List.setIfInBounds_toArray, List.set_cons_succ, List.set_cons_zero]
    refine wpAnyH_takeD (i := 26) (v := .bool true) (some 80) rfl rfl (by kernel_rfl) (by kernel_rfl) (by kernel_rfl) (fun _ _ _ h => h) (Or.inl ⟨by rfl, ?_⟩) SV ?_
    · intro X hX; go_simp
    try simp only [Act.put, List.setIfInBounds_toArray, List.set_cons_succ, List.set_cons_zero]
    refine wpAnyH_takeD (i := 27) (v := .bool true) (some 4) rfl rfl (by kernel_rfl) (by kernel_rfl) (by kernel_rfl) (fun _ _ _ h => h) (Or.inl ⟨by rfl, ?_⟩) SV ?_
    · intro X hX; go_simp
    try simp only [Act.put, List.setIfInBounds_toArray, List.set_cons_succ, List.set_cons_zero]
    refine wpAnyH_done (by kernel_rfl) ?_ _
    go_wp2
    go_ret
    exact ⟨rfl, SV.out.1.lo⟩

set_option maxRecDepth 100000 in
theorem lifted (os : Os) (started : os.Started) (H : Type) (enc : TypeId × Value → H) :
    ReturnsInHanded {} Try.checked os 3 .any (Rows.linesBreakSpec.pre6 enc Try.prog Try.f3 Rows.linesBreakRow.domain false) (Rows.linesBreakSpec.post enc Try.prog Try.f3 false true false false) := by
  refine returnsInHanded_of_change (C := Try.checked) own started (by kernel_rfl) Try.func3
    (ChangeSpec.witness6 (enc := enc) (C := Try.checked) false ⟨#[], #[.agg #[.int .i64 0, .slice none 0 0, .int .i64 0, .int .i64 0, .int .i64 0, .int .i64 0, .int .i64 0, .int .i64 0, .int .i64 0, .int .i64 0, .int .i64 0, .int .i64 0, .int .u32 0, .int .i64 0, .int .i64 0, .int .u32 0, .int .i64 0, .int .i64 0, .int .u32 0, .int .i64 0, .int .i64 0, .int .u32 0, .int .i64 0, .int .i64 0, .int .i64 0, .bool false, .bool false, .int .i64 0, .int .i64 0, .bool false, .bool false, .slice none 0 0, .int .i64 0, .int .i64 0], .int .i64 0], []⟩ 8 (by kernel_rfl) (by kernel_rfl) (by kernel_rfl) (by kernel_rfl)) ?_
  intro W base args ds gs before hval0 hW hcnd _
  have hval : ∀ (j : Nat) t v, Try.f3.params[j]? = some t → args[j]? = some v → Value.okWide Try.prog W .any base t v := hval0
  have hW' := hW
  obtain ⟨p, q, hA0, hV, rfl, hfz, hnd⟩ := hW
  have hA : DataW.TrodAll enc Try.prog W 0 (fun _ => true) true Try.f3.params.toList args.toList ds p := hA0
  rw [Try.params3] at hA hval
  obtain ⟨v0, vs0, d0, ds0, p0, q0, hargs, rfl, rfl, h0, r0⟩ := trodAll_cons hA
  obtain ⟨v1, vs1, d1, ds1, p1, q1, rfl, rfl, rfl, h1, r1⟩ := trodAll_cons r0
  obtain ⟨rfl, rfl, rfl⟩ := trodAll_nil r1
  obtain rfl : args = #[v0, v1] := by cases args; simp_all
  obtain ⟨rfl, rfl⟩ := trodVars_none hV
  have k0 := h0
  have lt0 : ∀ x ∈ p0, x.block < W.heap.size := by obtain ⟨m, hm⟩ := k0; exact DataW.trod_lt m _ _ _ hm
  obtain ⟨a0, rfl, w0⟩ := open_node (hval 0 35 v0 rfl rfl) h0
  obtain ⟨a1, rfl, rfl, rfl, w1⟩ := open_int Try.underlying2 (hval 1 2 v1 rfl rfl) h1
  clear hA0 hval0
  simp only [List.append_nil] at hW'
  refine (walk W a0 w0 a1 w1).mono fun e W' ⟨he, hg⟩ => ?_
  subst he
  exact ⟨_, rfl, _, _, _, [], _, [], hW', (trodAll_cons_mk (shut_bool Try.underlying4 _) trodAll_mk0), (trodAll_cons_mk (Below.trod laidOut (by kernel_rfl) (of_decide_eq_true (by kernel_rfl)) k0 hg lt0) (trodAll_cons_mk (shut_int Try.underlying2 w1) trodAll_mk0)), rfl, hg.frame _, fun h => by cases h⟩

theorem over : Rows.linesBreakRow.holds Try.pinned (OpenSpec.ofChange Rows.linesBreakSpec) :=
  OpenClaim.holds_of_wide 3 Try.f3 rfl rfl rfl rfl rfl rfl rfl ⟨rfl, rfl, rfl, rfl, rfl⟩ rfl rfl rfl rfl rfl (by kernel_rfl) Try.func3 (by kernel_rfl)
    (of_decide_eq_true (by kernel_rfl)) (by unfold Func.isWrapper; first | (rw [if_pos (by decide +kernel)]; kernel_rfl) | (rw [if_neg (by decide +kernel)]; exact ⟨rfl, rfl⟩))
    (fun os started H enc _ => lifted os started H enc)

/-- the statement -/
theorem proved : Rows.LinesBreakSaid :=
  over
#print axioms proved
end Go.Proofs.Ythgkjgaebgpplaa.linesBreak
