/- Lines have all words, in order; one that is wider than the width has one word, and the next word would not have fitted. -/
import Derived.Test.YthgkjgaebgpplaaRows
import Derived.WalkKit
import Derived.ProofKit
import Derived.OpenShut
import Derived.Below
import Derived.Test.YthgkjgaebgpplaaLnPre
import Derived.ShutString
namespace Go.Proofs.Ythgkjgaebgpplaa.linesAll
open Go.ChangeShapes Go.WideShapes Go.ChangeAt Go.RowKit
set_option linter.unusedVariables false

theorem own : ownKnob Try.prog.godebug = none := by kernel_rfl
theorem laidOut : laidOutB Try.prog = true := by kernel_rfl

theorem wpStill_load {P : Program} {ops : Array Oper} {w : World} {Q : Act → Prop} {a : Act} {o : Oper} {rest : List Oper} (hg : o.guard = none) (ty : TypeId) (x : Operand) (ho : o.op = .load ty x)
    (p : Addr) (hx : a.eval x = .pointer (some p)) (cs : Array Value) (d : TypeDesc) (hc : ∀ j v, cs[j]? = some v → w.cell? (p.add j) = some v)
    (hu : P.underlying ty = some d) (hd : (match d with | .struct _ | .array _ _ => true | _ => false) = true) (hi : (P.info? ty).map (·.size) = some cs.size)
    (h : wpStill P ops w Q rest (a.put o.dst (.agg cs))) : wpStill P ops w Q (o :: rest) a :=
  wpStill_val hg _ (by
    unfold execOp
    simp only [ho, hx, Instr.loadAt, Instr.sureAddr, Sem.run_bind, Sem.run_pure, Result.andThen_ok, run_loadVar_at w p ty cs d hc hu hd hi]) h
theorem yields_loadL {P : Program} {ops : Array Oper} {S : World → Prop} {op : Oper} {a : Act} (hw : Region.wanted op (yielded ops a.tmps) = true) (ty : TypeId) (x : Operand) (ho : op.op = .load ty x)
    (p : Addr) (hx : a.eval x = .pointer (some p)) (cs : Array Value) (d : TypeDesc) (hc : ∀ X, S X → ∀ j v, cs[j]? = some v → X.cell? (p.add j) = some v)
    (hu : P.underlying ty = some d) (hd : (match d with | .struct _ | .array _ _ => true | _ => false) = true) (hi : (P.info? ty).map (·.size) = some cs.size) : YieldsIf P ops S op (.agg cs) a :=
  .inl ⟨hw, fun w hw' => by
    unfold execOp
    simp only [ho, hx, Instr.loadAt, Instr.sureAddr, Sem.run_bind, Sem.run_pure, Result.andThen_ok, run_loadVar_at w p ty cs d (hc w hw') hu hd hi]⟩
theorem broke_drop {F : Nat → Nat → Prop} {Ls : List (Nat × Nat)} {i s m : Nat} (h : Broke F s (Ls.drop i) m) (hi : i < Ls.length) : ∃ e, Ls[i]? = some (s, e) ∧ F s e ∧ Broke F e (Ls.drop (i + 1)) m := by
  rw [List.drop_eq_getElem_cons hi] at h
  obtain ⟨h1, h2, h3⟩ := h
  obtain ⟨x, hx⟩ : ∃ x, Ls[i] = x := ⟨_, rfl⟩
  rw [hx] at h1 h2 h3
  obtain ⟨x1, x2⟩ := x
  dsimp only at h1 h2 h3
  subst h1
  exact ⟨x2, by rw [List.getElem?_eq_getElem hi, hx], h2, h3⟩
set_option maxRecDepth 100000 in
set_option maxHeartbeats 4000000 in
theorem walk (W : World) (a0 : Nd) (w0 : a0.ok W) (a1 : Int) (w1 : (Lit.int .i64 a1).wf = true) :
    Calls Try.prog 5 #[a0.val, .int .i64 a1] W fun e w' => e = .returned (.bool true) ∧ Below W.heap.size W w' := by
  obtain ⟨cs, hcs⟩ : ∃ cs, a0.cells.toArray = cs := ⟨_, rfl⟩
  have hT0 := TxIn.new W a0 w0
  rw [hcs] at hT0
  have HT0 := Lib.hid hT0
  have HSH := Lib.hid (fun X => shown8_any X)
  rw [show a0.val = .agg a0.cells.toArray from rfl, hcs]
  clear hcs hT0 w0
  go_enter Try.func5, Try.ntmps5
  go_wp2_with (first
    | (go_at_call 10; refine (HSH.out _).mono ?_; clear HSH; rintro e w1 ⟨rfl, hb1⟩; have HT1 := Lib.hid (HT0.out.below hb1); clear hb1 HT0)
    | (with_reducible refine wpList_load_at rfl 35 (.tmp 2) rfl _ rfl cs _ HT1.out.load Try.underlying35 rfl (nd_infoC HT1.out.eq) ?_)
    | (go_at_call 11; refine (cut_cs W _ a0 cs _ HT1.out).mono ?_; rintro e w2 ⟨n, ds, rfl, hcut, hb2, hT2, hsz, hone, hrow⟩; have HT2 := Lib.hid hT2; have HCUT := Lib.hid hcut; have HSZ := Lib.hid (hsz : ds.size = cs.size); have HONE := Lib.hid hone; have HROW := Lib.hid hrow; clear hcut hb2 hT2 hsz hone hrow HT1)
    | (refine wpList_store_row rfl 35 (.tmp 2) (.tmp 16) rfl _ ds rfl rfl 35 cs.toList.toArray HROW.out (nd_infoC HT2.out.eq) (by simpa using HSZ.out.symm) HONE.out ?_; clear HROW HSZ HONE; obtain ⟨Y, hY⟩ : ∃ Y, w2.setRow W.heap.size ds = Y := ⟨_, rfl⟩; rw [hY]; have HT := Lib.hid (hY ▸ HT2.out); clear hY HT2; refine Hid.out ?_))
  refine Lib.hid ?_
  cases ht : textB n with
  | false =>
    have HBR := Lib.hid (fun X (hX : TxIn W W.heap.size a0 n ds X) => breakN_cs hX ht a1)
    clear ht
    go_wp2_with (first
      | (with_reducible refine wpList_load_at rfl 35 (.tmp 2) rfl _ rfl ds _ HT.out.load Try.underlying35 rfl (nd_infoC HT.out.eq) ?_)
      | (go_at_call 12; refine (HBR.out _ HT.out).mono ?_; clear HBR; rintro e w4 ⟨rfl, hb4⟩; have HV := Lib.hid (HT.out.below hb4); clear hb4 HT))
    go_ret
    exact ⟨rfl, HV.out.lo⟩
  | true =>
    have hQ := textQ ht
    have HBR := Lib.hid (fun X (hX : TxIn W W.heap.size a0 n ds X) => break_cs hX ht a1)
    have HWD := Lib.hid (fun (fr to : Nat) (h1 : fr ≤ to) (h2 : to ≤ n.ws.length) X (hX : TxIn W W.heap.size a0 n ds X) => show Calls Try.prog 19 #[.agg ds, .int .i64 fr, .int .i64 to] X (fun e Y => e = .returned (.tuple #[.int .i64 (wideW n.b n.ws fr to), .int .i64 0]) ∧ Below X.heap.size X Y) from by
      have := wide_cs hX (fr : Int) (to : Int)
      unfold wideV at this
      rwa [if_pos ⟨ht, by omega, by omega, by omega⟩, Int.toNat_natCast, Int.toNat_natCast] at this)
    obtain ⟨p, m, c, hwv, hmc, _⟩ := HT.out.nd.ok.2.2.2
    obtain ⟨p', c', hwv'⟩ := HT.out.nd.ok.2.1.form
    have hm : n.ws.length = m := by rw [hwv] at hwv'; injection hwv' with _ e _; exact e.symm
    have HWV := Lib.hid hwv
    have hm200 : m ≤ 200 := by have := HCUT.out.few; omega
    rw [hm] at HWD
    have HM := Lib.hid hm
    clear hwv' ht hQ hwv hm
    go_wp2_with (first
      | (with_reducible refine wpList_load_at rfl 35 (.tmp 2) rfl _ rfl ds _ HT.out.load Try.underlying35 rfl (nd_infoC HT.out.eq) ?_)
      | (go_at_call 12; refine (HBR.out _ HT.out).mono ?_; clear HBR; rintro e w4 ⟨lv, Ls, rfl, hbr, hol, hb4⟩; refine Hid.out ?_))
    refine Lib.hid ?_
    have hlen := hbr.len
    rw [HM.out] at hlen hbr
    have HBK := Lib.hid hbr
    have HLN := Lib.hid (hol.lns (by omega))
    have HV := Lib.hid (HT.out.below hb4)
    obtain ⟨lp, lc, rfl⟩ := hol.form
    obtain ⟨L, hL⟩ : ∃ L, Ls.length = L := ⟨_, rfl⟩
    rw [hL] at hlen HLN ⊢
    have HL := Lib.hid hL
    clear hol hb4 HT hbr hL
    go_wp2
    go_loopw [8, 9] (fun s8 s9 X => ∃ i s : Nat, i ≤ L ∧ s ≤ m ∧ s9 = .int .i64 i ∧ s8 = .int .i64 s ∧ Hid (Broke (IsLine n.b a1 n.ws) s (Ls.drop i) m) ∧ Hid (TxIn W W.heap.size a0 n ds X) ∧ Hid (LnsAt X (.slice lp L lc) Ls)) (fun _ s9 _ => L - (intOf s9).toNat)
    case atStart => exact ⟨0, 0, Nat.zero_le _, Nat.zero_le _, rfl, rfl, Lib.hid (by simpa using HBK.out), HV, HLN⟩
    case round =>
      clear HBK HLN HV
      obtain ⟨i, s, hi, hsm, rfl, rfl, HBK, HX, HLN⟩ := hrel
      by_cases hlt : i < L
      · obtain ⟨e, hx, hline, hrest⟩ := broke_drop HBK.out (by rw [HL.out]; exact hlt)
        obtain ⟨lb, lo, rfl, llt, c0, c1⟩ := HLN.out.at i (s, e) hx
        dsimp only at c0 c1
        have HLI := Lib.hid hline
        have HRS := Lib.hid hrest
        have hse : s < e := hline.1
        have hem : e ≤ m := by have := hline.2.1; rw [HM.out] at this; exact this
        have c31 := HX.out.wv
        rw [HWV.out] at c31
        have lx := HX.out.lt
        have g1 : decide ((e : Int) ≤ (s : Int)) = false := by simp; omega
        have g1n : decide (e ≤ s) = false := by simp; omega
        have g2 : decide ((m : Int) < (e : Int)) = false := by simp; omega
        have g2n : decide (m < e) = false := by simp; omega
        have HXI := Lib.hid hx
        clear hx hline hrest HBK
        have HWE := Lib.hid (fun X (hX : TxIn W W.heap.size a0 n ds X) (h : e < m) => show Calls Try.prog 19 #[.agg ds, .int .i64 s, .int .i64 ((e : Int) + 1)] X (fun e' Y => e' = .returned (.tuple #[.int .i64 (wideW n.b n.ws s (e + 1)), .int .i64 0]) ∧ Below X.heap.size X Y) from by
          have := HWD.out s (e + 1) (by omega) (by omega) X hX
          rwa [show ((e + 1 : Nat) : Int) = (e : Int) + 1 by omega] at this)
        have HLI2 := Lib.hid (And.intro HLI.out.2.2.1 HLI.out.2.2.2)
        have HWS := Lib.hid (HWD.out s e (by omega) hem)
        obtain ⟨wv, hwv⟩ : ∃ wv, wideW n.b n.ws s e = wv := ⟨_, rfl⟩
        rw [hwv] at HWS
        have hfit : s + 1 < e → wv ≤ a1 := fun h => by rw [← hwv]; exact HLI.out.2.2.1 e h (Nat.le_refl _)
        obtain ⟨we, hwe⟩ : ∃ we, wideW n.b n.ws s (e + 1) = we := ⟨_, rfl⟩
        rw [hwe] at HWE
        have hnext : e < m → a1 < we := fun h => by rw [← hwe]; exact HLI.out.2.2.2 (by rw [HM.out]; exact h)
        have HFIT := Lib.hid hfit
        have HNEXT := Lib.hid hnext
        clear hwv hwe hfit hnext HLI2
        go_wp2
        go_quiet (fail)
        go_wp2
        have HX8 := Lib.hid (HX.out.drew nq)
        have HL8 := Lib.hid (HLN.out.below (below_dn _ _ nq))
        generalize wr.drewN nq = w8 at HX8 HL8 ⊢
        have HCL : Hid (∀ X, LnsAt X (.slice (some ⟨lb, lo, none⟩) L lc) Ls → X.cell? ⟨lb, lo + i * 2, none⟩ = some (.int .i64 (s : Int)) ∧ X.cell? ⟨lb, lo + i * 2 + 1, none⟩ = some (.int .i64 (e : Int))) := Lib.hid fun X hX => by
          obtain ⟨lb', lo', hlb, llt, c0, c1⟩ := hX.at i (s, e) HXI.out
          injection hlb with hlb
          injection hlb with hlb1 hlb2
          subst hlb1 hlb2
          exact ⟨c0, c1⟩
        have HLT : Hid (∀ X, LnsAt X (.slice (some ⟨lb, lo, none⟩) L lc) Ls → lb < X.heap.size) := Lib.hid fun X hX => by
          obtain ⟨lb', lo', hlb, llt, c0, c1⟩ := hX.at i (s, e) HXI.out
          injection hlb with hlb
          injection hlb with hlb1 hlb2
          subst hlb1
          exact llt
        clear c0 c1 c31 lx llt HX HLN
        refine region_held_at (S := fun X => Hid (TxIn W W.heap.size a0 n ds X ∧ LnsAt X (.slice (some ⟨lb, lo, none⟩) L lc) Ls)) (by kernel_rfl) (fun w9 hw9 => ?_)
        have SV : Hid (TxIn W W.heap.size a0 n ds w9 ∧ LnsAt w9 (.slice (some ⟨lb, lo, none⟩) L lc) Ls) := Lib.hid ⟨HX8.out.below (by rw [← hw9]; exact (Below.refl _ _).drew), HL8.out.below (by rw [← hw9]; exact (Below.refl _ _).drew)⟩
        clear hw9
        refine wpAnyH_take (i := 0) (v := .agg ds) rfl (by kernel_rfl) (by kernel_rfl) (by kernel_rfl) (fun _ _ _ h => h) (yields_loadL (by rfl) 35 (.tmp 2) rfl _ rfl ds _ (fun X hX => hX.out.1.load) Try.underlying35 rfl (nd_infoC HX8.out.eq)) SV ?_
        refine wpAnyH_take (i := 1) (v := .slice (some ⟨lb, lo, none⟩) L lc) rfl (by kernel_rfl) (by kernel_rfl) (by kernel_rfl) (fun _ _ _ h => h) (Or.inl ⟨by rfl, ?_⟩) SV ?_
        · intro X hX; go_simp
        refine wpAnyH_take (i := 2) (v := .int .i64 i) rfl (by kernel_rfl) (by kernel_rfl) (by kernel_rfl) (fun _ _ _ h => h) (Or.inl ⟨by rfl, ?_⟩) SV ?_
        · intro X hX; go_simp
        refine wpAnyH_take (i := 3) (v := .pointer (some ⟨lb, lo + i * 2, none⟩)) rfl (by kernel_rfl) (by kernel_rfl) (by kernel_rfl) (fun _ _ _ h => h) (Or.inl ⟨by rfl, ?_⟩) SV ?_
        · intro X hX; go_simp
        refine wpAnyH_take (i := 4) (v := .pointer (some ⟨lb, lo + i * 2, none⟩)) rfl (by kernel_rfl) (by kernel_rfl) (by kernel_rfl) (fun _ _ _ h => h) (Or.inl ⟨by rfl, ?_⟩) SV ?_
        · intro X hX; go_simp
        refine wpAnyH_take (i := 5) (v := .int .i64 s) rfl (by kernel_rfl) (by kernel_rfl) (by kernel_rfl) (fun _ _ _ h => h) (Or.inl ⟨by rfl, ?_⟩) SV ?_
        · intro X hX; obtain ⟨r0, r1⟩ := HCL.out X hX.out.2; go_simp
        refine wpAnyH_take (i := 6) (v := .slice (some ⟨lb, lo, none⟩) L lc) rfl (by kernel_rfl) (by kernel_rfl) (by kernel_rfl) (fun _ _ _ h => h) (Or.inl ⟨by rfl, ?_⟩) SV ?_
        · intro X hX; go_simp
        refine wpAnyH_take (i := 7) (v := .int .i64 i) rfl (by kernel_rfl) (by kernel_rfl) (by kernel_rfl) (fun _ _ _ h => h) (Or.inl ⟨by rfl, ?_⟩) SV ?_
        · intro X hX; go_simp
        refine wpAnyH_take (i := 8) (v := .pointer (some ⟨lb, lo + i * 2, none⟩)) rfl (by kernel_rfl) (by kernel_rfl) (by kernel_rfl) (fun _ _ _ h => h) (Or.inl ⟨by rfl, ?_⟩) SV ?_
        · intro X hX; go_simp
        refine wpAnyH_take (i := 9) (v := .pointer (some ⟨lb, lo + i * 2 + 1, none⟩)) rfl (by kernel_rfl) (by kernel_rfl) (by kernel_rfl) (fun _ _ _ h => h) (Or.inl ⟨by rfl, ?_⟩) SV ?_
        · intro X hX; go_simp
        refine wpAnyH_take (i := 10) (v := .int .i64 e) rfl (by kernel_rfl) (by kernel_rfl) (by kernel_rfl) (fun _ _ _ h => h) (Or.inl ⟨by rfl, ?_⟩) SV ?_
        · intro X hX; obtain ⟨r0, r1⟩ := HCL.out X hX.out.2; go_simp
        refine wpAnyH_all (rs := [11]) (by kernel_rfl) (by simp) ?_
        intro ii hii; obtain rfl : ii = 11 := by simpa using hii
        refine wpOp_step rfl (fun K hK => ?_)
        go_simp
        refine (HWS.out _ SV.out.1).mono ?_
        rintro e10 w10 ⟨rfl, hb10⟩
        have S7 : Hid (TxIn W W.heap.size a0 n ds w10 ∧ LnsAt w10 (.slice (some ⟨lb, lo, none⟩) L lc) Ls) := Lib.hid ⟨SV.out.1.below hb10, SV.out.2.below hb10⟩
        refine hK _ _ ⟨S7, ?_⟩
        clear hK K hii hb10 SV
        refine wpAnyH_take (i := 12) (v := .tuple #[.int .i64 wv, .int .i64 0]) rfl (by kernel_rfl) (by kernel_rfl) (by kernel_rfl) (fun _ _ _ h => h) (Or.inl ⟨by rfl, ?_⟩) S7 ?_
        · intro X hX; go_simp
        refine wpAnyH_take (i := 13) (v := .int .i64 wv) rfl (by kernel_rfl) (by kernel_rfl) (by kernel_rfl) (fun _ _ _ h => h) (Or.inl ⟨by rfl, ?_⟩) S7 ?_
        · intro X hX; go_simp
        refine wpAnyH_take (i := 14) (v := .int .i64 0) rfl (by kernel_rfl) (by kernel_rfl) (by kernel_rfl) (fun _ _ _ h => h) (Or.inl ⟨by rfl, ?_⟩) S7 ?_
        · intro X hX; go_simp
        refine wpAnyH_take (i := 15) (v := .int .i64 wv) rfl (by kernel_rfl) (by kernel_rfl) (by kernel_rfl) (fun _ _ _ h => h) (Or.inl ⟨by rfl, ?_⟩) S7 ?_
        · intro X hX; go_simp
        refine wpAnyH_take (i := 16) (v := .int .i64 0) rfl (by kernel_rfl) (by kernel_rfl) (by kernel_rfl) (fun _ _ _ h => h) (Or.inl ⟨by rfl, ?_⟩) S7 ?_
        · intro X hX; go_simp
        refine wpAnyH_done (by kernel_rfl) ?_ _
        obtain ⟨d0, d1⟩ := HCL.out w10 S7.out.2
        have e31 := S7.out.1.wv
        rw [HWV.out] at e31
        have lx10 := S7.out.1.lt
        have llt := HLT.out w10 S7.out.2
        clear HWS
        by_cases hgt : a1 < wv
        · have he : e = s + 1 := by
            apply Classical.byContradiction
            intro hne
            have := HFIT.out (by omega)
            omega
          have hwr : IntKind.i64.wrap ((e : Int) + 1) = (e : Int) + 1 := by simp [IntKind.wrap, IntKind.bits, IntKind.signed]; omega
          have g3 : decide (a1 < wv) = true := by simpa using hgt
          have g4 : ((e : Int) == (s : Int) + 1) = true := by simp; omega
          have g4b : ((e : Int) != (s : Int) + 1) = false := by simp; omega
          have HEE := Lib.hid he
          clear he
          by_cases hnx : e < m
          · have g5 : decide ((e : Int) < (m : Int)) = true := by simp; omega
            have g5n : decide (e < m) = true := by simp; omega
            have g6 : decide (we ≤ a1) = false := by have := HNEXT.out hnx; simp; omega
            go_wp2
            refine region_held_at (S := fun X => Hid (TxIn W W.heap.size a0 n ds X ∧ LnsAt X (.slice (some ⟨lb, lo, none⟩) L lc) Ls)) (by kernel_rfl) (fun w9 hw9 => ?_)
            have SV : Hid (TxIn W W.heap.size a0 n ds w9 ∧ LnsAt w9 (.slice (some ⟨lb, lo, none⟩) L lc) Ls) := Lib.hid ⟨S7.out.1.below (by rw [← hw9]; exact (Below.refl _ _).drew), S7.out.2.below (by rw [← hw9]; exact (Below.refl _ _).drew)⟩
            clear hw9
            refine wpAnyH_take (i := 0) (v := .agg ds) rfl (by kernel_rfl) (by kernel_rfl) (by kernel_rfl) (fun _ _ _ h => h) (yields_loadL (by rfl) 35 (.tmp 2) rfl _ rfl ds _ (fun X hX => hX.out.1.load) Try.underlying35 rfl (nd_infoC HX8.out.eq)) SV ?_
            refine wpAnyH_take (i := 1) (v := .slice (some ⟨lb, lo, none⟩) L lc) rfl (by kernel_rfl) (by kernel_rfl) (by kernel_rfl) (fun _ _ _ h => h) (Or.inl ⟨by rfl, ?_⟩) SV ?_
            · intro X hX; go_simp
            refine wpAnyH_take (i := 2) (v := .int .i64 i) rfl (by kernel_rfl) (by kernel_rfl) (by kernel_rfl) (fun _ _ _ h => h) (Or.inl ⟨by rfl, ?_⟩) SV ?_
            · intro X hX; go_simp
            refine wpAnyH_take (i := 3) (v := .pointer (some ⟨lb, lo + i * 2, none⟩)) rfl (by kernel_rfl) (by kernel_rfl) (by kernel_rfl) (fun _ _ _ h => h) (Or.inl ⟨by rfl, ?_⟩) SV ?_
            · intro X hX; go_simp
            refine wpAnyH_take (i := 4) (v := .pointer (some ⟨lb, lo + i * 2, none⟩)) rfl (by kernel_rfl) (by kernel_rfl) (by kernel_rfl) (fun _ _ _ h => h) (Or.inl ⟨by rfl, ?_⟩) SV ?_
            · intro X hX; go_simp
            refine wpAnyH_take (i := 5) (v := .int .i64 s) rfl (by kernel_rfl) (by kernel_rfl) (by kernel_rfl) (fun _ _ _ h => h) (Or.inl ⟨by rfl, ?_⟩) SV ?_
            · intro X hX; obtain ⟨r0, r1⟩ := HCL.out X hX.out.2; go_simp
            refine wpAnyH_take (i := 6) (v := .int .i64 e) rfl (by kernel_rfl) (by kernel_rfl) (by kernel_rfl) (fun _ _ _ h => h) (Or.inl ⟨by rfl, ?_⟩) SV ?_
            · intro X hX; go_simp
            refine wpAnyH_take (i := 7) (v := .int .i64 ((e : Int) + 1)) rfl (by kernel_rfl) (by kernel_rfl) (by kernel_rfl) (fun _ _ _ h => h) (Or.inl ⟨by rfl, ?_⟩) SV ?_
            · intro X hX; go_simp
            clear S7
            refine wpAnyH_all (rs := [8]) (by kernel_rfl) (by simp) ?_
            intro ii hii; obtain rfl : ii = 8 := by simpa using hii
            refine wpOp_step rfl (fun K hK => ?_)
            go_simp
            refine (HWE.out _ SV.out.1 hnx).mono ?_
            rintro e10 w10 ⟨rfl, hb10⟩
            have S7 : Hid (TxIn W W.heap.size a0 n ds w10 ∧ LnsAt w10 (.slice (some ⟨lb, lo, none⟩) L lc) Ls) := Lib.hid ⟨SV.out.1.below hb10, SV.out.2.below hb10⟩
            refine hK _ _ ⟨S7, ?_⟩
            clear hK K hii hb10 SV
            refine wpAnyH_take (i := 9) (v := .tuple #[.int .i64 we, .int .i64 0]) rfl (by kernel_rfl) (by kernel_rfl) (by kernel_rfl) (fun _ _ _ h => h) (Or.inl ⟨by rfl, ?_⟩) S7 ?_
            · intro X hX; go_simp
            refine wpAnyH_take (i := 10) (v := .int .i64 we) rfl (by kernel_rfl) (by kernel_rfl) (by kernel_rfl) (fun _ _ _ h => h) (Or.inl ⟨by rfl, ?_⟩) S7 ?_
            · intro X hX; go_simp
            refine wpAnyH_take (i := 11) (v := .int .i64 0) rfl (by kernel_rfl) (by kernel_rfl) (by kernel_rfl) (fun _ _ _ h => h) (Or.inl ⟨by rfl, ?_⟩) S7 ?_
            · intro X hX; go_simp
            refine wpAnyH_take (i := 12) (v := .int .i64 we) rfl (by kernel_rfl) (by kernel_rfl) (by kernel_rfl) (fun _ _ _ h => h) (Or.inl ⟨by rfl, ?_⟩) S7 ?_
            · intro X hX; go_simp
            refine wpAnyH_take (i := 13) (v := .int .i64 0) rfl (by kernel_rfl) (by kernel_rfl) (by kernel_rfl) (fun _ _ _ h => h) (Or.inl ⟨by rfl, ?_⟩) S7 ?_
            · intro X hX; go_simp
            refine wpAnyH_done (by kernel_rfl) ?_ _
            go_wp2
            go_roundw
            case rel => exact ⟨i + 1, e, by omega, hem, by go_num, rfl, HRS, Lib.hid S7.out.1, Lib.hid S7.out.2⟩
            case measure => simp [intOf]; omega
          · have g5 : decide ((e : Int) < (m : Int)) = false := by simp; omega
            have g5n : decide (e < m) = false := by simp; omega
            go_wp2
            go_roundw
            case rel => exact ⟨i + 1, e, by omega, hem, by go_num, rfl, HRS, Lib.hid S7.out.1, Lib.hid S7.out.2⟩
            case measure => simp [intOf]; omega

        · have hwr : IntKind.i64.wrap ((e : Int) + 1) = (e : Int) + 1 := by simp [IntKind.wrap, IntKind.bits, IntKind.signed]; omega
          have g3 : decide (a1 < wv) = false := by simpa using hgt
          by_cases hnx : e < m
          · have g5 : decide ((e : Int) < (m : Int)) = true := by simp; omega
            have g5n : decide (e < m) = true := by simp; omega
            have g6 : decide (we ≤ a1) = false := by have := HNEXT.out hnx; simp; omega
            go_wp2
            refine region_held_at (S := fun X => Hid (TxIn W W.heap.size a0 n ds X ∧ LnsAt X (.slice (some ⟨lb, lo, none⟩) L lc) Ls)) (by kernel_rfl) (fun w9 hw9 => ?_)
            have SV : Hid (TxIn W W.heap.size a0 n ds w9 ∧ LnsAt w9 (.slice (some ⟨lb, lo, none⟩) L lc) Ls) := Lib.hid ⟨S7.out.1.below (by rw [← hw9]; exact (Below.refl _ _).drew), S7.out.2.below (by rw [← hw9]; exact (Below.refl _ _).drew)⟩
            clear hw9
            refine wpAnyH_take (i := 0) (v := .agg ds) rfl (by kernel_rfl) (by kernel_rfl) (by kernel_rfl) (fun _ _ _ h => h) (yields_loadL (by rfl) 35 (.tmp 2) rfl _ rfl ds _ (fun X hX => hX.out.1.load) Try.underlying35 rfl (nd_infoC HX8.out.eq)) SV ?_
            refine wpAnyH_take (i := 1) (v := .slice (some ⟨lb, lo, none⟩) L lc) rfl (by kernel_rfl) (by kernel_rfl) (by kernel_rfl) (fun _ _ _ h => h) (Or.inl ⟨by rfl, ?_⟩) SV ?_
            · intro X hX; go_simp
            refine wpAnyH_take (i := 2) (v := .int .i64 i) rfl (by kernel_rfl) (by kernel_rfl) (by kernel_rfl) (fun _ _ _ h => h) (Or.inl ⟨by rfl, ?_⟩) SV ?_
            · intro X hX; go_simp
            refine wpAnyH_take (i := 3) (v := .pointer (some ⟨lb, lo + i * 2, none⟩)) rfl (by kernel_rfl) (by kernel_rfl) (by kernel_rfl) (fun _ _ _ h => h) (Or.inl ⟨by rfl, ?_⟩) SV ?_
            · intro X hX; go_simp
            refine wpAnyH_take (i := 4) (v := .pointer (some ⟨lb, lo + i * 2, none⟩)) rfl (by kernel_rfl) (by kernel_rfl) (by kernel_rfl) (fun _ _ _ h => h) (Or.inl ⟨by rfl, ?_⟩) SV ?_
            · intro X hX; go_simp
            refine wpAnyH_take (i := 5) (v := .int .i64 s) rfl (by kernel_rfl) (by kernel_rfl) (by kernel_rfl) (fun _ _ _ h => h) (Or.inl ⟨by rfl, ?_⟩) SV ?_
            · intro X hX; obtain ⟨r0, r1⟩ := HCL.out X hX.out.2; go_simp
            refine wpAnyH_take (i := 6) (v := .int .i64 e) rfl (by kernel_rfl) (by kernel_rfl) (by kernel_rfl) (fun _ _ _ h => h) (Or.inl ⟨by rfl, ?_⟩) SV ?_
            · intro X hX; go_simp
            refine wpAnyH_take (i := 7) (v := .int .i64 ((e : Int) + 1)) rfl (by kernel_rfl) (by kernel_rfl) (by kernel_rfl) (fun _ _ _ h => h) (Or.inl ⟨by rfl, ?_⟩) SV ?_
            · intro X hX; go_simp
            clear S7
            refine wpAnyH_all (rs := [8]) (by kernel_rfl) (by simp) ?_
            intro ii hii; obtain rfl : ii = 8 := by simpa using hii
            refine wpOp_step rfl (fun K hK => ?_)
            go_simp
            refine (HWE.out _ SV.out.1 hnx).mono ?_
            rintro e10 w10 ⟨rfl, hb10⟩
            have S7 : Hid (TxIn W W.heap.size a0 n ds w10 ∧ LnsAt w10 (.slice (some ⟨lb, lo, none⟩) L lc) Ls) := Lib.hid ⟨SV.out.1.below hb10, SV.out.2.below hb10⟩
            refine hK _ _ ⟨S7, ?_⟩
            clear hK K hii hb10 SV
            refine wpAnyH_take (i := 9) (v := .tuple #[.int .i64 we, .int .i64 0]) rfl (by kernel_rfl) (by kernel_rfl) (by kernel_rfl) (fun _ _ _ h => h) (Or.inl ⟨by rfl, ?_⟩) S7 ?_
            · intro X hX; go_simp
            refine wpAnyH_take (i := 10) (v := .int .i64 we) rfl (by kernel_rfl) (by kernel_rfl) (by kernel_rfl) (fun _ _ _ h => h) (Or.inl ⟨by rfl, ?_⟩) S7 ?_
            · intro X hX; go_simp
            refine wpAnyH_take (i := 11) (v := .int .i64 0) rfl (by kernel_rfl) (by kernel_rfl) (by kernel_rfl) (fun _ _ _ h => h) (Or.inl ⟨by rfl, ?_⟩) S7 ?_
            · intro X hX; go_simp
            refine wpAnyH_take (i := 12) (v := .int .i64 we) rfl (by kernel_rfl) (by kernel_rfl) (by kernel_rfl) (fun _ _ _ h => h) (Or.inl ⟨by rfl, ?_⟩) S7 ?_
            · intro X hX; go_simp
            refine wpAnyH_take (i := 13) (v := .int .i64 0) rfl (by kernel_rfl) (by kernel_rfl) (by kernel_rfl) (fun _ _ _ h => h) (Or.inl ⟨by rfl, ?_⟩) S7 ?_
            · intro X hX; go_simp
            refine wpAnyH_done (by kernel_rfl) ?_ _
            go_wp2
            go_roundw
            case rel => exact ⟨i + 1, e, by omega, hem, by go_num, rfl, HRS, Lib.hid S7.out.1, Lib.hid S7.out.2⟩
            case measure => simp [intOf]; omega
          · have g5 : decide ((e : Int) < (m : Int)) = false := by simp; omega
            have g5n : decide (e < m) = false := by simp; omega
            go_wp2
            go_roundw
            case rel => exact ⟨i + 1, e, by omega, hem, by go_num, rfl, HRS, Lib.hid S7.out.1, Lib.hid S7.out.2⟩
            case measure => simp [intOf]; omega

      · obtain rfl : i = L := by omega
        have hs : s = m := by
          have := HBK.out
          rw [List.drop_of_length_le (by rw [HL.out]; exact Nat.le_refl _)] at this
          exact this
        have c31 := HX.out.wv
        rw [HWV.out] at c31
        have lx := HX.out.lt
        have HXL := Lib.hid HX.out.lo
        subst hs
        clear HBK HLN
        go_wp2
        go_ret
        exact ⟨by simp, HXL.out⟩

set_option maxRecDepth 100000 in
theorem lifted (os : Os) (started : os.Started) (H : Type) (enc : TypeId × Value → H) :
    ReturnsInHanded {} Try.checked os 5 .any (Rows.linesAllSpec.pre6 enc Try.prog Try.f5 Rows.linesAllRow.domain false) (Rows.linesAllSpec.post enc Try.prog Try.f5 false true false false) := by
  refine returnsInHanded_of_change (C := Try.checked) own started (by kernel_rfl) Try.func5
    (ChangeSpec.witness6 (enc := enc) (C := Try.checked) false ⟨#[], #[.agg #[.int .i64 0, .slice none 0 0, .int .i64 0, .int .i64 0, .int .i64 0, .int .i64 0, .int .i64 0, .int .i64 0, .int .i64 0, .int .i64 0, .int .i64 0, .int .i64 0, .int .u32 0, .int .i64 0, .int .i64 0, .int .u32 0, .int .i64 0, .int .i64 0, .int .u32 0, .int .i64 0, .int .i64 0, .int .u32 0, .int .i64 0, .int .i64 0, .int .i64 0, .bool false, .bool false, .int .i64 0, .int .i64 0, .bool false, .bool false, .slice none 0 0, .int .i64 0, .int .i64 0], .int .i64 0], []⟩ 8 (by kernel_rfl) (by kernel_rfl) (by kernel_rfl) (by kernel_rfl)) ?_
  intro W base args ds gs before hval0 hW hcnd _
  have hval : ∀ (j : Nat) t v, Try.f5.params[j]? = some t → args[j]? = some v → Value.okWide Try.prog W .any base t v := hval0
  have hW' := hW
  obtain ⟨p, q, hA0, hV, rfl, hfz, hnd⟩ := hW
  have hA : DataW.TrodAll enc Try.prog W 0 (fun _ => true) true Try.f5.params.toList args.toList ds p := hA0
  rw [Try.params5] at hA hval
  obtain ⟨v0, vs0, d0, ds0, p0, q0, hargs, rfl, rfl, h0, r0⟩ := trodAll_cons hA
  obtain ⟨v1, vs1, d1, ds1, p1, q1, rfl, rfl, rfl, h1, r1⟩ := trodAll_cons r0
  obtain ⟨rfl, rfl, rfl⟩ := trodAll_nil r1
  obtain rfl : args = #[v0, v1] := by cases args; simp_all
  obtain ⟨rfl, rfl⟩ := trodVars_none hV
  have k0 := h0
  have lt0 : ∀ x ∈ p0, x.block < W.heap.size := by obtain ⟨m, hm⟩ := k0; exact DataW.trod_lt m _ _ _ hm
  obtain ⟨a0, rfl, w0⟩ := open_node (hval 0 35 v0 rfl rfl) h0
  obtain ⟨a1, rfl, rfl, rfl, w1⟩ := open_int Try.underlying2 (hval 1 2 v1 rfl rfl) h1
  clear hA0 hval0
  simp only [List.append_nil] at hW'
  refine (walk W a0 w0 a1 w1).mono fun e W' ⟨he, hg⟩ => ?_
  subst he
  exact ⟨_, rfl, _, _, _, [], _, [], hW', (trodAll_cons_mk (shut_bool Try.underlying4 _) trodAll_mk0), (trodAll_cons_mk (Below.trod laidOut (by kernel_rfl) (of_decide_eq_true (by kernel_rfl)) k0 hg lt0) (trodAll_cons_mk (shut_int Try.underlying2 w1) trodAll_mk0)), rfl, hg.frame _, fun h => by cases h⟩

theorem over : Rows.linesAllRow.holds Try.pinned (OpenSpec.ofChange Rows.linesAllSpec) :=
  OpenClaim.holds_of_wide 5 Try.f5 rfl rfl rfl rfl rfl rfl rfl ⟨rfl, rfl, rfl, rfl, rfl⟩ rfl rfl rfl rfl rfl (by kernel_rfl) Try.func5 (by kernel_rfl)
    (of_decide_eq_true (by kernel_rfl)) (by unfold Func.isWrapper; first | (rw [if_pos (by decide +kernel)]; kernel_rfl) | (rw [if_neg (by decide +kernel)]; exact ⟨rfl, rfl⟩))
    (fun os started H enc _ => lifted os started H enc)

/-- the statement -/
theorem proved : Rows.LinesAllSaid :=
  over
#print axioms proved
end Go.Proofs.Ythgkjgaebgpplaa.linesAll
