/- What a text needs by the document (purflingref08.Box). Written by mk_LnRefB.py. -/
import Derived.Test.YthgkjgaebgpplaaLnRefB
namespace Go.Proofs.Ythgkjgaebgpplaa
open Go.RowKit Go.Shelf
set_option linter.unusedVariables false
attribute [local go_sem] Oper.semAt_some

theorem yields_loadL {P : Program} {ops : Array Oper} {S : World → Prop} {op : Oper} {a : Act} (hw : Region.wanted op (yielded ops a.tmps) = true) (ty : TypeId) (x : Operand) (ho : op.op = .load ty x)
    (p : Addr) (hx : a.eval x = .pointer (some p)) (cs : Array Value) (d : TypeDesc) (hc : ∀ X, S X → ∀ j v, cs[j]? = some v → X.cell? (p.add j) = some v)
    (hu : P.underlying ty = some d) (hd : (match d with | .struct _ | .array _ _ => true | _ => false) = true) (hi : (P.info? ty).map (·.size) = some cs.size) : YieldsIf P ops S op (.agg cs) a :=
  .inl ⟨hw, fun w hw' => by
    unfold execOp
    simp only [ho, hx, Instr.loadAt, Instr.sureAddr, Sem.run_bind, Sem.run_pure, Result.andThen_ok, run_loadVar_at w p ty cs d (hc w hw') hu hd hi]⟩
theorem at_worldQ {a : Act} {W : World} {Q : Exit → Act → World → Prop} (p : World → Prop) (h : p W) (k : ∀ X, p X → Q .normal a X) : Q .normal a W := k W h
theorem results_box1 {fn : Func} {W : World} {g : Nat} {cs : List Value} {tmps : Array Value} (hf : fn.results = #[.cell 4 43]) (hl : cs.length = 5) (ht : tmps.getD 4 undef = .pointer (some ⟨g, 0, none⟩)) (h : Whole W g 43 cs) :
    (results fn tmps).run Try.prog W = .ok (.agg cs.toArray) W :=
  results_cell_row hf tmps W g 43 cs.toArray (0, 0) _ ht h Try.underlying43 rfl (by
    have h : (Try.prog.info? 43).map (·.size) = some 5 := by kernel_rfl
    rw [h]; simp [hl])
def zBox : List Value := [.int .i64 0, .int .i64 0, .int .i64 0, .int .i64 0, .bool false]
/-- what stays while a box is built -/
structure SB (w : World) (n : Nd) (X : World) : Prop where
  nd : NdIn n w.heap.size X
  z : Whole X (w.heap.size + 1) 43 [.int .i64 0, .int .i64 0, .int .i64 0, .int .i64 0, .bool false]
  lo : Below w.heap.size w X
theorem SB.below {w : World} {n : Nd} {X Y : World} (h : SB w n X) (hb : Below X.heap.size X Y) : SB w n Y := ⟨h.nd.below hb, h.z.below hb h.z.lt, h.lo.trans (hb.mono h.lo.size)⟩
theorem SB.set {w : World} {n : Nd} {X : World} (h : SB w n X) (h0 : n.ok w) (g i : Nat) (u : Value) (hg : w.heap.size + 1 < g) : SB w n (X.setCell ⟨g, i, none⟩ u) := by
  have hb := h.lo.setCell (p := ⟨g, i, none⟩) (by show w.heap.size ≤ g; omega) u
  exact ⟨⟨h.nd.row.other _ _ (by show w.heap.size ≠ g; omega), h0.below hb⟩, h.z.other _ _ (by show w.heap.size + 1 ≠ g; omega), hb⟩
set_option maxRecDepth 100000 in
set_option maxHeartbeats 8000000 in
theorem refBox_at (n : Nd) (w : World) (width : Int) (p : Option Addr) (m c : Nat) (h mi ma b : Int) (hok : n.ok w) (ht : TextQ n) (hwv : n.wv = .slice p m c) (hm : n.ws.length = m) (hb : n.b = b) (hh : n.h = h) (hmi : leastW n.ws = mi) (hma : wideW b n.ws 0 m = ma) :
    Calls Try.prog 18 #[n.val, .int .i64 width] w fun e W' => ∃ Ls, e = .returned (.agg (boxOf n Ls).toArray) ∧ Broke (IsLine b width n.ws) 0 Ls n.ws.length ∧ Below w.heap.size w W' := by
  have htb : okW b n.ws := by rw [← hb]; exact ht.ok
  have h0 : 0 ≤ h := by have := ht.h; omega
  have h1 : h ≤ 1073741824 := by have := ht.h; omega
  have hm64 : m ≤ 10000 := by have := ht.ok.2.1; omega
  have HN0 := NdIn.new n w hok
  obtain ⟨cs, hcs⟩ : ∃ cs, n.cells.toArray = cs := ⟨_, rfl⟩
  obtain ⟨W0, hW0⟩ : ∃ W0, (w.alloc (.cells cs 35)).alloc (.cells #[.int .i64 0, .int .i64 0, .int .i64 0, .int .i64 0, .bool false] 43) = W0 := ⟨_, rfl⟩
  have HS0 : Hid (SB w n W0) := Lib.hid (by
    rw [← hW0, ← hcs]
    refine ⟨HN0.alloc _, whole_new (w.alloc (.cells n.cells.toArray 35)) [.int .i64 0, .int .i64 0, .int .i64 0, .int .i64 0, .bool false] 43 _ (by simp), ((Below.refl _ w).alloc (Nat.le_refl _) _).alloc (by simp) _⟩)
  have hv : n.val = .agg cs := by rw [show n.val = .agg n.cells.toArray from rfl, hcs]
  have HBR := Lib.hid (fun X (hX : SB w n X) => show Calls Try.prog 17 #[.agg cs, .int .i64 width] X (fun e W' => ∃ lv Ls, e = .returned lv ∧ Broke (IsLine b width n.ws) 0 Ls n.ws.length ∧ OwnL X.heap.size W' lv Ls ∧ Below X.heap.size X W') from by
    have := refBreak_at n X p m c width b hX.nd.ok htb hwv hm hb
    rwa [hv] at this)
  have HLE := Lib.hid (fun X (hX : SB w n X) => show Calls Try.prog 22 #[.agg cs] X (fun e W' => e = .returned (.int .i64 mi) ∧ Below X.heap.size X W') from by
    have := refLeast_at n X p m c hX.nd.ok hwv hm hm64
    rwa [hv, hmi] at this)
  have HMO := Lib.hid (fun X (hX : SB w n X) => show Calls Try.prog 23 #[.agg cs] X (fun e W' => e = .returned (.int .i64 ma) ∧ Below X.heap.size X W') from by
    have := refMost_at n X p m c b hX.nd.ok htb hwv hm hb
    rwa [hv, hma] at this)
  have HLN := Lib.hid (fun (X : World) (hX : SB w n X) => hX.nd.cells' cs hcs)
  have iN := Lib.hid (nd_infoC hcs)
  have HH := Lib.hid hh
  have HOK := Lib.hid hok
  have HBOX : Hid (∀ Ls : List (Nat × Nat), boxOf n Ls = boxCells mi ma (Ls.length * h) (if 0 < Ls.length then h - h / 4 else 0) (decide (0 < Ls.length))) := Lib.hid fun Ls => by unfold boxOf; rw [hmi, hh, hm, hb, hma]
  have HM := Lib.hid hm
  have HHC : Hid (∀ X, SB w n X → X.cell? ⟨w.heap.size, 33, none⟩ = some (.int .i64 h) ∧ w.heap.size < X.heap.size) := Lib.hid fun X hX => ⟨by rw [← hh]; exact hX.nd.h, hX.nd.row.lt⟩
  rw [hv]
  clear HN0 hok ht hcs hv hwv hmi hma hh hm htb hb
  go_enter Try.func18, Try.ntmps18
  go_wp2_with (first
    | (with_reducible refine wpList_load_at rfl 35 (.tmp 2) rfl _ rfl cs _ (HLN.out _ HS0.out) Try.underlying35 rfl iN.out ?_)
    | (go_at_call 17; refine (HBR.out _ HS0.out).mono ?_; clear HBR hW0; rintro e w1 ⟨lv, Ls, rfl, hbr, hol, hb1⟩; refine Hid.out ?_))
  refine Lib.hid ?_
  obtain ⟨lp, lc, rfl⟩ := hol.form
  have HBK := Lib.hid hbr
  have hll : Ls.length ≤ m := by have := hbr.len; have := HM.out; omega
  have HS1 := Lib.hid (HS0.out.below hb1)
  clear hbr hol hb1 HS0
  obtain ⟨k, hk⟩ : ∃ k, Ls.length = k := ⟨_, rfl⟩
  rw [hk] at hll
  have HKK := Lib.hid hk
  rw [hk]
  clear hk
  have hkh : 0 ≤ (k : Int) * h := Int.mul_nonneg (by omega) h0
  have hkh2 : (k : Int) * h ≤ 10000 * 1073741824 := Int.mul_le_mul (by omega) h1 h0 (by omega)
  have HBX2 : Hid (boxOf n Ls = boxCells mi ma ((k : Int) * h) (if 0 < k then h - h / 4 else 0) (decide (0 < k))) := Lib.hid (by rw [HBOX.out, HKK.out])
  obtain ⟨kh, hmul⟩ : ∃ kh, (k : Int) * h = kh := ⟨_, rfl⟩
  rw [hmul] at hkh hkh2 HBX2
  have hwr : IntKind.i64.wrap kh = kh := by simp [IntKind.wrap, IntKind.bits, IntKind.signed]; omega
  have hdiv : Int.tdiv h 4 = h / 4 := Int.tdiv_eq_ediv_of_nonneg h0
  generalize hq : h / 4 = hd4 at hdiv HBX2
  have hq1 : 0 ≤ hd4 := by omega
  have hq2 : hd4 ≤ h := by omega
  clear hq
  go_wp2
  refine region_held_at (S := fun X => Hid (SB w n X)) (by kernel_rfl) (fun w9 hw9 => ?_)
  have SV : Hid (SB w n w9) := Lib.hid (HS1.out.below (by rw [← hw9]; exact (Below.refl _ _).drew))
  clear hw9 HS1
  refine wpAnyH_take (i := 0) (v := .agg cs) rfl (by kernel_rfl) (by kernel_rfl) (by kernel_rfl) (fun _ _ _ h => h) (yields_loadL (by rfl) 35 (.tmp 2) rfl _ rfl cs _ (fun X hX => HLN.out X hX.out) Try.underlying35 rfl iN.out) SV ?_
  refine wpAnyH_take (i := 2) (v := .agg cs) rfl (by kernel_rfl) (by kernel_rfl) (by kernel_rfl) (fun _ _ _ h => h) (yields_loadL (by rfl) 35 (.tmp 2) rfl _ rfl cs _ (fun X hX => HLN.out X hX.out) Try.underlying35 rfl iN.out) SV ?_
  refine wpAnyH_take (i := 4) (v := .int .i64 k) rfl (by kernel_rfl) (by kernel_rfl) (by kernel_rfl) (fun _ _ _ h => h) (Or.inl ⟨by rfl, ?_⟩) SV ?_
  · intro X hX; go_simp
  refine wpAnyH_take (i := 5) (v := .pointer (some ⟨w.heap.size, 33, none⟩)) rfl (by kernel_rfl) (by kernel_rfl) (by kernel_rfl) (fun _ _ _ h => h) (Or.inl ⟨by rfl, ?_⟩) SV ?_
  · intro X hX; go_simp
  refine wpAnyH_take (i := 6) (v := .int .i64 h) rfl (by kernel_rfl) (by kernel_rfl) (by kernel_rfl) (fun _ _ _ h => h) (Or.inl ⟨by rfl, ?_⟩) SV ?_
  · intro X hX; obtain ⟨r0, r1⟩ := HHC.out X hX.out; go_simp
  refine wpAnyH_take (i := 7) (v := .int .i64 kh) rfl (by kernel_rfl) (by kernel_rfl) (by kernel_rfl) (fun _ _ _ h => h) (Or.inl ⟨by rfl, ?_⟩) SV ?_
  · intro X hX; go_simp
  refine wpAnyH_all (rs := [1, 9]) (by kernel_rfl) (by simp) ?_
  intro ii hii
  rcases (show ii = 1 ∨ ii = 9 by simpa using hii) with rfl | rfl
  · refine wpOp_step rfl (fun K hK => ?_)
    go_simp
    refine (HLE.out _ SV.out).mono ?_
    rintro e10 w10 ⟨rfl, hb10⟩
    have S7 : Hid (SB w n w10) := Lib.hid (SV.out.below hb10)
    refine hK _ _ ⟨S7, ?_⟩
    clear hK K hii hb10 SV
    have SV := S7
    clear S7
    refine wpAnyH_all (rs := [3, 9]) (by kernel_rfl) (by simp) ?_
    intro ii hii
    rcases (show ii = 3 ∨ ii = 9 by simpa using hii) with rfl | rfl
    · refine wpOp_step rfl (fun K hK => ?_)
      go_simp
      refine (HMO.out _ SV.out).mono ?_
      rintro e12 w12 ⟨rfl, hb12⟩
      have S7 : Hid (SB w n w12) := Lib.hid (SV.out.below hb12)
      refine hK _ _ ⟨S7, ?_⟩
      clear hK K hii hb12 SV
      have SV := S7
      clear S7
      refine wpAnyH_take (i := 8) (v := .agg #[.int .i64 mi, .int .i64 ma, .int .i64 kh, .int .i64 0, .bool false]) rfl (by kernel_rfl) (by kernel_rfl) (by kernel_rfl) (fun _ _ _ h => h) (Or.inl ⟨by rfl, ?_⟩) SV ?_
      · intro X hX; go_simp
      refine wpAnyH_all (rs := [9]) (by kernel_rfl) (by simp) ?_
      intro ii hii; obtain rfl : ii = 9 := by simpa using hii
      refine wpOp_step rfl (fun K hK => ?_)
      go_simp
      have hz := whole_new _ [.int .i64 0, .int .i64 0, .int .i64 0, .int .i64 0, .bool false] 43 _ (Eq.refl (World.heap w12).size)
      have S8 : Hid (SB w n (World.alloc w12 (.cells #[.int .i64 0, .int .i64 0, .int .i64 0, .int .i64 0, .bool false] 43))) := Lib.hid (SV.out.below ((Below.refl _ _).alloc (Nat.le_refl _) _))
      refine hK _ _ ⟨S8, ?_⟩
      clear hK K hii
      obtain ⟨g, hg⟩ : ∃ g, (World.heap w12).size = g := ⟨_, rfl⟩
      have hgz : w.heap.size + 1 < g := by have := SV.out.z.lt; omega
      rw [hg] at hz ⊢
      clear SV hg
      have SV := S8
      clear S8
      generalize World.alloc w12 (.cells #[.int .i64 0, .int .i64 0, .int .i64 0, .int .i64 0, .bool false] 43) = w11 at hz SV ⊢
      have HG := Lib.hid (And.intro hz hgz)
      clear hz hgz
      obtain ⟨hgw, hgz⟩ := HG.out
      have z0 := hgw.cellAt 0
      have z1 := hgw.cellAt 1
      have z2 := hgw.cellAt 2
      have z3 := hgw.cellAt 3
      have z4 := hgw.cellAt 4
      have y0 := hgw.free 0
      have y1 := hgw.free 1
      have y2 := hgw.free 2
      have y3 := hgw.free 3
      have y4 := hgw.free 4
      have yl := hgw.lt
      refine wpAnyH_all (rs := [10]) (by kernel_rfl) (by simp) ?_
      intro ii hii; obtain rfl : ii = 10 := by simpa using hii
      refine wpOp_step rfl (fun K hK => ?_)
      go_simp
      have SX := ((((SV.out.set HOK.out g 0 (.int .i64 mi) hgz).set HOK.out g 1 (.int .i64 ma) hgz).set HOK.out g 2 (.int .i64 kh) hgz).set HOK.out g 3 (.int .i64 0) hgz).set HOK.out g 4 (.bool false) hgz
      have KX := ((((hgw.set 0 (.int .i64 mi)).set 1 (.int .i64 ma)).set 2 (.int .i64 kh)).set 3 (.int .i64 0)).set 4 (.bool false)
      clear z0 z1 z2 z3 z4 y0 y1 y2 y3 y4 yl hgw
      refine hK _ _ ⟨Lib.hid SX, ?_⟩
      clear hK K hii
      refine wpAnyH_done (by kernel_rfl) ?_ _
      refine at_worldQ (fun Y => SB w n Y ∧ Whole Y g 43 [.int .i64 mi, .int .i64 ma, .int .i64 kh, .int .i64 0, .bool false]) ⟨SX, KX⟩ (fun Y hY => ?_)
      obtain ⟨SY, KY⟩ := hY
      clear SX KX HG SV
      have x0 := KY.cellAt 0
      have x1 := KY.cellAt 1
      have x2 := KY.cellAt 2
      have x3 := KY.cellAt 3
      have x4 := KY.cellAt 4
      have f3 := KY.free 3
      have f4 := KY.free 4
      have lx := KY.lt
      have u0 := SY.z.cellAt 0
      have u1 := SY.z.cellAt 1
      have u2 := SY.z.cellAt 2
      have u3 := SY.z.cellAt 3
      have u4 := SY.z.cellAt 4
      have v0 := SY.z.free 0
      have v1 := SY.z.free 1
      have v2 := SY.z.free 2
      have v3 := SY.z.free 3
      have v4 := SY.z.free 4
      have lu := SY.z.lt
      obtain ⟨e33, lg⟩ := HHC.out Y SY
      have HSY := Lib.hid (And.intro SY KY)
      have hj1 : ¬ g = w.heap.size := by omega
      have hj2 : ¬ g = w.heap.size + 1 := by omega
      have hj3 : ¬ w.heap.size = g := by omega
      have hj4 : ¬ w.heap.size + 1 = g := by omega
      clear SY KY
      by_cases hk0 : 0 < k
      · have gk : decide ((0 : Int) < (k : Int)) = true := by simp; omega
        have gkn : decide (0 < k) = true := by simp; omega
        go_wp2
        refine bodyPost_ret (results_box1 (g := w.heap.size + 1) (cs := boxOf n Ls) rfl (by rw [HBX2.out]; rfl) rfl ?_) rfl ⟨Ls, rfl, HBK.out, ?_⟩
        · rw [HBX2.out, if_pos hk0, show decide (0 < k) = true by simpa using hk0]
          exact (((((((HSY.out.1.z.other ⟨g, 4, none⟩ (.bool true) (by show w.heap.size + 1 ≠ g; omega)).other ⟨g, 3, none⟩ (.int .i64 (h - hd4)) (by show w.heap.size + 1 ≠ g; omega)).set 0 (.int .i64 mi)).set 1 (.int .i64 ma)).set 2 (.int .i64 kh)).set 3 (.int .i64 (h - hd4))).set 4 (.bool true))
        · exact (((((((HSY.out.1.lo.setCell (p := ⟨g, 4, none⟩) (by show w.heap.size ≤ g; omega) _).setCell (p := ⟨g, 3, none⟩) (by show w.heap.size ≤ g; omega) _).setCell (p := ⟨w.heap.size + 1, 0, none⟩) (Nat.le_succ _) _).setCell (p := ⟨w.heap.size + 1, 1, none⟩) (Nat.le_succ _) _).setCell (p := ⟨w.heap.size + 1, 2, none⟩) (Nat.le_succ _) _).setCell (p := ⟨w.heap.size + 1, 3, none⟩) (Nat.le_succ _) _).setCell (p := ⟨w.heap.size + 1, 4, none⟩) (Nat.le_succ _) _)
      · have gk : decide ((0 : Int) < (k : Int)) = false := by simp; omega
        have gkn : decide (0 < k) = false := by simp; omega
        go_wp2
        refine bodyPost_ret (results_box1 (g := w.heap.size + 1) (cs := boxOf n Ls) rfl (by rw [HBX2.out]; rfl) rfl ?_) rfl ⟨Ls, rfl, HBK.out, ?_⟩
        · rw [HBX2.out, if_neg hk0, show decide (0 < k) = false by simpa using hk0]
          exact (((((HSY.out.1.z.set 0 (.int .i64 mi)).set 1 (.int .i64 ma)).set 2 (.int .i64 kh)).set 3 (.int .i64 0)).set 4 (.bool false))
        · exact (((((HSY.out.1.lo.setCell (p := ⟨w.heap.size + 1, 0, none⟩) (Nat.le_succ _) _).setCell (p := ⟨w.heap.size + 1, 1, none⟩) (Nat.le_succ _) _).setCell (p := ⟨w.heap.size + 1, 2, none⟩) (Nat.le_succ _) _).setCell (p := ⟨w.heap.size + 1, 3, none⟩) (Nat.le_succ _) _).setCell (p := ⟨w.heap.size + 1, 4, none⟩) (Nat.le_succ _) _)
    · refine wpOp_step rfl (fun K hK => ?_)
      go_simp
      have hz := whole_new _ [.int .i64 0, .int .i64 0, .int .i64 0, .int .i64 0, .bool false] 43 _ (Eq.refl (World.heap w10).size)
      have S8 : Hid (SB w n (World.alloc w10 (.cells #[.int .i64 0, .int .i64 0, .int .i64 0, .int .i64 0, .bool false] 43))) := Lib.hid (SV.out.below ((Below.refl _ _).alloc (Nat.le_refl _) _))
      refine hK _ _ ⟨S8, ?_⟩
      clear hK K hii
      obtain ⟨g, hg⟩ : ∃ g, (World.heap w10).size = g := ⟨_, rfl⟩
      have hgz : w.heap.size + 1 < g := by have := SV.out.z.lt; omega
      rw [hg] at hz ⊢
      clear SV hg
      have SV := S8
      clear S8
      generalize World.alloc w10 (.cells #[.int .i64 0, .int .i64 0, .int .i64 0, .int .i64 0, .bool false] 43) = w11 at hz SV ⊢
      have HG := Lib.hid (And.intro hz hgz)
      clear hz hgz
      refine wpAnyH_all (rs := [3]) (by kernel_rfl) (by simp) ?_
      intro ii hii; obtain rfl : ii = 3 := by simpa using hii
      refine wpOp_step rfl (fun K hK => ?_)
      go_simp
      refine (HMO.out _ SV.out).mono ?_
      rintro e12 w12 ⟨rfl, hb12⟩
      have S7 : Hid (SB w n w12) := Lib.hid (SV.out.below hb12)
      have HG7 := Lib.hid (And.intro (HG.out.1.below hb12 HG.out.1.lt) HG.out.2)
      clear HG
      have HG := HG7
      clear HG7
      refine hK _ _ ⟨S7, ?_⟩
      clear hK K hii hb12 SV
      have SV := S7
      clear S7
      refine wpAnyH_take (i := 8) (v := .agg #[.int .i64 mi, .int .i64 ma, .int .i64 kh, .int .i64 0, .bool false]) rfl (by kernel_rfl) (by kernel_rfl) (by kernel_rfl) (fun _ _ _ h => h) (Or.inl ⟨by rfl, ?_⟩) SV ?_
      · intro X hX; go_simp
      obtain ⟨hgw, hgz⟩ := HG.out
      have z0 := hgw.cellAt 0
      have z1 := hgw.cellAt 1
      have z2 := hgw.cellAt 2
      have z3 := hgw.cellAt 3
      have z4 := hgw.cellAt 4
      have y0 := hgw.free 0
      have y1 := hgw.free 1
      have y2 := hgw.free 2
      have y3 := hgw.free 3
      have y4 := hgw.free 4
      have yl := hgw.lt
      refine wpAnyH_all (rs := [10]) (by kernel_rfl) (by simp) ?_
      intro ii hii; obtain rfl : ii = 10 := by simpa using hii
      refine wpOp_step rfl (fun K hK => ?_)
      go_simp
      have SX := ((((SV.out.set HOK.out g 0 (.int .i64 mi) hgz).set HOK.out g 1 (.int .i64 ma) hgz).set HOK.out g 2 (.int .i64 kh) hgz).set HOK.out g 3 (.int .i64 0) hgz).set HOK.out g 4 (.bool false) hgz
      have KX := ((((hgw.set 0 (.int .i64 mi)).set 1 (.int .i64 ma)).set 2 (.int .i64 kh)).set 3 (.int .i64 0)).set 4 (.bool false)
      clear z0 z1 z2 z3 z4 y0 y1 y2 y3 y4 yl hgw
      refine hK _ _ ⟨Lib.hid SX, ?_⟩
      clear hK K hii
      refine wpAnyH_done (by kernel_rfl) ?_ _
      refine at_worldQ (fun Y => SB w n Y ∧ Whole Y g 43 [.int .i64 mi, .int .i64 ma, .int .i64 kh, .int .i64 0, .bool false]) ⟨SX, KX⟩ (fun Y hY => ?_)
      obtain ⟨SY, KY⟩ := hY
      clear SX KX HG SV
      have x0 := KY.cellAt 0
      have x1 := KY.cellAt 1
      have x2 := KY.cellAt 2
      have x3 := KY.cellAt 3
      have x4 := KY.cellAt 4
      have f3 := KY.free 3
      have f4 := KY.free 4
      have lx := KY.lt
      have u0 := SY.z.cellAt 0
      have u1 := SY.z.cellAt 1
      have u2 := SY.z.cellAt 2
      have u3 := SY.z.cellAt 3
      have u4 := SY.z.cellAt 4
      have v0 := SY.z.free 0
      have v1 := SY.z.free 1
      have v2 := SY.z.free 2
      have v3 := SY.z.free 3
      have v4 := SY.z.free 4
      have lu := SY.z.lt
      obtain ⟨e33, lg⟩ := HHC.out Y SY
      have HSY := Lib.hid (And.intro SY KY)
      have hj1 : ¬ g = w.heap.size := by omega
      have hj2 : ¬ g = w.heap.size + 1 := by omega
      have hj3 : ¬ w.heap.size = g := by omega
      have hj4 : ¬ w.heap.size + 1 = g := by omega
      clear SY KY
      by_cases hk0 : 0 < k
      · have gk : decide ((0 : Int) < (k : Int)) = true := by simp; omega
        have gkn : decide (0 < k) = true := by simp; omega
        go_wp2
        refine bodyPost_ret (results_box1 (g := w.heap.size + 1) (cs := boxOf n Ls) rfl (by rw [HBX2.out]; rfl) rfl ?_) rfl ⟨Ls, rfl, HBK.out, ?_⟩
        · rw [HBX2.out, if_pos hk0, show decide (0 < k) = true by simpa using hk0]
          exact (((((((HSY.out.1.z.other ⟨g, 4, none⟩ (.bool true) (by show w.heap.size + 1 ≠ g; omega)).other ⟨g, 3, none⟩ (.int .i64 (h - hd4)) (by show w.heap.size + 1 ≠ g; omega)).set 0 (.int .i64 mi)).set 1 (.int .i64 ma)).set 2 (.int .i64 kh)).set 3 (.int .i64 (h - hd4))).set 4 (.bool true))
        · exact (((((((HSY.out.1.lo.setCell (p := ⟨g, 4, none⟩) (by show w.heap.size ≤ g; omega) _).setCell (p := ⟨g, 3, none⟩) (by show w.heap.size ≤ g; omega) _).setCell (p := ⟨w.heap.size + 1, 0, none⟩) (Nat.le_succ _) _).setCell (p := ⟨w.heap.size + 1, 1, none⟩) (Nat.le_succ _) _).setCell (p := ⟨w.heap.size + 1, 2, none⟩) (Nat.le_succ _) _).setCell (p := ⟨w.heap.size + 1, 3, none⟩) (Nat.le_succ _) _).setCell (p := ⟨w.heap.size + 1, 4, none⟩) (Nat.le_succ _) _)
      · have gk : decide ((0 : Int) < (k : Int)) = false := by simp; omega
        have gkn : decide (0 < k) = false := by simp; omega
        go_wp2
        refine bodyPost_ret (results_box1 (g := w.heap.size + 1) (cs := boxOf n Ls) rfl (by rw [HBX2.out]; rfl) rfl ?_) rfl ⟨Ls, rfl, HBK.out, ?_⟩
        · rw [HBX2.out, if_neg hk0, show decide (0 < k) = false by simpa using hk0]
          exact (((((HSY.out.1.z.set 0 (.int .i64 mi)).set 1 (.int .i64 ma)).set 2 (.int .i64 kh)).set 3 (.int .i64 0)).set 4 (.bool false))
        · exact (((((HSY.out.1.lo.setCell (p := ⟨w.heap.size + 1, 0, none⟩) (Nat.le_succ _) _).setCell (p := ⟨w.heap.size + 1, 1, none⟩) (Nat.le_succ _) _).setCell (p := ⟨w.heap.size + 1, 2, none⟩) (Nat.le_succ _) _).setCell (p := ⟨w.heap.size + 1, 3, none⟩) (Nat.le_succ _) _).setCell (p := ⟨w.heap.size + 1, 4, none⟩) (Nat.le_succ _) _)
  · refine wpOp_step rfl (fun K hK => ?_)
    go_simp
    have hz := whole_new _ [.int .i64 0, .int .i64 0, .int .i64 0, .int .i64 0, .bool false] 43 _ (Eq.refl (World.heap w9).size)
    have S8 : Hid (SB w n (World.alloc w9 (.cells #[.int .i64 0, .int .i64 0, .int .i64 0, .int .i64 0, .bool false] 43))) := Lib.hid (SV.out.below ((Below.refl _ _).alloc (Nat.le_refl _) _))
    refine hK _ _ ⟨S8, ?_⟩
    clear hK K hii
    obtain ⟨g, hg⟩ : ∃ g, (World.heap w9).size = g := ⟨_, rfl⟩
    have hgz : w.heap.size + 1 < g := by have := SV.out.z.lt; omega
    rw [hg] at hz ⊢
    clear SV hg
    have SV := S8
    clear S8
    generalize World.alloc w9 (.cells #[.int .i64 0, .int .i64 0, .int .i64 0, .int .i64 0, .bool false] 43) = w11 at hz SV ⊢
    have HG := Lib.hid (And.intro hz hgz)
    clear hz hgz
    refine wpAnyH_all (rs := [1]) (by kernel_rfl) (by simp) ?_
    intro ii hii; obtain rfl : ii = 1 := by simpa using hii
    refine wpOp_step rfl (fun K hK => ?_)
    go_simp
    refine (HLE.out _ SV.out).mono ?_
    rintro e10 w10 ⟨rfl, hb10⟩
    have S7 : Hid (SB w n w10) := Lib.hid (SV.out.below hb10)
    have HG7 := Lib.hid (And.intro (HG.out.1.below hb10 HG.out.1.lt) HG.out.2)
    clear HG
    have HG := HG7
    clear HG7
    refine hK _ _ ⟨S7, ?_⟩
    clear hK K hii hb10 SV
    have SV := S7
    clear S7
    refine wpAnyH_all (rs := [3]) (by kernel_rfl) (by simp) ?_
    intro ii hii; obtain rfl : ii = 3 := by simpa using hii
    refine wpOp_step rfl (fun K hK => ?_)
    go_simp
    refine (HMO.out _ SV.out).mono ?_
    rintro e12 w12 ⟨rfl, hb12⟩
    have S7 : Hid (SB w n w12) := Lib.hid (SV.out.below hb12)
    have HG7 := Lib.hid (And.intro (HG.out.1.below hb12 HG.out.1.lt) HG.out.2)
    clear HG
    have HG := HG7
    clear HG7
    refine hK _ _ ⟨S7, ?_⟩
    clear hK K hii hb12 SV
    have SV := S7
    clear S7
    refine wpAnyH_take (i := 8) (v := .agg #[.int .i64 mi, .int .i64 ma, .int .i64 kh, .int .i64 0, .bool false]) rfl (by kernel_rfl) (by kernel_rfl) (by kernel_rfl) (fun _ _ _ h => h) (Or.inl ⟨by rfl, ?_⟩) SV ?_
    · intro X hX; go_simp
    obtain ⟨hgw, hgz⟩ := HG.out
    have z0 := hgw.cellAt 0
    have z1 := hgw.cellAt 1
    have z2 := hgw.cellAt 2
    have z3 := hgw.cellAt 3
    have z4 := hgw.cellAt 4
    have y0 := hgw.free 0
    have y1 := hgw.free 1
    have y2 := hgw.free 2
    have y3 := hgw.free 3
    have y4 := hgw.free 4
    have yl := hgw.lt
    refine wpAnyH_all (rs := [10]) (by kernel_rfl) (by simp) ?_
    intro ii hii; obtain rfl : ii = 10 := by simpa using hii
    refine wpOp_step rfl (fun K hK => ?_)
    go_simp
    have SX := ((((SV.out.set HOK.out g 0 (.int .i64 mi) hgz).set HOK.out g 1 (.int .i64 ma) hgz).set HOK.out g 2 (.int .i64 kh) hgz).set HOK.out g 3 (.int .i64 0) hgz).set HOK.out g 4 (.bool false) hgz
    have KX := ((((hgw.set 0 (.int .i64 mi)).set 1 (.int .i64 ma)).set 2 (.int .i64 kh)).set 3 (.int .i64 0)).set 4 (.bool false)
    clear z0 z1 z2 z3 z4 y0 y1 y2 y3 y4 yl hgw
    refine hK _ _ ⟨Lib.hid SX, ?_⟩
    clear hK K hii
    refine wpAnyH_done (by kernel_rfl) ?_ _
    refine at_worldQ (fun Y => SB w n Y ∧ Whole Y g 43 [.int .i64 mi, .int .i64 ma, .int .i64 kh, .int .i64 0, .bool false]) ⟨SX, KX⟩ (fun Y hY => ?_)
    obtain ⟨SY, KY⟩ := hY
    clear SX KX HG SV
    have x0 := KY.cellAt 0
    have x1 := KY.cellAt 1
    have x2 := KY.cellAt 2
    have x3 := KY.cellAt 3
    have x4 := KY.cellAt 4
    have f3 := KY.free 3
    have f4 := KY.free 4
    have lx := KY.lt
    have u0 := SY.z.cellAt 0
    have u1 := SY.z.cellAt 1
    have u2 := SY.z.cellAt 2
    have u3 := SY.z.cellAt 3
    have u4 := SY.z.cellAt 4
    have v0 := SY.z.free 0
    have v1 := SY.z.free 1
    have v2 := SY.z.free 2
    have v3 := SY.z.free 3
    have v4 := SY.z.free 4
    have lu := SY.z.lt
    obtain ⟨e33, lg⟩ := HHC.out Y SY
    have HSY := Lib.hid (And.intro SY KY)
    have hj1 : ¬ g = w.heap.size := by omega
    have hj2 : ¬ g = w.heap.size + 1 := by omega
    have hj3 : ¬ w.heap.size = g := by omega
    have hj4 : ¬ w.heap.size + 1 = g := by omega
    clear SY KY
    by_cases hk0 : 0 < k
    · have gk : decide ((0 : Int) < (k : Int)) = true := by simp; omega
      have gkn : decide (0 < k) = true := by simp; omega
      go_wp2
      refine bodyPost_ret (results_box1 (g := w.heap.size + 1) (cs := boxOf n Ls) rfl (by rw [HBX2.out]; rfl) rfl ?_) rfl ⟨Ls, rfl, HBK.out, ?_⟩
      · rw [HBX2.out, if_pos hk0, show decide (0 < k) = true by simpa using hk0]
        exact (((((((HSY.out.1.z.other ⟨g, 4, none⟩ (.bool true) (by show w.heap.size + 1 ≠ g; omega)).other ⟨g, 3, none⟩ (.int .i64 (h - hd4)) (by show w.heap.size + 1 ≠ g; omega)).set 0 (.int .i64 mi)).set 1 (.int .i64 ma)).set 2 (.int .i64 kh)).set 3 (.int .i64 (h - hd4))).set 4 (.bool true))
      · exact (((((((HSY.out.1.lo.setCell (p := ⟨g, 4, none⟩) (by show w.heap.size ≤ g; omega) _).setCell (p := ⟨g, 3, none⟩) (by show w.heap.size ≤ g; omega) _).setCell (p := ⟨w.heap.size + 1, 0, none⟩) (Nat.le_succ _) _).setCell (p := ⟨w.heap.size + 1, 1, none⟩) (Nat.le_succ _) _).setCell (p := ⟨w.heap.size + 1, 2, none⟩) (Nat.le_succ _) _).setCell (p := ⟨w.heap.size + 1, 3, none⟩) (Nat.le_succ _) _).setCell (p := ⟨w.heap.size + 1, 4, none⟩) (Nat.le_succ _) _)
    · have gk : decide ((0 : Int) < (k : Int)) = false := by simp; omega
      have gkn : decide (0 < k) = false := by simp; omega
      go_wp2
      refine bodyPost_ret (results_box1 (g := w.heap.size + 1) (cs := boxOf n Ls) rfl (by rw [HBX2.out]; rfl) rfl ?_) rfl ⟨Ls, rfl, HBK.out, ?_⟩
      · rw [HBX2.out, if_neg hk0, show decide (0 < k) = false by simpa using hk0]
        exact (((((HSY.out.1.z.set 0 (.int .i64 mi)).set 1 (.int .i64 ma)).set 2 (.int .i64 kh)).set 3 (.int .i64 0)).set 4 (.bool false))
      · exact (((((HSY.out.1.lo.setCell (p := ⟨w.heap.size + 1, 0, none⟩) (Nat.le_succ _) _).setCell (p := ⟨w.heap.size + 1, 1, none⟩) (Nat.le_succ _) _).setCell (p := ⟨w.heap.size + 1, 2, none⟩) (Nat.le_succ _) _).setCell (p := ⟨w.heap.size + 1, 3, none⟩) (Nat.le_succ _) _).setCell (p := ⟨w.heap.size + 1, 4, none⟩) (Nat.le_succ _) _)

end Go.Proofs.Ythgkjgaebgpplaa
