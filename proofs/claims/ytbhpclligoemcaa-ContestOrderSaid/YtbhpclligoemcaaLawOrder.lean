/- The winner hangs not on the order of the sides, nor does what is sorted: for all sides (the first sixty), every turn and way round. -/
import Derived.Test.YtbhpclligoemcaaRows
import Derived.WalkKit
import Derived.ProofKit
import Derived.OpenShut
import Derived.Below
import Derived.Test.YtbhpclligoemcaaCTurn
import Derived.Test.YtbhpclligoemcaaCOpen
import Derived.ShutString
namespace Go.Proofs.Ytbhpclligoemcaa.contestOrder
open Go.ChangeShapes Go.WideShapes Go.ChangeAt Go.RowKit
set_option linter.unusedVariables false

theorem own : ownKnob Try.prog.godebug = none := by kernel_rfl
theorem laidOut : laidOutB Try.prog = true := by kernel_rfl

set_option maxRecDepth 100000 in
set_option maxHeartbeats 8000000 in
theorem walk (W : World) (a0 : Option Addr) (len0 cap0 : Nat) (z0 : List Si) (w0 : SideRow W a0 len0 cap0 z0) (a1 : Int) (w1 : (Lit.int .i64 a1).wf = true) (a2 : Bool) :
    Calls Try.prog 6 #[.slice a0 len0 cap0, .int .i64 a1, .bool a2] W fun e w' => e = .returned (.bool true) ∧ Below W.heap.size W w' := by
  obtain ⟨p, hz, hl, hcap, htop, hcut⟩ := cut_any w0
  have hhue : ∀ x ∈ z0.take 60, x.hue := fun x hx => (w0.1 x (List.mem_of_mem_take hx)).hue
  have hm60 : min len0 60 ≤ 60 := by omega
  have HC := Lib.hid hcut
  generalize min len0 60 = m at *
  generalize z0.take 60 = zs at *
  clear w0 hcut
  obtain ⟨at', hat, hat60, hu1, hu2⟩ := u64_mod a1
  obtain ⟨u, hu⟩ : ∃ u, IntKind.u64.wrap a1 = u := ⟨_, rfl⟩
  rw [hu] at hat hu1 hu2
  have hperm : (turnL zs at' a2 m).Perm zs := hl ▸ turn_perm zs at' a2
  have htl : (turnL zs at' a2 m).length = m := turnL_len _ _ _ _
  have hwin := winR_perm hperm
  have hall := all_perm hperm
  have hhue2 := turn_hue hperm hhue
  have HT := Lib.hid (fun X (h : Sides X (.slice p m cap0) zs) => turned_any p m cap0 at' a2 zs X h hl hm60 hat60)
  generalize turnL zs at' a2 m = tl at *
  have HWl := Lib.hid (fun X (h : Sides X (.slice p m cap0) zs) => winner_any p m cap0 zs X h hl hcap htop hhue)
  have HWt := Lib.hid (fun q c X (h : Sides X (.slice q m c) tl) h1 h2 => winner_any q m c tl X h htl h1 h2 hhue2)
  rw [hwin] at HWt
  obtain ⟨⟨⟨st, wd, co, bb, ro, cl⟩, er⟩, hw⟩ : ∃ r, winR zs = r := ⟨_, rfl⟩
  rw [hw] at HWl HWt
  unfold Si.val at HWl HWt
  dsimp only at HWl HWt
  have HZ : Hid (Sides W (.slice p m cap0) zs) := Lib.hid hz
  have HS := Lib.hid (fun X => shown_any X)
  have HH1 := Lib.hid hhue
  have HH2 := Lib.hid hhue2
  have HP := Lib.hid hperm
  have HL := Lib.hid hl
  have HTL := Lib.hid htl
  have HALL := Lib.hid hall
  clear hz hhue hhue2 hperm hl htl hall hwin hw
  go_enter Try.func6, Try.ntmps6
  go_wp2_with fail
  refine (HS.out _).mono ?_
  rintro e w1 ⟨rfl, hb1⟩
  have HB1 := Lib.hid hb1
  clear hb1 HS
  go_wp2_with fail
  refine (HC.out _).mono ?_
  rintro e w1' ⟨rfl, rfl⟩
  clear HC
  go_wp2_with fail
  refine (HT.out _ (HZ.out.below HB1.out)).mono ?_
  rintro e w2 ⟨v, rfl, ho, hb2⟩
  obtain ⟨q, c, rfl, hqc, hqx⟩ := own_formC ho
  have HB2 := Lib.hid (HB1.out.trans (hb2.mono HB1.out.size))
  have HTS : Hid (Sides w2 (.slice q m c) tl) := Lib.hid (own_sidesC (base := w1.heap.size) (by rw [HTL.out]; exact ho) (by have := HTL.out; omega))
  clear ho hb2 HT
  go_wp2_with fail
  refine (HWl.out _ (HZ.out.below HB2.out)).mono ?_
  rintro e w3 ⟨rfl, hb3⟩
  have HB3 := Lib.hid (HB2.out.trans (hb3.mono HB2.out.size))
  have HTS3 := Lib.hid (HTS.out.below hb3)
  clear hb3 HWl HTS
  obtain ⟨g9, hg9⟩ : ∃ g9, w3.heap.size = g9 := ⟨_, rfl⟩
  have K9 := Lib.hid (whole_new w3 [.int .i64 st, .int .i64 wd, .int .u32 co, .int .i64 bb, .int .i64 ro, .int .i64 cl] 26 g9 hg9.symm)
  have HG9 := Lib.hid hg9
  clear hg9
  go_wp2_with fail
  refine (HWt.out _ _ _ (HTS3.out.below ((Below.refl _ _).alloc (Nat.le_refl _) _)) hqc hqx).mono ?_
  rintro e w4 ⟨rfl, hb4⟩
  have HB4 := Lib.hid ((HB3.out.alloc HB3.out.size (.cells #[.int .i64 st, .int .i64 wd, .int .u32 co, .int .i64 bb, .int .i64 ro, .int .i64 cl] 26)).trans (hb4.mono (by have := HB3.out.size; simp; omega)))
  have HTS4 := Lib.hid ((HTS3.out.below ((Below.refl _ _).alloc (Nat.le_refl _) (.cells #[.int .i64 st, .int .i64 wd, .int .u32 co, .int .i64 bb, .int .i64 ro, .int .i64 cl] 26))).below hb4)
  have K9' := Lib.hid (K9.out.below hb4 K9.out.lt)
  clear hb4 HWt HTS3 K9
  obtain ⟨g11, hg11⟩ : ∃ g11, w4.heap.size = g11 := ⟨_, rfl⟩
  have K11 := Lib.hid (whole_new w4 [.int .i64 st, .int .i64 wd, .int .u32 co, .int .i64 bb, .int .i64 ro, .int .i64 cl] 26 g11 hg11.symm)
  have K9 := Lib.hid (K9'.out.alloc (.cells #[.int .i64 st, .int .i64 wd, .int .u32 co, .int .i64 bb, .int .i64 ro, .int .i64 cl] 26))
  have HB4' := Lib.hid (HB4.out.alloc HB4.out.size (.cells #[.int .i64 st, .int .i64 wd, .int .u32 co, .int .i64 bb, .int .i64 ro, .int .i64 cl] 26))
  have HTS4' := Lib.hid (HTS4.out.below ((Below.refl _ _).alloc (Nat.le_refl _) (.cells #[.int .i64 st, .int .i64 wd, .int .u32 co, .int .i64 bb, .int .i64 ro, .int .i64 cl] 26)))
  have HG11 := Lib.hid hg11
  clear hg11 K9' HB4 HTS4 hu hat hu1 hu2
  cases hr : zs.all rightS with
  | false =>
    have HS1 := Lib.hid (fun sv X h => sortedS_bad sv zs X h hr)
    have HS2 := Lib.hid (fun sv X h => sortedS_bad sv tl X h (HALL.out.trans hr))
    clear hr
    go_wp2_with fail
    refine (HS1.out _ _ (HZ.out.below HB4'.out)).mono ?_
    rintro e w5 ⟨rfl, hb5⟩
    have HB5 := Lib.hid (HB4'.out.trans (hb5.mono HB4'.out.size))
    have HTS5 := Lib.hid (HTS4'.out.below hb5)
    have A9 := Lib.hid (K9.out.below hb5 K9.out.lt)
    have A11 := Lib.hid (K11.out.below hb5 K11.out.lt)
    clear hb5 HS1 K9 K11 HB4' HTS4'
    go_wp2_with fail
    refine (HS2.out _ _ HTS5.out).mono ?_
    rintro e w6 ⟨rfl, hb6⟩
    have HB6 := Lib.hid (HB5.out.trans (hb6.mono HB5.out.size))
    have B9 := Lib.hid (A9.out.below hb6 A9.out.lt)
    have B11 := Lib.hid (A11.out.below hb6 A11.out.lt)
    have HSM := Lib.hid (same_any none none 0 0 0 [] w6 ⟨by simp, .inl ⟨none, 0, rfl, rfl⟩⟩ ⟨by simp, .inl ⟨none, 0, rfl, rfl⟩⟩ rfl (by omega))
    clear hb6 HS2 A9 A11 HB5 HTS5
    rw [HG9.out, HG11.out]
    have x0 := B9.out.cellAt 0
    have y0 := B11.out.cellAt 0
    have x1 := B9.out.cellAt 1
    have y1 := B11.out.cellAt 1
    have x2 := B9.out.cellAt 2
    have y2 := B11.out.cellAt 2
    have x3 := B9.out.cellAt 3
    have y3 := B11.out.cellAt 3
    have x4 := B9.out.cellAt 4
    have y4 := B11.out.cellAt 4
    have x5 := B9.out.cellAt 5
    have y5 := B11.out.cellAt 5
    have lx := B9.out.lt
    have ly := B11.out.lt
    simp only [List.getElem?_cons_zero, List.getElem?_cons_succ] at x0 x1 x2 x3 x4 x5 y0 y1 y2 y3 y4 y5
    go_wp2_with (go_at_call 21; refine HSM.out.mono ?_; rintro e w7 ⟨rfl, n7, rfl⟩)
    go_ret
    exact ⟨by first | rfl | (simp; done), HB6.out.trans (below_dn _ _ _)⟩
  | true =>
    have HS1 := Lib.hid (fun q d X h => sortedS_good q m d zs X h hr HH1.out (by have := HL.out; omega))
    have HS2 := Lib.hid (fun q d X h => sortedS_good q m d tl X h (HALL.out.trans hr) HH2.out (by have := HTL.out; omega))
    clear hr
    go_wp2_with fail
    refine (HS1.out _ _ _ (HZ.out.below HB4'.out)).mono ?_
    rintro e w5 ⟨v5, ds, rfl, hs5, ho5, hb5⟩
    rw [HL.out] at ho5
    obtain ⟨p5, c5, rfl, _, _⟩ := own_formC ho5
    have HB5 := Lib.hid (HB4'.out.trans (hb5.mono HB4'.out.size))
    have HTS5 := Lib.hid (HTS4'.out.below hb5)
    have A9 := Lib.hid (K9.out.below hb5 K9.out.lt)
    have A11 := Lib.hid (K11.out.below hb5 K11.out.lt)
    have hdl : ds.length = m := hs5.1.length_eq.trans HL.out
    have HDS := Lib.hid (own_sidesC (zs := ds) (by rw [hdl]; exact ho5) (by omega))
    have HI5 := Lib.hid hs5
    clear hb5 HS1 K9 K11 HB4' HTS4' ho5 hs5
    go_wp2_with fail
    refine (HS2.out _ _ _ HTS5.out).mono ?_
    rintro e w6 ⟨v6, ds', rfl, hs6, ho6, hb6⟩
    rw [HTL.out] at ho6
    obtain ⟨p6, c6, rfl, _, _⟩ := own_formC ho6
    have hdd : ds' = ds := hs6.one HI5.out HP.out
    subst hdd
    have HB6 := Lib.hid (HB5.out.trans (hb6.mono HB5.out.size))
    have B9 := Lib.hid (A9.out.below hb6 A9.out.lt)
    have B11 := Lib.hid (A11.out.below hb6 A11.out.lt)
    have HD6 := HDS.out.below hb6
    have HE6 := own_sidesC (zs := ds') (by rw [hdl]; exact ho6) (by omega)
    have HSM := Lib.hid (same_any p5 p6 m c5 c6 ds' w6 HD6 HE6 hdl (by omega))
    clear hb6 HS2 A9 A11 HB5 HTS5 ho6 hs6 HD6 HE6 HDS HI5 hdl
    rw [HG9.out, HG11.out]
    have x0 := B9.out.cellAt 0
    have y0 := B11.out.cellAt 0
    have x1 := B9.out.cellAt 1
    have y1 := B11.out.cellAt 1
    have x2 := B9.out.cellAt 2
    have y2 := B11.out.cellAt 2
    have x3 := B9.out.cellAt 3
    have y3 := B11.out.cellAt 3
    have x4 := B9.out.cellAt 4
    have y4 := B11.out.cellAt 4
    have x5 := B9.out.cellAt 5
    have y5 := B11.out.cellAt 5
    have lx := B9.out.lt
    have ly := B11.out.lt
    simp only [List.getElem?_cons_zero, List.getElem?_cons_succ] at x0 x1 x2 x3 x4 x5 y0 y1 y2 y3 y4 y5
    go_wp2_with (go_at_call 21; refine HSM.out.mono ?_; rintro e w7 ⟨rfl, n7, rfl⟩)
    go_ret
    exact ⟨by first | rfl | (simp; done), HB6.out.trans (below_dn _ _ _)⟩

set_option maxRecDepth 100000 in
theorem lifted (os : Os) (started : os.Started) (H : Type) (enc : TypeId × Value → H) :
    ReturnsInHanded {} Try.checked os 6 .any (Rows.contestOrderSpec.pre6 enc Try.prog Try.f6 Rows.contestOrderRow.domain false) (Rows.contestOrderSpec.post enc Try.prog Try.f6 false true false false) := by
  refine returnsInHanded_of_change (C := Try.checked) own started (by kernel_rfl) Try.func6
    (ChangeSpec.witness6 (enc := enc) (C := Try.checked) false ⟨#[], #[.slice none 0 0, .int .i64 0, .bool false], []⟩ 8 (by kernel_rfl) (by kernel_rfl) (by kernel_rfl) (by kernel_rfl)) ?_
  intro W base args ds gs before hval0 hW hcnd _
  have hval : ∀ (j : Nat) t v, Try.f6.params[j]? = some t → args[j]? = some v → Value.okWide Try.prog W .any base t v := hval0
  have hW' := hW
  obtain ⟨p, q, hA0, hV, rfl, hfz, hnd⟩ := hW
  have hA : DataW.TrodAll enc Try.prog W 0 (fun _ => true) true Try.f6.params.toList args.toList ds p := hA0
  rw [Try.params6] at hA hval
  obtain ⟨v0, vs0, d0, ds0, p0, q0, hargs, rfl, rfl, h0, r0⟩ := trodAll_cons hA
  obtain ⟨v1, vs1, d1, ds1, p1, q1, rfl, rfl, rfl, h1, r1⟩ := trodAll_cons r0
  obtain ⟨v2, vs2, d2, ds2, p2, q2, rfl, rfl, rfl, h2, r2⟩ := trodAll_cons r1
  obtain ⟨rfl, rfl, rfl⟩ := trodAll_nil r2
  obtain rfl : args = #[v0, v1, v2] := by cases args; simp_all
  obtain ⟨rfl, rfl⟩ := trodVars_none hV
  obtain ⟨a0, len0, cap0, rfl⟩ := okWide_slice Try.underlying33 (hval 0 33 v0 rfl rfl)
  have k0 := h0
  have lt0 : ∀ x ∈ p0, x.block < W.heap.size := by obtain ⟨m, hm⟩ := k0; exact DataW.trod_lt m _ _ _ hm
  obtain ⟨z0, w0⟩ : ∃ zs, SideRow W a0 len0 cap0 zs := by
    obtain ⟨fuel, hf⟩ := h0
    exact open_sides (by simpa [Value.cells] using hf)
  obtain ⟨a1, rfl, rfl, rfl, w1⟩ := open_int Try.underlying3 (hval 1 3 v1 rfl rfl) h1
  obtain ⟨a2, rfl, rfl, rfl⟩ := open_bool Try.underlying4 (hval 2 4 v2 rfl rfl) h2
  clear hA0 hval0
  simp only [List.append_nil] at hW'
  refine (walk W a0 len0 cap0 z0 w0 a1 w1 a2).mono fun e W' ⟨he, hg⟩ => ?_
  subst he
  exact ⟨_, rfl, _, _, _, [], _, [], hW', (trodAll_cons_mk (shut_bool Try.underlying4 _) trodAll_mk0), (trodAll_cons_mk (Below.trod laidOut (by kernel_rfl) (of_decide_eq_true (by kernel_rfl)) k0 hg lt0) (trodAll_cons_mk (shut_int Try.underlying3 w1) (trodAll_cons_mk (shut_bool Try.underlying4 _) trodAll_mk0))), rfl, hg.frame _, fun h => by cases h⟩

theorem over : Rows.contestOrderRow.holds Try.pinned (OpenSpec.ofChange Rows.contestOrderSpec) :=
  OpenClaim.holds_of_wide 6 Try.f6 rfl rfl rfl rfl rfl rfl rfl ⟨rfl, rfl, rfl, rfl, rfl⟩ rfl rfl rfl rfl rfl (by kernel_rfl) Try.func6 (by kernel_rfl)
    (of_decide_eq_true (by kernel_rfl)) (by unfold Func.isWrapper; first | (rw [if_pos (by decide +kernel)]; kernel_rfl) | (rw [if_neg (by decide +kernel)]; exact ⟨rfl, rfl⟩))
    (fun os started H enc _ => lifted os started H enc)

/-- the statement -/
theorem proved : Rows.ContestOrderSaid :=
  over
#print axioms proved
end Go.Proofs.Ytbhpclligoemcaa.contestOrder
