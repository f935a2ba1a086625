/- The winner of some sides, and all sorted, are the document's: for all sides (the first sixty). -/
import Derived.Test.YtmcgieameodkbaaRows
import Derived.WalkKit
import Derived.ProofKit
import Derived.OpenShut
import Derived.Below
import Derived.Test.YtmcgieameodkbaaCRefS
import Derived.Test.YtmcgieameodkbaaCTurn
import Derived.Test.YtmcgieameodkbaaCOpen
import Derived.ShutString
namespace Go.Proofs.Ytmcgieameodkbaa.contestWinners
open Go.ChangeShapes Go.WideShapes Go.ChangeAt Go.RowKit
set_option linter.unusedVariables false

theorem own : ownKnob Try.prog.godebug = none := by kernel_rfl
theorem laidOut : laidOutB Try.prog = true := by kernel_rfl

set_option maxRecDepth 100000 in
set_option maxHeartbeats 8000000 in
theorem walk (W : World) (a0 : Option Addr) (len0 cap0 : Nat) (z0 : List Si) (w0 : SideRow W a0 len0 cap0 z0) :
    Calls Try.prog 4 #[.slice a0 len0 cap0] W fun e w' => e = .returned (.bool true) ∧ Below W.heap.size W w' := by
  obtain ⟨p, hz, hl, hcap, htop, hcut⟩ := cut_any w0
  have hhue : ∀ x ∈ z0.take 60, x.hue := fun x hx => (w0.1 x (List.mem_of_mem_take hx)).hue
  have hm60 : min len0 60 ≤ 60 := by omega
  have HC := Lib.hid hcut
  generalize min len0 60 = m at *
  generalize z0.take 60 = zs at *
  clear w0 hcut
  have HWl := Lib.hid (fun X (h : Sides X (.slice p m cap0) zs) => winner_any p m cap0 zs X h hl hcap htop hhue)
  have HWt := Lib.hid (fun X (h : Sides X (.slice p m cap0) zs) => refWinner_any p m cap0 zs X h hl)
  have HSt := Lib.hid (fun X (h : Sides X (.slice p m cap0) zs) => refSorted_any p m cap0 zs X h hl hm60)
  obtain ⟨⟨⟨st, wd, co, bb, ro, cl⟩, er⟩, hw⟩ : ∃ r, winR zs = r := ⟨_, rfl⟩
  rw [hw] at HWl HWt
  unfold Si.val at HWl HWt
  dsimp only at HWl HWt
  have HZ : Hid (Sides W (.slice p m cap0) zs) := Lib.hid hz
  have HS := Lib.hid (fun X => shown_any X)
  have HH1 := Lib.hid hhue
  have HL := Lib.hid hl
  clear hz hhue hl hw
  go_enter Try.func4, Try.ntmps4
  go_wp2_with fail
  refine (HS.out _).mono ?_
  rintro e w1 ⟨rfl, hb1⟩
  have HB1 := Lib.hid hb1
  clear hb1 HS
  go_wp2_with fail
  refine (HC.out _).mono ?_
  rintro e w' ⟨rfl, rfl⟩

  go_wp2_with fail
  refine (HWl.out _ (HZ.out.below HB1.out)).mono ?_
  rintro e w3 ⟨rfl, hb3⟩
  have HB3 := Lib.hid (HB1.out.trans (hb3.mono HB1.out.size))
  clear hb3 HWl
  obtain ⟨g9, hg9⟩ : ∃ g9, w3.heap.size = g9 := ⟨_, rfl⟩
  have K9 := Lib.hid (whole_new w3 [.int .i64 st, .int .i64 wd, .int .u32 co, .int .i64 bb, .int .i64 ro, .int .i64 cl] 26 g9 hg9.symm)
  have HG9 := Lib.hid hg9
  have HB3' := Lib.hid (HB3.out.alloc HB3.out.size (.cells #[.int .i64 st, .int .i64 wd, .int .u32 co, .int .i64 bb, .int .i64 ro, .int .i64 cl] 26))
  clear hg9
  go_wp2_with fail
  refine (HC.out _).mono ?_
  rintro e w' ⟨rfl, rfl⟩

  go_wp2_with fail
  refine (HWt.out _ (HZ.out.below HB3'.out)).mono ?_
  rintro e w4 ⟨rfl, hb4⟩
  have HB4 := Lib.hid (HB3'.out.trans (hb4.mono HB3'.out.size))
  have K9' := Lib.hid (K9.out.below hb4 K9.out.lt)
  clear hb4 HWt K9
  obtain ⟨g11, hg11⟩ : ∃ g11, w4.heap.size = g11 := ⟨_, rfl⟩
  have K11 := Lib.hid (whole_new w4 [.int .i64 st, .int .i64 wd, .int .u32 co, .int .i64 bb, .int .i64 ro, .int .i64 cl] 26 g11 hg11.symm)
  have K9 := Lib.hid (K9'.out.alloc (.cells #[.int .i64 st, .int .i64 wd, .int .u32 co, .int .i64 bb, .int .i64 ro, .int .i64 cl] 26))
  have HB4' := Lib.hid (HB4.out.alloc HB4.out.size (.cells #[.int .i64 st, .int .i64 wd, .int .u32 co, .int .i64 bb, .int .i64 ro, .int .i64 cl] 26))
  have HG11 := Lib.hid hg11
  clear hg11 K9' HB4
  cases hr : zs.all rightS with
  | false =>
    have HS1 := Lib.hid (fun sv X h => sortedS_bad sv zs X h hr)
    have HR := Lib.hid hr
    clear hr
    go_wp2_with fail
    refine (HC.out _).mono ?_
    rintro e w' ⟨rfl, rfl⟩

    go_wp2_with fail
    refine (HS1.out _ _ (HZ.out.below HB4'.out)).mono ?_
    rintro e w5 ⟨rfl, hb5⟩
    have HB5 := Lib.hid (HB4'.out.trans (hb5.mono HB4'.out.size))
    have A9 := Lib.hid (K9.out.below hb5 K9.out.lt)
    have A11 := Lib.hid (K11.out.below hb5 K11.out.lt)
    clear hb5 HS1 K9 K11 HB4'
    go_wp2_with fail
    refine (HC.out _).mono ?_
    rintro e w' ⟨rfl, rfl⟩

    go_wp2_with fail
    refine (HSt.out _ (HZ.out.below HB5.out)).mono ?_
    rintro e w6 ⟨⟨_, rfl⟩ | ⟨hq, _⟩, hb6⟩
    rotate_left
    · exact absurd hq (by rw [HR.out]; decide)
    have HB6 := Lib.hid (HB5.out.trans (hb6.mono HB5.out.size))
    have B9 := Lib.hid (A9.out.below hb6 A9.out.lt)
    have B11 := Lib.hid (A11.out.below hb6 A11.out.lt)
    have HSM := Lib.hid (same_any none none 0 0 0 [] w6 ⟨by simp, .inl ⟨none, 0, rfl, rfl⟩⟩ ⟨by simp, .inl ⟨none, 0, rfl, rfl⟩⟩ rfl (by omega))
    clear hb6 HSt A9 A11 HB5
    rw [HG9.out, HG11.out]
    have x0 := B9.out.cellAt 0
    have y0 := B11.out.cellAt 0
    have x1 := B9.out.cellAt 1
    have y1 := B11.out.cellAt 1
    have x2 := B9.out.cellAt 2
    have y2 := B11.out.cellAt 2
    have x3 := B9.out.cellAt 3
    have y3 := B11.out.cellAt 3
    have x4 := B9.out.cellAt 4
    have y4 := B11.out.cellAt 4
    have x5 := B9.out.cellAt 5
    have y5 := B11.out.cellAt 5
    have lx := B9.out.lt
    have ly := B11.out.lt
    simp only [List.getElem?_cons_zero, List.getElem?_cons_succ] at x0 x1 x2 x3 x4 x5 y0 y1 y2 y3 y4 y5
    go_wp2_with (go_at_call 21; refine HSM.out.mono ?_; rintro e w7 ⟨rfl, n7, rfl⟩)
    go_ret
    exact ⟨by first | rfl | (simp; done), HB6.out.trans (below_dn _ _ _)⟩
  | true =>
    have HS1 := Lib.hid (fun q d X h => sortedS_good q m d zs X h hr HH1.out (by have := HL.out; omega))
    have HR := Lib.hid hr
    clear hr
    go_wp2_with fail
    refine (HC.out _).mono ?_
    rintro e w' ⟨rfl, rfl⟩

    go_wp2_with fail
    refine (HS1.out _ _ _ (HZ.out.below HB4'.out)).mono ?_
    rintro e w5 ⟨v5, ds, rfl, hs5, ho5, hb5⟩
    rw [HL.out] at ho5
    obtain ⟨p5, c5, rfl, _, _⟩ := own_formC ho5
    have HB5 := Lib.hid (HB4'.out.trans (hb5.mono HB4'.out.size))
    have A9 := Lib.hid (K9.out.below hb5 K9.out.lt)
    have A11 := Lib.hid (K11.out.below hb5 K11.out.lt)
    have hdl : ds.length = m := hs5.1.length_eq.trans HL.out
    have HDS := Lib.hid (own_sidesC (zs := ds) (by rw [hdl]; exact ho5) (by omega))
    have HI5 := Lib.hid hs5
    clear hb5 HS1 K9 K11 HB4' ho5 hs5
    go_wp2_with fail
    refine (HC.out _).mono ?_
    rintro e w' ⟨rfl, rfl⟩

    go_wp2_with fail
    refine (HSt.out _ (HZ.out.below HB5.out)).mono ?_
    rintro e w6 ⟨⟨hq, _⟩ | ⟨_, p6, c6, ds', rfl, hsd, hs6⟩, hb6⟩
    · exact absurd hq (by rw [HR.out]; decide)
    have hdd : ds' = ds := hs6.one HI5.out (List.Perm.refl _)
    subst hdd
    have HB6 := Lib.hid (HB5.out.trans (hb6.mono HB5.out.size))
    have B9 := Lib.hid (A9.out.below hb6 A9.out.lt)
    have B11 := Lib.hid (A11.out.below hb6 A11.out.lt)
    have HD6 := HDS.out.below hb6
    have HSM := Lib.hid (same_any p5 p6 m c5 c6 ds' w6 HD6 hsd hdl (by omega))
    clear hb6 HSt A9 A11 HB5 hs6 HD6 hsd HDS HI5 hdl
    rw [HG9.out, HG11.out]
    have x0 := B9.out.cellAt 0
    have y0 := B11.out.cellAt 0
    have x1 := B9.out.cellAt 1
    have y1 := B11.out.cellAt 1
    have x2 := B9.out.cellAt 2
    have y2 := B11.out.cellAt 2
    have x3 := B9.out.cellAt 3
    have y3 := B11.out.cellAt 3
    have x4 := B9.out.cellAt 4
    have y4 := B11.out.cellAt 4
    have x5 := B9.out.cellAt 5
    have y5 := B11.out.cellAt 5
    have lx := B9.out.lt
    have ly := B11.out.lt
    simp only [List.getElem?_cons_zero, List.getElem?_cons_succ] at x0 x1 x2 x3 x4 x5 y0 y1 y2 y3 y4 y5
    go_wp2_with (go_at_call 21; refine HSM.out.mono ?_; rintro e w7 ⟨rfl, n7, rfl⟩)
    go_ret
    exact ⟨by first | rfl | (simp; done), HB6.out.trans (below_dn _ _ _)⟩

set_option maxRecDepth 100000 in
theorem lifted (os : Os) (started : os.Started) (H : Type) (enc : TypeId × Value → H) :
    ReturnsInHanded {} Try.checked os 4 .any (Rows.contestWinnersSpec.pre6 enc Try.prog Try.f4 Rows.contestWinnersRow.domain false) (Rows.contestWinnersSpec.post enc Try.prog Try.f4 false true false false) := by
  refine returnsInHanded_of_change (C := Try.checked) own started (by kernel_rfl) Try.func4
    (ChangeSpec.witness6 (enc := enc) (C := Try.checked) false ⟨#[], #[.slice none 0 0], []⟩ 8 (by kernel_rfl) (by kernel_rfl) (by kernel_rfl) (by kernel_rfl)) ?_
  intro W base args ds gs before hval0 hW hcnd _
  have hval : ∀ (j : Nat) t v, Try.f4.params[j]? = some t → args[j]? = some v → Value.okWide Try.prog W .any base t v := hval0
  have hW' := hW
  obtain ⟨p, q, hA0, hV, rfl, hfz, hnd⟩ := hW
  have hA : DataW.TrodAll enc Try.prog W 0 (fun _ => true) true Try.f4.params.toList args.toList ds p := hA0
  rw [Try.params4] at hA hval
  obtain ⟨v0, vs0, d0, ds0, p0, q0, hargs, rfl, rfl, h0, r0⟩ := trodAll_cons hA
  obtain ⟨rfl, rfl, rfl⟩ := trodAll_nil r0
  obtain rfl : args = #[v0] := by cases args; simp_all
  obtain ⟨rfl, rfl⟩ := trodVars_none hV
  obtain ⟨a0, len0, cap0, rfl⟩ := okWide_slice Try.underlying33 (hval 0 33 v0 rfl rfl)
  have k0 := h0
  have lt0 : ∀ x ∈ p0, x.block < W.heap.size := by obtain ⟨m, hm⟩ := k0; exact DataW.trod_lt m _ _ _ hm
  obtain ⟨z0, w0⟩ : ∃ zs, SideRow W a0 len0 cap0 zs := by
    obtain ⟨fuel, hf⟩ := h0
    exact open_sides (by simpa [Value.cells] using hf)
  clear hA0 hval0
  simp only [List.append_nil] at hW'
  refine (walk W a0 len0 cap0 z0 w0).mono fun e W' ⟨he, hg⟩ => ?_
  subst he
  exact ⟨_, rfl, _, _, _, [], _, [], hW', (trodAll_cons_mk (shut_bool Try.underlying4 _) trodAll_mk0), (trodAll_cons_mk (Below.trod laidOut (by kernel_rfl) (of_decide_eq_true (by kernel_rfl)) k0 hg lt0) trodAll_mk0), rfl, hg.frame _, fun h => by cases h⟩

theorem over : Rows.contestWinnersRow.holds Try.pinned (OpenSpec.ofChange Rows.contestWinnersSpec) :=
  OpenClaim.holds_of_wide 4 Try.f4 rfl rfl rfl rfl rfl rfl rfl ⟨rfl, rfl, rfl, rfl, rfl⟩ rfl rfl rfl rfl rfl (by kernel_rfl) Try.func4 (by kernel_rfl)
    (of_decide_eq_true (by kernel_rfl)) (by unfold Func.isWrapper; first | (rw [if_pos (by decide +kernel)]; kernel_rfl) | (rw [if_neg (by decide +kernel)]; exact ⟨rfl, rfl⟩))
    (fun os started H enc _ => lifted os started H enc)

/-- the statement -/
theorem proved : Rows.ContestWinnersSaid :=
  over
#print axioms proved
end Go.Proofs.Ytmcgieameodkbaa.contestWinners
