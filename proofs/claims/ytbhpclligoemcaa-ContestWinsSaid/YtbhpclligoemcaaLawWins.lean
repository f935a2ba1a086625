/- Which sides are right, and whether the first of two wins, is by the program as by the document: for every two sides. -/
import Derived.Test.YtbhpclligoemcaaRows
import Derived.WalkKit
import Derived.ProofKit
import Derived.OpenShut
import Derived.Below
import Derived.Test.YtbhpclligoemcaaCRefA
import Derived.Test.YtbhpclligoemcaaCRefB
import Derived.Test.YtbhpclligoemcaaCOpen
import Derived.ShutString
namespace Go.Proofs.Ytbhpclligoemcaa.contestWins
open Go.ChangeShapes Go.WideShapes Go.ChangeAt Go.RowKit
set_option linter.unusedVariables false

theorem own : ownKnob Try.prog.godebug = none := by kernel_rfl

set_option maxRecDepth 100000 in
set_option maxHeartbeats 8000000 in
theorem walk (a0 : Si) (w0 : a0.wf) (a1 : Si) (w1 : a1.wf) (W : World) :
    Calls Try.prog 3 #[a0.val, a1.val] W fun e w' => e = .returned (.bool true) ∧ Below W.heap.size W w' := by
  have HS := Lib.hid (fun X => shown_any X)
  have h01 := fun X => wins_any a0 a1 w0.hue w1.hue X
  have r0 := fun X => right_any a0 X
  have r1 := fun X => right_any a1 X
  have q0 := fun X => refRight_any a0 X
  have q1 := fun X => refRight_any a1 X
  have v01 := fun X => refWins_any a0 a1 X
  have hg := @winsR_good a0 a1
  have hb := @winsR_bad a0 a1
  generalize decide (cmpS a0 a1 < 0) = d at *
  obtain ⟨x, e1⟩ : ∃ x, rightS a0 = x := ⟨_, rfl⟩
  obtain ⟨y, e2⟩ : ∃ y, rightS a1 = y := ⟨_, rfl⟩
  rw [e1] at r0 q0 hg hb
  rw [e2] at r1 q1 hg hb
  generalize winsR a0 a1 = z at *
  clear e1 e2 w0 w1
  simp only [Si.val_eq] at h01 r0 r1 q0 q1 v01 ⊢
  have i0 : (Try.prog.info? 26).map (·.size) = some a0.cells.toArray.size := Try.infoSide
  have i1 : (Try.prog.info? 26).map (·.size) = some a1.cells.toArray.size := Try.infoSide
  generalize a0.cells.toArray = c0 at *
  generalize a1.cells.toArray = c1 at *
  have I0 := Lib.hid i0
  have I1 := Lib.hid i1
  clear i0 i1
  have H01 := Lib.hid h01
  have R0 := Lib.hid r0
  have R1 := Lib.hid r1
  have Q0 := Lib.hid q0
  have Q1 := Lib.hid q1
  have V01 := Lib.hid v01
  have HG := Lib.hid hg
  have HBD := Lib.hid hb
  clear h01 r0 r1 q0 q1 v01 hg hb
  have KX : Hid (Whole ((W.alloc (.cells c0 26)).alloc (.cells c1 26)) (W.heap.size) 26 c0.toList ∧ Whole ((W.alloc (.cells c0 26)).alloc (.cells c1 26)) (W.heap.size + 1) 26 c1.toList) := Lib.hid ⟨(Whole.alloc (whole_new W c0.toList 26 (W.heap.size) (by simp)) (.cells c1 26)), (whole_new (W.alloc (.cells c0 26)) c1.toList 26 (W.heap.size + 1) (by simp))⟩
  have HB : Hid (Below W.heap.size W ((W.alloc (.cells c0 26)).alloc (.cells c1 26))) := Lib.hid (((Below.refl W.heap.size W).alloc (by simp <;> omega) (.cells c0 26)).alloc (by simp <;> omega) (.cells c1 26))
  cases x <;> cases y
  rotate_left 3
  · have hz := HG.out rfl
    subst hz
    dsimp only at H01
    clear HG HBD
    cases d
    all_goals
      go_enter Try.func3, Try.ntmps3
      go_wp2_with (first
        | (refine wpList_loadC rfl 26 (.tmp 2) rfl ⟨W.heap.size, 0, none⟩ rfl c0 _ KX.out.1.loads Try.underlying26 rfl I0.out ?_)
        | (refine wpList_loadC rfl 26 (.tmp 3) rfl ⟨W.heap.size + 1, 0, none⟩ rfl c1 _ KX.out.2.loads Try.underlying26 rfl I1.out ?_)
        | (refine wpList_loadCw (by simp [Region.wanted, yielded, Act.put] <;> rfl) 26 (.tmp 2) rfl ⟨W.heap.size, 0, none⟩ rfl c0 _ KX.out.1.loads Try.underlying26 rfl I0.out ?_)
        | (refine wpList_loadCw (by simp [Region.wanted, yielded, Act.put] <;> rfl) 26 (.tmp 3) rfl ⟨W.heap.size + 1, 0, none⟩ rfl c1 _ KX.out.2.loads Try.underlying26 rfl I1.out ?_)
        | (go_at_call 11; refine (HS.out _).mono ?_; rintro e w1 ⟨rfl, hb1⟩; have KX1 := Lib.hid (show Whole _ (W.heap.size) 26 c0.toList ∧ Whole _ (W.heap.size + 1) 26 c1.toList from ⟨KX.out.1.below hb1 KX.out.1.lt, KX.out.2.below hb1 KX.out.2.lt⟩); have HB1 := Lib.hid (HB.out.trans (hb1.mono HB.out.size)); clear KX HB hb1; have KX := KX1; have HB := HB1; clear KX1 HB1)
        | (go_at_call 12; refine (H01.out _).mono ?_; rintro e w1 ⟨rfl, hb1⟩; have KX1 := Lib.hid (show Whole _ (W.heap.size) 26 c0.toList ∧ Whole _ (W.heap.size + 1) 26 c1.toList from ⟨KX.out.1.below hb1 KX.out.1.lt, KX.out.2.below hb1 KX.out.2.lt⟩); have HB1 := Lib.hid (HB.out.trans (hb1.mono HB.out.size)); clear KX HB hb1; have KX := KX1; have HB := HB1; clear KX1 HB1)
        | (go_at_call 14; (first | (with_reducible refine (R0.out _).mono ?_) | (with_reducible refine (R1.out _).mono ?_)); rintro e w1 ⟨rfl, hb1⟩; have KX1 := Lib.hid (show Whole _ (W.heap.size) 26 c0.toList ∧ Whole _ (W.heap.size + 1) 26 c1.toList from ⟨KX.out.1.below hb1 KX.out.1.lt, KX.out.2.below hb1 KX.out.2.lt⟩); have HB1 := Lib.hid (HB.out.trans (hb1.mono HB.out.size)); clear KX HB hb1; have KX := KX1; have HB := HB1; clear KX1 HB1)
        | (go_at_call 13; (first | (with_reducible refine (Q0.out _).mono ?_) | (with_reducible refine (Q1.out _).mono ?_)); rintro e w1 ⟨rfl, hb1⟩; have KX1 := Lib.hid (show Whole _ (W.heap.size) 26 c0.toList ∧ Whole _ (W.heap.size + 1) 26 c1.toList from ⟨KX.out.1.below hb1 KX.out.1.lt, KX.out.2.below hb1 KX.out.2.lt⟩); have HB1 := Lib.hid (HB.out.trans (hb1.mono HB.out.size)); clear KX HB hb1; have KX := KX1; have HB := HB1; clear KX1 HB1)
        | (go_at_call 15; refine (V01.out _).mono ?_; rintro e w1 ⟨rfl, hb1⟩; have KX1 := Lib.hid (show Whole _ (W.heap.size) 26 c0.toList ∧ Whole _ (W.heap.size + 1) 26 c1.toList from ⟨KX.out.1.below hb1 KX.out.1.lt, KX.out.2.below hb1 KX.out.2.lt⟩); have HB1 := Lib.hid (HB.out.trans (hb1.mono HB.out.size)); clear KX HB hb1; have KX := KX1; have HB := HB1; clear KX1 HB1))
      go_ret
      exact ⟨by first | rfl | (simp; done), HB.out⟩
  all_goals
    have hz := HBD.out rfl
    subst hz
    dsimp only at H01
    clear HG HBD
    go_enter Try.func3, Try.ntmps3
    go_wp2_with (first
      | (refine wpList_loadC rfl 26 (.tmp 2) rfl ⟨W.heap.size, 0, none⟩ rfl c0 _ KX.out.1.loads Try.underlying26 rfl I0.out ?_)
      | (refine wpList_loadC rfl 26 (.tmp 3) rfl ⟨W.heap.size + 1, 0, none⟩ rfl c1 _ KX.out.2.loads Try.underlying26 rfl I1.out ?_)
      | (refine wpList_loadCw (by simp [Region.wanted, yielded, Act.put] <;> rfl) 26 (.tmp 2) rfl ⟨W.heap.size, 0, none⟩ rfl c0 _ KX.out.1.loads Try.underlying26 rfl I0.out ?_)
      | (refine wpList_loadCw (by simp [Region.wanted, yielded, Act.put] <;> rfl) 26 (.tmp 3) rfl ⟨W.heap.size + 1, 0, none⟩ rfl c1 _ KX.out.2.loads Try.underlying26 rfl I1.out ?_)
      | (go_at_call 11; refine (HS.out _).mono ?_; rintro e w1 ⟨rfl, hb1⟩; have KX1 := Lib.hid (show Whole _ (W.heap.size) 26 c0.toList ∧ Whole _ (W.heap.size + 1) 26 c1.toList from ⟨KX.out.1.below hb1 KX.out.1.lt, KX.out.2.below hb1 KX.out.2.lt⟩); have HB1 := Lib.hid (HB.out.trans (hb1.mono HB.out.size)); clear KX HB hb1; have KX := KX1; have HB := HB1; clear KX1 HB1)
      | (go_at_call 12; refine (H01.out _).mono ?_; rintro e w1 ⟨rfl, hb1⟩; have KX1 := Lib.hid (show Whole _ (W.heap.size) 26 c0.toList ∧ Whole _ (W.heap.size + 1) 26 c1.toList from ⟨KX.out.1.below hb1 KX.out.1.lt, KX.out.2.below hb1 KX.out.2.lt⟩); have HB1 := Lib.hid (HB.out.trans (hb1.mono HB.out.size)); clear KX HB hb1; have KX := KX1; have HB := HB1; clear KX1 HB1)
      | (go_at_call 14; (first | (with_reducible refine (R0.out _).mono ?_) | (with_reducible refine (R1.out _).mono ?_)); rintro e w1 ⟨rfl, hb1⟩; have KX1 := Lib.hid (show Whole _ (W.heap.size) 26 c0.toList ∧ Whole _ (W.heap.size + 1) 26 c1.toList from ⟨KX.out.1.below hb1 KX.out.1.lt, KX.out.2.below hb1 KX.out.2.lt⟩); have HB1 := Lib.hid (HB.out.trans (hb1.mono HB.out.size)); clear KX HB hb1; have KX := KX1; have HB := HB1; clear KX1 HB1)
      | (go_at_call 13; (first | (with_reducible refine (Q0.out _).mono ?_) | (with_reducible refine (Q1.out _).mono ?_)); rintro e w1 ⟨rfl, hb1⟩; have KX1 := Lib.hid (show Whole _ (W.heap.size) 26 c0.toList ∧ Whole _ (W.heap.size + 1) 26 c1.toList from ⟨KX.out.1.below hb1 KX.out.1.lt, KX.out.2.below hb1 KX.out.2.lt⟩); have HB1 := Lib.hid (HB.out.trans (hb1.mono HB.out.size)); clear KX HB hb1; have KX := KX1; have HB := HB1; clear KX1 HB1)
      | (go_at_call 15; refine (V01.out _).mono ?_; rintro e w1 ⟨rfl, hb1⟩; have KX1 := Lib.hid (show Whole _ (W.heap.size) 26 c0.toList ∧ Whole _ (W.heap.size + 1) 26 c1.toList from ⟨KX.out.1.below hb1 KX.out.1.lt, KX.out.2.below hb1 KX.out.2.lt⟩); have HB1 := Lib.hid (HB.out.trans (hb1.mono HB.out.size)); clear KX HB hb1; have KX := KX1; have HB := HB1; clear KX1 HB1))
    go_ret
    exact ⟨by first | rfl | (simp; done), HB.out⟩

set_option maxRecDepth 100000 in
theorem lifted (os : Os) (started : os.Started) (H : Type) (enc : TypeId × Value → H) :
    ReturnsInHanded {} Try.checked os 3 .any (Rows.contestWinsSpec.pre6 enc Try.prog Try.f3 Rows.contestWinsRow.domain false) (Rows.contestWinsSpec.post enc Try.prog Try.f3 false true false false) := by
  refine returnsInHanded_of_change (C := Try.checked) own started (by kernel_rfl) Try.func3
    (ChangeSpec.witness6 (enc := enc) (C := Try.checked) false ⟨#[], #[.agg #[.int .i64 0, .int .i64 0, .int .u32 0, .int .i64 0, .int .i64 0, .int .i64 0], .agg #[.int .i64 0, .int .i64 0, .int .u32 0, .int .i64 0, .int .i64 0, .int .i64 0]], []⟩ 8 (by kernel_rfl) (by kernel_rfl) (by kernel_rfl) (by kernel_rfl)) ?_
  intro W base args ds gs before hval0 hW hcnd _
  have hval : ∀ (j : Nat) t v, Try.f3.params[j]? = some t → args[j]? = some v → Value.okWide Try.prog W .any base t v := hval0
  have hW' := hW
  obtain ⟨p, q, hA0, hV, rfl, hfz, hnd⟩ := hW
  have hA : DataW.TrodAll enc Try.prog W 0 (fun _ => true) true Try.f3.params.toList args.toList ds p := hA0
  rw [Try.params3] at hA hval
  obtain ⟨v0, vs0, d0, ds0, p0, q0, hargs, rfl, rfl, h0, r0⟩ := trodAll_cons hA
  obtain ⟨v1, vs1, d1, ds1, p1, q1, rfl, rfl, rfl, h1, r1⟩ := trodAll_cons r0
  obtain ⟨rfl, rfl, rfl⟩ := trodAll_nil r1
  obtain rfl : args = #[v0, v1] := by cases args; simp_all
  obtain ⟨rfl, rfl⟩ := trodVars_none hV
  obtain ⟨a0, rfl, rfl, rfl, w0⟩ := open_side (hval 0 26 v0 rfl rfl) h0
  obtain ⟨a1, rfl, rfl, rfl, w1⟩ := open_side (hval 1 26 v1 rfl rfl) h1
  clear hA0 hval0
  simp only [List.append_nil] at hW'
  refine (walk a0 w0 a1 w1 W).mono fun e W' ⟨he, hg⟩ => ?_
  subst he
  exact ⟨_, rfl, _, _, _, [], [], [], hW', (trodAll_cons_mk (shut_bool Try.underlying4 _) trodAll_mk0), (trodAll_cons_mk (shut_side a0 w0) (trodAll_cons_mk (shut_side a1 w1) trodAll_mk0)), rfl, hg.frame _, fun h => by cases h⟩

theorem over : Rows.contestWinsRow.holds Try.pinned (OpenSpec.ofChange Rows.contestWinsSpec) :=
  OpenClaim.holds_of_wide 3 Try.f3 rfl rfl rfl rfl rfl rfl rfl ⟨rfl, rfl, rfl, rfl, rfl⟩ rfl rfl rfl rfl rfl (by kernel_rfl) Try.func3 (by kernel_rfl)
    (of_decide_eq_true (by kernel_rfl)) (by unfold Func.isWrapper; first | (rw [if_pos (by decide +kernel)]; kernel_rfl) | (rw [if_neg (by decide +kernel)]; exact ⟨rfl, rfl⟩))
    (fun os started H enc _ => lifted os started H enc)

/-- the statement -/
theorem proved : Rows.ContestWinsSaid :=
  over
#print axioms proved
end Go.Proofs.Ytbhpclligoemcaa.contestWins
