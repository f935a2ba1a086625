/- Of two sides that are not the same just one wins, and who wins against one wins against all that it wins against: for every three sides. -/
import Derived.Test.YtbhpclligoemcaaRows
import Derived.WalkKit
import Derived.ProofKit
import Derived.OpenShut
import Derived.Below
import Derived.Test.YtbhpclligoemcaaCTwo
import Derived.Test.YtbhpclligoemcaaCOpen
import Derived.ShutString
namespace Go.Proofs.Ytbhpclligoemcaa.contestTwo
open Go.ChangeShapes Go.WideShapes Go.ChangeAt Go.RowKit
set_option linter.unusedVariables false

theorem own : ownKnob Try.prog.godebug = none := by kernel_rfl

set_option maxRecDepth 100000 in
set_option maxHeartbeats 8000000 in
theorem walk (a0 : Si) (w0 : a0.wf) (a1 : Si) (w1 : a1.wf) (a2 : Si) (w2 : a2.wf) (W : World) :
    Calls Try.prog 7 #[a0.val, a1.val, a2.val] W fun e w' => e = .returned (.bool true) ∧ Below W.heap.size W w' := by
  have HS := Lib.hid (fun X => shown_any X)
  have h01 := fun X => wins_any a0 a1 w0.hue w1.hue X
  have h10 := fun X => wins_any a1 a0 w1.hue w0.hue X
  have h12 := fun X => wins_any a1 a2 w1.hue w2.hue X
  have h02 := fun X => wins_any a0 a2 w0.hue w2.hue X
  have hn := fun X => side_neq a0 a1 X
  have hq := fun x y X => side_gneq x y a0 a1 X
  have F := two_facts a0 a1 a2
  obtain ⟨⟨x, e⟩, e1⟩ : ∃ p, winsR a0 a1 = p := ⟨_, rfl⟩
  obtain ⟨⟨y, f⟩, e2⟩ : ∃ p, winsR a1 a0 = p := ⟨_, rfl⟩
  obtain ⟨⟨z, k⟩, e3⟩ : ∃ p, winsR a1 a2 = p := ⟨_, rfl⟩
  obtain ⟨⟨v, h⟩, e4⟩ : ∃ p, winsR a0 a2 = p := ⟨_, rfl⟩
  rw [e1] at h01 F
  rw [e2] at h10 F
  rw [e3] at h12 F
  rw [e4] at h02 F
  dsimp only at h01 h10 h12 h02 F
  obtain ⟨rfl, he, hk, hh, f1, f2⟩ := F
  generalize decide (a0 = a1) = d at *
  clear e1 e2 e3 e4 w0 w1 w2
  simp only [Si.val_eq] at h01 h10 h12 h02 hn hq ⊢
  have i0 : (Try.prog.info? 26).map (·.size) = some a0.cells.toArray.size := Try.infoSide
  have i1 : (Try.prog.info? 26).map (·.size) = some a1.cells.toArray.size := Try.infoSide
  have i2 : (Try.prog.info? 26).map (·.size) = some a2.cells.toArray.size := Try.infoSide
  generalize a0.cells.toArray = c0 at *
  generalize a1.cells.toArray = c1 at *
  generalize a2.cells.toArray = c2 at *
  have I0 := Lib.hid i0
  have I1 := Lib.hid i1
  have I2 := Lib.hid i2
  clear i0 i1 i2
  have H01 := Lib.hid h01
  have H10 := Lib.hid h10
  have H12 := Lib.hid h12
  have H02 := Lib.hid h02
  have HN := Lib.hid hn
  have HQ := Lib.hid hq
  have HE := Lib.hid he
  have HKK := Lib.hid hk
  have HHH := Lib.hid hh
  have F1 := Lib.hid f1
  have F2 := Lib.hid f2
  clear h01 h10 h12 h02 hn hq he hk hh f1 f2
  have KX : Hid (Whole (((W.alloc (.cells c0 26)).alloc (.cells c1 26)).alloc (.cells c2 26)) (W.heap.size) 26 c0.toList ∧ Whole (((W.alloc (.cells c0 26)).alloc (.cells c1 26)).alloc (.cells c2 26)) (W.heap.size + 1) 26 c1.toList ∧ Whole (((W.alloc (.cells c0 26)).alloc (.cells c1 26)).alloc (.cells c2 26)) (W.heap.size + 1 + 1) 26 c2.toList) := Lib.hid ⟨(Whole.alloc (Whole.alloc (whole_new W c0.toList 26 (W.heap.size) (by simp)) (.cells c1 26)) (.cells c2 26)), (Whole.alloc (whole_new (W.alloc (.cells c0 26)) c1.toList 26 (W.heap.size + 1) (by simp)) (.cells c2 26)), (whole_new ((W.alloc (.cells c0 26)).alloc (.cells c1 26)) c2.toList 26 (W.heap.size + 1 + 1) (by simp))⟩
  have HB : Hid (Below W.heap.size W (((W.alloc (.cells c0 26)).alloc (.cells c1 26)).alloc (.cells c2 26))) := Lib.hid ((((Below.refl W.heap.size W).alloc (by simp <;> omega) (.cells c0 26)).alloc (by simp <;> omega) (.cells c1 26)).alloc (by simp <;> omega) (.cells c2 26))
  go_enter Try.func7, Try.ntmps7
  go_wp2_with (first | (go_at_call 11; refine (HS.out _).mono ?_; rintro e w1 ⟨rfl, hb1⟩; have KX1 := Lib.hid (show Whole _ (W.heap.size) 26 c0.toList ∧ Whole _ (W.heap.size + 1) 26 c1.toList ∧ Whole _ (W.heap.size + 1 + 1) 26 c2.toList from ⟨KX.out.1.below hb1 KX.out.1.lt, KX.out.2.1.below hb1 KX.out.2.1.lt, KX.out.2.2.below hb1 KX.out.2.2.lt⟩); have HB1 := Lib.hid (HB.out.trans (hb1.mono HB.out.size)); clear KX HB hb1; have KX := KX1; have HB := HB1; clear KX1 HB1) | (refine wpList_loadC rfl 26 (.tmp 3) rfl ⟨W.heap.size, 0, none⟩ rfl c0 _ KX.out.1.loads Try.underlying26 rfl I0.out ?_) | (refine wpList_loadC rfl 26 (.tmp 4) rfl ⟨W.heap.size + 1, 0, none⟩ rfl c1 _ KX.out.2.1.loads Try.underlying26 rfl I1.out ?_) | (refine wpList_loadC rfl 26 (.tmp 5) rfl ⟨W.heap.size + 1 + 1, 0, none⟩ rfl c2 _ KX.out.2.2.loads Try.underlying26 rfl I2.out ?_) | (go_at_call 12; (first | (with_reducible refine (H01.out _).mono ?_) | (with_reducible refine (H10.out _).mono ?_) | (with_reducible refine (H12.out _).mono ?_) | (with_reducible refine (H02.out _).mono ?_)); rintro e w1 ⟨rfl, hb1⟩; have KX1 := Lib.hid (show Whole _ (W.heap.size) 26 c0.toList ∧ Whole _ (W.heap.size + 1) 26 c1.toList ∧ Whole _ (W.heap.size + 1 + 1) 26 c2.toList from ⟨KX.out.1.below hb1 KX.out.1.lt, KX.out.2.1.below hb1 KX.out.2.1.lt, KX.out.2.2.below hb1 KX.out.2.2.lt⟩); have HB1 := Lib.hid (HB.out.trans (hb1.mono HB.out.size)); clear KX HB hb1; have KX := KX1; have HB := HB1; clear KX1 HB1; refine Hid.out ?_))
  refine Lib.hid ?_
  go_wp2_with (first | (refine wpList_loadC rfl 26 (.tmp 3) rfl ⟨W.heap.size, 0, none⟩ rfl c0 _ KX.out.1.loads Try.underlying26 rfl I0.out ?_) | (refine wpList_loadC rfl 26 (.tmp 4) rfl ⟨W.heap.size + 1, 0, none⟩ rfl c1 _ KX.out.2.1.loads Try.underlying26 rfl I1.out ?_) | (refine wpList_loadC rfl 26 (.tmp 5) rfl ⟨W.heap.size + 1 + 1, 0, none⟩ rfl c2 _ KX.out.2.2.loads Try.underlying26 rfl I2.out ?_) | (go_at_call 12; (first | (with_reducible refine (H01.out _).mono ?_) | (with_reducible refine (H10.out _).mono ?_) | (with_reducible refine (H12.out _).mono ?_) | (with_reducible refine (H02.out _).mono ?_)); rintro e w1 ⟨rfl, hb1⟩; have KX1 := Lib.hid (show Whole _ (W.heap.size) 26 c0.toList ∧ Whole _ (W.heap.size + 1) 26 c1.toList ∧ Whole _ (W.heap.size + 1 + 1) 26 c2.toList from ⟨KX.out.1.below hb1 KX.out.1.lt, KX.out.2.1.below hb1 KX.out.2.1.lt, KX.out.2.2.below hb1 KX.out.2.2.lt⟩); have HB1 := Lib.hid (HB.out.trans (hb1.mono HB.out.size)); clear KX HB hb1; have KX := KX1; have HB := HB1; clear KX1 HB1; refine Hid.out ?_))
  refine Lib.hid ?_
  go_wp2_with (first | (refine wpList_loadC rfl 26 (.tmp 3) rfl ⟨W.heap.size, 0, none⟩ rfl c0 _ KX.out.1.loads Try.underlying26 rfl I0.out ?_) | (refine wpList_loadC rfl 26 (.tmp 4) rfl ⟨W.heap.size + 1, 0, none⟩ rfl c1 _ KX.out.2.1.loads Try.underlying26 rfl I1.out ?_) | (refine wpList_loadC rfl 26 (.tmp 5) rfl ⟨W.heap.size + 1 + 1, 0, none⟩ rfl c2 _ KX.out.2.2.loads Try.underlying26 rfl I2.out ?_) | (go_at_call 12; (first | (with_reducible refine (H01.out _).mono ?_) | (with_reducible refine (H10.out _).mono ?_) | (with_reducible refine (H12.out _).mono ?_) | (with_reducible refine (H02.out _).mono ?_)); rintro e w1 ⟨rfl, hb1⟩; have KX1 := Lib.hid (show Whole _ (W.heap.size) 26 c0.toList ∧ Whole _ (W.heap.size + 1) 26 c1.toList ∧ Whole _ (W.heap.size + 1 + 1) 26 c2.toList from ⟨KX.out.1.below hb1 KX.out.1.lt, KX.out.2.1.below hb1 KX.out.2.1.lt, KX.out.2.2.below hb1 KX.out.2.2.lt⟩); have HB1 := Lib.hid (HB.out.trans (hb1.mono HB.out.size)); clear KX HB hb1; have KX := KX1; have HB := HB1; clear KX1 HB1; refine Hid.out ?_))
  refine Lib.hid ?_
  go_wp2_with (first | (refine wpList_loadC rfl 26 (.tmp 3) rfl ⟨W.heap.size, 0, none⟩ rfl c0 _ KX.out.1.loads Try.underlying26 rfl I0.out ?_) | (refine wpList_loadC rfl 26 (.tmp 4) rfl ⟨W.heap.size + 1, 0, none⟩ rfl c1 _ KX.out.2.1.loads Try.underlying26 rfl I1.out ?_) | (refine wpList_loadC rfl 26 (.tmp 5) rfl ⟨W.heap.size + 1 + 1, 0, none⟩ rfl c2 _ KX.out.2.2.loads Try.underlying26 rfl I2.out ?_) | (go_at_call 12; (first | (with_reducible refine (H01.out _).mono ?_) | (with_reducible refine (H10.out _).mono ?_) | (with_reducible refine (H12.out _).mono ?_) | (with_reducible refine (H02.out _).mono ?_)); rintro e w1 ⟨rfl, hb1⟩; have KX1 := Lib.hid (show Whole _ (W.heap.size) 26 c0.toList ∧ Whole _ (W.heap.size + 1) 26 c1.toList ∧ Whole _ (W.heap.size + 1 + 1) 26 c2.toList from ⟨KX.out.1.below hb1 KX.out.1.lt, KX.out.2.1.below hb1 KX.out.2.1.lt, KX.out.2.2.below hb1 KX.out.2.2.lt⟩); have HB1 := Lib.hid (HB.out.trans (hb1.mono HB.out.size)); clear KX HB hb1; have KX := KX1; have HB := HB1; clear KX1 HB1; refine Hid.out ?_))
  refine Lib.hid ?_
  clear HS H01 H10 H12 H02
  have he := HE.out
  have hk := HKK.out
  have hh := HHH.out
  have f1 := F1.out
  have f2 := F2.out
  clear HE HKK HHH F1 F2
  rcases he with rfl | rfl
  rotate_left
  · clear f1 f2 hk hh
    go_wp2_with fail
    go_ret
    exact ⟨by first | rfl | (simp; done), HB.out⟩
  · obtain ⟨f1a, f1b⟩ := f1 rfl
    have f2' := f2 rfl
    clear f1 f2
    cases x <;> cases y
    all_goals (try (exact absurd ⟨rfl, rfl⟩ f1a))
    all_goals cases d
    all_goals (try (exact absurd f1b (by decide)))
    all_goals clear f1a f1b
    all_goals
      rcases hk with rfl | rfl
    all_goals (try (rcases hh with rfl | rfl))
    all_goals (try (have f3 := f2' rfl rfl rfl; cases z <;> try (obtain rfl := f3 rfl)))
    all_goals (try clear f3)
    all_goals
      clear f2'
    all_goals
      go_wp2_with (first | (refine wpList_loadCw (by simp [Region.wanted, yielded, Act.put] <;> rfl) 26 (.tmp 3) rfl ⟨W.heap.size, 0, none⟩ rfl c0 _ KX.out.1.loads Try.underlying26 rfl I0.out ?_) | (refine wpList_loadCw (by simp [Region.wanted, yielded, Act.put] <;> rfl) 26 (.tmp 4) rfl ⟨W.heap.size + 1, 0, none⟩ rfl c1 _ KX.out.2.1.loads Try.underlying26 rfl I1.out ?_) | (refine wpList_binC (by simp [Region.wanted, yielded, Act.put] <;> rfl) .neq 26 26 (.tmp 57) (.tmp 58) rfl _ _ _ rfl rfl (HQ.out _ _ _) (HN.out _) ?_))
      go_ret
      exact ⟨by first | rfl | (simp; done), HB.out⟩

set_option maxRecDepth 100000 in
theorem lifted (os : Os) (started : os.Started) (H : Type) (enc : TypeId × Value → H) :
    ReturnsInHanded {} Try.checked os 7 .any (Rows.contestTwoSpec.pre6 enc Try.prog Try.f7 Rows.contestTwoRow.domain false) (Rows.contestTwoSpec.post enc Try.prog Try.f7 false true false false) := by
  refine returnsInHanded_of_change (C := Try.checked) own started (by kernel_rfl) Try.func7
    (ChangeSpec.witness6 (enc := enc) (C := Try.checked) false ⟨#[], #[.agg #[.int .i64 0, .int .i64 0, .int .u32 0, .int .i64 0, .int .i64 0, .int .i64 0], .agg #[.int .i64 0, .int .i64 0, .int .u32 0, .int .i64 0, .int .i64 0, .int .i64 0], .agg #[.int .i64 0, .int .i64 0, .int .u32 0, .int .i64 0, .int .i64 0, .int .i64 0]], []⟩ 8 (by kernel_rfl) (by kernel_rfl) (by kernel_rfl) (by kernel_rfl)) ?_
  intro W base args ds gs before hval0 hW hcnd _
  have hval : ∀ (j : Nat) t v, Try.f7.params[j]? = some t → args[j]? = some v → Value.okWide Try.prog W .any base t v := hval0
  have hW' := hW
  obtain ⟨p, q, hA0, hV, rfl, hfz, hnd⟩ := hW
  have hA : DataW.TrodAll enc Try.prog W 0 (fun _ => true) true Try.f7.params.toList args.toList ds p := hA0
  rw [Try.params7] at hA hval
  obtain ⟨v0, vs0, d0, ds0, p0, q0, hargs, rfl, rfl, h0, r0⟩ := trodAll_cons hA
  obtain ⟨v1, vs1, d1, ds1, p1, q1, rfl, rfl, rfl, h1, r1⟩ := trodAll_cons r0
  obtain ⟨v2, vs2, d2, ds2, p2, q2, rfl, rfl, rfl, h2, r2⟩ := trodAll_cons r1
  obtain ⟨rfl, rfl, rfl⟩ := trodAll_nil r2
  obtain rfl : args = #[v0, v1, v2] := by cases args; simp_all
  obtain ⟨rfl, rfl⟩ := trodVars_none hV
  obtain ⟨a0, rfl, rfl, rfl, w0⟩ := open_side (hval 0 26 v0 rfl rfl) h0
  obtain ⟨a1, rfl, rfl, rfl, w1⟩ := open_side (hval 1 26 v1 rfl rfl) h1
  obtain ⟨a2, rfl, rfl, rfl, w2⟩ := open_side (hval 2 26 v2 rfl rfl) h2
  clear hA0 hval0
  simp only [List.append_nil] at hW'
  refine (walk a0 w0 a1 w1 a2 w2 W).mono fun e W' ⟨he, hg⟩ => ?_
  subst he
  exact ⟨_, rfl, _, _, _, [], [], [], hW', (trodAll_cons_mk (shut_bool Try.underlying4 _) trodAll_mk0), (trodAll_cons_mk (shut_side a0 w0) (trodAll_cons_mk (shut_side a1 w1) (trodAll_cons_mk (shut_side a2 w2) trodAll_mk0))), rfl, hg.frame _, fun h => by cases h⟩

theorem over : Rows.contestTwoRow.holds Try.pinned (OpenSpec.ofChange Rows.contestTwoSpec) :=
  OpenClaim.holds_of_wide 7 Try.f7 rfl rfl rfl rfl rfl rfl rfl ⟨rfl, rfl, rfl, rfl, rfl⟩ rfl rfl rfl rfl rfl (by kernel_rfl) Try.func7 (by kernel_rfl)
    (of_decide_eq_true (by kernel_rfl)) (by unfold Func.isWrapper; first | (rw [if_pos (by decide +kernel)]; kernel_rfl) | (rw [if_neg (by decide +kernel)]; exact ⟨rfl, rfl⟩))
    (fun os started H enc _ => lifted os started H enc)

/-- the statement -/
theorem proved : Rows.ContestTwoSaid :=
  over
#print axioms proved
end Go.Proofs.Ytbhpclligoemcaa.contestTwo
