/- What is computed has no length below 0, and spans that may be: for every style. -/
import Derived.Test.YtmhpailpjfieoaaRows
import Derived.WalkKit
import Derived.ProofKit
import Derived.OpenShut
import Derived.Below
import Derived.Test.YtmhpailpjfieoaaSLaw
import Derived.ShutString
namespace Go.Proofs.Ytmhpailpjfieoaa.styleBounds
open Go.ChangeShapes Go.WideShapes Go.ChangeAt Go.RowKit
set_option linter.unusedVariables false

theorem own : ownKnob Try.prog.godebug = none := by kernel_rfl

set_option maxRecDepth 100000 in
set_option maxHeartbeats 4000000 in
theorem walk_bad (s : Sty) (w : World) (hv : validS s = false) : Calls Try.prog 6 #[s.val] w fun e w' => e = .returned (.bool true) ∧ Below w.heap.size w w' := by
  obtain ⟨cs, hcs⟩ : ∃ cs, s.cells.toArray = cs := ⟨_, rfl⟩
  obtain ⟨fs, hfs⟩ : ∃ fs, (Sty.zero).cells.toArray = fs := ⟨_, rfl⟩
  have kb : Whole (w.alloc (.cells cs 31)) w.heap.size 31 s.cells := by rw [← hcs]; exact whole_new w s.cells 31 _ rfl
  have KB := Lib.hid kb
  have HB : Hid (Below w.heap.size w (w.alloc (.cells cs 31))) := Lib.hid ((Below.refl _ w).alloc (Nat.le_refl _) _)
  have SH := Lib.hid (fun X => shown_any X)
  have iC : Hid ((Try.prog.info? 31).map (·.size) = some cs.size) := Lib.hid (by rw [← hcs]; exact sty_info _)
  have iF : Hid ((Try.prog.info? 31).map (·.size) = some fs.size) := Lib.hid (by rw [← hfs]; exact sty_info _)
  have oF : Hid (fs.all (·.oneCell') = true) := Lib.hid (by rw [← hfs]; exact cells_one _)
  have zF : Hid (Sty.zero.cells.toArray.size = fs.size) := Lib.hid (by rw [← hfs] <;> rfl)
  have hE : ∀ X : World, (binOp .eql 31 (.agg fs) (.agg fs)).run Try.prog X = .ok (.bool true) X := fun X => by rw [← hfs]; exact sty_eql _ X
  have hsv : s.val = .agg cs := by rw [← hcs]; rfl
  rw [hsv]
  have HC := Lib.hid hcs
  have HF := Lib.hid hfs
  clear kb hcs hfs
  have C1 : Hid (∀ X : World, Calls Try.prog 9 #[.agg cs] X fun e W' => e = .returned (.tuple #[.agg fs, .int .i64 30]) ∧ Below X.heap.size X W') := Lib.hid fun X => by
    have h := comp_any s X
    rw [compR, if_neg (by rw [hv]; simp), if_neg (by rw [hv]; simp), hsv, show Sty.zero.val = .agg Sty.zero.cells.toArray from rfl, HF.out] at h
    exact h
  clear hv hE hsv
  go_enter Try.func6, Try.ntmps6
  go_wp2_with (first
    | (go_at_call 8; refine (SH.out _).mono ?_; clear SH; rintro e w1 ⟨rfl, hb1⟩; have b1 := Lib.hid (HB.out.trans (hb1.mono (by simp))); have k1 := Lib.hid (KB.out.below hb1 (by simp)); have k1c := k1.out; unfold Whole at k1c; rw [HC.out] at k1c; clear hb1)
    | (refine wpList_load_row_w rfl 31 (.tmp 1) rfl _ rfl 31 cs (0, 0) _ k1c Try.underlying31 rfl iC.out ?_; clear k1c)
    | (go_at_call 9; refine (C1.out _).mono ?_; clear C1; rintro e w2 ⟨rfl, hb2⟩; have b2 := Lib.hid (b1.out.trans (hb2.mono b1.out.size)); have k2 := Lib.hid (k1.out.below hb2 k1.out.lt); clear hb2)
    | (refine wpList_store_row rfl 31 (.tmp 4) (.tmp 13) rfl _ fs rfl rfl 31 Sty.zero.cells.toArray (whole_new w2 Sty.zero.cells 31 _ rfl) iF.out zF.out oF.out ?_; refine at_world (fun X => Whole X (w.heap.size) 31 s.cells ∧ Whole X w2.heap.size 31 (Sty.zero).cells ∧ Below w.heap.size w X) ⟨whole_row_other (k2.out.alloc _) _ _ (Nat.ne_of_lt k2.out.lt), (by rw [← HF.out]; exact whole_row (whole_new w2 Sty.zero.cells 31 _ rfl) _), (b2.out.trans ((Below.refl _ w2).alloc b2.out.size _)).trans (below_row _ _ _ b2.out.size)⟩ (fun X2 hX => ?_); obtain ⟨ka, kr, bX⟩ := hX; have BX := Lib.hid bX; clear bX ka kr k2 b2))
  go_ret
  exact ⟨rfl, BX.out⟩
set_option maxRecDepth 100000 in
set_option maxHeartbeats 8000000 in
theorem walk_good (s : Sty) (w : World) (hv : validS s = true) : Calls Try.prog 6 #[s.val] w fun e w' => e = .returned (.bool true) ∧ Below w.heap.size w w' := by
  obtain ⟨cs, hcs⟩ : ∃ cs, s.cells.toArray = cs := ⟨_, rfl⟩
  obtain ⟨fs, hfs⟩ : ∃ fs, (compS s).cells.toArray = fs := ⟨_, rfl⟩
  have kb : Whole (w.alloc (.cells cs 31)) w.heap.size 31 s.cells := by rw [← hcs]; exact whole_new w s.cells 31 _ rfl
  have KB := Lib.hid kb
  have HB : Hid (Below w.heap.size w (w.alloc (.cells cs 31))) := Lib.hid ((Below.refl _ w).alloc (Nat.le_refl _) _)
  have SH := Lib.hid (fun X => shown_any X)
  have iC : Hid ((Try.prog.info? 31).map (·.size) = some cs.size) := Lib.hid (by rw [← hcs]; exact sty_info _)
  have iF : Hid ((Try.prog.info? 31).map (·.size) = some fs.size) := Lib.hid (by rw [← hfs]; exact sty_info _)
  have oF : Hid (fs.all (·.oneCell') = true) := Lib.hid (by rw [← hfs]; exact cells_one _)
  have zF : Hid (Sty.zero.cells.toArray.size = fs.size) := Lib.hid (by rw [← hfs] <;> rfl)
  have hE : ∀ X : World, (binOp .eql 31 (.agg fs) (.agg fs)).run Try.prog X = .ok (.bool true) X := fun X => by rw [← hfs]; exact sty_eql _ X
  have hsv : s.val = .agg cs := by rw [← hcs]; rfl
  rw [hsv]
  have HC := Lib.hid hcs
  have HF := Lib.hid hfs
  clear kb hcs hfs
  have hfv : (compS s).val = .agg fs := by rw [← HF.out]; rfl
  have C1 : Hid (∀ X : World, Calls Try.prog 9 #[.agg cs] X fun e W' => e = .returned (.tuple #[.agg fs, .int .i64 0]) ∧ Below X.heap.size X W') := Lib.hid fun X => by
    have h := comp_any s X
    rw [compR, if_pos hv, if_pos hv, hsv, hfv] at h
    exact h
  obtain ⟨hbd, hwn, hhn, hg0, hg1, ⟨hc1, hc2⟩, hr1, hr2⟩ := comp_bounds hv
  obtain ⟨q, hq⟩ : ∃ q, compS s = q := ⟨_, rfl⟩
  have hq0 := hbd 0 (by omega)
  have hq1 := hbd 1 (by omega)
  have hq2 := hbd 2 (by omega)
  have hq3 := hbd 3 (by omega)
  rw [hq] at hwn hhn hg0 hg1 hc1 hc2 hr1 hr2 hq0 hq1 hq2 hq3 HF hfv hbd
  have FT : Hid (∀ X : World, Calls Try.prog 13 #[.agg fs, .bool true] X fun e W' => e = .returned (.agg #[.int .i64 ((q.sd 0).p + (q.sd 0).w), .int .i64 ((q.sd 1).p + (q.sd 1).w), .int .i64 ((q.sd 2).p + (q.sd 2).w), .int .i64 ((q.sd 3).p + (q.sd 3).w)]) ∧ Below X.heap.size X W') := Lib.hid fun X => by
    have h := frame_any q true X (fun k hk => by have := hbd k hk; exact ⟨⟨by omega, by omega⟩, by omega, by omega⟩)
    rw [hfv] at h
    have e : (four (frS true q)).toArray = #[.int .i64 ((q.sd 0).p + (q.sd 0).w), .int .i64 ((q.sd 1).p + (q.sd 1).w), .int .i64 ((q.sd 2).p + (q.sd 2).w), .int .i64 ((q.sd 3).p + (q.sd 3).w)] := by
      simp only [four, frS, frV, if_true]
      rw [sat_in (by omega) (by omega), sat_in (by omega) (by omega), sat_in (by omega) (by omega), sat_in (by omega) (by omega)]
    rw [e] at h; exact h
  have FF : Hid (∀ X : World, Calls Try.prog 13 #[.agg fs, .bool false] X fun e W' => e = .returned (.agg #[.int .i64 (q.sd 0).p, .int .i64 (q.sd 1).p, .int .i64 (q.sd 2).p, .int .i64 (q.sd 3).p]) ∧ Below X.heap.size X W') := Lib.hid fun X => by
    have h := frame_any q false X (fun k hk => by have := hbd k hk; exact ⟨⟨by omega, by omega⟩, by omega, by omega⟩)
    rw [hfv] at h; exact h
  have KC : Hid (∀ (Y : World) (g : Nat), Whole Y g 31 q.cells → Y.cell? ⟨g, 1, none⟩ = some (.int .i64 q.wn) ∧ Y.cell? ⟨g, 3, none⟩ = some (.int .i64 q.hn) ∧ (Y.cell? ⟨g, 4, none⟩ = some (.int .i64 (q.sd 0).p) ∧ Y.cell? ⟨g, 5, none⟩ = some (.int .i64 (q.sd 1).p) ∧ Y.cell? ⟨g, 6, none⟩ = some (.int .i64 (q.sd 2).p) ∧ Y.cell? ⟨g, 7, none⟩ = some (.int .i64 (q.sd 3).p)) ∧
      (Y.cell? ⟨g, 9, none⟩ = some (.int .i64 (q.sd 0).w) ∧ Y.cell? ⟨g, 12, none⟩ = some (.int .i64 (q.sd 1).w) ∧ Y.cell? ⟨g, 15, none⟩ = some (.int .i64 (q.sd 2).w) ∧ Y.cell? ⟨g, 18, none⟩ = some (.int .i64 (q.sd 3).w)) ∧ Y.cell? ⟨g, 20, none⟩ = some (.int .i64 q.cs) ∧ Y.cell? ⟨g, 21, none⟩ = some (.int .i64 q.rs) ∧ Y.cell? ⟨g, 25, none⟩ = some (.int .i64 q.g0) ∧ Y.cell? ⟨g, 26, none⟩ = some (.int .i64 q.g1)) := Lib.hid fun Y g h =>
    ⟨h.cellAt 1, h.cellAt 3, ⟨h.cellAt 4, h.cellAt 5, h.cellAt 6, h.cellAt 7⟩, ⟨h.cellAt 9, h.cellAt 12, h.cellAt 15, h.cellAt 18⟩, h.cellAt 20, h.cellAt 21, h.cellAt 25, h.cellAt 26⟩
  generalize (q.sd 0).p = p0 at *
  generalize (q.sd 1).p = p1 at *
  generalize (q.sd 2).p = p2 at *
  generalize (q.sd 3).p = p3 at *
  generalize (q.sd 0).w = v0 at *
  generalize (q.sd 1).w = v1 at *
  generalize (q.sd 2).w = v2 at *
  generalize (q.sd 3).w = v3 at *
  obtain ⟨a0, b0, c0, e0⟩ := hq0
  obtain ⟨a1, b1', c1, e1⟩ := hq1
  obtain ⟨a2, b2', c2, e2⟩ := hq2
  obtain ⟨a3, b3', c3, e3⟩ := hq3
  have na0 : ¬ p0 < 0 := by omega
  have nb0 : ¬ v0 < 0 := by omega
  have sm0 : IntKind.i64.wrap (p0 + v0) = p0 + v0 := by simp [IntKind.wrap, IntKind.bits, IntKind.signed]; omega
  have na1 : ¬ p1 < 0 := by omega
  have nb1 : ¬ v1 < 0 := by omega
  have sm1 : IntKind.i64.wrap (p1 + v1) = p1 + v1 := by simp [IntKind.wrap, IntKind.bits, IntKind.signed]; omega
  have na2 : ¬ p2 < 0 := by omega
  have nb2 : ¬ v2 < 0 := by omega
  have sm2 : IntKind.i64.wrap (p2 + v2) = p2 + v2 := by simp [IntKind.wrap, IntKind.bits, IntKind.signed]; omega
  have na3 : ¬ p3 < 0 := by omega
  have nb3 : ¬ v3 < 0 := by omega
  have sm3 : IntKind.i64.wrap (p3 + v3) = p3 + v3 := by simp [IntKind.wrap, IntKind.bits, IntKind.signed]; omega
  clear hv hE hsv hfv hbd hq
  go_enter Try.func6, Try.ntmps6
  go_wp2_with (first
    | (go_at_call 8; refine (SH.out _).mono ?_; clear SH; rintro e w1 ⟨rfl, hb1⟩; have b1 := Lib.hid (HB.out.trans (hb1.mono (by simp))); have k1 := Lib.hid (KB.out.below hb1 (by simp)); have k1c := k1.out; unfold Whole at k1c; rw [HC.out] at k1c; clear hb1)
    | (refine wpList_load_row_w rfl 31 (.tmp 1) rfl _ rfl 31 cs (0, 0) _ k1c Try.underlying31 rfl iC.out ?_; clear k1c)
    | (go_at_call 9; refine (C1.out _).mono ?_; clear C1; rintro e w2 ⟨rfl, hb2⟩; have b2 := Lib.hid (b1.out.trans (hb2.mono b1.out.size)); have k2 := Lib.hid (k1.out.below hb2 k1.out.lt); clear hb2)
    | (refine wpList_store_row rfl 31 (.tmp 4) (.tmp 13) rfl _ fs rfl rfl 31 Sty.zero.cells.toArray (whole_new w2 Sty.zero.cells 31 _ rfl) iF.out zF.out oF.out ?_; refine at_world (fun X => Whole X (w.heap.size) 31 s.cells ∧ Whole X w2.heap.size 31 (q).cells ∧ Below w.heap.size w X) ⟨whole_row_other (k2.out.alloc _) _ _ (Nat.ne_of_lt k2.out.lt), (by rw [← HF.out]; exact whole_row (whole_new w2 Sty.zero.cells 31 _ rfl) _), (b2.out.trans ((Below.refl _ w2).alloc b2.out.size _)).trans (below_row _ _ _ b2.out.size)⟩ (fun X2 hX => ?_); obtain ⟨ka, kr, bX⟩ := hX; have b3 := Lib.hid bX; have k3 := Lib.hid kr; unfold Whole at kr; rw [HF.out] at kr; clear bX ka k2 b2)
    | (refine wpList_load_row_w rfl 31 (.tmp 4) rfl _ rfl 31 fs (0, 0) _ kr Try.underlying31 rfl iF.out ?_; clear kr)
    | (go_at_call 13; refine (FT.out _).mono ?_; clear FT; rintro e w4 ⟨rfl, hb4⟩; have b4 := Lib.hid (b3.out.trans (hb4.mono b3.out.size)); have k4 := Lib.hid (k3.out.below hb4 k3.out.lt); have k4c := (k4.out.alloc (.cells #[.int .i64 (p0 + v0), .int .i64 (p1 + v1), .int .i64 (p2 + v2), .int .i64 (p3 + v3)] 24)); have k4h := Lib.hid k4c; unfold Whole at k4c; rw [HF.out] at k4c; clear hb4)
    | (refine wpList_load_row_w rfl 31 (.tmp 4) rfl _ rfl 31 fs (0, 0) _ k4c Try.underlying31 rfl iF.out ?_; clear k4c)
    | (go_at_call 13; refine (FF.out _).mono ?_; clear FF; rintro e w5 ⟨rfl, hb5⟩; have n4 := Lib.hid ((whole_new w4 [.int .i64 (p0 + v0), .int .i64 (p1 + v1), .int .i64 (p2 + v2), .int .i64 (p3 + v3)] 24 _ rfl).below hb5 (by simp)); have k5 := Lib.hid (k4h.out.below hb5 k4h.out.lt); have b5 := Lib.hid (((b4.out.alloc b4.out.size _).trans (hb5.mono (by have := b4.out.size; simp; omega)))); clear hb5))
  obtain ⟨Y, hY⟩ : ∃ Y, w5.alloc (.cells #[.int .i64 p0, .int .i64 p1, .int .i64 p2, .int .i64 p3] 24) = Y := ⟨_, rfl⟩
  have ky : Whole Y w2.heap.size 31 q.cells := by rw [← hY]; exact k5.out.alloc _
  have kw : Whole Y w4.heap.size 24 [.int .i64 (p0 + v0), .int .i64 (p1 + v1), .int .i64 (p2 + v2), .int .i64 (p3 + v3)] := by rw [← hY]; exact n4.out.alloc _
  have kv : Whole Y w5.heap.size 24 [.int .i64 p0, .int .i64 p1, .int .i64 p2, .int .i64 p3] := by rw [← hY]; exact whole_new w5 [.int .i64 p0, .int .i64 p1, .int .i64 p2, .int .i64 p3] 24 _ rfl
  have BY := Lib.hid (show Below w.heap.size w Y by rw [← hY]; exact b5.out.alloc b5.out.size _)
  rw [hY]
  clear hY n4 k5 b5 k4h k4 b4 k3 b3
  obtain ⟨d1, d3, ⟨d4, d5, d6, d7⟩, ⟨d9, d12, d15, d18⟩, d20, d21, d25, d26⟩ := KC.out Y _ ky
  have ly := ky.lt
  have f0 : Y.cell? ⟨w4.heap.size, 0, none⟩ = some (.int .i64 (p0 + v0)) := kw.cellAt 0
  have f1 : Y.cell? ⟨w4.heap.size, 1, none⟩ = some (.int .i64 (p1 + v1)) := kw.cellAt 1
  have f2 : Y.cell? ⟨w4.heap.size, 2, none⟩ = some (.int .i64 (p2 + v2)) := kw.cellAt 2
  have f3 : Y.cell? ⟨w4.heap.size, 3, none⟩ = some (.int .i64 (p3 + v3)) := kw.cellAt 3
  have lw := kw.lt
  have g0 : Y.cell? ⟨w5.heap.size, 0, none⟩ = some (.int .i64 p0) := kv.cellAt 0
  have g1 : Y.cell? ⟨w5.heap.size, 1, none⟩ = some (.int .i64 p1) := kv.cellAt 1
  have g2 : Y.cell? ⟨w5.heap.size, 2, none⟩ = some (.int .i64 p2) := kv.cellAt 2
  have g3 : Y.cell? ⟨w5.heap.size, 3, none⟩ = some (.int .i64 p3) := kv.cellAt 3
  have lv := kv.lt
  clear ky kw kv KC
  refine wp_loop_rounds 5 ?_
  rw [rounds_succ]
  go_wp2
  go_quiet (fail)
  go_wp2
  rw [rounds_succ]
  go_wp2
  go_quiet (fail)
  go_wp2
  rw [rounds_succ]
  go_wp2
  go_quiet (fail)
  go_wp2
  rw [rounds_succ]
  go_wp2
  go_quiet (fail)
  go_wp2
  rw [rounds_succ]
  go_wp2

  go_ret
  exact ⟨rfl, BY.out.trans (below_dn _ _ _)⟩
theorem walk (s : Sty) (hs : s.wf) (w : World) : Calls Try.prog 6 #[s.val] w fun e w' => e = .returned (.bool true) ∧ Below w.heap.size w w' := by
  cases hv : validS s with
  | true => exact walk_good s w hv
  | false => exact walk_bad s w hv

set_option maxRecDepth 100000 in
theorem lifted (os : Os) (started : os.Started) (H : Type) (enc : TypeId × Value → H) :
    ReturnsInHanded {} Try.checked os 6 .any (Rows.styleBoundsSpec.pre6 enc Try.prog Try.f6 Rows.styleBoundsRow.domain false) (Rows.styleBoundsSpec.post enc Try.prog Try.f6 false true false false) := by
  refine returnsInHanded_of_change (C := Try.checked) own started (by kernel_rfl) Try.func6
    (ChangeSpec.witness6 (enc := enc) (C := Try.checked) false ⟨#[], #[.agg #[.int .i64 0, .int .i64 0, .int .i64 0, .int .i64 0, .int .i64 0, .int .i64 0, .int .i64 0, .int .i64 0, .int .i64 0, .int .i64 0, .int .u32 0, .int .i64 0, .int .i64 0, .int .u32 0, .int .i64 0, .int .i64 0, .int .u32 0, .int .i64 0, .int .i64 0, .int .u32 0, .int .i64 0, .int .i64 0, .int .i64 0, .bool false, .bool false, .int .i64 0, .int .i64 0, .bool false, .bool false]], []⟩ 8 (by kernel_rfl) (by kernel_rfl) (by kernel_rfl) (by kernel_rfl)) ?_
  intro W base args ds gs before hval0 hW hcnd _
  have hval : ∀ (j : Nat) t v, Try.f6.params[j]? = some t → args[j]? = some v → Value.okWide Try.prog W .any base t v := hval0
  have hW' := hW
  obtain ⟨p, q, hA0, hV, rfl, hfz, hnd⟩ := hW
  have hA : DataW.TrodAll enc Try.prog W 0 (fun _ => true) true Try.f6.params.toList args.toList ds p := hA0
  rw [Try.params6] at hA hval
  obtain ⟨v0, vs0, d0, ds0, p0, q0, hargs, rfl, rfl, h0, r0⟩ := trodAll_cons hA
  obtain ⟨rfl, rfl, rfl⟩ := trodAll_nil r0
  obtain rfl : args = #[v0] := by cases args; simp_all
  obtain ⟨rfl, rfl⟩ := trodVars_none hV
  obtain ⟨a0, rfl, rfl, rfl, w0⟩ := open_sty (hval 0 31 v0 rfl rfl) h0
  clear hA0 hval0
  simp only [List.append_nil] at hW'
  refine (walk a0 w0 W).mono fun e W' ⟨he, hg⟩ => ?_
  subst he
  exact ⟨_, rfl, _, _, _, [], [], [], hW', (trodAll_cons_mk (shut_bool Try.underlying4 _) trodAll_mk0), (trodAll_cons_mk (shut_sty a0 w0) trodAll_mk0), rfl, hg.frame _, fun h => by cases h⟩

theorem over : Rows.styleBoundsRow.holds Try.pinned (OpenSpec.ofChange Rows.styleBoundsSpec) :=
  OpenClaim.holds_of_wide 6 Try.f6 rfl rfl rfl rfl rfl rfl rfl ⟨rfl, rfl, rfl, rfl, rfl⟩ rfl rfl rfl rfl rfl (by kernel_rfl) Try.func6 (by kernel_rfl)
    (of_decide_eq_true (by kernel_rfl)) (by unfold Func.isWrapper; first | (rw [if_pos (by decide +kernel)]; kernel_rfl) | (rw [if_neg (by decide +kernel)]; exact ⟨rfl, rfl⟩))
    (fun os started H enc _ => lifted os started H enc)

/-- the statement -/
theorem proved : Rows.StyleBoundsSaid :=
  over
#print axioms proved
end Go.Proofs.Ytmhpailpjfieoaa.styleBounds
