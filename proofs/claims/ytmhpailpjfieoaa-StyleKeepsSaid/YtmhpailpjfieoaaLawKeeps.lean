/- What is right already stays: colours, styles, shares, and how things are aligned: for every style. -/
import Derived.Test.YtmhpailpjfieoaaRows
import Derived.WalkKit
import Derived.ProofKit
import Derived.OpenShut
import Derived.Below
import Derived.Test.YtmhpailpjfieoaaSLaw
import Derived.ShutString
namespace Go.Proofs.Ytmhpailpjfieoaa.styleKeeps
open Go.ChangeShapes Go.WideShapes Go.ChangeAt Go.RowKit
set_option linter.unusedVariables false

theorem own : ownKnob Try.prog.godebug = none := by kernel_rfl

set_option maxRecDepth 100000 in
set_option maxHeartbeats 4000000 in
theorem walk_bad (s : Sty) (w : World) (hv : validS s = false) : Calls Try.prog 7 #[s.val] w fun e w' => e = .returned (.bool true) ∧ Below w.heap.size w w' := by
  obtain ⟨cs, hcs⟩ : ∃ cs, s.cells.toArray = cs := ⟨_, rfl⟩
  obtain ⟨fs, hfs⟩ : ∃ fs, (Sty.zero).cells.toArray = fs := ⟨_, rfl⟩
  have kb : Whole (w.alloc (.cells cs 31)) w.heap.size 31 s.cells := by rw [← hcs]; exact whole_new w s.cells 31 _ rfl
  have KB := Lib.hid kb
  have HB : Hid (Below w.heap.size w (w.alloc (.cells cs 31))) := Lib.hid ((Below.refl _ w).alloc (Nat.le_refl _) _)
  have SH := Lib.hid (fun X => shown_any X)
  have iC : Hid ((Try.prog.info? 31).map (·.size) = some cs.size) := Lib.hid (by rw [← hcs]; exact sty_info _)
  have iF : Hid ((Try.prog.info? 31).map (·.size) = some fs.size) := Lib.hid (by rw [← hfs]; exact sty_info _)
  have oF : Hid (fs.all (·.oneCell') = true) := Lib.hid (by rw [← hfs]; exact cells_one _)
  have zF : Hid (Sty.zero.cells.toArray.size = fs.size) := Lib.hid (by rw [← hfs] <;> rfl)
  have hE : ∀ X : World, (binOp .eql 31 (.agg fs) (.agg fs)).run Try.prog X = .ok (.bool true) X := fun X => by rw [← hfs]; exact sty_eql _ X
  have hsv : s.val = .agg cs := by rw [← hcs]; rfl
  rw [hsv]
  have HC := Lib.hid hcs
  have HF := Lib.hid hfs
  clear kb hcs hfs
  have C1 : Hid (∀ X : World, Calls Try.prog 9 #[.agg cs] X fun e W' => e = .returned (.tuple #[.agg fs, .int .i64 30]) ∧ Below X.heap.size X W') := Lib.hid fun X => by
    have h := comp_any s X
    rw [compR, if_neg (by rw [hv]; simp), if_neg (by rw [hv]; simp), hsv, show Sty.zero.val = .agg Sty.zero.cells.toArray from rfl, HF.out] at h
    exact h
  clear hv hE hsv
  go_enter Try.func7, Try.ntmps7
  go_wp2_with (first
    | (go_at_call 8; refine (SH.out _).mono ?_; clear SH; rintro e w1 ⟨rfl, hb1⟩; have b1 := Lib.hid (HB.out.trans (hb1.mono (by simp))); have k1 := Lib.hid (KB.out.below hb1 (by simp)); have k1c := k1.out; unfold Whole at k1c; rw [HC.out] at k1c; clear hb1)
    | (refine wpList_load_row_w rfl 31 (.tmp 1) rfl _ rfl 31 cs (0, 0) _ k1c Try.underlying31 rfl iC.out ?_; clear k1c)
    | (go_at_call 9; refine (C1.out _).mono ?_; clear C1; rintro e w2 ⟨rfl, hb2⟩; have b2 := Lib.hid (b1.out.trans (hb2.mono b1.out.size)); have k2 := Lib.hid (k1.out.below hb2 k1.out.lt); clear hb2)
    | (refine wpList_store_row rfl 31 (.tmp 4) (.tmp 11) rfl _ fs rfl rfl 31 Sty.zero.cells.toArray (whole_new w2 Sty.zero.cells 31 _ rfl) iF.out zF.out oF.out ?_; refine at_world (fun X => Whole X (w.heap.size) 31 s.cells ∧ Whole X w2.heap.size 31 (Sty.zero).cells ∧ Below w.heap.size w X) ⟨whole_row_other (k2.out.alloc _) _ _ (Nat.ne_of_lt k2.out.lt), (by rw [← HF.out]; exact whole_row (whole_new w2 Sty.zero.cells 31 _ rfl) _), (b2.out.trans ((Below.refl _ w2).alloc b2.out.size _)).trans (below_row _ _ _ b2.out.size)⟩ (fun X2 hX => ?_); obtain ⟨ka, kr, bX⟩ := hX; have BX := Lib.hid bX; clear bX ka kr k2 b2))
  go_ret
  exact ⟨rfl, BX.out⟩
set_option maxRecDepth 100000 in
set_option maxHeartbeats 8000000 in
theorem walk_good (s : Sty) (w : World) (hv : validS s = true) : Calls Try.prog 7 #[s.val] w fun e w' => e = .returned (.bool true) ∧ Below w.heap.size w w' := by
  obtain ⟨cs, hcs⟩ : ∃ cs, s.cells.toArray = cs := ⟨_, rfl⟩
  obtain ⟨fs, hfs⟩ : ∃ fs, (compS s).cells.toArray = fs := ⟨_, rfl⟩
  have kb : Whole (w.alloc (.cells cs 31)) w.heap.size 31 s.cells := by rw [← hcs]; exact whole_new w s.cells 31 _ rfl
  have KB := Lib.hid kb
  have HB : Hid (Below w.heap.size w (w.alloc (.cells cs 31))) := Lib.hid ((Below.refl _ w).alloc (Nat.le_refl _) _)
  have SH := Lib.hid (fun X => shown_any X)
  have iC : Hid ((Try.prog.info? 31).map (·.size) = some cs.size) := Lib.hid (by rw [← hcs]; exact sty_info _)
  have iF : Hid ((Try.prog.info? 31).map (·.size) = some fs.size) := Lib.hid (by rw [← hfs]; exact sty_info _)
  have oF : Hid (fs.all (·.oneCell') = true) := Lib.hid (by rw [← hfs]; exact cells_one _)
  have zF : Hid (Sty.zero.cells.toArray.size = fs.size) := Lib.hid (by rw [← hfs] <;> rfl)
  have hE : ∀ X : World, (binOp .eql 31 (.agg fs) (.agg fs)).run Try.prog X = .ok (.bool true) X := fun X => by rw [← hfs]; exact sty_eql _ X
  have hsv : s.val = .agg cs := by rw [← hcs]; rfl
  rw [hsv]
  have HC := Lib.hid hcs
  have HF := Lib.hid hfs
  clear kb hcs hfs
  have hfv : (compS s).val = .agg fs := by rw [← HF.out]; rfl
  have C1 : Hid (∀ X : World, Calls Try.prog 9 #[.agg cs] X fun e W' => e = .returned (.tuple #[.agg fs, .int .i64 0]) ∧ Below X.heap.size X W') := Lib.hid fun X => by
    have h := comp_any s X
    rw [compR, if_pos hv, if_pos hv, hsv, hfv] at h
    exact h
  clear hv hE hsv hfv
  go_enter Try.func7, Try.ntmps7
  go_wp2_with (first
    | (go_at_call 8; refine (SH.out _).mono ?_; clear SH; rintro e w1 ⟨rfl, hb1⟩; have b1 := Lib.hid (HB.out.trans (hb1.mono (by simp))); have k1 := Lib.hid (KB.out.below hb1 (by simp)); have k1c := k1.out; unfold Whole at k1c; rw [HC.out] at k1c; clear hb1)
    | (refine wpList_load_row_w rfl 31 (.tmp 1) rfl _ rfl 31 cs (0, 0) _ k1c Try.underlying31 rfl iC.out ?_; clear k1c)
    | (go_at_call 9; refine (C1.out _).mono ?_; clear C1; rintro e w2 ⟨rfl, hb2⟩; have b2 := Lib.hid (b1.out.trans (hb2.mono b1.out.size)); have k2 := Lib.hid (k1.out.below hb2 k1.out.lt); clear hb2)
    | (refine wpList_store_row rfl 31 (.tmp 4) (.tmp 11) rfl _ fs rfl rfl 31 Sty.zero.cells.toArray (whole_new w2 Sty.zero.cells 31 _ rfl) iF.out zF.out oF.out ?_; refine at_world (fun X => Whole X (w.heap.size) 31 s.cells ∧ Whole X w2.heap.size 31 (compS s).cells ∧ Below w.heap.size w X) ⟨whole_row_other (k2.out.alloc _) _ _ (Nat.ne_of_lt k2.out.lt), (by rw [← HF.out]; exact whole_row (whole_new w2 Sty.zero.cells 31 _ rfl) _), (b2.out.trans ((Below.refl _ w2).alloc b2.out.size _)).trans (below_row _ _ _ b2.out.size)⟩ (fun X2 hX => ?_); obtain ⟨ka, kr, bX⟩ := hX; have BX := Lib.hid bX; have la := ka.lt; have lr := kr.lt; have d8ka : X2.cell? ⟨w.heap.size, 8, none⟩ = some (.int .i64 (s.sd 0).s) := ka.cellAt 8; have d8kr : X2.cell? ⟨w2.heap.size, 8, none⟩ = some (.int .i64 (s.sd 0).s) := kr.cellAt 8; have d10ka : X2.cell? ⟨w.heap.size, 10, none⟩ = some (.int .u32 (s.sd 0).c) := ka.cellAt 10; have d10kr : X2.cell? ⟨w2.heap.size, 10, none⟩ = some (.int .u32 (s.sd 0).c) := kr.cellAt 10; have d11ka : X2.cell? ⟨w.heap.size, 11, none⟩ = some (.int .i64 (s.sd 1).s) := ka.cellAt 11; have d11kr : X2.cell? ⟨w2.heap.size, 11, none⟩ = some (.int .i64 (s.sd 1).s) := kr.cellAt 11; have d13ka : X2.cell? ⟨w.heap.size, 13, none⟩ = some (.int .u32 (s.sd 1).c) := ka.cellAt 13; have d13kr : X2.cell? ⟨w2.heap.size, 13, none⟩ = some (.int .u32 (s.sd 1).c) := kr.cellAt 13; have d14ka : X2.cell? ⟨w.heap.size, 14, none⟩ = some (.int .i64 (s.sd 2).s) := ka.cellAt 14; have d14kr : X2.cell? ⟨w2.heap.size, 14, none⟩ = some (.int .i64 (s.sd 2).s) := kr.cellAt 14; have d16ka : X2.cell? ⟨w.heap.size, 16, none⟩ = some (.int .u32 (s.sd 2).c) := ka.cellAt 16; have d16kr : X2.cell? ⟨w2.heap.size, 16, none⟩ = some (.int .u32 (s.sd 2).c) := kr.cellAt 16; have d17ka : X2.cell? ⟨w.heap.size, 17, none⟩ = some (.int .i64 (s.sd 3).s) := ka.cellAt 17; have d17kr : X2.cell? ⟨w2.heap.size, 17, none⟩ = some (.int .i64 (s.sd 3).s) := kr.cellAt 17; have d19ka : X2.cell? ⟨w.heap.size, 19, none⟩ = some (.int .u32 (s.sd 3).c) := ka.cellAt 19; have d19kr : X2.cell? ⟨w2.heap.size, 19, none⟩ = some (.int .u32 (s.sd 3).c) := kr.cellAt 19; have d0ka : X2.cell? ⟨w.heap.size, 0, none⟩ = some (.int .i64 s.wk) := ka.cellAt 0; have d0kr : X2.cell? ⟨w2.heap.size, 0, none⟩ = some (.int .i64 s.wk) := kr.cellAt 0; have d2ka : X2.cell? ⟨w.heap.size, 2, none⟩ = some (.int .i64 s.hk) := ka.cellAt 2; have d2kr : X2.cell? ⟨w2.heap.size, 2, none⟩ = some (.int .i64 s.hk) := kr.cellAt 2; have d22ka : X2.cell? ⟨w.heap.size, 22, none⟩ = some (.int .i64 s.al) := ka.cellAt 22; have d22kr : X2.cell? ⟨w2.heap.size, 22, none⟩ = some (.int .i64 s.al) := kr.cellAt 22; have d23ka : X2.cell? ⟨w.heap.size, 23, none⟩ = some (.bool s.fx) := ka.cellAt 23; have d23kr : X2.cell? ⟨w2.heap.size, 23, none⟩ = some (.bool s.fx) := kr.cellAt 23; have d24ka : X2.cell? ⟨w.heap.size, 24, none⟩ = some (.bool s.cl) := ka.cellAt 24; have d24kr : X2.cell? ⟨w2.heap.size, 24, none⟩ = some (.bool s.cl) := kr.cellAt 24; have d27ka : X2.cell? ⟨w.heap.size, 27, none⟩ = some (.bool s.hd) := ka.cellAt 27; have d27kr : X2.cell? ⟨w2.heap.size, 27, none⟩ = some (.bool s.hd) := kr.cellAt 27; have d28ka : X2.cell? ⟨w.heap.size, 28, none⟩ = some (.bool s.bl) := ka.cellAt 28; have d28kr : X2.cell? ⟨w2.heap.size, 28, none⟩ = some (.bool s.bl) := kr.cellAt 28; clear bX ka kr k2 b2))
  refine wp_loop_rounds 5 ?_
  rw [rounds_succ]
  go_wp2
  go_quiet (fail)
  go_wp2
  rw [rounds_succ]
  go_wp2
  go_quiet (fail)
  go_wp2
  rw [rounds_succ]
  go_wp2
  go_quiet (fail)
  go_wp2
  rw [rounds_succ]
  go_wp2
  go_quiet (fail)
  go_wp2
  rw [rounds_succ]
  go_wp2
  go_ret
  exact ⟨rfl, BX.out.trans (below_dn _ _ _)⟩
theorem walk (s : Sty) (hs : s.wf) (w : World) : Calls Try.prog 7 #[s.val] w fun e w' => e = .returned (.bool true) ∧ Below w.heap.size w w' := by
  cases hv : validS s with
  | true => exact walk_good s w hv
  | false => exact walk_bad s w hv

set_option maxRecDepth 100000 in
theorem lifted (os : Os) (started : os.Started) (H : Type) (enc : TypeId × Value → H) :
    ReturnsInHanded {} Try.checked os 7 .any (Rows.styleKeepsSpec.pre6 enc Try.prog Try.f7 Rows.styleKeepsRow.domain false) (Rows.styleKeepsSpec.post enc Try.prog Try.f7 false true false false) := by
  refine returnsInHanded_of_change (C := Try.checked) own started (by kernel_rfl) Try.func7
    (ChangeSpec.witness6 (enc := enc) (C := Try.checked) false ⟨#[], #[.agg #[.int .i64 0, .int .i64 0, .int .i64 0, .int .i64 0, .int .i64 0, .int .i64 0, .int .i64 0, .int .i64 0, .int .i64 0, .int .i64 0, .int .u32 0, .int .i64 0, .int .i64 0, .int .u32 0, .int .i64 0, .int .i64 0, .int .u32 0, .int .i64 0, .int .i64 0, .int .u32 0, .int .i64 0, .int .i64 0, .int .i64 0, .bool false, .bool false, .int .i64 0, .int .i64 0, .bool false, .bool false]], []⟩ 8 (by kernel_rfl) (by kernel_rfl) (by kernel_rfl) (by kernel_rfl)) ?_
  intro W base args ds gs before hval0 hW hcnd _
  have hval : ∀ (j : Nat) t v, Try.f7.params[j]? = some t → args[j]? = some v → Value.okWide Try.prog W .any base t v := hval0
  have hW' := hW
  obtain ⟨p, q, hA0, hV, rfl, hfz, hnd⟩ := hW
  have hA : DataW.TrodAll enc Try.prog W 0 (fun _ => true) true Try.f7.params.toList args.toList ds p := hA0
  rw [Try.params7] at hA hval
  obtain ⟨v0, vs0, d0, ds0, p0, q0, hargs, rfl, rfl, h0, r0⟩ := trodAll_cons hA
  obtain ⟨rfl, rfl, rfl⟩ := trodAll_nil r0
  obtain rfl : args = #[v0] := by cases args; simp_all
  obtain ⟨rfl, rfl⟩ := trodVars_none hV
  obtain ⟨a0, rfl, rfl, rfl, w0⟩ := open_sty (hval 0 31 v0 rfl rfl) h0
  clear hA0 hval0
  simp only [List.append_nil] at hW'
  refine (walk a0 w0 W).mono fun e W' ⟨he, hg⟩ => ?_
  subst he
  exact ⟨_, rfl, _, _, _, [], [], [], hW', (trodAll_cons_mk (shut_bool Try.underlying4 _) trodAll_mk0), (trodAll_cons_mk (shut_sty a0 w0) trodAll_mk0), rfl, hg.frame _, fun h => by cases h⟩

theorem over : Rows.styleKeepsRow.holds Try.pinned (OpenSpec.ofChange Rows.styleKeepsSpec) :=
  OpenClaim.holds_of_wide 7 Try.f7 rfl rfl rfl rfl rfl rfl rfl ⟨rfl, rfl, rfl, rfl, rfl⟩ rfl rfl rfl rfl rfl (by kernel_rfl) Try.func7 (by kernel_rfl)
    (of_decide_eq_true (by kernel_rfl)) (by unfold Func.isWrapper; first | (rw [if_pos (by decide +kernel)]; kernel_rfl) | (rw [if_neg (by decide +kernel)]; exact ⟨rfl, rfl⟩))
    (fun os started H enc _ => lifted os started H enc)

/-- the statement -/
theorem proved : Rows.StyleKeepsSaid :=
  over
#print axioms proved
end Go.Proofs.Ytmhpailpjfieoaa.styleKeeps
