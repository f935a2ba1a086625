/- What is around a box: for every style, with borders or without. -/
import Derived.Test.YtmhpailpjfieoaaRows
import Derived.WalkKit
import Derived.ProofKit
import Derived.OpenShut
import Derived.Below
import Derived.Test.YtmhpailpjfieoaaSLaw
import Derived.ShutString
namespace Go.Proofs.Ytmhpailpjfieoaa.styleFrames
open Go.ChangeShapes Go.WideShapes Go.ChangeAt Go.RowKit
set_option linter.unusedVariables false

theorem own : ownKnob Try.prog.godebug = none := by kernel_rfl

set_option maxRecDepth 100000 in
set_option maxHeartbeats 4000000 in
theorem walk (s : Sty) (hs : s.wf) (b : Bool) (w : World) : Calls Try.prog 4 #[s.val, .bool b] w fun e w' => e = .returned (.bool true) ∧ Below w.heap.size w w' := by
  have hfit : ∀ k, k < 4 → Fits (s.sd k).p ∧ Fits (s.sd k).w := fun k hk => by
    obtain ⟨h1, _, h2, _⟩ := hs.2.1 k hk
    exact ⟨bounds_i64 h1, bounds_i64 h2⟩
  obtain ⟨cs, hcs⟩ : ∃ cs, s.cells.toArray = cs := ⟨_, rfl⟩
  have kb : Whole (w.alloc (.cells cs 31)) w.heap.size 31 s.cells := by rw [← hcs]; exact whole_new w s.cells 31 _ rfl
  have KB := Lib.hid kb
  have HB : Hid (Below w.heap.size w (w.alloc (.cells cs 31))) := Lib.hid ((Below.refl _ w).alloc (Nat.le_refl _) _)
  have SH := Lib.hid (fun X => shown_any X)
  have iC : Hid ((Try.prog.info? 31).map (·.size) = some cs.size) := Lib.hid (by rw [← hcs]; exact sty_info _)
  have hE := fun X => four_eql (frS b s) X
  have hsv : s.val = .agg cs := by rw [← hcs]; rfl
  have F1 := Lib.hid (fun X => frame_any s b X hfit)
  have F2 := Lib.hid (fun X => refFrame_any s b X hfit)
  rw [hsv] at F1 F2 ⊢
  generalize (four (frS b s)).toArray = fo at *
  have HC := Lib.hid hcs
  clear kb hcs hsv hfit
  go_enter Try.func4, Try.ntmps4
  go_wp2_with (first
    | (go_at_call 8; refine (SH.out _).mono ?_; clear SH; rintro e w1 ⟨rfl, hb1⟩; have b1 := Lib.hid (HB.out.trans (hb1.mono (by simp))); have k1 := Lib.hid (KB.out.below hb1 (by simp)); have k1c := k1.out; unfold Whole at k1c; rw [HC.out] at k1c; clear hb1))
  refine region_held_at (S := fun X => Hid (Below w1.heap.size w1 X)) (by kernel_rfl) (fun W6 hW6 => ?_)
  have SV : Hid (Below w1.heap.size w1 W6) := by apply Lib.hid; rw [← hW6]; exact below_dn _ w1 1
  have hS : ∀ X, Hid (Below w1.heap.size w1 X) → X.heap[w.heap.size]? = some (.cells cs 31 (0, 0)) := fun X hX => (hX.out.block _ k1.out.lt).trans k1c
  clear hW6
  refine wpAnyH_take (i := 0) (v := .bool true) rfl (by kernel_rfl) (by kernel_rfl) (by kernel_rfl) (fun _ _ _ h => h) (Or.inl ⟨by rfl, ?_⟩) SV ?_
  · intro X hX; go_simp
  change wpAnyH _ _ _ _ _ _ _ { tmps := #[.agg cs, .bool b, .pointer (some ⟨w.heap.size, 0, none⟩), undef, .bool false, .bool true, .bool true, .bool true, undef, undef, undef, undef, undef, undef, undef, undef, undef], defers := [] } _
  refine wpAnyH_take (i := 1) (v := .bool true) rfl (by kernel_rfl) (by kernel_rfl) (by kernel_rfl) (fun _ _ _ h => h) (Or.inl ⟨by rfl, ?_⟩) SV ?_
  · intro X hX; go_simp
  change wpAnyH _ _ _ _ _ _ _ { tmps := #[.agg cs, .bool b, .pointer (some ⟨w.heap.size, 0, none⟩), undef, .bool false, .bool true, .bool true, .bool true, .bool true, undef, undef, undef, undef, undef, undef, undef, undef], defers := [] } _
  refine wpAnyH_take (i := 2) (v := .agg cs) rfl (by kernel_rfl) (by kernel_rfl) (by kernel_rfl) (fun _ _ _ h => h) (yields_row (x := .tmp 2) (by rfl) rfl (w.heap.size) rfl 31 cs (0, 0) _ hS Try.underlying31 rfl iC.out) SV ?_
  change wpAnyH _ _ _ _ _ _ _ { tmps := #[.agg cs, .bool b, .pointer (some ⟨w.heap.size, 0, none⟩), undef, .bool false, .bool true, .bool true, .bool true, .bool true, .agg cs, undef, undef, undef, undef, undef, undef, undef], defers := [] } _
  refine wpAnyH_take (i := 3) (v := .bool b) rfl (by kernel_rfl) (by kernel_rfl) (by kernel_rfl) (fun _ _ _ h => h) (Or.inl ⟨by rfl, ?_⟩) SV ?_
  · intro X hX; go_simp
  change wpAnyH _ _ _ _ _ _ _ { tmps := #[.agg cs, .bool b, .pointer (some ⟨w.heap.size, 0, none⟩), undef, .bool false, .bool true, .bool true, .bool true, .bool true, .agg cs, .bool b, undef, undef, undef, undef, undef, undef], defers := [] } _
  refine wpAnyH_take (i := 5) (v := .agg cs) rfl (by kernel_rfl) (by kernel_rfl) (by kernel_rfl) (fun _ _ _ h => h) (yields_row (x := .tmp 2) (by rfl) rfl (w.heap.size) rfl 31 cs (0, 0) _ hS Try.underlying31 rfl iC.out) SV ?_
  change wpAnyH _ _ _ _ _ _ _ { tmps := #[.agg cs, .bool b, .pointer (some ⟨w.heap.size, 0, none⟩), undef, .bool false, .bool true, .bool true, .bool true, .bool true, .agg cs, .bool b, undef, .agg cs, undef, undef, undef, undef], defers := [] } _
  refine wpAnyH_take (i := 6) (v := .bool b) rfl (by kernel_rfl) (by kernel_rfl) (by kernel_rfl) (fun _ _ _ h => h) (Or.inl ⟨by rfl, ?_⟩) SV ?_
  · intro X hX; go_simp
  change wpAnyH _ _ _ _ _ _ _ { tmps := #[.agg cs, .bool b, .pointer (some ⟨w.heap.size, 0, none⟩), undef, .bool false, .bool true, .bool true, .bool true, .bool true, .agg cs, .bool b, undef, .agg cs, .bool b, undef, undef, undef], defers := [] } _
  refine wpAnyH_all (rs := [4]) (by kernel_rfl) (by simp) ?_
  intro i hi; obtain rfl : i = 4 := by simpa using hi
  refine wpOp_step rfl (fun K hK => ?_)
  go_simp
  refine (F1.out _).mono ?_
  rintro e w4 ⟨rfl, hb⟩
  have S4 : Hid (Below w1.heap.size w1 w4) := Lib.hid (SV.out.trans (hb.mono SV.out.size))
  refine hK _ _ ⟨S4, ?_⟩
  clear hK K hi hb
  change wpAnyH _ _ _ _ _ _ _ { tmps := #[.agg cs, .bool b, .pointer (some ⟨w.heap.size, 0, none⟩), undef, .bool false, .bool true, .bool true, .bool true, .bool true, .agg cs, .bool b, .agg fo, .agg cs, .bool b, undef, undef, undef], defers := [] } _
  refine wpAnyH_all (rs := [7]) (by kernel_rfl) (by simp) ?_
  intro i hi; obtain rfl : i = 7 := by simpa using hi
  refine wpOp_step rfl (fun K hK => ?_)
  go_simp
  refine (F2.out _).mono ?_
  rintro e w7 ⟨rfl, hb⟩
  have S7 : Hid (Below w1.heap.size w1 w7) := Lib.hid (S4.out.trans (hb.mono S4.out.size))
  refine hK _ _ ⟨S7, ?_⟩
  clear hK K hi hb
  change wpAnyH _ _ _ _ _ _ _ { tmps := #[.agg cs, .bool b, .pointer (some ⟨w.heap.size, 0, none⟩), undef, .bool false, .bool true, .bool true, .bool true, .bool true, .agg cs, .bool b, .agg fo, .agg cs, .bool b, .agg fo, undef, undef], defers := [] } _
  refine wpAnyH_take (i := 8) (v := .bool true) rfl (by kernel_rfl) (by kernel_rfl) (by kernel_rfl) (fun _ _ _ h => h) (Or.inl ⟨by rfl, ?_⟩) S7 ?_
  · intro X hX; go_simp
  change wpAnyH _ _ _ _ _ _ _ { tmps := #[.agg cs, .bool b, .pointer (some ⟨w.heap.size, 0, none⟩), undef, .bool false, .bool true, .bool true, .bool true, .bool true, .agg cs, .bool b, .agg fo, .agg cs, .bool b, .agg fo, .bool true, undef], defers := [] } _
  refine wpAnyH_take (i := 9) (v := .bool true) rfl (by kernel_rfl) (by kernel_rfl) (by kernel_rfl) (fun _ _ _ h => h) (Or.inl ⟨by rfl, ?_⟩) S7 ?_
  · intro X hX; go_simp
  change wpAnyH _ _ _ _ _ _ _ { tmps := #[.agg cs, .bool b, .pointer (some ⟨w.heap.size, 0, none⟩), undef, .bool false, .bool true, .bool true, .bool true, .bool true, .agg cs, .bool b, .agg fo, .agg cs, .bool b, .agg fo, .bool true, .bool true], defers := [] } _
  refine wpAnyH_all (rs := [10]) (by kernel_rfl) (by simp) ?_
  intro i hi; obtain rfl : i = 10 := by simpa using hi
  refine wpOp_step rfl (fun K hK => ?_)
  go_simp
  refine hK _ _ ⟨S7, ?_⟩
  clear hK K hi
  change wpAnyH _ _ _ _ _ _ _ { tmps := #[.agg cs, .bool b, .pointer (some ⟨w.heap.size, 0, none⟩), undef, .bool true, .bool true, .bool true, .bool true, .bool true, .agg cs, .bool b, .agg fo, .agg cs, .bool b, .agg fo, .bool true, .bool true], defers := [] } _
  refine wpAnyH_done (by kernel_rfl) ?_ _
  go_wp2
  go_ret
  exact ⟨rfl, b1.out.trans (S7.out.mono b1.out.size)⟩

set_option maxRecDepth 100000 in
theorem lifted (os : Os) (started : os.Started) (H : Type) (enc : TypeId × Value → H) :
    ReturnsInHanded {} Try.checked os 4 .any (Rows.styleFramesSpec.pre6 enc Try.prog Try.f4 Rows.styleFramesRow.domain false) (Rows.styleFramesSpec.post enc Try.prog Try.f4 false true false false) := by
  refine returnsInHanded_of_change (C := Try.checked) own started (by kernel_rfl) Try.func4
    (ChangeSpec.witness6 (enc := enc) (C := Try.checked) false ⟨#[], #[.agg #[.int .i64 0, .int .i64 0, .int .i64 0, .int .i64 0, .int .i64 0, .int .i64 0, .int .i64 0, .int .i64 0, .int .i64 0, .int .i64 0, .int .u32 0, .int .i64 0, .int .i64 0, .int .u32 0, .int .i64 0, .int .i64 0, .int .u32 0, .int .i64 0, .int .i64 0, .int .u32 0, .int .i64 0, .int .i64 0, .int .i64 0, .bool false, .bool false, .int .i64 0, .int .i64 0, .bool false, .bool false], .bool false], []⟩ 8 (by kernel_rfl) (by kernel_rfl) (by kernel_rfl) (by kernel_rfl)) ?_
  intro W base args ds gs before hval0 hW hcnd _
  have hval : ∀ (j : Nat) t v, Try.f4.params[j]? = some t → args[j]? = some v → Value.okWide Try.prog W .any base t v := hval0
  have hW' := hW
  obtain ⟨p, q, hA0, hV, rfl, hfz, hnd⟩ := hW
  have hA : DataW.TrodAll enc Try.prog W 0 (fun _ => true) true Try.f4.params.toList args.toList ds p := hA0
  rw [Try.params4] at hA hval
  obtain ⟨v0, vs0, d0, ds0, p0, q0, hargs, rfl, rfl, h0, r0⟩ := trodAll_cons hA
  obtain ⟨v1, vs1, d1, ds1, p1, q1, rfl, rfl, rfl, h1, r1⟩ := trodAll_cons r0
  obtain ⟨rfl, rfl, rfl⟩ := trodAll_nil r1
  obtain rfl : args = #[v0, v1] := by cases args; simp_all
  obtain ⟨rfl, rfl⟩ := trodVars_none hV
  obtain ⟨a0, rfl, rfl, rfl, w0⟩ := open_sty (hval 0 31 v0 rfl rfl) h0
  obtain ⟨a1, rfl, rfl, rfl⟩ := open_bool Try.underlying4 (hval 1 4 v1 rfl rfl) h1
  clear hA0 hval0
  simp only [List.append_nil] at hW'
  refine (walk a0 w0 a1 W).mono fun e W' ⟨he, hg⟩ => ?_
  subst he
  exact ⟨_, rfl, _, _, _, [], [], [], hW', (trodAll_cons_mk (shut_bool Try.underlying4 _) trodAll_mk0), (trodAll_cons_mk (shut_sty a0 w0) (trodAll_cons_mk (shut_bool Try.underlying4 _) trodAll_mk0)), rfl, hg.frame _, fun h => by cases h⟩

theorem over : Rows.styleFramesRow.holds Try.pinned (OpenSpec.ofChange Rows.styleFramesSpec) :=
  OpenClaim.holds_of_wide 4 Try.f4 rfl rfl rfl rfl rfl rfl rfl ⟨rfl, rfl, rfl, rfl, rfl⟩ rfl rfl rfl rfl rfl (by kernel_rfl) Try.func4 (by kernel_rfl)
    (of_decide_eq_true (by kernel_rfl)) (by unfold Func.isWrapper; first | (rw [if_pos (by decide +kernel)]; kernel_rfl) | (rw [if_neg (by decide +kernel)]; exact ⟨rfl, rfl⟩))
    (fun os started H enc _ => lifted os started H enc)

/-- the statement -/
theorem proved : Rows.StyleFramesSaid :=
  over
#print axioms proved
end Go.Proofs.Ytmhpailpjfieoaa.styleFrames
