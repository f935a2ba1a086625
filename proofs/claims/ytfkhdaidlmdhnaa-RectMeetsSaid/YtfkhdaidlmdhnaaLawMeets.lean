/- Which rectangles are right, and where two meet, is what the document says: for every two rectangles. -/
import Derived.Test.YtfkhdaidlmdhnaaRows
import Derived.WalkKit
import Derived.ProofKit
import Derived.OpenShut
import Derived.Below
import Derived.Test.YtfkhdaidlmdhnaaRShown
import Derived.Test.YtfkhdaidlmdhnaaROpen
import Derived.Test.YtfkhdaidlmdhnaaRRef
import Derived.ShutString
namespace Go.Proofs.Ytfkhdaidlmdhnaa.rectMeets
open Go.ChangeShapes Go.WideShapes Go.ChangeAt Go.RowKit
set_option linter.unusedVariables false

theorem own : ownKnob Try.prog.godebug = none := by kernel_rfl

set_option maxRecDepth 100000 in
set_option maxHeartbeats 1600000 in
theorem walk (a : R) (ha : a.wf) (b : R) (hb : b.wf) (w : World) : Calls Try.prog 3 #[a.val, b.val] w fun e w' => e = .returned (.bool true) ∧ Below w.heap.size w w' := by
  obtain ⟨x, y, u, v⟩ := a
  obtain ⟨x', y', u', v'⟩ := b
  have M := Lib.hid (fun X => meet_any ⟨x, y, u, v⟩ ⟨x', y', u', v'⟩ X)
  have RM := Lib.hid (fun X => refMeet_any ⟨x, y, u, v⟩ ⟨x', y', u', v'⟩ X)
  have RR := Lib.hid (fun X => right_any x y u v X)
  have RQ := Lib.hid (fun X => refRight_any x y u v X)
  obtain ⟨⟨⟨m0, m1, m2, m3⟩, mc⟩, hm⟩ : ∃ p, meetR ⟨x, y, u, v⟩ ⟨x', y', u', v'⟩ = p := ⟨_, rfl⟩
  rw [hm] at M RM
  obtain ⟨rb, hr⟩ : ∃ rb, rightB ⟨x, y, u, v⟩ = rb := ⟨_, rfl⟩
  rw [hr] at RR RQ
  clear hm hr ha hb
  unfold R.val at *
  unfold retR at *
  dsimp only at *
  go_enter Try.func3, Try.ntmps3
  go_wp2_with fail
  refine (shown_any _).mono ?_
  rintro e w1 ⟨rfl, hb1⟩
  have ka := Whole.below (g := w.heap.size) (t := 23) (xs := [.int .i64 x, .int .i64 y, .int .i64 u, .int .i64 v]) ((whole_new w _ _ _ rfl).alloc _) hb1 (by simp <;> omega)
  have kb := Whole.below (g := w.heap.size + 1) (t := 23) (xs := [.int .i64 x', .int .i64 y', .int .i64 u', .int .i64 v']) (whole_new (w.alloc _) _ _ _ (by simp)) hb1 (by simp <;> omega)
  have HB := Lib.hid (((Below.refl w.heap.size w).alloc (Nat.le_refl _) (.cells #[.int .i64 x, .int .i64 y, .int .i64 u, .int .i64 v] 23)).alloc (by simp) (.cells #[.int .i64 x', .int .i64 y', .int .i64 u', .int .i64 v'] 23) |>.trans (hb1.mono (by simp <;> omega)))
  have hs := HB.out.size
  clear hb1
  have d0 := ka.cellAt 0
  have d1 := ka.cellAt 1
  have d2 := ka.cellAt 2
  have d3 := ka.cellAt 3
  have g0 := kb.cellAt 0
  have g1 := kb.cellAt 1
  have g2 := kb.cellAt 2
  have g3 := kb.cellAt 3
  go_wp2_with fail
  refine (M.out _).mono ?_
  rintro e w2 ⟨rfl, hb2⟩
  replace ka := ka.below hb2 ka.lt
  replace kb := kb.below hb2 kb.lt
  have HB2 := Lib.hid (HB.out.trans (hb2.mono hs))
  have hs2 := HB2.out.size
  clear hb2 HB hs d0 d1 d2 d3 g0 g1 g2 g3
  have d0 := ka.cellAt 0
  have d1 := ka.cellAt 1
  have d2 := ka.cellAt 2
  have d3 := ka.cellAt 3
  have g0 := kb.cellAt 0
  have g1 := kb.cellAt 1
  have g2 := kb.cellAt 2
  have g3 := kb.cellAt 3
  have la := ka.lt
  have lb := kb.lt
  go_wp2_with fail
  refine (RM.out _).mono ?_
  rintro e w3 ⟨rfl, hb3⟩
  have km0 : Whole (w2.alloc (.cells #[.int .i64 m0, .int .i64 m1, .int .i64 m2, .int .i64 m3] 23)) w2.heap.size 23 [.int .i64 m0, .int .i64 m1, .int .i64 m2, .int .i64 m3] := whole_new w2 _ _ _ rfl
  have km := km0.below hb3 km0.lt
  replace ka := (ka.alloc (.cells #[.int .i64 m0, .int .i64 m1, .int .i64 m2, .int .i64 m3] 23)).below hb3 (ka.alloc _).lt
  have HB3 := Lib.hid ((HB2.out.alloc hs2 (.cells #[.int .i64 m0, .int .i64 m1, .int .i64 m2, .int .i64 m3] 23)).trans (hb3.mono (by simp <;> omega)))
  have hs3 := HB3.out.size
  clear km0 kb hb3 HB2 hs2 d0 d1 d2 d3 g0 g1 g2 g3 la lb
  have KA := Lib.hid ka
  have KM := Lib.hid km
  clear ka km
  go_wp2
  have ka := KA.out.alloc (.cells #[.int .i64 m0, .int .i64 m1, .int .i64 m2, .int .i64 m3] 23)
  have km := KM.out.alloc (.cells #[.int .i64 m0, .int .i64 m1, .int .i64 m2, .int .i64 m3] 23)
  have kn : Whole (w3.alloc (.cells #[.int .i64 m0, .int .i64 m1, .int .i64 m2, .int .i64 m3] 23)) w3.heap.size 23 [.int .i64 m0, .int .i64 m1, .int .i64 m2, .int .i64 m3] := whole_new w3 _ _ _ rfl
  have B4 := HB3.out.alloc hs3 (.cells #[.int .i64 m0, .int .i64 m1, .int .i64 m2, .int .i64 m3] 23)
  obtain ⟨W5, hW5⟩ : ∃ W5, w3.alloc (.cells #[.int .i64 m0, .int .i64 m1, .int .i64 m2, .int .i64 m3] 23) = W5 := ⟨_, rfl⟩
  rw [hW5] at ka km kn B4 ⊢
  have la := ka.lt
  have lm := km.lt
  have lk := kn.lt
  have a0 := ka.cellAt 0
  have a1 := ka.cellAt 1
  have a2 := ka.cellAt 2
  have a3 := ka.cellAt 3
  have b0 := km.cellAt 0
  have b1 := km.cellAt 1
  have b2 := km.cellAt 2
  have b3 := km.cellAt 3
  have c0 := kn.cellAt 0
  have c1 := kn.cellAt 1
  have c2 := kn.cellAt 2
  have c3 := kn.cellAt 3
  have B5 := Lib.hid B4
  have hs5 := B5.out.size
  clear hW5 ka km kn B4 HB3 KA KM hs3 M RM
  refine region_held_at (S := fun X => Hid (Below W5.heap.size W5 X)) (by kernel_rfl) (fun W6 hW6 => ?_)
  have SV : Hid (Below W5.heap.size W5 W6) := by apply Lib.hid; rw [← hW6]; exact below_dn _ W5 1
  clear hW6
  refine wpAnyH_take (i := 0) (v := .bool true) rfl (by kernel_rfl) (by kernel_rfl) (by kernel_rfl) (fun _ _ _ h => h) (Or.inl ⟨by rfl, ?_⟩) SV ?_
  · intro X hX5; go_simp
  change wpAnyH _ _ _ _ _ _ _ { tmps := #[.agg #[.int .i64 x, .int .i64 y, .int .i64 u, .int .i64 v], .agg #[.int .i64 x', .int .i64 y', .int .i64 u', .int .i64 v'], .pointer (some ⟨w.heap.size, 0, none⟩), .pointer (some ⟨w.heap.size + 1, 0, none⟩), .bool false, .bool true, .pointer (some ⟨w2.heap.size, 0, none⟩), .int .i64 mc, .pointer (some ⟨w3.heap.size, 0, none⟩), .int .i64 mc, .bool true, .tuple #[.agg #[.int .i64 m0, .int .i64 m1, .int .i64 m2, .int .i64 m3], .int .i64 mc], .agg #[.int .i64 x, .int .i64 y, .int .i64 u, .int .i64 v], .agg #[.int .i64 x', .int .i64 y', .int .i64 u', .int .i64 v'], .tuple #[.agg #[.int .i64 m0, .int .i64 m1, .int .i64 m2, .int .i64 m3], .int .i64 mc], .agg #[.int .i64 m0, .int .i64 m1, .int .i64 m2, .int .i64 m3], .int .i64 mc, .tuple #[.agg #[.int .i64 m0, .int .i64 m1, .int .i64 m2, .int .i64 m3], .int .i64 mc], .agg #[.int .i64 x, .int .i64 y, .int .i64 u, .int .i64 v], .agg #[.int .i64 x', .int .i64 y', .int .i64 u', .int .i64 v'], .tuple #[.agg #[.int .i64 m0, .int .i64 m1, .int .i64 m2, .int .i64 m3], .int .i64 mc], .agg #[.int .i64 m0, .int .i64 m1, .int .i64 m2, .int .i64 m3], .int .i64 mc, .bool true, undef, undef, undef, undef, undef, undef, undef, undef, undef, undef, undef, undef, undef, undef, undef, undef, undef], defers := [] } _
  refine wpAnyH_take (i := 1) (v := .bool true) rfl (by kernel_rfl) (by kernel_rfl) (by kernel_rfl) (fun _ _ _ h => h) (Or.inl ⟨by rfl, ?_⟩) SV ?_
  · intro X hX5; go_simp
  change wpAnyH _ _ _ _ _ _ _ { tmps := #[.agg #[.int .i64 x, .int .i64 y, .int .i64 u, .int .i64 v], .agg #[.int .i64 x', .int .i64 y', .int .i64 u', .int .i64 v'], .pointer (some ⟨w.heap.size, 0, none⟩), .pointer (some ⟨w.heap.size + 1, 0, none⟩), .bool false, .bool true, .pointer (some ⟨w2.heap.size, 0, none⟩), .int .i64 mc, .pointer (some ⟨w3.heap.size, 0, none⟩), .int .i64 mc, .bool true, .tuple #[.agg #[.int .i64 m0, .int .i64 m1, .int .i64 m2, .int .i64 m3], .int .i64 mc], .agg #[.int .i64 x, .int .i64 y, .int .i64 u, .int .i64 v], .agg #[.int .i64 x', .int .i64 y', .int .i64 u', .int .i64 v'], .tuple #[.agg #[.int .i64 m0, .int .i64 m1, .int .i64 m2, .int .i64 m3], .int .i64 mc], .agg #[.int .i64 m0, .int .i64 m1, .int .i64 m2, .int .i64 m3], .int .i64 mc, .tuple #[.agg #[.int .i64 m0, .int .i64 m1, .int .i64 m2, .int .i64 m3], .int .i64 mc], .agg #[.int .i64 x, .int .i64 y, .int .i64 u, .int .i64 v], .agg #[.int .i64 x', .int .i64 y', .int .i64 u', .int .i64 v'], .tuple #[.agg #[.int .i64 m0, .int .i64 m1, .int .i64 m2, .int .i64 m3], .int .i64 mc], .agg #[.int .i64 m0, .int .i64 m1, .int .i64 m2, .int .i64 m3], .int .i64 mc, .bool true, .bool true, undef, undef, undef, undef, undef, undef, undef, undef, undef, undef, undef, undef, undef, undef, undef, undef], defers := [] } _
  refine wpAnyH_take (i := 2) (v := .agg #[.int .i64 x, .int .i64 y, .int .i64 u, .int .i64 v]) rfl (by kernel_rfl) (by kernel_rfl) (by kernel_rfl) (fun _ _ _ h => h) (Or.inl ⟨by rfl, ?_⟩) SV ?_
  · intro X hX5; have r0 := (hX5.out.cell (p := ⟨w.heap.size, 0, none⟩) la).trans a0; have r1 := (hX5.out.cell (p := ⟨w.heap.size, 1, none⟩) la).trans a1; have r2 := (hX5.out.cell (p := ⟨w.heap.size, 2, none⟩) la).trans a2; have r3 := (hX5.out.cell (p := ⟨w.heap.size, 3, none⟩) la).trans a3; go_simp
  change wpAnyH _ _ _ _ _ _ _ { tmps := #[.agg #[.int .i64 x, .int .i64 y, .int .i64 u, .int .i64 v], .agg #[.int .i64 x', .int .i64 y', .int .i64 u', .int .i64 v'], .pointer (some ⟨w.heap.size, 0, none⟩), .pointer (some ⟨w.heap.size + 1, 0, none⟩), .bool false, .bool true, .pointer (some ⟨w2.heap.size, 0, none⟩), .int .i64 mc, .pointer (some ⟨w3.heap.size, 0, none⟩), .int .i64 mc, .bool true, .tuple #[.agg #[.int .i64 m0, .int .i64 m1, .int .i64 m2, .int .i64 m3], .int .i64 mc], .agg #[.int .i64 x, .int .i64 y, .int .i64 u, .int .i64 v], .agg #[.int .i64 x', .int .i64 y', .int .i64 u', .int .i64 v'], .tuple #[.agg #[.int .i64 m0, .int .i64 m1, .int .i64 m2, .int .i64 m3], .int .i64 mc], .agg #[.int .i64 m0, .int .i64 m1, .int .i64 m2, .int .i64 m3], .int .i64 mc, .tuple #[.agg #[.int .i64 m0, .int .i64 m1, .int .i64 m2, .int .i64 m3], .int .i64 mc], .agg #[.int .i64 x, .int .i64 y, .int .i64 u, .int .i64 v], .agg #[.int .i64 x', .int .i64 y', .int .i64 u', .int .i64 v'], .tuple #[.agg #[.int .i64 m0, .int .i64 m1, .int .i64 m2, .int .i64 m3], .int .i64 mc], .agg #[.int .i64 m0, .int .i64 m1, .int .i64 m2, .int .i64 m3], .int .i64 mc, .bool true, .bool true, .agg #[.int .i64 x, .int .i64 y, .int .i64 u, .int .i64 v], undef, undef, undef, undef, undef, undef, undef, undef, undef, undef, undef, undef, undef, undef, undef], defers := [] } _
  refine wpAnyH_take (i := 4) (v := .agg #[.int .i64 x, .int .i64 y, .int .i64 u, .int .i64 v]) rfl (by kernel_rfl) (by kernel_rfl) (by kernel_rfl) (fun _ _ _ h => h) (Or.inl ⟨by rfl, ?_⟩) SV ?_
  · intro X hX5; have r0 := (hX5.out.cell (p := ⟨w.heap.size, 0, none⟩) la).trans a0; have r1 := (hX5.out.cell (p := ⟨w.heap.size, 1, none⟩) la).trans a1; have r2 := (hX5.out.cell (p := ⟨w.heap.size, 2, none⟩) la).trans a2; have r3 := (hX5.out.cell (p := ⟨w.heap.size, 3, none⟩) la).trans a3; go_simp
  change wpAnyH _ _ _ _ _ _ _ { tmps := #[.agg #[.int .i64 x, .int .i64 y, .int .i64 u, .int .i64 v], .agg #[.int .i64 x', .int .i64 y', .int .i64 u', .int .i64 v'], .pointer (some ⟨w.heap.size, 0, none⟩), .pointer (some ⟨w.heap.size + 1, 0, none⟩), .bool false, .bool true, .pointer (some ⟨w2.heap.size, 0, none⟩), .int .i64 mc, .pointer (some ⟨w3.heap.size, 0, none⟩), .int .i64 mc, .bool true, .tuple #[.agg #[.int .i64 m0, .int .i64 m1, .int .i64 m2, .int .i64 m3], .int .i64 mc], .agg #[.int .i64 x, .int .i64 y, .int .i64 u, .int .i64 v], .agg #[.int .i64 x', .int .i64 y', .int .i64 u', .int .i64 v'], .tuple #[.agg #[.int .i64 m0, .int .i64 m1, .int .i64 m2, .int .i64 m3], .int .i64 mc], .agg #[.int .i64 m0, .int .i64 m1, .int .i64 m2, .int .i64 m3], .int .i64 mc, .tuple #[.agg #[.int .i64 m0, .int .i64 m1, .int .i64 m2, .int .i64 m3], .int .i64 mc], .agg #[.int .i64 x, .int .i64 y, .int .i64 u, .int .i64 v], .agg #[.int .i64 x', .int .i64 y', .int .i64 u', .int .i64 v'], .tuple #[.agg #[.int .i64 m0, .int .i64 m1, .int .i64 m2, .int .i64 m3], .int .i64 mc], .agg #[.int .i64 m0, .int .i64 m1, .int .i64 m2, .int .i64 m3], .int .i64 mc, .bool true, .bool true, .agg #[.int .i64 x, .int .i64 y, .int .i64 u, .int .i64 v], undef, .agg #[.int .i64 x, .int .i64 y, .int .i64 u, .int .i64 v], undef, undef, undef, undef, undef, undef, undef, undef, undef, undef, undef, undef, undef], defers := [] } _
  refine wpAnyH_all (rs := [3]) (by kernel_rfl) (by simp) ?_
  intro i hi; obtain rfl : i = 3 := by simpa using hi
  refine wpOp_step rfl (fun K hK => ?_)
  go_simp
  refine (RR.out _).mono ?_
  rintro e Y ⟨rfl, hb⟩
  have YS : Hid (Below W5.heap.size W5 Y) := Lib.hid (SV.out.trans (hb.mono SV.out.size))
  refine hK _ _ ⟨YS, ?_⟩
  clear hK K hi hb
  change wpAnyH _ _ _ _ _ _ _ { tmps := #[.agg #[.int .i64 x, .int .i64 y, .int .i64 u, .int .i64 v], .agg #[.int .i64 x', .int .i64 y', .int .i64 u', .int .i64 v'], .pointer (some ⟨w.heap.size, 0, none⟩), .pointer (some ⟨w.heap.size + 1, 0, none⟩), .bool false, .bool true, .pointer (some ⟨w2.heap.size, 0, none⟩), .int .i64 mc, .pointer (some ⟨w3.heap.size, 0, none⟩), .int .i64 mc, .bool true, .tuple #[.agg #[.int .i64 m0, .int .i64 m1, .int .i64 m2, .int .i64 m3], .int .i64 mc], .agg #[.int .i64 x, .int .i64 y, .int .i64 u, .int .i64 v], .agg #[.int .i64 x', .int .i64 y', .int .i64 u', .int .i64 v'], .tuple #[.agg #[.int .i64 m0, .int .i64 m1, .int .i64 m2, .int .i64 m3], .int .i64 mc], .agg #[.int .i64 m0, .int .i64 m1, .int .i64 m2, .int .i64 m3], .int .i64 mc, .tuple #[.agg #[.int .i64 m0, .int .i64 m1, .int .i64 m2, .int .i64 m3], .int .i64 mc], .agg #[.int .i64 x, .int .i64 y, .int .i64 u, .int .i64 v], .agg #[.int .i64 x', .int .i64 y', .int .i64 u', .int .i64 v'], .tuple #[.agg #[.int .i64 m0, .int .i64 m1, .int .i64 m2, .int .i64 m3], .int .i64 mc], .agg #[.int .i64 m0, .int .i64 m1, .int .i64 m2, .int .i64 m3], .int .i64 mc, .bool true, .bool true, .agg #[.int .i64 x, .int .i64 y, .int .i64 u, .int .i64 v], .bool rb, .agg #[.int .i64 x, .int .i64 y, .int .i64 u, .int .i64 v], undef, undef, undef, undef, undef, undef, undef, undef, undef, undef, undef, undef, undef], defers := [] } _
  refine wpAnyH_all (rs := [5]) (by kernel_rfl) (by simp) ?_
  intro i hi; obtain rfl : i = 5 := by simpa using hi
  refine wpOp_step rfl (fun K hK => ?_)
  go_simp
  refine (RQ.out _).mono ?_
  rintro e Z ⟨rfl, hb⟩
  have ZS : Hid (Below W5.heap.size W5 Z) := Lib.hid (YS.out.trans (hb.mono YS.out.size))
  refine hK _ _ ⟨ZS, ?_⟩
  clear hK K hi hb
  change wpAnyH _ _ _ _ _ _ _ { tmps := #[.agg #[.int .i64 x, .int .i64 y, .int .i64 u, .int .i64 v], .agg #[.int .i64 x', .int .i64 y', .int .i64 u', .int .i64 v'], .pointer (some ⟨w.heap.size, 0, none⟩), .pointer (some ⟨w.heap.size + 1, 0, none⟩), .bool false, .bool true, .pointer (some ⟨w2.heap.size, 0, none⟩), .int .i64 mc, .pointer (some ⟨w3.heap.size, 0, none⟩), .int .i64 mc, .bool true, .tuple #[.agg #[.int .i64 m0, .int .i64 m1, .int .i64 m2, .int .i64 m3], .int .i64 mc], .agg #[.int .i64 x, .int .i64 y, .int .i64 u, .int .i64 v], .agg #[.int .i64 x', .int .i64 y', .int .i64 u', .int .i64 v'], .tuple #[.agg #[.int .i64 m0, .int .i64 m1, .int .i64 m2, .int .i64 m3], .int .i64 mc], .agg #[.int .i64 m0, .int .i64 m1, .int .i64 m2, .int .i64 m3], .int .i64 mc, .tuple #[.agg #[.int .i64 m0, .int .i64 m1, .int .i64 m2, .int .i64 m3], .int .i64 mc], .agg #[.int .i64 x, .int .i64 y, .int .i64 u, .int .i64 v], .agg #[.int .i64 x', .int .i64 y', .int .i64 u', .int .i64 v'], .tuple #[.agg #[.int .i64 m0, .int .i64 m1, .int .i64 m2, .int .i64 m3], .int .i64 mc], .agg #[.int .i64 m0, .int .i64 m1, .int .i64 m2, .int .i64 m3], .int .i64 mc, .bool true, .bool true, .agg #[.int .i64 x, .int .i64 y, .int .i64 u, .int .i64 v], .bool rb, .agg #[.int .i64 x, .int .i64 y, .int .i64 u, .int .i64 v], .bool rb, undef, undef, undef, undef, undef, undef, undef, undef, undef, undef, undef, undef], defers := [] } _
  refine wpAnyH_take (i := 6) (v := .bool true) rfl (by kernel_rfl) (by kernel_rfl) (by kernel_rfl) (fun _ _ _ h => h) (Or.inl ⟨by rfl, ?_⟩) ZS ?_
  · intro X hX5; go_simp
  change wpAnyH _ _ _ _ _ _ _ { tmps := #[.agg #[.int .i64 x, .int .i64 y, .int .i64 u, .int .i64 v], .agg #[.int .i64 x', .int .i64 y', .int .i64 u', .int .i64 v'], .pointer (some ⟨w.heap.size, 0, none⟩), .pointer (some ⟨w.heap.size + 1, 0, none⟩), .bool false, .bool true, .pointer (some ⟨w2.heap.size, 0, none⟩), .int .i64 mc, .pointer (some ⟨w3.heap.size, 0, none⟩), .int .i64 mc, .bool true, .tuple #[.agg #[.int .i64 m0, .int .i64 m1, .int .i64 m2, .int .i64 m3], .int .i64 mc], .agg #[.int .i64 x, .int .i64 y, .int .i64 u, .int .i64 v], .agg #[.int .i64 x', .int .i64 y', .int .i64 u', .int .i64 v'], .tuple #[.agg #[.int .i64 m0, .int .i64 m1, .int .i64 m2, .int .i64 m3], .int .i64 mc], .agg #[.int .i64 m0, .int .i64 m1, .int .i64 m2, .int .i64 m3], .int .i64 mc, .tuple #[.agg #[.int .i64 m0, .int .i64 m1, .int .i64 m2, .int .i64 m3], .int .i64 mc], .agg #[.int .i64 x, .int .i64 y, .int .i64 u, .int .i64 v], .agg #[.int .i64 x', .int .i64 y', .int .i64 u', .int .i64 v'], .tuple #[.agg #[.int .i64 m0, .int .i64 m1, .int .i64 m2, .int .i64 m3], .int .i64 mc], .agg #[.int .i64 m0, .int .i64 m1, .int .i64 m2, .int .i64 m3], .int .i64 mc, .bool true, .bool true, .agg #[.int .i64 x, .int .i64 y, .int .i64 u, .int .i64 v], .bool rb, .agg #[.int .i64 x, .int .i64 y, .int .i64 u, .int .i64 v], .bool rb, .bool true, undef, undef, undef, undef, undef, undef, undef, undef, undef, undef, undef], defers := [] } _
  refine wpAnyH_take (i := 7) (v := .bool true) rfl (by kernel_rfl) (by kernel_rfl) (by kernel_rfl) (fun _ _ _ h => h) (Or.inl ⟨by rfl, ?_⟩) ZS ?_
  · intro X hX5; go_simp
  change wpAnyH _ _ _ _ _ _ _ { tmps := #[.agg #[.int .i64 x, .int .i64 y, .int .i64 u, .int .i64 v], .agg #[.int .i64 x', .int .i64 y', .int .i64 u', .int .i64 v'], .pointer (some ⟨w.heap.size, 0, none⟩), .pointer (some ⟨w.heap.size + 1, 0, none⟩), .bool false, .bool true, .pointer (some ⟨w2.heap.size, 0, none⟩), .int .i64 mc, .pointer (some ⟨w3.heap.size, 0, none⟩), .int .i64 mc, .bool true, .tuple #[.agg #[.int .i64 m0, .int .i64 m1, .int .i64 m2, .int .i64 m3], .int .i64 mc], .agg #[.int .i64 x, .int .i64 y, .int .i64 u, .int .i64 v], .agg #[.int .i64 x', .int .i64 y', .int .i64 u', .int .i64 v'], .tuple #[.agg #[.int .i64 m0, .int .i64 m1, .int .i64 m2, .int .i64 m3], .int .i64 mc], .agg #[.int .i64 m0, .int .i64 m1, .int .i64 m2, .int .i64 m3], .int .i64 mc, .tuple #[.agg #[.int .i64 m0, .int .i64 m1, .int .i64 m2, .int .i64 m3], .int .i64 mc], .agg #[.int .i64 x, .int .i64 y, .int .i64 u, .int .i64 v], .agg #[.int .i64 x', .int .i64 y', .int .i64 u', .int .i64 v'], .tuple #[.agg #[.int .i64 m0, .int .i64 m1, .int .i64 m2, .int .i64 m3], .int .i64 mc], .agg #[.int .i64 m0, .int .i64 m1, .int .i64 m2, .int .i64 m3], .int .i64 mc, .bool true, .bool true, .agg #[.int .i64 x, .int .i64 y, .int .i64 u, .int .i64 v], .bool rb, .agg #[.int .i64 x, .int .i64 y, .int .i64 u, .int .i64 v], .bool rb, .bool true, .bool true, undef, undef, undef, undef, undef, undef, undef, undef, undef, undef], defers := [] } _
  refine wpAnyH_take (i := 8) (v := .bool true) rfl (by kernel_rfl) (by kernel_rfl) (by kernel_rfl) (fun _ _ _ h => h) (Or.inl ⟨by rfl, ?_⟩) ZS ?_
  · intro X hX5; go_simp
  change wpAnyH _ _ _ _ _ _ _ { tmps := #[.agg #[.int .i64 x, .int .i64 y, .int .i64 u, .int .i64 v], .agg #[.int .i64 x', .int .i64 y', .int .i64 u', .int .i64 v'], .pointer (some ⟨w.heap.size, 0, none⟩), .pointer (some ⟨w.heap.size + 1, 0, none⟩), .bool false, .bool true, .pointer (some ⟨w2.heap.size, 0, none⟩), .int .i64 mc, .pointer (some ⟨w3.heap.size, 0, none⟩), .int .i64 mc, .bool true, .tuple #[.agg #[.int .i64 m0, .int .i64 m1, .int .i64 m2, .int .i64 m3], .int .i64 mc], .agg #[.int .i64 x, .int .i64 y, .int .i64 u, .int .i64 v], .agg #[.int .i64 x', .int .i64 y', .int .i64 u', .int .i64 v'], .tuple #[.agg #[.int .i64 m0, .int .i64 m1, .int .i64 m2, .int .i64 m3], .int .i64 mc], .agg #[.int .i64 m0, .int .i64 m1, .int .i64 m2, .int .i64 m3], .int .i64 mc, .tuple #[.agg #[.int .i64 m0, .int .i64 m1, .int .i64 m2, .int .i64 m3], .int .i64 mc], .agg #[.int .i64 x, .int .i64 y, .int .i64 u, .int .i64 v], .agg #[.int .i64 x', .int .i64 y', .int .i64 u', .int .i64 v'], .tuple #[.agg #[.int .i64 m0, .int .i64 m1, .int .i64 m2, .int .i64 m3], .int .i64 mc], .agg #[.int .i64 m0, .int .i64 m1, .int .i64 m2, .int .i64 m3], .int .i64 mc, .bool true, .bool true, .agg #[.int .i64 x, .int .i64 y, .int .i64 u, .int .i64 v], .bool rb, .agg #[.int .i64 x, .int .i64 y, .int .i64 u, .int .i64 v], .bool rb, .bool true, .bool true, .bool true, undef, undef, undef, undef, undef, undef, undef, undef, undef], defers := [] } _
  refine wpAnyH_take (i := 9) (v := .agg #[.int .i64 m0, .int .i64 m1, .int .i64 m2, .int .i64 m3]) rfl (by kernel_rfl) (by kernel_rfl) (by kernel_rfl) (fun _ _ _ h => h) (Or.inl ⟨by rfl, ?_⟩) ZS ?_
  · intro X hX5; have r0 := (hX5.out.cell (p := ⟨w2.heap.size, 0, none⟩) lm).trans b0; have r1 := (hX5.out.cell (p := ⟨w2.heap.size, 1, none⟩) lm).trans b1; have r2 := (hX5.out.cell (p := ⟨w2.heap.size, 2, none⟩) lm).trans b2; have r3 := (hX5.out.cell (p := ⟨w2.heap.size, 3, none⟩) lm).trans b3; go_simp
  change wpAnyH _ _ _ _ _ _ _ { tmps := #[.agg #[.int .i64 x, .int .i64 y, .int .i64 u, .int .i64 v], .agg #[.int .i64 x', .int .i64 y', .int .i64 u', .int .i64 v'], .pointer (some ⟨w.heap.size, 0, none⟩), .pointer (some ⟨w.heap.size + 1, 0, none⟩), .bool false, .bool true, .pointer (some ⟨w2.heap.size, 0, none⟩), .int .i64 mc, .pointer (some ⟨w3.heap.size, 0, none⟩), .int .i64 mc, .bool true, .tuple #[.agg #[.int .i64 m0, .int .i64 m1, .int .i64 m2, .int .i64 m3], .int .i64 mc], .agg #[.int .i64 x, .int .i64 y, .int .i64 u, .int .i64 v], .agg #[.int .i64 x', .int .i64 y', .int .i64 u', .int .i64 v'], .tuple #[.agg #[.int .i64 m0, .int .i64 m1, .int .i64 m2, .int .i64 m3], .int .i64 mc], .agg #[.int .i64 m0, .int .i64 m1, .int .i64 m2, .int .i64 m3], .int .i64 mc, .tuple #[.agg #[.int .i64 m0, .int .i64 m1, .int .i64 m2, .int .i64 m3], .int .i64 mc], .agg #[.int .i64 x, .int .i64 y, .int .i64 u, .int .i64 v], .agg #[.int .i64 x', .int .i64 y', .int .i64 u', .int .i64 v'], .tuple #[.agg #[.int .i64 m0, .int .i64 m1, .int .i64 m2, .int .i64 m3], .int .i64 mc], .agg #[.int .i64 m0, .int .i64 m1, .int .i64 m2, .int .i64 m3], .int .i64 mc, .bool true, .bool true, .agg #[.int .i64 x, .int .i64 y, .int .i64 u, .int .i64 v], .bool rb, .agg #[.int .i64 x, .int .i64 y, .int .i64 u, .int .i64 v], .bool rb, .bool true, .bool true, .bool true, .agg #[.int .i64 m0, .int .i64 m1, .int .i64 m2, .int .i64 m3], undef, undef, undef, undef, undef, undef, undef, undef], defers := [] } _
  refine wpAnyH_take (i := 10) (v := .agg #[.int .i64 m0, .int .i64 m1, .int .i64 m2, .int .i64 m3]) rfl (by kernel_rfl) (by kernel_rfl) (by kernel_rfl) (fun _ _ _ h => h) (Or.inl ⟨by rfl, ?_⟩) ZS ?_
  · intro X hX5; have r0 := (hX5.out.cell (p := ⟨w3.heap.size, 0, none⟩) lk).trans c0; have r1 := (hX5.out.cell (p := ⟨w3.heap.size, 1, none⟩) lk).trans c1; have r2 := (hX5.out.cell (p := ⟨w3.heap.size, 2, none⟩) lk).trans c2; have r3 := (hX5.out.cell (p := ⟨w3.heap.size, 3, none⟩) lk).trans c3; go_simp
  change wpAnyH _ _ _ _ _ _ _ { tmps := #[.agg #[.int .i64 x, .int .i64 y, .int .i64 u, .int .i64 v], .agg #[.int .i64 x', .int .i64 y', .int .i64 u', .int .i64 v'], .pointer (some ⟨w.heap.size, 0, none⟩), .pointer (some ⟨w.heap.size + 1, 0, none⟩), .bool false, .bool true, .pointer (some ⟨w2.heap.size, 0, none⟩), .int .i64 mc, .pointer (some ⟨w3.heap.size, 0, none⟩), .int .i64 mc, .bool true, .tuple #[.agg #[.int .i64 m0, .int .i64 m1, .int .i64 m2, .int .i64 m3], .int .i64 mc], .agg #[.int .i64 x, .int .i64 y, .int .i64 u, .int .i64 v], .agg #[.int .i64 x', .int .i64 y', .int .i64 u', .int .i64 v'], .tuple #[.agg #[.int .i64 m0, .int .i64 m1, .int .i64 m2, .int .i64 m3], .int .i64 mc], .agg #[.int .i64 m0, .int .i64 m1, .int .i64 m2, .int .i64 m3], .int .i64 mc, .tuple #[.agg #[.int .i64 m0, .int .i64 m1, .int .i64 m2, .int .i64 m3], .int .i64 mc], .agg #[.int .i64 x, .int .i64 y, .int .i64 u, .int .i64 v], .agg #[.int .i64 x', .int .i64 y', .int .i64 u', .int .i64 v'], .tuple #[.agg #[.int .i64 m0, .int .i64 m1, .int .i64 m2, .int .i64 m3], .int .i64 mc], .agg #[.int .i64 m0, .int .i64 m1, .int .i64 m2, .int .i64 m3], .int .i64 mc, .bool true, .bool true, .agg #[.int .i64 x, .int .i64 y, .int .i64 u, .int .i64 v], .bool rb, .agg #[.int .i64 x, .int .i64 y, .int .i64 u, .int .i64 v], .bool rb, .bool true, .bool true, .bool true, .agg #[.int .i64 m0, .int .i64 m1, .int .i64 m2, .int .i64 m3], .agg #[.int .i64 m0, .int .i64 m1, .int .i64 m2, .int .i64 m3], undef, undef, undef, undef, undef, undef, undef], defers := [] } _
  refine wpAnyH_take (i := 11) (v := .bool true) rfl (by kernel_rfl) (by kernel_rfl) (by kernel_rfl) (fun _ _ _ h => h) (Or.inl ⟨by rfl, ?_⟩) ZS ?_
  · intro X hX5; go_simp
  change wpAnyH _ _ _ _ _ _ _ { tmps := #[.agg #[.int .i64 x, .int .i64 y, .int .i64 u, .int .i64 v], .agg #[.int .i64 x', .int .i64 y', .int .i64 u', .int .i64 v'], .pointer (some ⟨w.heap.size, 0, none⟩), .pointer (some ⟨w.heap.size + 1, 0, none⟩), .bool false, .bool true, .pointer (some ⟨w2.heap.size, 0, none⟩), .int .i64 mc, .pointer (some ⟨w3.heap.size, 0, none⟩), .int .i64 mc, .bool true, .tuple #[.agg #[.int .i64 m0, .int .i64 m1, .int .i64 m2, .int .i64 m3], .int .i64 mc], .agg #[.int .i64 x, .int .i64 y, .int .i64 u, .int .i64 v], .agg #[.int .i64 x', .int .i64 y', .int .i64 u', .int .i64 v'], .tuple #[.agg #[.int .i64 m0, .int .i64 m1, .int .i64 m2, .int .i64 m3], .int .i64 mc], .agg #[.int .i64 m0, .int .i64 m1, .int .i64 m2, .int .i64 m3], .int .i64 mc, .tuple #[.agg #[.int .i64 m0, .int .i64 m1, .int .i64 m2, .int .i64 m3], .int .i64 mc], .agg #[.int .i64 x, .int .i64 y, .int .i64 u, .int .i64 v], .agg #[.int .i64 x', .int .i64 y', .int .i64 u', .int .i64 v'], .tuple #[.agg #[.int .i64 m0, .int .i64 m1, .int .i64 m2, .int .i64 m3], .int .i64 mc], .agg #[.int .i64 m0, .int .i64 m1, .int .i64 m2, .int .i64 m3], .int .i64 mc, .bool true, .bool true, .agg #[.int .i64 x, .int .i64 y, .int .i64 u, .int .i64 v], .bool rb, .agg #[.int .i64 x, .int .i64 y, .int .i64 u, .int .i64 v], .bool rb, .bool true, .bool true, .bool true, .agg #[.int .i64 m0, .int .i64 m1, .int .i64 m2, .int .i64 m3], .agg #[.int .i64 m0, .int .i64 m1, .int .i64 m2, .int .i64 m3], .bool true, undef, undef, undef, undef, undef, undef], defers := [] } _
  refine wpAnyH_take (i := 12) (v := .bool true) rfl (by kernel_rfl) (by kernel_rfl) (by kernel_rfl) (fun _ _ _ h => h) (Or.inl ⟨by rfl, ?_⟩) ZS ?_
  · intro X hX5; go_simp
  change wpAnyH _ _ _ _ _ _ _ { tmps := #[.agg #[.int .i64 x, .int .i64 y, .int .i64 u, .int .i64 v], .agg #[.int .i64 x', .int .i64 y', .int .i64 u', .int .i64 v'], .pointer (some ⟨w.heap.size, 0, none⟩), .pointer (some ⟨w.heap.size + 1, 0, none⟩), .bool false, .bool true, .pointer (some ⟨w2.heap.size, 0, none⟩), .int .i64 mc, .pointer (some ⟨w3.heap.size, 0, none⟩), .int .i64 mc, .bool true, .tuple #[.agg #[.int .i64 m0, .int .i64 m1, .int .i64 m2, .int .i64 m3], .int .i64 mc], .agg #[.int .i64 x, .int .i64 y, .int .i64 u, .int .i64 v], .agg #[.int .i64 x', .int .i64 y', .int .i64 u', .int .i64 v'], .tuple #[.agg #[.int .i64 m0, .int .i64 m1, .int .i64 m2, .int .i64 m3], .int .i64 mc], .agg #[.int .i64 m0, .int .i64 m1, .int .i64 m2, .int .i64 m3], .int .i64 mc, .tuple #[.agg #[.int .i64 m0, .int .i64 m1, .int .i64 m2, .int .i64 m3], .int .i64 mc], .agg #[.int .i64 x, .int .i64 y, .int .i64 u, .int .i64 v], .agg #[.int .i64 x', .int .i64 y', .int .i64 u', .int .i64 v'], .tuple #[.agg #[.int .i64 m0, .int .i64 m1, .int .i64 m2, .int .i64 m3], .int .i64 mc], .agg #[.int .i64 m0, .int .i64 m1, .int .i64 m2, .int .i64 m3], .int .i64 mc, .bool true, .bool true, .agg #[.int .i64 x, .int .i64 y, .int .i64 u, .int .i64 v], .bool rb, .agg #[.int .i64 x, .int .i64 y, .int .i64 u, .int .i64 v], .bool rb, .bool true, .bool true, .bool true, .agg #[.int .i64 m0, .int .i64 m1, .int .i64 m2, .int .i64 m3], .agg #[.int .i64 m0, .int .i64 m1, .int .i64 m2, .int .i64 m3], .bool true, .bool true, undef, undef, undef, undef, undef], defers := [] } _
  refine wpAnyH_take (i := 13) (v := .bool true) rfl (by kernel_rfl) (by kernel_rfl) (by kernel_rfl) (fun _ _ _ h => h) (Or.inl ⟨by rfl, ?_⟩) ZS ?_
  · intro X hX5; go_simp
  change wpAnyH _ _ _ _ _ _ _ { tmps := #[.agg #[.int .i64 x, .int .i64 y, .int .i64 u, .int .i64 v], .agg #[.int .i64 x', .int .i64 y', .int .i64 u', .int .i64 v'], .pointer (some ⟨w.heap.size, 0, none⟩), .pointer (some ⟨w.heap.size + 1, 0, none⟩), .bool false, .bool true, .pointer (some ⟨w2.heap.size, 0, none⟩), .int .i64 mc, .pointer (some ⟨w3.heap.size, 0, none⟩), .int .i64 mc, .bool true, .tuple #[.agg #[.int .i64 m0, .int .i64 m1, .int .i64 m2, .int .i64 m3], .int .i64 mc], .agg #[.int .i64 x, .int .i64 y, .int .i64 u, .int .i64 v], .agg #[.int .i64 x', .int .i64 y', .int .i64 u', .int .i64 v'], .tuple #[.agg #[.int .i64 m0, .int .i64 m1, .int .i64 m2, .int .i64 m3], .int .i64 mc], .agg #[.int .i64 m0, .int .i64 m1, .int .i64 m2, .int .i64 m3], .int .i64 mc, .tuple #[.agg #[.int .i64 m0, .int .i64 m1, .int .i64 m2, .int .i64 m3], .int .i64 mc], .agg #[.int .i64 x, .int .i64 y, .int .i64 u, .int .i64 v], .agg #[.int .i64 x', .int .i64 y', .int .i64 u', .int .i64 v'], .tuple #[.agg #[.int .i64 m0, .int .i64 m1, .int .i64 m2, .int .i64 m3], .int .i64 mc], .agg #[.int .i64 m0, .int .i64 m1, .int .i64 m2, .int .i64 m3], .int .i64 mc, .bool true, .bool true, .agg #[.int .i64 x, .int .i64 y, .int .i64 u, .int .i64 v], .bool rb, .agg #[.int .i64 x, .int .i64 y, .int .i64 u, .int .i64 v], .bool rb, .bool true, .bool true, .bool true, .agg #[.int .i64 m0, .int .i64 m1, .int .i64 m2, .int .i64 m3], .agg #[.int .i64 m0, .int .i64 m1, .int .i64 m2, .int .i64 m3], .bool true, .bool true, .bool true, undef, undef, undef, undef], defers := [] } _
  refine wpAnyH_take (i := 14) (v := .int .i64 mc) rfl (by kernel_rfl) (by kernel_rfl) (by kernel_rfl) (fun _ _ _ h => h) (Or.inl ⟨by rfl, ?_⟩) ZS ?_
  · intro X hX5; go_simp
  change wpAnyH _ _ _ _ _ _ _ { tmps := #[.agg #[.int .i64 x, .int .i64 y, .int .i64 u, .int .i64 v], .agg #[.int .i64 x', .int .i64 y', .int .i64 u', .int .i64 v'], .pointer (some ⟨w.heap.size, 0, none⟩), .pointer (some ⟨w.heap.size + 1, 0, none⟩), .bool false, .bool true, .pointer (some ⟨w2.heap.size, 0, none⟩), .int .i64 mc, .pointer (some ⟨w3.heap.size, 0, none⟩), .int .i64 mc, .bool true, .tuple #[.agg #[.int .i64 m0, .int .i64 m1, .int .i64 m2, .int .i64 m3], .int .i64 mc], .agg #[.int .i64 x, .int .i64 y, .int .i64 u, .int .i64 v], .agg #[.int .i64 x', .int .i64 y', .int .i64 u', .int .i64 v'], .tuple #[.agg #[.int .i64 m0, .int .i64 m1, .int .i64 m2, .int .i64 m3], .int .i64 mc], .agg #[.int .i64 m0, .int .i64 m1, .int .i64 m2, .int .i64 m3], .int .i64 mc, .tuple #[.agg #[.int .i64 m0, .int .i64 m1, .int .i64 m2, .int .i64 m3], .int .i64 mc], .agg #[.int .i64 x, .int .i64 y, .int .i64 u, .int .i64 v], .agg #[.int .i64 x', .int .i64 y', .int .i64 u', .int .i64 v'], .tuple #[.agg #[.int .i64 m0, .int .i64 m1, .int .i64 m2, .int .i64 m3], .int .i64 mc], .agg #[.int .i64 m0, .int .i64 m1, .int .i64 m2, .int .i64 m3], .int .i64 mc, .bool true, .bool true, .agg #[.int .i64 x, .int .i64 y, .int .i64 u, .int .i64 v], .bool rb, .agg #[.int .i64 x, .int .i64 y, .int .i64 u, .int .i64 v], .bool rb, .bool true, .bool true, .bool true, .agg #[.int .i64 m0, .int .i64 m1, .int .i64 m2, .int .i64 m3], .agg #[.int .i64 m0, .int .i64 m1, .int .i64 m2, .int .i64 m3], .bool true, .bool true, .bool true, .int .i64 mc, undef, undef, undef], defers := [] } _
  refine wpAnyH_take (i := 15) (v := .int .i64 mc) rfl (by kernel_rfl) (by kernel_rfl) (by kernel_rfl) (fun _ _ _ h => h) (Or.inl ⟨by rfl, ?_⟩) ZS ?_
  · intro X hX5; go_simp
  change wpAnyH _ _ _ _ _ _ _ { tmps := #[.agg #[.int .i64 x, .int .i64 y, .int .i64 u, .int .i64 v], .agg #[.int .i64 x', .int .i64 y', .int .i64 u', .int .i64 v'], .pointer (some ⟨w.heap.size, 0, none⟩), .pointer (some ⟨w.heap.size + 1, 0, none⟩), .bool false, .bool true, .pointer (some ⟨w2.heap.size, 0, none⟩), .int .i64 mc, .pointer (some ⟨w3.heap.size, 0, none⟩), .int .i64 mc, .bool true, .tuple #[.agg #[.int .i64 m0, .int .i64 m1, .int .i64 m2, .int .i64 m3], .int .i64 mc], .agg #[.int .i64 x, .int .i64 y, .int .i64 u, .int .i64 v], .agg #[.int .i64 x', .int .i64 y', .int .i64 u', .int .i64 v'], .tuple #[.agg #[.int .i64 m0, .int .i64 m1, .int .i64 m2, .int .i64 m3], .int .i64 mc], .agg #[.int .i64 m0, .int .i64 m1, .int .i64 m2, .int .i64 m3], .int .i64 mc, .tuple #[.agg #[.int .i64 m0, .int .i64 m1, .int .i64 m2, .int .i64 m3], .int .i64 mc], .agg #[.int .i64 x, .int .i64 y, .int .i64 u, .int .i64 v], .agg #[.int .i64 x', .int .i64 y', .int .i64 u', .int .i64 v'], .tuple #[.agg #[.int .i64 m0, .int .i64 m1, .int .i64 m2, .int .i64 m3], .int .i64 mc], .agg #[.int .i64 m0, .int .i64 m1, .int .i64 m2, .int .i64 m3], .int .i64 mc, .bool true, .bool true, .agg #[.int .i64 x, .int .i64 y, .int .i64 u, .int .i64 v], .bool rb, .agg #[.int .i64 x, .int .i64 y, .int .i64 u, .int .i64 v], .bool rb, .bool true, .bool true, .bool true, .agg #[.int .i64 m0, .int .i64 m1, .int .i64 m2, .int .i64 m3], .agg #[.int .i64 m0, .int .i64 m1, .int .i64 m2, .int .i64 m3], .bool true, .bool true, .bool true, .int .i64 mc, .int .i64 mc, undef, undef], defers := [] } _
  refine wpAnyH_take (i := 16) (v := .bool true) rfl (by kernel_rfl) (by kernel_rfl) (by kernel_rfl) (fun _ _ _ h => h) (Or.inl ⟨by rfl, ?_⟩) ZS ?_
  · intro X hX5; go_simp
  change wpAnyH _ _ _ _ _ _ _ { tmps := #[.agg #[.int .i64 x, .int .i64 y, .int .i64 u, .int .i64 v], .agg #[.int .i64 x', .int .i64 y', .int .i64 u', .int .i64 v'], .pointer (some ⟨w.heap.size, 0, none⟩), .pointer (some ⟨w.heap.size + 1, 0, none⟩), .bool false, .bool true, .pointer (some ⟨w2.heap.size, 0, none⟩), .int .i64 mc, .pointer (some ⟨w3.heap.size, 0, none⟩), .int .i64 mc, .bool true, .tuple #[.agg #[.int .i64 m0, .int .i64 m1, .int .i64 m2, .int .i64 m3], .int .i64 mc], .agg #[.int .i64 x, .int .i64 y, .int .i64 u, .int .i64 v], .agg #[.int .i64 x', .int .i64 y', .int .i64 u', .int .i64 v'], .tuple #[.agg #[.int .i64 m0, .int .i64 m1, .int .i64 m2, .int .i64 m3], .int .i64 mc], .agg #[.int .i64 m0, .int .i64 m1, .int .i64 m2, .int .i64 m3], .int .i64 mc, .tuple #[.agg #[.int .i64 m0, .int .i64 m1, .int .i64 m2, .int .i64 m3], .int .i64 mc], .agg #[.int .i64 x, .int .i64 y, .int .i64 u, .int .i64 v], .agg #[.int .i64 x', .int .i64 y', .int .i64 u', .int .i64 v'], .tuple #[.agg #[.int .i64 m0, .int .i64 m1, .int .i64 m2, .int .i64 m3], .int .i64 mc], .agg #[.int .i64 m0, .int .i64 m1, .int .i64 m2, .int .i64 m3], .int .i64 mc, .bool true, .bool true, .agg #[.int .i64 x, .int .i64 y, .int .i64 u, .int .i64 v], .bool rb, .agg #[.int .i64 x, .int .i64 y, .int .i64 u, .int .i64 v], .bool rb, .bool true, .bool true, .bool true, .agg #[.int .i64 m0, .int .i64 m1, .int .i64 m2, .int .i64 m3], .agg #[.int .i64 m0, .int .i64 m1, .int .i64 m2, .int .i64 m3], .bool true, .bool true, .bool true, .int .i64 mc, .int .i64 mc, .bool true, undef], defers := [] } _
  refine wpAnyH_take (i := 17) (v := .bool true) rfl (by kernel_rfl) (by kernel_rfl) (by kernel_rfl) (fun _ _ _ h => h) (Or.inl ⟨by rfl, ?_⟩) ZS ?_
  · intro X hX5; go_simp
  change wpAnyH _ _ _ _ _ _ _ { tmps := #[.agg #[.int .i64 x, .int .i64 y, .int .i64 u, .int .i64 v], .agg #[.int .i64 x', .int .i64 y', .int .i64 u', .int .i64 v'], .pointer (some ⟨w.heap.size, 0, none⟩), .pointer (some ⟨w.heap.size + 1, 0, none⟩), .bool false, .bool true, .pointer (some ⟨w2.heap.size, 0, none⟩), .int .i64 mc, .pointer (some ⟨w3.heap.size, 0, none⟩), .int .i64 mc, .bool true, .tuple #[.agg #[.int .i64 m0, .int .i64 m1, .int .i64 m2, .int .i64 m3], .int .i64 mc], .agg #[.int .i64 x, .int .i64 y, .int .i64 u, .int .i64 v], .agg #[.int .i64 x', .int .i64 y', .int .i64 u', .int .i64 v'], .tuple #[.agg #[.int .i64 m0, .int .i64 m1, .int .i64 m2, .int .i64 m3], .int .i64 mc], .agg #[.int .i64 m0, .int .i64 m1, .int .i64 m2, .int .i64 m3], .int .i64 mc, .tuple #[.agg #[.int .i64 m0, .int .i64 m1, .int .i64 m2, .int .i64 m3], .int .i64 mc], .agg #[.int .i64 x, .int .i64 y, .int .i64 u, .int .i64 v], .agg #[.int .i64 x', .int .i64 y', .int .i64 u', .int .i64 v'], .tuple #[.agg #[.int .i64 m0, .int .i64 m1, .int .i64 m2, .int .i64 m3], .int .i64 mc], .agg #[.int .i64 m0, .int .i64 m1, .int .i64 m2, .int .i64 m3], .int .i64 mc, .bool true, .bool true, .agg #[.int .i64 x, .int .i64 y, .int .i64 u, .int .i64 v], .bool rb, .agg #[.int .i64 x, .int .i64 y, .int .i64 u, .int .i64 v], .bool rb, .bool true, .bool true, .bool true, .agg #[.int .i64 m0, .int .i64 m1, .int .i64 m2, .int .i64 m3], .agg #[.int .i64 m0, .int .i64 m1, .int .i64 m2, .int .i64 m3], .bool true, .bool true, .bool true, .int .i64 mc, .int .i64 mc, .bool true, .bool true], defers := [] } _
  refine wpAnyH_take (i := 18) (v := .bool true) rfl (by kernel_rfl) (by kernel_rfl) (by kernel_rfl) (fun _ _ _ h => h) (Or.inl ⟨by rfl, ?_⟩) ZS ?_
  · intro X hX5; go_simp
  change wpAnyH _ _ _ _ _ _ _ { tmps := #[.agg #[.int .i64 x, .int .i64 y, .int .i64 u, .int .i64 v], .agg #[.int .i64 x', .int .i64 y', .int .i64 u', .int .i64 v'], .pointer (some ⟨w.heap.size, 0, none⟩), .pointer (some ⟨w.heap.size + 1, 0, none⟩), .bool true, .bool true, .pointer (some ⟨w2.heap.size, 0, none⟩), .int .i64 mc, .pointer (some ⟨w3.heap.size, 0, none⟩), .int .i64 mc, .bool true, .tuple #[.agg #[.int .i64 m0, .int .i64 m1, .int .i64 m2, .int .i64 m3], .int .i64 mc], .agg #[.int .i64 x, .int .i64 y, .int .i64 u, .int .i64 v], .agg #[.int .i64 x', .int .i64 y', .int .i64 u', .int .i64 v'], .tuple #[.agg #[.int .i64 m0, .int .i64 m1, .int .i64 m2, .int .i64 m3], .int .i64 mc], .agg #[.int .i64 m0, .int .i64 m1, .int .i64 m2, .int .i64 m3], .int .i64 mc, .tuple #[.agg #[.int .i64 m0, .int .i64 m1, .int .i64 m2, .int .i64 m3], .int .i64 mc], .agg #[.int .i64 x, .int .i64 y, .int .i64 u, .int .i64 v], .agg #[.int .i64 x', .int .i64 y', .int .i64 u', .int .i64 v'], .tuple #[.agg #[.int .i64 m0, .int .i64 m1, .int .i64 m2, .int .i64 m3], .int .i64 mc], .agg #[.int .i64 m0, .int .i64 m1, .int .i64 m2, .int .i64 m3], .int .i64 mc, .bool true, .bool true, .agg #[.int .i64 x, .int .i64 y, .int .i64 u, .int .i64 v], .bool rb, .agg #[.int .i64 x, .int .i64 y, .int .i64 u, .int .i64 v], .bool rb, .bool true, .bool true, .bool true, .agg #[.int .i64 m0, .int .i64 m1, .int .i64 m2, .int .i64 m3], .agg #[.int .i64 m0, .int .i64 m1, .int .i64 m2, .int .i64 m3], .bool true, .bool true, .bool true, .int .i64 mc, .int .i64 mc, .bool true, .bool true], defers := [] } _
  refine wpAnyH_done (by kernel_rfl) ?_ _
  have FIN := Lib.hid (B5.out.trans (ZS.out.mono hs5))
  clear ZS YS SV a0 a1 a2 a3 b0 b1 b2 b3 c0 c1 c2 c3
  go_wp2
  go_ret
  exact ⟨rfl, FIN.out⟩

set_option maxRecDepth 100000 in
theorem lifted (os : Os) (started : os.Started) (H : Type) (enc : TypeId × Value → H) :
    ReturnsInHanded {} Try.checked os 3 .any (Rows.rectMeetsSpec.pre6 enc Try.prog Try.f3 Rows.rectMeetsRow.domain false) (Rows.rectMeetsSpec.post enc Try.prog Try.f3 false true false false) := by
  refine returnsInHanded_of_change (C := Try.checked) own started (by kernel_rfl) Try.func3
    (ChangeSpec.witness6 (enc := enc) (C := Try.checked) false ⟨#[], #[.agg #[.int .i64 0, .int .i64 0, .int .i64 0, .int .i64 0], .agg #[.int .i64 0, .int .i64 0, .int .i64 0, .int .i64 0]], []⟩ 8 (by kernel_rfl) (by kernel_rfl) (by kernel_rfl) (by kernel_rfl)) ?_
  intro W base args ds gs before hval0 hW hcnd _
  have hval : ∀ (j : Nat) t v, Try.f3.params[j]? = some t → args[j]? = some v → Value.okWide Try.prog W .any base t v := hval0
  have hW' := hW
  obtain ⟨p, q, hA0, hV, rfl, hfz, hnd⟩ := hW
  have hA : DataW.TrodAll enc Try.prog W 0 (fun _ => true) true Try.f3.params.toList args.toList ds p := hA0
  rw [Try.params3] at hA hval
  obtain ⟨v0, vs0, d0, ds0, p0, q0, hargs, rfl, rfl, h0, r0⟩ := trodAll_cons hA
  obtain ⟨v1, vs1, d1, ds1, p1, q1, rfl, rfl, rfl, h1, r1⟩ := trodAll_cons r0
  obtain ⟨rfl, rfl, rfl⟩ := trodAll_nil r1
  obtain rfl : args = #[v0, v1] := by cases args; simp_all
  obtain ⟨rfl, rfl⟩ := trodVars_none hV
  obtain ⟨a0, rfl, rfl, rfl, w0⟩ := open_rect (hval 0 23 v0 rfl rfl) h0
  obtain ⟨a1, rfl, rfl, rfl, w1⟩ := open_rect (hval 1 23 v1 rfl rfl) h1
  clear hA0 hval0
  simp only [List.append_nil] at hW'
  refine (walk a0 w0 a1 w1 W).mono fun e W' ⟨he, hg⟩ => ?_
  subst he
  exact ⟨_, rfl, _, _, _, [], [], [], hW', (trodAll_cons_mk (shut_bool Try.underlying4 _) trodAll_mk0), (trodAll_cons_mk (shut_rect a0 w0) (trodAll_cons_mk (shut_rect a1 w1) trodAll_mk0)), rfl, hg.frame _, fun h => by cases h⟩

theorem over : Rows.rectMeetsRow.holds Try.pinned (OpenSpec.ofChange Rows.rectMeetsSpec) :=
  OpenClaim.holds_of_wide 3 Try.f3 rfl rfl rfl rfl rfl rfl rfl ⟨rfl, rfl, rfl, rfl, rfl⟩ rfl rfl rfl rfl rfl (by kernel_rfl) Try.func3 (by kernel_rfl)
    (of_decide_eq_true (by kernel_rfl)) (by unfold Func.isWrapper; first | (rw [if_pos (by decide +kernel)]; kernel_rfl) | (rw [if_neg (by decide +kernel)]; exact ⟨rfl, rfl⟩))
    (fun os started H enc _ => lifted os started H enc)

/-- the statement -/
theorem proved : Rows.RectMeetsSaid :=
  over
#print axioms proved
end Go.Proofs.Ytfkhdaidlmdhnaa.rectMeets
