/- Which styles are valid, and the computed ones: for every style. -/
import Derived.Test.YtmhpailpjfieoaaRows
import Derived.WalkKit
import Derived.ProofKit
import Derived.OpenShut
import Derived.Below
import Derived.Test.YtmhpailpjfieoaaSLaw
import Derived.ShutString
namespace Go.Proofs.Ytmhpailpjfieoaa.styleComputes
open Go.ChangeShapes Go.WideShapes Go.ChangeAt Go.RowKit
set_option linter.unusedVariables false

theorem own : ownKnob Try.prog.godebug = none := by kernel_rfl

set_option maxRecDepth 100000 in
set_option maxHeartbeats 8000000 in
theorem walk (s : Sty) (hs : s.wf) (w : World) : Calls Try.prog 3 #[s.val] w fun e w' => e = .returned (.bool true) ∧ Below w.heap.size w w' := by
  obtain ⟨r, hr⟩ : ∃ r : Sty, (if validS s then compS s else Sty.zero) = r := ⟨_, rfl⟩
  obtain ⟨er, her⟩ : ∃ er : Int, (if validS s then 0 else 30) = er := ⟨_, rfl⟩
  have hcr : compR s = .tuple #[r.val, .int .i64 er] := by rw [← hr, ← her]; rfl
  obtain ⟨cs, hcs⟩ : ∃ cs, s.cells.toArray = cs := ⟨_, rfl⟩
  obtain ⟨fs, hfs⟩ : ∃ fs, (r).cells.toArray = fs := ⟨_, rfl⟩
  have kb : Whole (w.alloc (.cells cs 31)) w.heap.size 31 s.cells := by rw [← hcs]; exact whole_new w s.cells 31 _ rfl
  have KB := Lib.hid kb
  have HB : Hid (Below w.heap.size w (w.alloc (.cells cs 31))) := Lib.hid ((Below.refl _ w).alloc (Nat.le_refl _) _)
  have SH := Lib.hid (fun X => shown_any X)
  have iC : Hid ((Try.prog.info? 31).map (·.size) = some cs.size) := Lib.hid (by rw [← hcs]; exact sty_info _)
  have iF : Hid ((Try.prog.info? 31).map (·.size) = some fs.size) := Lib.hid (by rw [← hfs]; exact sty_info _)
  have oF : Hid (fs.all (·.oneCell') = true) := Lib.hid (by rw [← hfs]; exact cells_one _)
  have zF : Hid (Sty.zero.cells.toArray.size = fs.size) := Lib.hid (by rw [← hfs] <;> rfl)
  have hE : ∀ X : World, (binOp .eql 31 (.agg fs) (.agg fs)).run Try.prog X = .ok (.bool true) X := fun X => by rw [← hfs]; exact sty_eql _ X
  have hsv : s.val = .agg cs := by rw [← hcs]; rfl
  rw [hsv]
  have HC := Lib.hid hcs
  have HF := Lib.hid hfs
  clear kb hcs hfs
  have hfv : r.val = .agg fs := by rw [← HF.out]; rfl
  have C1 : Hid (∀ X : World, Calls Try.prog 9 #[.agg cs] X fun e W' => e = .returned (.tuple #[.agg fs, .int .i64 er]) ∧ Below X.heap.size X W') := Lib.hid fun X => by
    have h := comp_any s X
    rw [hcr, hsv, hfv] at h
    exact h
  have C2 : Hid (∀ X : World, Calls Try.prog 10 #[.agg cs] X fun e W' => e = .returned (.tuple #[.agg fs, .int .i64 er]) ∧ Below X.heap.size X W') := Lib.hid fun X => by
    have h := refComp_any s X
    rw [hcr, hsv, hfv] at h
    exact h
  have V1 : Hid (∀ X : World, Calls Try.prog 11 #[.agg cs] X fun e W' => e = .returned (.bool (validS s)) ∧ Below X.heap.size X W') := Lib.hid fun X => by
    have h := valid_any s X
    rw [hsv] at h
    exact h
  have V2 : Hid (∀ X : World, Calls Try.prog 12 #[.agg cs] X fun e W' => e = .returned (.bool (validS s)) ∧ Below X.heap.size X W') := Lib.hid fun X => by
    have h := refValid_any s X
    rw [hsv] at h
    exact h
  generalize validS s = bv at *
  clear hcr hsv hfv hr her
  go_enter Try.func3, Try.ntmps3
  go_wp2_with (first
    | (go_at_call 8; refine (SH.out _).mono ?_; clear SH; rintro e w1 ⟨rfl, hb1⟩; have b1 := Lib.hid (HB.out.trans (hb1.mono (by simp))); have k1 := Lib.hid (KB.out.below hb1 (by simp)); have k1c := k1.out; unfold Whole at k1c; rw [HC.out] at k1c; clear hb1)
    | (refine wpList_load_row_w rfl 31 (.tmp 1) rfl _ rfl 31 cs (0, 0) _ k1c Try.underlying31 rfl iC.out ?_; clear k1c)
    | (go_at_call 9; refine (C1.out _).mono ?_; clear C1; rintro e w2 ⟨rfl, hb2⟩; have b2 := Lib.hid (b1.out.trans (hb2.mono b1.out.size)); have k2 := Lib.hid (k1.out.below hb2 k1.out.lt); clear hb2)
    | (refine wpList_store_row rfl 31 (.tmp 4) (.tmp 12) rfl _ fs rfl rfl 31 Sty.zero.cells.toArray (whole_new w2 Sty.zero.cells 31 _ rfl) iF.out zF.out oF.out ?_; refine at_world (fun X => Whole X (w.heap.size) 31 s.cells ∧ Whole X w2.heap.size 31 (r).cells ∧ Below w.heap.size w X) ⟨whole_row_other (k2.out.alloc _) _ _ (Nat.ne_of_lt k2.out.lt), (by rw [← HF.out]; exact whole_row (whole_new w2 Sty.zero.cells 31 _ rfl) _), (b2.out.trans ((Below.refl _ w2).alloc b2.out.size _)).trans (below_row _ _ _ b2.out.size)⟩ (fun X2 hX => ?_); obtain ⟨ka, kr, bX⟩ := hX; have b3 := Lib.hid bX; have k3 := Lib.hid ka; have k3r := Lib.hid kr; unfold Whole at ka; rw [HC.out] at ka; clear bX kr k2 b2)
    | (refine wpList_load_row_w rfl 31 (.tmp 1) rfl _ rfl 31 cs (0, 0) _ ka Try.underlying31 rfl iC.out ?_; clear ka)
    | (go_at_call 10; refine (C2.out _).mono ?_; clear C2; rintro e w4 ⟨rfl, hb4⟩; have b4 := Lib.hid (b3.out.trans (hb4.mono b3.out.size)); have k4 := Lib.hid (k3.out.below hb4 k3.out.lt); have k4r := Lib.hid (k3r.out.below hb4 k3r.out.lt); clear hb4)
    | (refine wpList_store_row rfl 31 (.tmp 6) (.tmp 17) rfl _ fs rfl rfl 31 Sty.zero.cells.toArray (whole_new w4 Sty.zero.cells 31 _ rfl) iF.out zF.out oF.out ?_; refine at_world (fun X => Whole X (w.heap.size) 31 s.cells ∧ Whole X (w2.heap.size) 31 r.cells ∧ Whole X w4.heap.size 31 (r).cells ∧ Below w.heap.size w X) ⟨whole_row_other (k4.out.alloc _) _ _ (Nat.ne_of_lt k4.out.lt), whole_row_other (k4r.out.alloc _) _ _ (Nat.ne_of_lt k4r.out.lt), (by rw [← HF.out]; exact whole_row (whole_new w4 Sty.zero.cells 31 _ rfl) _), (b4.out.trans ((Below.refl _ w4).alloc b4.out.size _)).trans (below_row _ _ _ b4.out.size)⟩ (fun X4 hX => ?_); obtain ⟨kA, kR, kQ, bX⟩ := hX; have b5 := Lib.hid bX; have lA := Lib.hid kA.lt; have lR := Lib.hid kR.lt; have lQ := Lib.hid kQ.lt; have hA := Lib.hid (show X4.heap[w.heap.size]? = some (.cells cs 31 (0, 0)) by rw [← HC.out]; exact kA); have hR := Lib.hid (show X4.heap[w2.heap.size]? = some (.cells fs 31 (0, 0)) by rw [← HF.out]; exact kR); have hQ := Lib.hid (show X4.heap[w4.heap.size]? = some (.cells fs 31 (0, 0)) by rw [← HF.out]; exact kQ); clear bX kA kR kQ k4 k4r b4))
  refine region_held_at (S := fun X => Hid (Below X4.heap.size X4 X)) (by kernel_rfl) (fun W6 hW6 => ?_)
  have SV : Hid (Below X4.heap.size X4 W6) := by apply Lib.hid; rw [← hW6]; exact below_dn _ X4 1
  have hS1 : ∀ X, Hid (Below X4.heap.size X4 X) → X.heap[w.heap.size]? = some (.cells cs 31 (0, 0)) := fun X hX => (hX.out.block _ lA.out).trans hA.out
  have hS2 : ∀ X, Hid (Below X4.heap.size X4 X) → X.heap[w2.heap.size]? = some (.cells fs 31 (0, 0)) := fun X hX => (hX.out.block _ lR.out).trans hR.out
  have hS3 : ∀ X, Hid (Below X4.heap.size X4 X) → X.heap[w4.heap.size]? = some (.cells fs 31 (0, 0)) := fun X hX => (hX.out.block _ lQ.out).trans hQ.out
  clear hW6
  refine wpAnyH_take (i := 0) (v := .bool true) rfl (by kernel_rfl) (by kernel_rfl) (by kernel_rfl) (fun _ _ _ h => h) (Or.inl ⟨by rfl, ?_⟩) SV ?_
  · intro X hX; go_simp
  change wpAnyH _ _ _ _ _ _ _ { tmps := #[.agg cs, .pointer (some ⟨w.heap.size, 0, none⟩), .bool false, .bool true, .pointer (some ⟨w2.heap.size, 0, none⟩), .int .i64 er, .pointer (some ⟨w4.heap.size, 0, none⟩), .int .i64 er, .bool true, .tuple #[.agg fs, .int .i64 er], .agg cs, .tuple #[.agg fs, .int .i64 er], .agg fs, .int .i64 er, .tuple #[.agg fs, .int .i64 er], .agg cs, .tuple #[.agg fs, .int .i64 er], .agg fs, .int .i64 er, .bool true, undef, undef, undef, undef, undef, undef, undef, undef, undef, undef, undef, undef, undef, undef, undef, undef, undef], defers := [] } _
  refine wpAnyH_take (i := 1) (v := .bool true) rfl (by kernel_rfl) (by kernel_rfl) (by kernel_rfl) (fun _ _ _ h => h) (Or.inl ⟨by rfl, ?_⟩) SV ?_
  · intro X hX; go_simp
  change wpAnyH _ _ _ _ _ _ _ { tmps := #[.agg cs, .pointer (some ⟨w.heap.size, 0, none⟩), .bool false, .bool true, .pointer (some ⟨w2.heap.size, 0, none⟩), .int .i64 er, .pointer (some ⟨w4.heap.size, 0, none⟩), .int .i64 er, .bool true, .tuple #[.agg fs, .int .i64 er], .agg cs, .tuple #[.agg fs, .int .i64 er], .agg fs, .int .i64 er, .tuple #[.agg fs, .int .i64 er], .agg cs, .tuple #[.agg fs, .int .i64 er], .agg fs, .int .i64 er, .bool true, .bool true, undef, undef, undef, undef, undef, undef, undef, undef, undef, undef, undef, undef, undef, undef, undef, undef], defers := [] } _
  refine wpAnyH_take (i := 2) (v := .agg cs) rfl (by kernel_rfl) (by kernel_rfl) (by kernel_rfl) (fun _ _ _ h => h) (yields_row (x := .tmp 1) (by rfl) rfl (w.heap.size) rfl 31 cs (0, 0) _ hS1 Try.underlying31 rfl iC.out) SV ?_
  change wpAnyH _ _ _ _ _ _ _ { tmps := #[.agg cs, .pointer (some ⟨w.heap.size, 0, none⟩), .bool false, .bool true, .pointer (some ⟨w2.heap.size, 0, none⟩), .int .i64 er, .pointer (some ⟨w4.heap.size, 0, none⟩), .int .i64 er, .bool true, .tuple #[.agg fs, .int .i64 er], .agg cs, .tuple #[.agg fs, .int .i64 er], .agg fs, .int .i64 er, .tuple #[.agg fs, .int .i64 er], .agg cs, .tuple #[.agg fs, .int .i64 er], .agg fs, .int .i64 er, .bool true, .bool true, .agg cs, undef, undef, undef, undef, undef, undef, undef, undef, undef, undef, undef, undef, undef, undef, undef], defers := [] } _
  refine wpAnyH_take (i := 4) (v := .agg cs) rfl (by kernel_rfl) (by kernel_rfl) (by kernel_rfl) (fun _ _ _ h => h) (yields_row (x := .tmp 1) (by rfl) rfl (w.heap.size) rfl 31 cs (0, 0) _ hS1 Try.underlying31 rfl iC.out) SV ?_
  change wpAnyH _ _ _ _ _ _ _ { tmps := #[.agg cs, .pointer (some ⟨w.heap.size, 0, none⟩), .bool false, .bool true, .pointer (some ⟨w2.heap.size, 0, none⟩), .int .i64 er, .pointer (some ⟨w4.heap.size, 0, none⟩), .int .i64 er, .bool true, .tuple #[.agg fs, .int .i64 er], .agg cs, .tuple #[.agg fs, .int .i64 er], .agg fs, .int .i64 er, .tuple #[.agg fs, .int .i64 er], .agg cs, .tuple #[.agg fs, .int .i64 er], .agg fs, .int .i64 er, .bool true, .bool true, .agg cs, undef, .agg cs, undef, undef, undef, undef, undef, undef, undef, undef, undef, undef, undef, undef, undef], defers := [] } _
  refine wpAnyH_all (rs := [3]) (by kernel_rfl) (by simp) ?_
  intro i hi; obtain rfl : i = 3 := by simpa using hi
  refine wpOp_step rfl (fun K hK => ?_)
  go_simp
  refine (V1.out _).mono ?_
  rintro e w7 ⟨rfl, hb⟩
  have S7 : Hid (Below X4.heap.size X4 w7) := Lib.hid (SV.out.trans (hb.mono SV.out.size))
  refine hK _ _ ⟨S7, ?_⟩
  clear hK K hi hb
  change wpAnyH _ _ _ _ _ _ _ { tmps := #[.agg cs, .pointer (some ⟨w.heap.size, 0, none⟩), .bool false, .bool true, .pointer (some ⟨w2.heap.size, 0, none⟩), .int .i64 er, .pointer (some ⟨w4.heap.size, 0, none⟩), .int .i64 er, .bool true, .tuple #[.agg fs, .int .i64 er], .agg cs, .tuple #[.agg fs, .int .i64 er], .agg fs, .int .i64 er, .tuple #[.agg fs, .int .i64 er], .agg cs, .tuple #[.agg fs, .int .i64 er], .agg fs, .int .i64 er, .bool true, .bool true, .agg cs, .bool bv, .agg cs, undef, undef, undef, undef, undef, undef, undef, undef, undef, undef, undef, undef, undef], defers := [] } _
  refine wpAnyH_all (rs := [5]) (by kernel_rfl) (by simp) ?_
  intro i hi; obtain rfl : i = 5 := by simpa using hi
  refine wpOp_step rfl (fun K hK => ?_)
  go_simp
  refine (V2.out _).mono ?_
  rintro e w8 ⟨rfl, hb⟩
  have S8 : Hid (Below X4.heap.size X4 w8) := Lib.hid (S7.out.trans (hb.mono S7.out.size))
  refine hK _ _ ⟨S8, ?_⟩
  clear hK K hi hb
  change wpAnyH _ _ _ _ _ _ _ { tmps := #[.agg cs, .pointer (some ⟨w.heap.size, 0, none⟩), .bool false, .bool true, .pointer (some ⟨w2.heap.size, 0, none⟩), .int .i64 er, .pointer (some ⟨w4.heap.size, 0, none⟩), .int .i64 er, .bool true, .tuple #[.agg fs, .int .i64 er], .agg cs, .tuple #[.agg fs, .int .i64 er], .agg fs, .int .i64 er, .tuple #[.agg fs, .int .i64 er], .agg cs, .tuple #[.agg fs, .int .i64 er], .agg fs, .int .i64 er, .bool true, .bool true, .agg cs, .bool bv, .agg cs, .bool bv, undef, undef, undef, undef, undef, undef, undef, undef, undef, undef, undef, undef], defers := [] } _
  refine wpAnyH_take (i := 6) (v := .bool true) rfl (by kernel_rfl) (by kernel_rfl) (by kernel_rfl) (fun _ _ _ h => h) (Or.inl ⟨by rfl, ?_⟩) S8 ?_
  · intro X hX; go_simp
  change wpAnyH _ _ _ _ _ _ _ { tmps := #[.agg cs, .pointer (some ⟨w.heap.size, 0, none⟩), .bool false, .bool true, .pointer (some ⟨w2.heap.size, 0, none⟩), .int .i64 er, .pointer (some ⟨w4.heap.size, 0, none⟩), .int .i64 er, .bool true, .tuple #[.agg fs, .int .i64 er], .agg cs, .tuple #[.agg fs, .int .i64 er], .agg fs, .int .i64 er, .tuple #[.agg fs, .int .i64 er], .agg cs, .tuple #[.agg fs, .int .i64 er], .agg fs, .int .i64 er, .bool true, .bool true, .agg cs, .bool bv, .agg cs, .bool bv, .bool true, undef, undef, undef, undef, undef, undef, undef, undef, undef, undef, undef], defers := [] } _
  refine wpAnyH_take (i := 7) (v := .bool true) rfl (by kernel_rfl) (by kernel_rfl) (by kernel_rfl) (fun _ _ _ h => h) (Or.inl ⟨by rfl, ?_⟩) S8 ?_
  · intro X hX; go_simp
  change wpAnyH _ _ _ _ _ _ _ { tmps := #[.agg cs, .pointer (some ⟨w.heap.size, 0, none⟩), .bool false, .bool true, .pointer (some ⟨w2.heap.size, 0, none⟩), .int .i64 er, .pointer (some ⟨w4.heap.size, 0, none⟩), .int .i64 er, .bool true, .tuple #[.agg fs, .int .i64 er], .agg cs, .tuple #[.agg fs, .int .i64 er], .agg fs, .int .i64 er, .tuple #[.agg fs, .int .i64 er], .agg cs, .tuple #[.agg fs, .int .i64 er], .agg fs, .int .i64 er, .bool true, .bool true, .agg cs, .bool bv, .agg cs, .bool bv, .bool true, .bool true, undef, undef, undef, undef, undef, undef, undef, undef, undef, undef], defers := [] } _
  refine wpAnyH_take (i := 8) (v := .bool true) rfl (by kernel_rfl) (by kernel_rfl) (by kernel_rfl) (fun _ _ _ h => h) (Or.inl ⟨by rfl, ?_⟩) S8 ?_
  · intro X hX; go_simp
  change wpAnyH _ _ _ _ _ _ _ { tmps := #[.agg cs, .pointer (some ⟨w.heap.size, 0, none⟩), .bool false, .bool true, .pointer (some ⟨w2.heap.size, 0, none⟩), .int .i64 er, .pointer (some ⟨w4.heap.size, 0, none⟩), .int .i64 er, .bool true, .tuple #[.agg fs, .int .i64 er], .agg cs, .tuple #[.agg fs, .int .i64 er], .agg fs, .int .i64 er, .tuple #[.agg fs, .int .i64 er], .agg cs, .tuple #[.agg fs, .int .i64 er], .agg fs, .int .i64 er, .bool true, .bool true, .agg cs, .bool bv, .agg cs, .bool bv, .bool true, .bool true, .bool true, undef, undef, undef, undef, undef, undef, undef, undef, undef], defers := [] } _
  refine wpAnyH_take (i := 9) (v := .agg fs) rfl (by kernel_rfl) (by kernel_rfl) (by kernel_rfl) (fun _ _ _ h => h) (yields_row (x := .tmp 4) (by rfl) rfl (w2.heap.size) rfl 31 fs (0, 0) _ hS2 Try.underlying31 rfl iF.out) S8 ?_
  change wpAnyH _ _ _ _ _ _ _ { tmps := #[.agg cs, .pointer (some ⟨w.heap.size, 0, none⟩), .bool false, .bool true, .pointer (some ⟨w2.heap.size, 0, none⟩), .int .i64 er, .pointer (some ⟨w4.heap.size, 0, none⟩), .int .i64 er, .bool true, .tuple #[.agg fs, .int .i64 er], .agg cs, .tuple #[.agg fs, .int .i64 er], .agg fs, .int .i64 er, .tuple #[.agg fs, .int .i64 er], .agg cs, .tuple #[.agg fs, .int .i64 er], .agg fs, .int .i64 er, .bool true, .bool true, .agg cs, .bool bv, .agg cs, .bool bv, .bool true, .bool true, .bool true, .agg fs, undef, undef, undef, undef, undef, undef, undef, undef], defers := [] } _
  refine wpAnyH_take (i := 10) (v := .agg fs) rfl (by kernel_rfl) (by kernel_rfl) (by kernel_rfl) (fun _ _ _ h => h) (yields_row (x := .tmp 6) (by rfl) rfl (w4.heap.size) rfl 31 fs (0, 0) _ hS3 Try.underlying31 rfl iF.out) S8 ?_
  change wpAnyH _ _ _ _ _ _ _ { tmps := #[.agg cs, .pointer (some ⟨w.heap.size, 0, none⟩), .bool false, .bool true, .pointer (some ⟨w2.heap.size, 0, none⟩), .int .i64 er, .pointer (some ⟨w4.heap.size, 0, none⟩), .int .i64 er, .bool true, .tuple #[.agg fs, .int .i64 er], .agg cs, .tuple #[.agg fs, .int .i64 er], .agg fs, .int .i64 er, .tuple #[.agg fs, .int .i64 er], .agg cs, .tuple #[.agg fs, .int .i64 er], .agg fs, .int .i64 er, .bool true, .bool true, .agg cs, .bool bv, .agg cs, .bool bv, .bool true, .bool true, .bool true, .agg fs, .agg fs, undef, undef, undef, undef, undef, undef, undef], defers := [] } _
  refine wpAnyH_take (i := 11) (v := .bool true) rfl (by kernel_rfl) (by kernel_rfl) (by kernel_rfl) (fun _ _ _ h => h) (Or.inl ⟨by rfl, ?_⟩) S8 ?_
  · intro X hX; go_simp
  change wpAnyH _ _ _ _ _ _ _ { tmps := #[.agg cs, .pointer (some ⟨w.heap.size, 0, none⟩), .bool false, .bool true, .pointer (some ⟨w2.heap.size, 0, none⟩), .int .i64 er, .pointer (some ⟨w4.heap.size, 0, none⟩), .int .i64 er, .bool true, .tuple #[.agg fs, .int .i64 er], .agg cs, .tuple #[.agg fs, .int .i64 er], .agg fs, .int .i64 er, .tuple #[.agg fs, .int .i64 er], .agg cs, .tuple #[.agg fs, .int .i64 er], .agg fs, .int .i64 er, .bool true, .bool true, .agg cs, .bool bv, .agg cs, .bool bv, .bool true, .bool true, .bool true, .agg fs, .agg fs, .bool true, undef, undef, undef, undef, undef, undef], defers := [] } _
  refine wpAnyH_take (i := 12) (v := .bool true) rfl (by kernel_rfl) (by kernel_rfl) (by kernel_rfl) (fun _ _ _ h => h) (Or.inl ⟨by rfl, ?_⟩) S8 ?_
  · intro X hX; go_simp
  change wpAnyH _ _ _ _ _ _ _ { tmps := #[.agg cs, .pointer (some ⟨w.heap.size, 0, none⟩), .bool false, .bool true, .pointer (some ⟨w2.heap.size, 0, none⟩), .int .i64 er, .pointer (some ⟨w4.heap.size, 0, none⟩), .int .i64 er, .bool true, .tuple #[.agg fs, .int .i64 er], .agg cs, .tuple #[.agg fs, .int .i64 er], .agg fs, .int .i64 er, .tuple #[.agg fs, .int .i64 er], .agg cs, .tuple #[.agg fs, .int .i64 er], .agg fs, .int .i64 er, .bool true, .bool true, .agg cs, .bool bv, .agg cs, .bool bv, .bool true, .bool true, .bool true, .agg fs, .agg fs, .bool true, .bool true, undef, undef, undef, undef, undef], defers := [] } _
  refine wpAnyH_take (i := 13) (v := .bool true) rfl (by kernel_rfl) (by kernel_rfl) (by kernel_rfl) (fun _ _ _ h => h) (Or.inl ⟨by rfl, ?_⟩) S8 ?_
  · intro X hX; go_simp
  change wpAnyH _ _ _ _ _ _ _ { tmps := #[.agg cs, .pointer (some ⟨w.heap.size, 0, none⟩), .bool false, .bool true, .pointer (some ⟨w2.heap.size, 0, none⟩), .int .i64 er, .pointer (some ⟨w4.heap.size, 0, none⟩), .int .i64 er, .bool true, .tuple #[.agg fs, .int .i64 er], .agg cs, .tuple #[.agg fs, .int .i64 er], .agg fs, .int .i64 er, .tuple #[.agg fs, .int .i64 er], .agg cs, .tuple #[.agg fs, .int .i64 er], .agg fs, .int .i64 er, .bool true, .bool true, .agg cs, .bool bv, .agg cs, .bool bv, .bool true, .bool true, .bool true, .agg fs, .agg fs, .bool true, .bool true, .bool true, undef, undef, undef, undef], defers := [] } _
  refine wpAnyH_take (i := 14) (v := .int .i64 er) rfl (by kernel_rfl) (by kernel_rfl) (by kernel_rfl) (fun _ _ _ h => h) (Or.inl ⟨by rfl, ?_⟩) S8 ?_
  · intro X hX; go_simp
  change wpAnyH _ _ _ _ _ _ _ { tmps := #[.agg cs, .pointer (some ⟨w.heap.size, 0, none⟩), .bool false, .bool true, .pointer (some ⟨w2.heap.size, 0, none⟩), .int .i64 er, .pointer (some ⟨w4.heap.size, 0, none⟩), .int .i64 er, .bool true, .tuple #[.agg fs, .int .i64 er], .agg cs, .tuple #[.agg fs, .int .i64 er], .agg fs, .int .i64 er, .tuple #[.agg fs, .int .i64 er], .agg cs, .tuple #[.agg fs, .int .i64 er], .agg fs, .int .i64 er, .bool true, .bool true, .agg cs, .bool bv, .agg cs, .bool bv, .bool true, .bool true, .bool true, .agg fs, .agg fs, .bool true, .bool true, .bool true, .int .i64 er, undef, undef, undef], defers := [] } _
  refine wpAnyH_take (i := 15) (v := .int .i64 er) rfl (by kernel_rfl) (by kernel_rfl) (by kernel_rfl) (fun _ _ _ h => h) (Or.inl ⟨by rfl, ?_⟩) S8 ?_
  · intro X hX; go_simp
  change wpAnyH _ _ _ _ _ _ _ { tmps := #[.agg cs, .pointer (some ⟨w.heap.size, 0, none⟩), .bool false, .bool true, .pointer (some ⟨w2.heap.size, 0, none⟩), .int .i64 er, .pointer (some ⟨w4.heap.size, 0, none⟩), .int .i64 er, .bool true, .tuple #[.agg fs, .int .i64 er], .agg cs, .tuple #[.agg fs, .int .i64 er], .agg fs, .int .i64 er, .tuple #[.agg fs, .int .i64 er], .agg cs, .tuple #[.agg fs, .int .i64 er], .agg fs, .int .i64 er, .bool true, .bool true, .agg cs, .bool bv, .agg cs, .bool bv, .bool true, .bool true, .bool true, .agg fs, .agg fs, .bool true, .bool true, .bool true, .int .i64 er, .int .i64 er, undef, undef], defers := [] } _
  refine wpAnyH_take (i := 16) (v := .bool true) rfl (by kernel_rfl) (by kernel_rfl) (by kernel_rfl) (fun _ _ _ h => h) (Or.inl ⟨by rfl, ?_⟩) S8 ?_
  · intro X hX; go_simp
  change wpAnyH _ _ _ _ _ _ _ { tmps := #[.agg cs, .pointer (some ⟨w.heap.size, 0, none⟩), .bool false, .bool true, .pointer (some ⟨w2.heap.size, 0, none⟩), .int .i64 er, .pointer (some ⟨w4.heap.size, 0, none⟩), .int .i64 er, .bool true, .tuple #[.agg fs, .int .i64 er], .agg cs, .tuple #[.agg fs, .int .i64 er], .agg fs, .int .i64 er, .tuple #[.agg fs, .int .i64 er], .agg cs, .tuple #[.agg fs, .int .i64 er], .agg fs, .int .i64 er, .bool true, .bool true, .agg cs, .bool bv, .agg cs, .bool bv, .bool true, .bool true, .bool true, .agg fs, .agg fs, .bool true, .bool true, .bool true, .int .i64 er, .int .i64 er, .bool true, undef], defers := [] } _
  refine wpAnyH_take (i := 17) (v := .bool true) rfl (by kernel_rfl) (by kernel_rfl) (by kernel_rfl) (fun _ _ _ h => h) (Or.inl ⟨by rfl, ?_⟩) S8 ?_
  · intro X hX; go_simp
  change wpAnyH _ _ _ _ _ _ _ { tmps := #[.agg cs, .pointer (some ⟨w.heap.size, 0, none⟩), .bool false, .bool true, .pointer (some ⟨w2.heap.size, 0, none⟩), .int .i64 er, .pointer (some ⟨w4.heap.size, 0, none⟩), .int .i64 er, .bool true, .tuple #[.agg fs, .int .i64 er], .agg cs, .tuple #[.agg fs, .int .i64 er], .agg fs, .int .i64 er, .tuple #[.agg fs, .int .i64 er], .agg cs, .tuple #[.agg fs, .int .i64 er], .agg fs, .int .i64 er, .bool true, .bool true, .agg cs, .bool bv, .agg cs, .bool bv, .bool true, .bool true, .bool true, .agg fs, .agg fs, .bool true, .bool true, .bool true, .int .i64 er, .int .i64 er, .bool true, .bool true], defers := [] } _
  refine wpAnyH_all (rs := [18]) (by kernel_rfl) (by simp) ?_
  intro i hi; obtain rfl : i = 18 := by simpa using hi
  refine wpOp_step rfl (fun K hK => ?_)
  go_simp
  refine hK _ _ ⟨S8, ?_⟩
  clear hK K hi
  change wpAnyH _ _ _ _ _ _ _ { tmps := #[.agg cs, .pointer (some ⟨w.heap.size, 0, none⟩), .bool true, .bool true, .pointer (some ⟨w2.heap.size, 0, none⟩), .int .i64 er, .pointer (some ⟨w4.heap.size, 0, none⟩), .int .i64 er, .bool true, .tuple #[.agg fs, .int .i64 er], .agg cs, .tuple #[.agg fs, .int .i64 er], .agg fs, .int .i64 er, .tuple #[.agg fs, .int .i64 er], .agg cs, .tuple #[.agg fs, .int .i64 er], .agg fs, .int .i64 er, .bool true, .bool true, .agg cs, .bool bv, .agg cs, .bool bv, .bool true, .bool true, .bool true, .agg fs, .agg fs, .bool true, .bool true, .bool true, .int .i64 er, .int .i64 er, .bool true, .bool true], defers := [] } _
  refine wpAnyH_done (by kernel_rfl) ?_ _
  go_wp2
  go_ret
  exact ⟨rfl, b5.out.trans (S8.out.mono b5.out.size)⟩

set_option maxRecDepth 100000 in
theorem lifted (os : Os) (started : os.Started) (H : Type) (enc : TypeId × Value → H) :
    ReturnsInHanded {} Try.checked os 3 .any (Rows.styleComputesSpec.pre6 enc Try.prog Try.f3 Rows.styleComputesRow.domain false) (Rows.styleComputesSpec.post enc Try.prog Try.f3 false true false false) := by
  refine returnsInHanded_of_change (C := Try.checked) own started (by kernel_rfl) Try.func3
    (ChangeSpec.witness6 (enc := enc) (C := Try.checked) false ⟨#[], #[.agg #[.int .i64 0, .int .i64 0, .int .i64 0, .int .i64 0, .int .i64 0, .int .i64 0, .int .i64 0, .int .i64 0, .int .i64 0, .int .i64 0, .int .u32 0, .int .i64 0, .int .i64 0, .int .u32 0, .int .i64 0, .int .i64 0, .int .u32 0, .int .i64 0, .int .i64 0, .int .u32 0, .int .i64 0, .int .i64 0, .int .i64 0, .bool false, .bool false, .int .i64 0, .int .i64 0, .bool false, .bool false]], []⟩ 8 (by kernel_rfl) (by kernel_rfl) (by kernel_rfl) (by kernel_rfl)) ?_
  intro W base args ds gs before hval0 hW hcnd _
  have hval : ∀ (j : Nat) t v, Try.f3.params[j]? = some t → args[j]? = some v → Value.okWide Try.prog W .any base t v := hval0
  have hW' := hW
  obtain ⟨p, q, hA0, hV, rfl, hfz, hnd⟩ := hW
  have hA : DataW.TrodAll enc Try.prog W 0 (fun _ => true) true Try.f3.params.toList args.toList ds p := hA0
  rw [Try.params3] at hA hval
  obtain ⟨v0, vs0, d0, ds0, p0, q0, hargs, rfl, rfl, h0, r0⟩ := trodAll_cons hA
  obtain ⟨rfl, rfl, rfl⟩ := trodAll_nil r0
  obtain rfl : args = #[v0] := by cases args; simp_all
  obtain ⟨rfl, rfl⟩ := trodVars_none hV
  obtain ⟨a0, rfl, rfl, rfl, w0⟩ := open_sty (hval 0 31 v0 rfl rfl) h0
  clear hA0 hval0
  simp only [List.append_nil] at hW'
  refine (walk a0 w0 W).mono fun e W' ⟨he, hg⟩ => ?_
  subst he
  exact ⟨_, rfl, _, _, _, [], [], [], hW', (trodAll_cons_mk (shut_bool Try.underlying4 _) trodAll_mk0), (trodAll_cons_mk (shut_sty a0 w0) trodAll_mk0), rfl, hg.frame _, fun h => by cases h⟩

theorem over : Rows.styleComputesRow.holds Try.pinned (OpenSpec.ofChange Rows.styleComputesSpec) :=
  OpenClaim.holds_of_wide 3 Try.f3 rfl rfl rfl rfl rfl rfl rfl ⟨rfl, rfl, rfl, rfl, rfl⟩ rfl rfl rfl rfl rfl (by kernel_rfl) Try.func3 (by kernel_rfl)
    (of_decide_eq_true (by kernel_rfl)) (by unfold Func.isWrapper; first | (rw [if_pos (by decide +kernel)]; kernel_rfl) | (rw [if_neg (by decide +kernel)]; exact ⟨rfl, rfl⟩))
    (fun os started H enc _ => lifted os started H enc)

/-- the statement -/
theorem proved : Rows.StyleComputesSaid :=
  over
#print axioms proved
end Go.Proofs.Ytmhpailpjfieoaa.styleComputes
