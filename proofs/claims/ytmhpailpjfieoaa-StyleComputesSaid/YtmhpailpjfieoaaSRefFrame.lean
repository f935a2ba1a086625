/- Contract of the document's Frame: what is around a box. -/
import Derived.Test.YtmhpailpjfieoaaSFrame
namespace Go.Proofs.Ytmhpailpjfieoaa
open Go.RowKit Go.Shelf
set_option linter.unusedVariables false

set_option maxRecDepth 100000 in
set_option maxHeartbeats 4000000 in
theorem refFrame_any (s : Sty) (b : Bool) (w : World) (hf : ∀ k, k < 4 → Fits (s.sd k).p ∧ Fits (s.sd k).w) : Calls Try.prog 14 #[s.val, .bool b] w fun e W' => e = .returned (.agg (four (frS b s)).toArray) ∧ Below w.heap.size w W' := by
  obtain ⟨cs, hcs⟩ : ∃ cs, s.cells.toArray = cs := ⟨_, rfl⟩
  have kb : Whole ((w.alloc (.cells cs 31)).alloc (.cells #[.int .i64 0, .int .i64 0, .int .i64 0, .int .i64 0] 24)) w.heap.size 31 s.cells := by rw [← hcs]; exact (whole_new w s.cells 31 _ rfl).alloc _
  rw [show s.val = .agg s.cells.toArray from rfl]
  rw [hcs]
  have hf0 := hf 0 (by omega)
  have hf1 := hf 1 (by omega)
  have hf2 := hf 2 (by omega)
  have hf3 := hf 3 (by omega)
  have hfr : Hid (∀ b, four (frS b s) = if b then [.int .i64 (sat ((s.sd 0).p + (s.sd 0).w)), .int .i64 (sat ((s.sd 1).p + (s.sd 1).w)), .int .i64 (sat ((s.sd 2).p + (s.sd 2).w)), .int .i64 (sat ((s.sd 3).p + (s.sd 3).w))] else [.int .i64 (s.sd 0).p, .int .i64 (s.sd 1).p, .int .i64 (s.sd 2).p, .int .i64 (s.sd 3).p]) := Lib.hid fun b => by cases b <;> rfl
  have d4 := kb.cellAt 4
  have d5 := kb.cellAt 5
  have d6 := kb.cellAt 6
  have d7 := kb.cellAt 7
  have d9 := kb.cellAt 9
  have d12 := kb.cellAt 12
  have d15 := kb.cellAt 15
  have d18 := kb.cellAt 18
  rw [s.cells_lit] at d4 d5 d6 d7 d9 d12 d15 d18
  simp only [List.getElem?_cons_succ, List.getElem?_cons_zero] at d4 d5 d6 d7 d9 d12 d15 d18
  have HW0 : Hid (s.cells[9]? = some (.int .i64 (s.sd 0).w)) := Lib.hid rfl
  have HW1 : Hid (s.cells[12]? = some (.int .i64 (s.sd 1).w)) := Lib.hid rfl
  have HW2 : Hid (s.cells[15]? = some (.int .i64 (s.sd 2).w)) := Lib.hid rfl
  have HW3 : Hid (s.cells[18]? = some (.int .i64 (s.sd 3).w)) := Lib.hid rfl
  generalize (s.sd 0).p = p0 at *
  generalize (s.sd 1).p = p1 at *
  generalize (s.sd 2).p = p2 at *
  generalize (s.sd 3).p = p3 at *
  generalize (s.sd 0).w = v0 at *
  generalize (s.sd 1).w = v1 at *
  generalize (s.sd 2).w = v2 at *
  generalize (s.sd 3).w = v3 at *
  obtain ⟨⟨x0, x0'⟩, y0, y0'⟩ := hf0
  obtain ⟨⟨x1, x1'⟩, y1, y1'⟩ := hf1
  obtain ⟨⟨x2, x2'⟩, y2, y2'⟩ := hf2
  obtain ⟨⟨x3, x3'⟩, y3, y3'⟩ := hf3
  have R0 := Lib.hid (fun X => refSum_any p0 v0 X x0 x0' y0 y0')
  have R1 := Lib.hid (fun X => refSum_any p1 v1 X x1 x1' y1 y1')
  have R2 := Lib.hid (fun X => refSum_any p2 v2 X x2 x2' y2 y2')
  have R3 := Lib.hid (fun X => refSum_any p3 v3 X x3 x3' y3 y3')
  generalize sat (p0 + v0) = t0 at *
  generalize sat (p1 + v1) = t1 at *
  generalize sat (p2 + v2) = t2 at *
  generalize sat (p3 + v3) = t3 at *
  have lb := kb.lt
  have HB : Hid (Below w.heap.size w (((w.alloc (.cells cs 31)).alloc (.cells #[.int .i64 0, .int .i64 0, .int .i64 0, .int .i64 0] 24)).alloc (.cells #[.int .i64 p0, .int .i64 p1, .int .i64 p2, .int .i64 p3] 24))) := Lib.hid ((((Below.refl _ w).alloc (Nat.le_refl _) _).alloc (by simp) _).alloc (by simp <;> omega) _)
  have KR : Hid (Whole ((w.alloc (.cells cs 31)).alloc (.cells #[.int .i64 0, .int .i64 0, .int .i64 0, .int .i64 0] 24)) (w.heap.size + 1) 24 [.int .i64 0, .int .i64 0, .int .i64 0, .int .i64 0]) := Lib.hid (whole_new (w.alloc (.cells cs 31)) [.int .i64 0, .int .i64 0, .int .i64 0, .int .i64 0] 24 _ (by simp))
  have KO : Hid (Whole (((w.alloc (.cells cs 31)).alloc (.cells #[.int .i64 0, .int .i64 0, .int .i64 0, .int .i64 0] 24)).alloc (.cells #[.int .i64 p0, .int .i64 p1, .int .i64 p2, .int .i64 p3] 24)) (w.heap.size + 1 + 1) 24 [.int .i64 p0, .int .i64 p1, .int .i64 p2, .int .i64 p3]) := Lib.hid (whole_new ((w.alloc (.cells cs 31)).alloc (.cells #[.int .i64 0, .int .i64 0, .int .i64 0, .int .i64 0] 24)) [.int .i64 p0, .int .i64 p1, .int .i64 p2, .int .i64 p3] 24 _ (by simp))
  have KB := Lib.hid kb
  clear kb hcs hf
  cases b with
  | false =>
    have hfv := Lib.hid (hfr.out false)
    clear hfr
    go_enter Try.func14, Try.ntmps14
    go_wp2
    refine wp_loop_rounds 1 ?_
    rw [rounds_succ]
    go_wp2
    refine bodyPost_ret (v := .agg #[.int .i64 p0, .int .i64 p1, .int .i64 p2, .int .i64 p3]) (by simp [results, Try.results14, go_sem]) rfl ⟨by rw [hfv.out]; rfl, ?_⟩
    exact (((Below.refl _ w).alloc (Nat.le_refl _) _).alloc (by simp) _).alloc (by simp <;> omega) _
  | true =>
    have hfv := Lib.hid (hfr.out true)
    clear hfr
    have K0 := Lib.hid (KB.out.alloc (.cells #[.int .i64 p0, .int .i64 p1, .int .i64 p2, .int .i64 p3] 24))
    have R0' := Lib.hid (KR.out.alloc (.cells #[.int .i64 p0, .int .i64 p1, .int .i64 p2, .int .i64 p3] 24))
    clear KB KR
    go_enter Try.func14, Try.ntmps14
    go_wp2
    obtain ⟨X0, hX0⟩ : ∃ X, (((w.alloc (.cells cs 31)).alloc (.cells #[.int .i64 0, .int .i64 0, .int .i64 0, .int .i64 0] 24)).alloc (.cells #[.int .i64 p0, .int .i64 p1, .int .i64 p2, .int .i64 p3] 24)) = X := ⟨_, rfl⟩
    rw [hX0] at HB KO K0 R0' ⊢
    clear hX0 d4 d5 d6 d7 d9 d12 d15 d18 lb
    refine wp_loop_rounds 5 ?_
    rw [rounds_succ]
    go_wp2
    refine region_held_at (S := fun X => X.cell? ⟨w.heap.size, 9, none⟩ = some (.int .i64 v0)) (by kernel_rfl) (fun W6 hW6 => ?_)
    have KO6 : Whole W6 (w.heap.size + 1 + 1) 24 [.int .i64 p0, .int .i64 p1, .int .i64 p2, .int .i64 p3] := by rw [← hW6]; exact KO.out
    have KB6 : Whole W6 w.heap.size 31 s.cells := by rw [← hW6]; exact K0.out
    have KR6 : Whole W6 (w.heap.size + 1) 24 [.int .i64 0, .int .i64 0, .int .i64 0, .int .i64 0] := by rw [← hW6]; exact R0'.out
    have B6 : Below w.heap.size w W6 := by rw [← hW6]; exact HB.out.trans (below_dn _ X0 1)
    have SV : W6.cell? ⟨w.heap.size, 9, none⟩ = some (.int .i64 v0) := by rw [KB6.cellAt]; exact HW0.out
    clear hW6 HB KO K0 R0'
    refine wpAnyH_take (i := 0) (v := .int .i64 0) rfl (by kernel_rfl) (by kernel_rfl) (by kernel_rfl) (fun _ _ _ h => h) (Or.inl ⟨by rfl, ?_⟩) SV ?_
    · intro X hX; go_simp
    change wpAnyH _ _ _ _ _ _ _ { tmps := #[.agg cs, .bool true, .pointer (some ⟨w.heap.size, 0, none⟩), undef, .pointer (some ⟨w.heap.size + 1, 0, none⟩), .pointer (some ⟨w.heap.size + 1 + 1, 0, none⟩), .int .i64 0, .pointer (some ⟨w.heap.size, 4, none⟩), .agg #[.int .i64 p0, .int .i64 p1, .int .i64 p2, .int .i64 p3], .int .i64 0, .bool true, .bool true, .bool true, .bool true, undef, undef, .int .i64 0, undef, undef, undef, undef, undef, undef, undef, undef, undef, undef, undef], defers := [] } _
    refine wpAnyH_take (i := 1) (v := .int .i64 0) rfl (by kernel_rfl) (by kernel_rfl) (by kernel_rfl) (fun _ _ _ h => h) (Or.inl ⟨by rfl, ?_⟩) SV ?_
    · intro X hX; go_simp
    change wpAnyH _ _ _ _ _ _ _ { tmps := #[.agg cs, .bool true, .pointer (some ⟨w.heap.size, 0, none⟩), undef, .pointer (some ⟨w.heap.size + 1, 0, none⟩), .pointer (some ⟨w.heap.size + 1 + 1, 0, none⟩), .int .i64 0, .pointer (some ⟨w.heap.size, 4, none⟩), .agg #[.int .i64 p0, .int .i64 p1, .int .i64 p2, .int .i64 p3], .int .i64 0, .bool true, .bool true, .bool true, .bool true, undef, undef, .int .i64 0, .int .i64 0, undef, undef, undef, undef, undef, undef, undef, undef, undef, undef], defers := [] } _
    refine wpAnyH_take (i := 2) (v := .pointer (some ⟨w.heap.size + 1 + 1, 0, none⟩)) rfl (by kernel_rfl) (by kernel_rfl) (by kernel_rfl) (fun _ _ _ h => h) (Or.inl ⟨by rfl, ?_⟩) SV ?_
    · intro X hX; go_simp
    change wpAnyH _ _ _ _ _ _ _ { tmps := #[.agg cs, .bool true, .pointer (some ⟨w.heap.size, 0, none⟩), undef, .pointer (some ⟨w.heap.size + 1, 0, none⟩), .pointer (some ⟨w.heap.size + 1 + 1, 0, none⟩), .int .i64 0, .pointer (some ⟨w.heap.size, 4, none⟩), .agg #[.int .i64 p0, .int .i64 p1, .int .i64 p2, .int .i64 p3], .int .i64 0, .bool true, .bool true, .bool true, .bool true, undef, undef, .int .i64 0, .int .i64 0, .pointer (some ⟨w.heap.size + 1 + 1, 0, none⟩), undef, undef, undef, undef, undef, undef, undef, undef, undef], defers := [] } _
    refine wpAnyH_take (i := 4) (v := .int .i64 0) rfl (by kernel_rfl) (by kernel_rfl) (by kernel_rfl) (fun _ _ _ h => h) (Or.inl ⟨by rfl, ?_⟩) SV ?_
    · intro X hX; go_simp
    change wpAnyH _ _ _ _ _ _ _ { tmps := #[.agg cs, .bool true, .pointer (some ⟨w.heap.size, 0, none⟩), undef, .pointer (some ⟨w.heap.size + 1, 0, none⟩), .pointer (some ⟨w.heap.size + 1 + 1, 0, none⟩), .int .i64 0, .pointer (some ⟨w.heap.size, 4, none⟩), .agg #[.int .i64 p0, .int .i64 p1, .int .i64 p2, .int .i64 p3], .int .i64 0, .bool true, .bool true, .bool true, .bool true, undef, undef, .int .i64 0, .int .i64 0, .pointer (some ⟨w.heap.size + 1 + 1, 0, none⟩), undef, .int .i64 0, undef, undef, undef, undef, undef, undef, undef], defers := [] } _
    refine wpAnyH_take (i := 5) (v := .pointer (some ⟨w.heap.size, 8, none⟩)) rfl (by kernel_rfl) (by kernel_rfl) (by kernel_rfl) (fun _ _ _ h => h) (Or.inl ⟨by rfl, ?_⟩) SV ?_
    · intro X hX; go_simp
    change wpAnyH _ _ _ _ _ _ _ { tmps := #[.agg cs, .bool true, .pointer (some ⟨w.heap.size, 0, none⟩), undef, .pointer (some ⟨w.heap.size + 1, 0, none⟩), .pointer (some ⟨w.heap.size + 1 + 1, 0, none⟩), .int .i64 0, .pointer (some ⟨w.heap.size, 4, none⟩), .agg #[.int .i64 p0, .int .i64 p1, .int .i64 p2, .int .i64 p3], .int .i64 0, .bool true, .bool true, .bool true, .bool true, undef, undef, .int .i64 0, .int .i64 0, .pointer (some ⟨w.heap.size + 1 + 1, 0, none⟩), undef, .int .i64 0, .pointer (some ⟨w.heap.size, 8, none⟩), undef, undef, undef, undef, undef, undef], defers := [] } _
    refine wpAnyH_take (i := 6) (v := .pointer (some ⟨w.heap.size, 8, none⟩)) rfl (by kernel_rfl) (by kernel_rfl) (by kernel_rfl) (fun _ _ _ h => h) (Or.inl ⟨by rfl, ?_⟩) SV ?_
    · intro X hX; go_simp
    change wpAnyH _ _ _ _ _ _ _ { tmps := #[.agg cs, .bool true, .pointer (some ⟨w.heap.size, 0, none⟩), undef, .pointer (some ⟨w.heap.size + 1, 0, none⟩), .pointer (some ⟨w.heap.size + 1 + 1, 0, none⟩), .int .i64 0, .pointer (some ⟨w.heap.size, 4, none⟩), .agg #[.int .i64 p0, .int .i64 p1, .int .i64 p2, .int .i64 p3], .int .i64 0, .bool true, .bool true, .bool true, .bool true, undef, undef, .int .i64 0, .int .i64 0, .pointer (some ⟨w.heap.size + 1 + 1, 0, none⟩), undef, .int .i64 0, .pointer (some ⟨w.heap.size, 8, none⟩), .pointer (some ⟨w.heap.size, 8, none⟩), undef, undef, undef, undef, undef], defers := [] } _
    refine wpAnyH_take (i := 7) (v := .pointer (some ⟨w.heap.size, 9, none⟩)) rfl (by kernel_rfl) (by kernel_rfl) (by kernel_rfl) (fun _ _ _ h => h) (Or.inl ⟨by rfl, ?_⟩) SV ?_
    · intro X hX; go_simp
    change wpAnyH _ _ _ _ _ _ _ { tmps := #[.agg cs, .bool true, .pointer (some ⟨w.heap.size, 0, none⟩), undef, .pointer (some ⟨w.heap.size + 1, 0, none⟩), .pointer (some ⟨w.heap.size + 1 + 1, 0, none⟩), .int .i64 0, .pointer (some ⟨w.heap.size, 4, none⟩), .agg #[.int .i64 p0, .int .i64 p1, .int .i64 p2, .int .i64 p3], .int .i64 0, .bool true, .bool true, .bool true, .bool true, undef, undef, .int .i64 0, .int .i64 0, .pointer (some ⟨w.heap.size + 1 + 1, 0, none⟩), undef, .int .i64 0, .pointer (some ⟨w.heap.size, 8, none⟩), .pointer (some ⟨w.heap.size, 8, none⟩), .pointer (some ⟨w.heap.size, 9, none⟩), undef, undef, undef, undef], defers := [] } _
    refine wpAnyH_take (i := 8) (v := .int .i64 v0) rfl (by kernel_rfl) (by kernel_rfl) (by kernel_rfl) (fun _ _ _ h => h) (Or.inl ⟨by rfl, ?_⟩) SV ?_
    · intro X hX; go_simp
    change wpAnyH _ _ _ _ _ _ _ { tmps := #[.agg cs, .bool true, .pointer (some ⟨w.heap.size, 0, none⟩), undef, .pointer (some ⟨w.heap.size + 1, 0, none⟩), .pointer (some ⟨w.heap.size + 1 + 1, 0, none⟩), .int .i64 0, .pointer (some ⟨w.heap.size, 4, none⟩), .agg #[.int .i64 p0, .int .i64 p1, .int .i64 p2, .int .i64 p3], .int .i64 0, .bool true, .bool true, .bool true, .bool true, undef, undef, .int .i64 0, .int .i64 0, .pointer (some ⟨w.heap.size + 1 + 1, 0, none⟩), undef, .int .i64 0, .pointer (some ⟨w.heap.size, 8, none⟩), .pointer (some ⟨w.heap.size, 8, none⟩), .pointer (some ⟨w.heap.size, 9, none⟩), .int .i64 v0, undef, undef, undef], defers := [] } _
    have u1 : W6.cell? ⟨w.heap.size + 1 + 1, 0, none⟩ = some (.int .i64 p0) := KO6.cellAt 0
    have u2 := KO6.free 0
    have u3 := KO6.lt
    refine wpAnyH_all (rs := [3]) (by kernel_rfl) (by simp) ?_
    intro i hi; obtain rfl : i = 3 := by simpa using hi
    refine wpOp_step rfl (fun K hK => ?_)
    go_simp
    refine hK _ _ ⟨SV, ?_⟩
    clear hK K hi
    change wpAnyH _ _ _ _ _ _ _ { tmps := #[.agg cs, .bool true, .pointer (some ⟨w.heap.size, 0, none⟩), undef, .pointer (some ⟨w.heap.size + 1, 0, none⟩), .pointer (some ⟨w.heap.size + 1 + 1, 0, none⟩), .int .i64 0, .pointer (some ⟨w.heap.size, 4, none⟩), .agg #[.int .i64 p0, .int .i64 p1, .int .i64 p2, .int .i64 p3], .int .i64 0, .bool true, .bool true, .bool true, .bool true, undef, undef, .int .i64 0, .int .i64 0, .pointer (some ⟨w.heap.size + 1 + 1, 0, none⟩), .int .i64 p0, .int .i64 0, .pointer (some ⟨w.heap.size, 8, none⟩), .pointer (some ⟨w.heap.size, 8, none⟩), .pointer (some ⟨w.heap.size, 9, none⟩), .int .i64 v0, undef, undef, undef], defers := [] } _
    refine wpAnyH_all (rs := [9]) (by kernel_rfl) (by simp) ?_
    intro i hi; obtain rfl : i = 9 := by simpa using hi
    refine wpOp_step rfl (fun K hK => ?_)
    go_simp
    refine (R0.out _).mono ?_
    rintro e W7 ⟨rfl, rfl⟩
    refine hK _ _ ⟨SV, ?_⟩
    clear hK K hi
    change wpAnyH _ _ _ _ _ _ _ { tmps := #[.agg cs, .bool true, .pointer (some ⟨w.heap.size, 0, none⟩), undef, .pointer (some ⟨w.heap.size + 1, 0, none⟩), .pointer (some ⟨w.heap.size + 1 + 1, 0, none⟩), .int .i64 0, .pointer (some ⟨w.heap.size, 4, none⟩), .agg #[.int .i64 p0, .int .i64 p1, .int .i64 p2, .int .i64 p3], .int .i64 0, .bool true, .bool true, .bool true, .bool true, undef, undef, .int .i64 0, .int .i64 0, .pointer (some ⟨w.heap.size + 1 + 1, 0, none⟩), .int .i64 p0, .int .i64 0, .pointer (some ⟨w.heap.size, 8, none⟩), .pointer (some ⟨w.heap.size, 8, none⟩), .pointer (some ⟨w.heap.size, 9, none⟩), .int .i64 v0, .int .i64 t0, undef, undef], defers := [] } _
    refine wpAnyH_take (i := 10) (v := .pointer (some ⟨w.heap.size + 1 + 1, 0, none⟩)) rfl (by kernel_rfl) (by kernel_rfl) (by kernel_rfl) (fun _ _ _ h => h) (Or.inl ⟨by rfl, ?_⟩) SV ?_
    · intro X hX; go_simp
    change wpAnyH _ _ _ _ _ _ _ { tmps := #[.agg cs, .bool true, .pointer (some ⟨w.heap.size, 0, none⟩), undef, .pointer (some ⟨w.heap.size + 1, 0, none⟩), .pointer (some ⟨w.heap.size + 1 + 1, 0, none⟩), .int .i64 0, .pointer (some ⟨w.heap.size, 4, none⟩), .agg #[.int .i64 p0, .int .i64 p1, .int .i64 p2, .int .i64 p3], .int .i64 0, .bool true, .bool true, .bool true, .bool true, undef, undef, .int .i64 0, .int .i64 0, .pointer (some ⟨w.heap.size + 1 + 1, 0, none⟩), .int .i64 p0, .int .i64 0, .pointer (some ⟨w.heap.size, 8, none⟩), .pointer (some ⟨w.heap.size, 8, none⟩), .pointer (some ⟨w.heap.size, 9, none⟩), .int .i64 v0, .int .i64 t0, .pointer (some ⟨w.heap.size + 1 + 1, 0, none⟩), undef], defers := [] } _
    refine wpAnyH_all (rs := [11]) (by kernel_rfl) (by simp) ?_
    intro i hi; obtain rfl : i = 11 := by simpa using hi
    refine wpOp_step rfl (fun K hK => ?_)
    go_simp
    have BS : Below w.heap.size w (W6.setCell ⟨w.heap.size + 1 + 1, 0, none⟩ (.int .i64 t0)) := B6.setCell (p := ⟨w.heap.size + 1 + 1, 0, none⟩) (by simp; omega) _
    have KOS := KO6.set 0 (.int .i64 t0)
    have KBS := KB6.other ⟨w.heap.size + 1 + 1, 0, none⟩ (.int .i64 t0) (by show w.heap.size ≠ w.heap.size + 1 + 1; omega)
    have KRS := KR6.other ⟨w.heap.size + 1 + 1, 0, none⟩ (.int .i64 t0) (by simp)
    refine hK _ _ ⟨by rw [KBS.cellAt]; exact HW0.out, ?_⟩
    clear hK K hi
    change wpAnyH _ _ _ _ _ _ _ { tmps := #[.agg cs, .bool true, .pointer (some ⟨w.heap.size, 0, none⟩), undef, .pointer (some ⟨w.heap.size + 1, 0, none⟩), .pointer (some ⟨w.heap.size + 1 + 1, 0, none⟩), .int .i64 0, .pointer (some ⟨w.heap.size, 4, none⟩), .agg #[.int .i64 p0, .int .i64 p1, .int .i64 p2, .int .i64 p3], .int .i64 0, .bool true, .bool true, .bool true, .bool true, undef, undef, .int .i64 0, .int .i64 0, .pointer (some ⟨w.heap.size + 1 + 1, 0, none⟩), .int .i64 p0, .int .i64 0, .pointer (some ⟨w.heap.size, 8, none⟩), .pointer (some ⟨w.heap.size, 8, none⟩), .pointer (some ⟨w.heap.size, 9, none⟩), .int .i64 v0, .int .i64 t0, .pointer (some ⟨w.heap.size + 1 + 1, 0, none⟩), undef], defers := [] } _
    obtain ⟨X1, hX1⟩ : ∃ X, W6.setCell ⟨w.heap.size + 1 + 1, 0, none⟩ (.int .i64 t0) = X := ⟨_, rfl⟩
    rw [hX1] at BS KOS KBS KRS ⊢
    have HB := Lib.hid BS
    have KO := Lib.hid KOS
    have K0 := Lib.hid KBS
    have R0' := Lib.hid KRS
    clear hX1 BS KOS KBS KRS u1 u2 u3 SV KO6 KB6 KR6 B6
    refine wpAnyH_done (by kernel_rfl) ?_ _
    go_wp2
    rw [rounds_succ]
    go_wp2
    refine region_held_at (S := fun X => X.cell? ⟨w.heap.size, 12, none⟩ = some (.int .i64 v1)) (by kernel_rfl) (fun W6 hW6 => ?_)
    have KO6 : Whole W6 (w.heap.size + 1 + 1) 24 [.int .i64 t0, .int .i64 p1, .int .i64 p2, .int .i64 p3] := by rw [← hW6]; exact KO.out
    have KB6 : Whole W6 w.heap.size 31 s.cells := by rw [← hW6]; exact K0.out
    have KR6 : Whole W6 (w.heap.size + 1) 24 [.int .i64 0, .int .i64 0, .int .i64 0, .int .i64 0] := by rw [← hW6]; exact R0'.out
    have B6 : Below w.heap.size w W6 := by rw [← hW6]; exact HB.out.trans (below_dn _ X1 1)
    have SV : W6.cell? ⟨w.heap.size, 12, none⟩ = some (.int .i64 v1) := by rw [KB6.cellAt]; exact HW1.out
    clear hW6 HB KO K0 R0'
    refine wpAnyH_take (i := 0) (v := .int .i64 1) rfl (by kernel_rfl) (by kernel_rfl) (by kernel_rfl) (fun _ _ _ h => h) (Or.inl ⟨by rfl, ?_⟩) SV ?_
    · intro X hX; go_simp
    change wpAnyH _ _ _ _ _ _ _ { tmps := #[.agg cs, .bool true, .pointer (some ⟨w.heap.size, 0, none⟩), undef, .pointer (some ⟨w.heap.size + 1, 0, none⟩), .pointer (some ⟨w.heap.size + 1 + 1, 0, none⟩), .int .i64 1, .pointer (some ⟨w.heap.size, 4, none⟩), .agg #[.int .i64 p0, .int .i64 p1, .int .i64 p2, .int .i64 p3], .int .i64 1, .bool true, .bool true, .bool true, .bool true, .int .i64 0, .int .i64 1, .int .i64 1, .int .i64 0, .pointer (some ⟨w.heap.size + 1 + 1, 0, none⟩), .int .i64 p0, .int .i64 0, .pointer (some ⟨w.heap.size, 8, none⟩), .pointer (some ⟨w.heap.size, 8, none⟩), .pointer (some ⟨w.heap.size, 9, none⟩), .int .i64 v0, .int .i64 t0, .pointer (some ⟨w.heap.size + 1 + 1, 0, none⟩), undef], defers := [] } _
    refine wpAnyH_take (i := 1) (v := .int .i64 1) rfl (by kernel_rfl) (by kernel_rfl) (by kernel_rfl) (fun _ _ _ h => h) (Or.inl ⟨by rfl, ?_⟩) SV ?_
    · intro X hX; go_simp
    change wpAnyH _ _ _ _ _ _ _ { tmps := #[.agg cs, .bool true, .pointer (some ⟨w.heap.size, 0, none⟩), undef, .pointer (some ⟨w.heap.size + 1, 0, none⟩), .pointer (some ⟨w.heap.size + 1 + 1, 0, none⟩), .int .i64 1, .pointer (some ⟨w.heap.size, 4, none⟩), .agg #[.int .i64 p0, .int .i64 p1, .int .i64 p2, .int .i64 p3], .int .i64 1, .bool true, .bool true, .bool true, .bool true, .int .i64 0, .int .i64 1, .int .i64 1, .int .i64 1, .pointer (some ⟨w.heap.size + 1 + 1, 0, none⟩), .int .i64 p0, .int .i64 0, .pointer (some ⟨w.heap.size, 8, none⟩), .pointer (some ⟨w.heap.size, 8, none⟩), .pointer (some ⟨w.heap.size, 9, none⟩), .int .i64 v0, .int .i64 t0, .pointer (some ⟨w.heap.size + 1 + 1, 0, none⟩), undef], defers := [] } _
    refine wpAnyH_take (i := 2) (v := .pointer (some ⟨w.heap.size + 1 + 1, 1, none⟩)) rfl (by kernel_rfl) (by kernel_rfl) (by kernel_rfl) (fun _ _ _ h => h) (Or.inl ⟨by rfl, ?_⟩) SV ?_
    · intro X hX; go_simp
    change wpAnyH _ _ _ _ _ _ _ { tmps := #[.agg cs, .bool true, .pointer (some ⟨w.heap.size, 0, none⟩), undef, .pointer (some ⟨w.heap.size + 1, 0, none⟩), .pointer (some ⟨w.heap.size + 1 + 1, 0, none⟩), .int .i64 1, .pointer (some ⟨w.heap.size, 4, none⟩), .agg #[.int .i64 p0, .int .i64 p1, .int .i64 p2, .int .i64 p3], .int .i64 1, .bool true, .bool true, .bool true, .bool true, .int .i64 0, .int .i64 1, .int .i64 1, .int .i64 1, .pointer (some ⟨w.heap.size + 1 + 1, 1, none⟩), .int .i64 p0, .int .i64 0, .pointer (some ⟨w.heap.size, 8, none⟩), .pointer (some ⟨w.heap.size, 8, none⟩), .pointer (some ⟨w.heap.size, 9, none⟩), .int .i64 v0, .int .i64 t0, .pointer (some ⟨w.heap.size + 1 + 1, 0, none⟩), undef], defers := [] } _
    refine wpAnyH_take (i := 4) (v := .int .i64 1) rfl (by kernel_rfl) (by kernel_rfl) (by kernel_rfl) (fun _ _ _ h => h) (Or.inl ⟨by rfl, ?_⟩) SV ?_
    · intro X hX; go_simp
    change wpAnyH _ _ _ _ _ _ _ { tmps := #[.agg cs, .bool true, .pointer (some ⟨w.heap.size, 0, none⟩), undef, .pointer (some ⟨w.heap.size + 1, 0, none⟩), .pointer (some ⟨w.heap.size + 1 + 1, 0, none⟩), .int .i64 1, .pointer (some ⟨w.heap.size, 4, none⟩), .agg #[.int .i64 p0, .int .i64 p1, .int .i64 p2, .int .i64 p3], .int .i64 1, .bool true, .bool true, .bool true, .bool true, .int .i64 0, .int .i64 1, .int .i64 1, .int .i64 1, .pointer (some ⟨w.heap.size + 1 + 1, 1, none⟩), .int .i64 p0, .int .i64 1, .pointer (some ⟨w.heap.size, 8, none⟩), .pointer (some ⟨w.heap.size, 8, none⟩), .pointer (some ⟨w.heap.size, 9, none⟩), .int .i64 v0, .int .i64 t0, .pointer (some ⟨w.heap.size + 1 + 1, 0, none⟩), undef], defers := [] } _
    refine wpAnyH_take (i := 5) (v := .pointer (some ⟨w.heap.size, 8, none⟩)) rfl (by kernel_rfl) (by kernel_rfl) (by kernel_rfl) (fun _ _ _ h => h) (Or.inl ⟨by rfl, ?_⟩) SV ?_
    · intro X hX; go_simp
    change wpAnyH _ _ _ _ _ _ _ { tmps := #[.agg cs, .bool true, .pointer (some ⟨w.heap.size, 0, none⟩), undef, .pointer (some ⟨w.heap.size + 1, 0, none⟩), .pointer (some ⟨w.heap.size + 1 + 1, 0, none⟩), .int .i64 1, .pointer (some ⟨w.heap.size, 4, none⟩), .agg #[.int .i64 p0, .int .i64 p1, .int .i64 p2, .int .i64 p3], .int .i64 1, .bool true, .bool true, .bool true, .bool true, .int .i64 0, .int .i64 1, .int .i64 1, .int .i64 1, .pointer (some ⟨w.heap.size + 1 + 1, 1, none⟩), .int .i64 p0, .int .i64 1, .pointer (some ⟨w.heap.size, 8, none⟩), .pointer (some ⟨w.heap.size, 8, none⟩), .pointer (some ⟨w.heap.size, 9, none⟩), .int .i64 v0, .int .i64 t0, .pointer (some ⟨w.heap.size + 1 + 1, 0, none⟩), undef], defers := [] } _
    refine wpAnyH_take (i := 6) (v := .pointer (some ⟨w.heap.size, 11, none⟩)) rfl (by kernel_rfl) (by kernel_rfl) (by kernel_rfl) (fun _ _ _ h => h) (Or.inl ⟨by rfl, ?_⟩) SV ?_
    · intro X hX; go_simp
    change wpAnyH _ _ _ _ _ _ _ { tmps := #[.agg cs, .bool true, .pointer (some ⟨w.heap.size, 0, none⟩), undef, .pointer (some ⟨w.heap.size + 1, 0, none⟩), .pointer (some ⟨w.heap.size + 1 + 1, 0, none⟩), .int .i64 1, .pointer (some ⟨w.heap.size, 4, none⟩), .agg #[.int .i64 p0, .int .i64 p1, .int .i64 p2, .int .i64 p3], .int .i64 1, .bool true, .bool true, .bool true, .bool true, .int .i64 0, .int .i64 1, .int .i64 1, .int .i64 1, .pointer (some ⟨w.heap.size + 1 + 1, 1, none⟩), .int .i64 p0, .int .i64 1, .pointer (some ⟨w.heap.size, 8, none⟩), .pointer (some ⟨w.heap.size, 11, none⟩), .pointer (some ⟨w.heap.size, 9, none⟩), .int .i64 v0, .int .i64 t0, .pointer (some ⟨w.heap.size + 1 + 1, 0, none⟩), undef], defers := [] } _
    refine wpAnyH_take (i := 7) (v := .pointer (some ⟨w.heap.size, 12, none⟩)) rfl (by kernel_rfl) (by kernel_rfl) (by kernel_rfl) (fun _ _ _ h => h) (Or.inl ⟨by rfl, ?_⟩) SV ?_
    · intro X hX; go_simp
    change wpAnyH _ _ _ _ _ _ _ { tmps := #[.agg cs, .bool true, .pointer (some ⟨w.heap.size, 0, none⟩), undef, .pointer (some ⟨w.heap.size + 1, 0, none⟩), .pointer (some ⟨w.heap.size + 1 + 1, 0, none⟩), .int .i64 1, .pointer (some ⟨w.heap.size, 4, none⟩), .agg #[.int .i64 p0, .int .i64 p1, .int .i64 p2, .int .i64 p3], .int .i64 1, .bool true, .bool true, .bool true, .bool true, .int .i64 0, .int .i64 1, .int .i64 1, .int .i64 1, .pointer (some ⟨w.heap.size + 1 + 1, 1, none⟩), .int .i64 p0, .int .i64 1, .pointer (some ⟨w.heap.size, 8, none⟩), .pointer (some ⟨w.heap.size, 11, none⟩), .pointer (some ⟨w.heap.size, 12, none⟩), .int .i64 v0, .int .i64 t0, .pointer (some ⟨w.heap.size + 1 + 1, 0, none⟩), undef], defers := [] } _
    refine wpAnyH_take (i := 8) (v := .int .i64 v1) rfl (by kernel_rfl) (by kernel_rfl) (by kernel_rfl) (fun _ _ _ h => h) (Or.inl ⟨by rfl, ?_⟩) SV ?_
    · intro X hX; go_simp
    change wpAnyH _ _ _ _ _ _ _ { tmps := #[.agg cs, .bool true, .pointer (some ⟨w.heap.size, 0, none⟩), undef, .pointer (some ⟨w.heap.size + 1, 0, none⟩), .pointer (some ⟨w.heap.size + 1 + 1, 0, none⟩), .int .i64 1, .pointer (some ⟨w.heap.size, 4, none⟩), .agg #[.int .i64 p0, .int .i64 p1, .int .i64 p2, .int .i64 p3], .int .i64 1, .bool true, .bool true, .bool true, .bool true, .int .i64 0, .int .i64 1, .int .i64 1, .int .i64 1, .pointer (some ⟨w.heap.size + 1 + 1, 1, none⟩), .int .i64 p0, .int .i64 1, .pointer (some ⟨w.heap.size, 8, none⟩), .pointer (some ⟨w.heap.size, 11, none⟩), .pointer (some ⟨w.heap.size, 12, none⟩), .int .i64 v1, .int .i64 t0, .pointer (some ⟨w.heap.size + 1 + 1, 0, none⟩), undef], defers := [] } _
    have u1 : W6.cell? ⟨w.heap.size + 1 + 1, 1, none⟩ = some (.int .i64 p1) := KO6.cellAt 1
    have u2 := KO6.free 1
    have u3 := KO6.lt
    refine wpAnyH_all (rs := [3]) (by kernel_rfl) (by simp) ?_
    intro i hi; obtain rfl : i = 3 := by simpa using hi
    refine wpOp_step rfl (fun K hK => ?_)
    go_simp
    refine hK _ _ ⟨SV, ?_⟩
    clear hK K hi
    change wpAnyH _ _ _ _ _ _ _ { tmps := #[.agg cs, .bool true, .pointer (some ⟨w.heap.size, 0, none⟩), undef, .pointer (some ⟨w.heap.size + 1, 0, none⟩), .pointer (some ⟨w.heap.size + 1 + 1, 0, none⟩), .int .i64 1, .pointer (some ⟨w.heap.size, 4, none⟩), .agg #[.int .i64 p0, .int .i64 p1, .int .i64 p2, .int .i64 p3], .int .i64 1, .bool true, .bool true, .bool true, .bool true, .int .i64 0, .int .i64 1, .int .i64 1, .int .i64 1, .pointer (some ⟨w.heap.size + 1 + 1, 1, none⟩), .int .i64 p1, .int .i64 1, .pointer (some ⟨w.heap.size, 8, none⟩), .pointer (some ⟨w.heap.size, 11, none⟩), .pointer (some ⟨w.heap.size, 12, none⟩), .int .i64 v1, .int .i64 t0, .pointer (some ⟨w.heap.size + 1 + 1, 0, none⟩), undef], defers := [] } _
    refine wpAnyH_all (rs := [9]) (by kernel_rfl) (by simp) ?_
    intro i hi; obtain rfl : i = 9 := by simpa using hi
    refine wpOp_step rfl (fun K hK => ?_)
    go_simp
    refine (R1.out _).mono ?_
    rintro e W7 ⟨rfl, rfl⟩
    refine hK _ _ ⟨SV, ?_⟩
    clear hK K hi
    change wpAnyH _ _ _ _ _ _ _ { tmps := #[.agg cs, .bool true, .pointer (some ⟨w.heap.size, 0, none⟩), undef, .pointer (some ⟨w.heap.size + 1, 0, none⟩), .pointer (some ⟨w.heap.size + 1 + 1, 0, none⟩), .int .i64 1, .pointer (some ⟨w.heap.size, 4, none⟩), .agg #[.int .i64 p0, .int .i64 p1, .int .i64 p2, .int .i64 p3], .int .i64 1, .bool true, .bool true, .bool true, .bool true, .int .i64 0, .int .i64 1, .int .i64 1, .int .i64 1, .pointer (some ⟨w.heap.size + 1 + 1, 1, none⟩), .int .i64 p1, .int .i64 1, .pointer (some ⟨w.heap.size, 8, none⟩), .pointer (some ⟨w.heap.size, 11, none⟩), .pointer (some ⟨w.heap.size, 12, none⟩), .int .i64 v1, .int .i64 t1, .pointer (some ⟨w.heap.size + 1 + 1, 0, none⟩), undef], defers := [] } _
    refine wpAnyH_take (i := 10) (v := .pointer (some ⟨w.heap.size + 1 + 1, 1, none⟩)) rfl (by kernel_rfl) (by kernel_rfl) (by kernel_rfl) (fun _ _ _ h => h) (Or.inl ⟨by rfl, ?_⟩) SV ?_
    · intro X hX; go_simp
    change wpAnyH _ _ _ _ _ _ _ { tmps := #[.agg cs, .bool true, .pointer (some ⟨w.heap.size, 0, none⟩), undef, .pointer (some ⟨w.heap.size + 1, 0, none⟩), .pointer (some ⟨w.heap.size + 1 + 1, 0, none⟩), .int .i64 1, .pointer (some ⟨w.heap.size, 4, none⟩), .agg #[.int .i64 p0, .int .i64 p1, .int .i64 p2, .int .i64 p3], .int .i64 1, .bool true, .bool true, .bool true, .bool true, .int .i64 0, .int .i64 1, .int .i64 1, .int .i64 1, .pointer (some ⟨w.heap.size + 1 + 1, 1, none⟩), .int .i64 p1, .int .i64 1, .pointer (some ⟨w.heap.size, 8, none⟩), .pointer (some ⟨w.heap.size, 11, none⟩), .pointer (some ⟨w.heap.size, 12, none⟩), .int .i64 v1, .int .i64 t1, .pointer (some ⟨w.heap.size + 1 + 1, 1, none⟩), undef], defers := [] } _
    refine wpAnyH_all (rs := [11]) (by kernel_rfl) (by simp) ?_
    intro i hi; obtain rfl : i = 11 := by simpa using hi
    refine wpOp_step rfl (fun K hK => ?_)
    go_simp
    have BS : Below w.heap.size w (W6.setCell ⟨w.heap.size + 1 + 1, 1, none⟩ (.int .i64 t1)) := B6.setCell (p := ⟨w.heap.size + 1 + 1, 1, none⟩) (by simp; omega) _
    have KOS := KO6.set 1 (.int .i64 t1)
    have KBS := KB6.other ⟨w.heap.size + 1 + 1, 1, none⟩ (.int .i64 t1) (by show w.heap.size ≠ w.heap.size + 1 + 1; omega)
    have KRS := KR6.other ⟨w.heap.size + 1 + 1, 1, none⟩ (.int .i64 t1) (by simp)
    refine hK _ _ ⟨by rw [KBS.cellAt]; exact HW1.out, ?_⟩
    clear hK K hi
    change wpAnyH _ _ _ _ _ _ _ { tmps := #[.agg cs, .bool true, .pointer (some ⟨w.heap.size, 0, none⟩), undef, .pointer (some ⟨w.heap.size + 1, 0, none⟩), .pointer (some ⟨w.heap.size + 1 + 1, 0, none⟩), .int .i64 1, .pointer (some ⟨w.heap.size, 4, none⟩), .agg #[.int .i64 p0, .int .i64 p1, .int .i64 p2, .int .i64 p3], .int .i64 1, .bool true, .bool true, .bool true, .bool true, .int .i64 0, .int .i64 1, .int .i64 1, .int .i64 1, .pointer (some ⟨w.heap.size + 1 + 1, 1, none⟩), .int .i64 p1, .int .i64 1, .pointer (some ⟨w.heap.size, 8, none⟩), .pointer (some ⟨w.heap.size, 11, none⟩), .pointer (some ⟨w.heap.size, 12, none⟩), .int .i64 v1, .int .i64 t1, .pointer (some ⟨w.heap.size + 1 + 1, 1, none⟩), undef], defers := [] } _
    obtain ⟨X2, hX2⟩ : ∃ X, W6.setCell ⟨w.heap.size + 1 + 1, 1, none⟩ (.int .i64 t1) = X := ⟨_, rfl⟩
    rw [hX2] at BS KOS KBS KRS ⊢
    have HB := Lib.hid BS
    have KO := Lib.hid KOS
    have K0 := Lib.hid KBS
    have R0' := Lib.hid KRS
    clear hX2 BS KOS KBS KRS u1 u2 u3 SV KO6 KB6 KR6 B6
    refine wpAnyH_done (by kernel_rfl) ?_ _
    go_wp2
    rw [rounds_succ]
    go_wp2
    refine region_held_at (S := fun X => X.cell? ⟨w.heap.size, 15, none⟩ = some (.int .i64 v2)) (by kernel_rfl) (fun W6 hW6 => ?_)
    have KO6 : Whole W6 (w.heap.size + 1 + 1) 24 [.int .i64 t0, .int .i64 t1, .int .i64 p2, .int .i64 p3] := by rw [← hW6]; exact KO.out
    have KB6 : Whole W6 w.heap.size 31 s.cells := by rw [← hW6]; exact K0.out
    have KR6 : Whole W6 (w.heap.size + 1) 24 [.int .i64 0, .int .i64 0, .int .i64 0, .int .i64 0] := by rw [← hW6]; exact R0'.out
    have B6 : Below w.heap.size w W6 := by rw [← hW6]; exact HB.out.trans (below_dn _ X2 1)
    have SV : W6.cell? ⟨w.heap.size, 15, none⟩ = some (.int .i64 v2) := by rw [KB6.cellAt]; exact HW2.out
    clear hW6 HB KO K0 R0'
    refine wpAnyH_take (i := 0) (v := .int .i64 2) rfl (by kernel_rfl) (by kernel_rfl) (by kernel_rfl) (fun _ _ _ h => h) (Or.inl ⟨by rfl, ?_⟩) SV ?_
    · intro X hX; go_simp
    change wpAnyH _ _ _ _ _ _ _ { tmps := #[.agg cs, .bool true, .pointer (some ⟨w.heap.size, 0, none⟩), undef, .pointer (some ⟨w.heap.size + 1, 0, none⟩), .pointer (some ⟨w.heap.size + 1 + 1, 0, none⟩), .int .i64 2, .pointer (some ⟨w.heap.size, 4, none⟩), .agg #[.int .i64 p0, .int .i64 p1, .int .i64 p2, .int .i64 p3], .int .i64 2, .bool true, .bool true, .bool true, .bool true, .int .i64 1, .int .i64 2, .int .i64 2, .int .i64 1, .pointer (some ⟨w.heap.size + 1 + 1, 1, none⟩), .int .i64 p1, .int .i64 1, .pointer (some ⟨w.heap.size, 8, none⟩), .pointer (some ⟨w.heap.size, 11, none⟩), .pointer (some ⟨w.heap.size, 12, none⟩), .int .i64 v1, .int .i64 t1, .pointer (some ⟨w.heap.size + 1 + 1, 1, none⟩), undef], defers := [] } _
    refine wpAnyH_take (i := 1) (v := .int .i64 2) rfl (by kernel_rfl) (by kernel_rfl) (by kernel_rfl) (fun _ _ _ h => h) (Or.inl ⟨by rfl, ?_⟩) SV ?_
    · intro X hX; go_simp
    change wpAnyH _ _ _ _ _ _ _ { tmps := #[.agg cs, .bool true, .pointer (some ⟨w.heap.size, 0, none⟩), undef, .pointer (some ⟨w.heap.size + 1, 0, none⟩), .pointer (some ⟨w.heap.size + 1 + 1, 0, none⟩), .int .i64 2, .pointer (some ⟨w.heap.size, 4, none⟩), .agg #[.int .i64 p0, .int .i64 p1, .int .i64 p2, .int .i64 p3], .int .i64 2, .bool true, .bool true, .bool true, .bool true, .int .i64 1, .int .i64 2, .int .i64 2, .int .i64 2, .pointer (some ⟨w.heap.size + 1 + 1, 1, none⟩), .int .i64 p1, .int .i64 1, .pointer (some ⟨w.heap.size, 8, none⟩), .pointer (some ⟨w.heap.size, 11, none⟩), .pointer (some ⟨w.heap.size, 12, none⟩), .int .i64 v1, .int .i64 t1, .pointer (some ⟨w.heap.size + 1 + 1, 1, none⟩), undef], defers := [] } _
    refine wpAnyH_take (i := 2) (v := .pointer (some ⟨w.heap.size + 1 + 1, 2, none⟩)) rfl (by kernel_rfl) (by kernel_rfl) (by kernel_rfl) (fun _ _ _ h => h) (Or.inl ⟨by rfl, ?_⟩) SV ?_
    · intro X hX; go_simp
    change wpAnyH _ _ _ _ _ _ _ { tmps := #[.agg cs, .bool true, .pointer (some ⟨w.heap.size, 0, none⟩), undef, .pointer (some ⟨w.heap.size + 1, 0, none⟩), .pointer (some ⟨w.heap.size + 1 + 1, 0, none⟩), .int .i64 2, .pointer (some ⟨w.heap.size, 4, none⟩), .agg #[.int .i64 p0, .int .i64 p1, .int .i64 p2, .int .i64 p3], .int .i64 2, .bool true, .bool true, .bool true, .bool true, .int .i64 1, .int .i64 2, .int .i64 2, .int .i64 2, .pointer (some ⟨w.heap.size + 1 + 1, 2, none⟩), .int .i64 p1, .int .i64 1, .pointer (some ⟨w.heap.size, 8, none⟩), .pointer (some ⟨w.heap.size, 11, none⟩), .pointer (some ⟨w.heap.size, 12, none⟩), .int .i64 v1, .int .i64 t1, .pointer (some ⟨w.heap.size + 1 + 1, 1, none⟩), undef], defers := [] } _
    refine wpAnyH_take (i := 4) (v := .int .i64 2) rfl (by kernel_rfl) (by kernel_rfl) (by kernel_rfl) (fun _ _ _ h => h) (Or.inl ⟨by rfl, ?_⟩) SV ?_
    · intro X hX; go_simp
    change wpAnyH _ _ _ _ _ _ _ { tmps := #[.agg cs, .bool true, .pointer (some ⟨w.heap.size, 0, none⟩), undef, .pointer (some ⟨w.heap.size + 1, 0, none⟩), .pointer (some ⟨w.heap.size + 1 + 1, 0, none⟩), .int .i64 2, .pointer (some ⟨w.heap.size, 4, none⟩), .agg #[.int .i64 p0, .int .i64 p1, .int .i64 p2, .int .i64 p3], .int .i64 2, .bool true, .bool true, .bool true, .bool true, .int .i64 1, .int .i64 2, .int .i64 2, .int .i64 2, .pointer (some ⟨w.heap.size + 1 + 1, 2, none⟩), .int .i64 p1, .int .i64 2, .pointer (some ⟨w.heap.size, 8, none⟩), .pointer (some ⟨w.heap.size, 11, none⟩), .pointer (some ⟨w.heap.size, 12, none⟩), .int .i64 v1, .int .i64 t1, .pointer (some ⟨w.heap.size + 1 + 1, 1, none⟩), undef], defers := [] } _
    refine wpAnyH_take (i := 5) (v := .pointer (some ⟨w.heap.size, 8, none⟩)) rfl (by kernel_rfl) (by kernel_rfl) (by kernel_rfl) (fun _ _ _ h => h) (Or.inl ⟨by rfl, ?_⟩) SV ?_
    · intro X hX; go_simp
    change wpAnyH _ _ _ _ _ _ _ { tmps := #[.agg cs, .bool true, .pointer (some ⟨w.heap.size, 0, none⟩), undef, .pointer (some ⟨w.heap.size + 1, 0, none⟩), .pointer (some ⟨w.heap.size + 1 + 1, 0, none⟩), .int .i64 2, .pointer (some ⟨w.heap.size, 4, none⟩), .agg #[.int .i64 p0, .int .i64 p1, .int .i64 p2, .int .i64 p3], .int .i64 2, .bool true, .bool true, .bool true, .bool true, .int .i64 1, .int .i64 2, .int .i64 2, .int .i64 2, .pointer (some ⟨w.heap.size + 1 + 1, 2, none⟩), .int .i64 p1, .int .i64 2, .pointer (some ⟨w.heap.size, 8, none⟩), .pointer (some ⟨w.heap.size, 11, none⟩), .pointer (some ⟨w.heap.size, 12, none⟩), .int .i64 v1, .int .i64 t1, .pointer (some ⟨w.heap.size + 1 + 1, 1, none⟩), undef], defers := [] } _
    refine wpAnyH_take (i := 6) (v := .pointer (some ⟨w.heap.size, 14, none⟩)) rfl (by kernel_rfl) (by kernel_rfl) (by kernel_rfl) (fun _ _ _ h => h) (Or.inl ⟨by rfl, ?_⟩) SV ?_
    · intro X hX; go_simp
    change wpAnyH _ _ _ _ _ _ _ { tmps := #[.agg cs, .bool true, .pointer (some ⟨w.heap.size, 0, none⟩), undef, .pointer (some ⟨w.heap.size + 1, 0, none⟩), .pointer (some ⟨w.heap.size + 1 + 1, 0, none⟩), .int .i64 2, .pointer (some ⟨w.heap.size, 4, none⟩), .agg #[.int .i64 p0, .int .i64 p1, .int .i64 p2, .int .i64 p3], .int .i64 2, .bool true, .bool true, .bool true, .bool true, .int .i64 1, .int .i64 2, .int .i64 2, .int .i64 2, .pointer (some ⟨w.heap.size + 1 + 1, 2, none⟩), .int .i64 p1, .int .i64 2, .pointer (some ⟨w.heap.size, 8, none⟩), .pointer (some ⟨w.heap.size, 14, none⟩), .pointer (some ⟨w.heap.size, 12, none⟩), .int .i64 v1, .int .i64 t1, .pointer (some ⟨w.heap.size + 1 + 1, 1, none⟩), undef], defers := [] } _
    refine wpAnyH_take (i := 7) (v := .pointer (some ⟨w.heap.size, 15, none⟩)) rfl (by kernel_rfl) (by kernel_rfl) (by kernel_rfl) (fun _ _ _ h => h) (Or.inl ⟨by rfl, ?_⟩) SV ?_
    · intro X hX; go_simp
    change wpAnyH _ _ _ _ _ _ _ { tmps := #[.agg cs, .bool true, .pointer (some ⟨w.heap.size, 0, none⟩), undef, .pointer (some ⟨w.heap.size + 1, 0, none⟩), .pointer (some ⟨w.heap.size + 1 + 1, 0, none⟩), .int .i64 2, .pointer (some ⟨w.heap.size, 4, none⟩), .agg #[.int .i64 p0, .int .i64 p1, .int .i64 p2, .int .i64 p3], .int .i64 2, .bool true, .bool true, .bool true, .bool true, .int .i64 1, .int .i64 2, .int .i64 2, .int .i64 2, .pointer (some ⟨w.heap.size + 1 + 1, 2, none⟩), .int .i64 p1, .int .i64 2, .pointer (some ⟨w.heap.size, 8, none⟩), .pointer (some ⟨w.heap.size, 14, none⟩), .pointer (some ⟨w.heap.size, 15, none⟩), .int .i64 v1, .int .i64 t1, .pointer (some ⟨w.heap.size + 1 + 1, 1, none⟩), undef], defers := [] } _
    refine wpAnyH_take (i := 8) (v := .int .i64 v2) rfl (by kernel_rfl) (by kernel_rfl) (by kernel_rfl) (fun _ _ _ h => h) (Or.inl ⟨by rfl, ?_⟩) SV ?_
    · intro X hX; go_simp
    change wpAnyH _ _ _ _ _ _ _ { tmps := #[.agg cs, .bool true, .pointer (some ⟨w.heap.size, 0, none⟩), undef, .pointer (some ⟨w.heap.size + 1, 0, none⟩), .pointer (some ⟨w.heap.size + 1 + 1, 0, none⟩), .int .i64 2, .pointer (some ⟨w.heap.size, 4, none⟩), .agg #[.int .i64 p0, .int .i64 p1, .int .i64 p2, .int .i64 p3], .int .i64 2, .bool true, .bool true, .bool true, .bool true, .int .i64 1, .int .i64 2, .int .i64 2, .int .i64 2, .pointer (some ⟨w.heap.size + 1 + 1, 2, none⟩), .int .i64 p1, .int .i64 2, .pointer (some ⟨w.heap.size, 8, none⟩), .pointer (some ⟨w.heap.size, 14, none⟩), .pointer (some ⟨w.heap.size, 15, none⟩), .int .i64 v2, .int .i64 t1, .pointer (some ⟨w.heap.size + 1 + 1, 1, none⟩), undef], defers := [] } _
    have u1 : W6.cell? ⟨w.heap.size + 1 + 1, 2, none⟩ = some (.int .i64 p2) := KO6.cellAt 2
    have u2 := KO6.free 2
    have u3 := KO6.lt
    refine wpAnyH_all (rs := [3]) (by kernel_rfl) (by simp) ?_
    intro i hi; obtain rfl : i = 3 := by simpa using hi
    refine wpOp_step rfl (fun K hK => ?_)
    go_simp
    refine hK _ _ ⟨SV, ?_⟩
    clear hK K hi
    change wpAnyH _ _ _ _ _ _ _ { tmps := #[.agg cs, .bool true, .pointer (some ⟨w.heap.size, 0, none⟩), undef, .pointer (some ⟨w.heap.size + 1, 0, none⟩), .pointer (some ⟨w.heap.size + 1 + 1, 0, none⟩), .int .i64 2, .pointer (some ⟨w.heap.size, 4, none⟩), .agg #[.int .i64 p0, .int .i64 p1, .int .i64 p2, .int .i64 p3], .int .i64 2, .bool true, .bool true, .bool true, .bool true, .int .i64 1, .int .i64 2, .int .i64 2, .int .i64 2, .pointer (some ⟨w.heap.size + 1 + 1, 2, none⟩), .int .i64 p2, .int .i64 2, .pointer (some ⟨w.heap.size, 8, none⟩), .pointer (some ⟨w.heap.size, 14, none⟩), .pointer (some ⟨w.heap.size, 15, none⟩), .int .i64 v2, .int .i64 t1, .pointer (some ⟨w.heap.size + 1 + 1, 1, none⟩), undef], defers := [] } _
    refine wpAnyH_all (rs := [9]) (by kernel_rfl) (by simp) ?_
    intro i hi; obtain rfl : i = 9 := by simpa using hi
    refine wpOp_step rfl (fun K hK => ?_)
    go_simp
    refine (R2.out _).mono ?_
    rintro e W7 ⟨rfl, rfl⟩
    refine hK _ _ ⟨SV, ?_⟩
    clear hK K hi
    change wpAnyH _ _ _ _ _ _ _ { tmps := #[.agg cs, .bool true, .pointer (some ⟨w.heap.size, 0, none⟩), undef, .pointer (some ⟨w.heap.size + 1, 0, none⟩), .pointer (some ⟨w.heap.size + 1 + 1, 0, none⟩), .int .i64 2, .pointer (some ⟨w.heap.size, 4, none⟩), .agg #[.int .i64 p0, .int .i64 p1, .int .i64 p2, .int .i64 p3], .int .i64 2, .bool true, .bool true, .bool true, .bool true, .int .i64 1, .int .i64 2, .int .i64 2, .int .i64 2, .pointer (some ⟨w.heap.size + 1 + 1, 2, none⟩), .int .i64 p2, .int .i64 2, .pointer (some ⟨w.heap.size, 8, none⟩), .pointer (some ⟨w.heap.size, 14, none⟩), .pointer (some ⟨w.heap.size, 15, none⟩), .int .i64 v2, .int .i64 t2, .pointer (some ⟨w.heap.size + 1 + 1, 1, none⟩), undef], defers := [] } _
    refine wpAnyH_take (i := 10) (v := .pointer (some ⟨w.heap.size + 1 + 1, 2, none⟩)) rfl (by kernel_rfl) (by kernel_rfl) (by kernel_rfl) (fun _ _ _ h => h) (Or.inl ⟨by rfl, ?_⟩) SV ?_
    · intro X hX; go_simp
    change wpAnyH _ _ _ _ _ _ _ { tmps := #[.agg cs, .bool true, .pointer (some ⟨w.heap.size, 0, none⟩), undef, .pointer (some ⟨w.heap.size + 1, 0, none⟩), .pointer (some ⟨w.heap.size + 1 + 1, 0, none⟩), .int .i64 2, .pointer (some ⟨w.heap.size, 4, none⟩), .agg #[.int .i64 p0, .int .i64 p1, .int .i64 p2, .int .i64 p3], .int .i64 2, .bool true, .bool true, .bool true, .bool true, .int .i64 1, .int .i64 2, .int .i64 2, .int .i64 2, .pointer (some ⟨w.heap.size + 1 + 1, 2, none⟩), .int .i64 p2, .int .i64 2, .pointer (some ⟨w.heap.size, 8, none⟩), .pointer (some ⟨w.heap.size, 14, none⟩), .pointer (some ⟨w.heap.size, 15, none⟩), .int .i64 v2, .int .i64 t2, .pointer (some ⟨w.heap.size + 1 + 1, 2, none⟩), undef], defers := [] } _
    refine wpAnyH_all (rs := [11]) (by kernel_rfl) (by simp) ?_
    intro i hi; obtain rfl : i = 11 := by simpa using hi
    refine wpOp_step rfl (fun K hK => ?_)
    go_simp
    have BS : Below w.heap.size w (W6.setCell ⟨w.heap.size + 1 + 1, 2, none⟩ (.int .i64 t2)) := B6.setCell (p := ⟨w.heap.size + 1 + 1, 2, none⟩) (by simp; omega) _
    have KOS := KO6.set 2 (.int .i64 t2)
    have KBS := KB6.other ⟨w.heap.size + 1 + 1, 2, none⟩ (.int .i64 t2) (by show w.heap.size ≠ w.heap.size + 1 + 1; omega)
    have KRS := KR6.other ⟨w.heap.size + 1 + 1, 2, none⟩ (.int .i64 t2) (by simp)
    refine hK _ _ ⟨by rw [KBS.cellAt]; exact HW2.out, ?_⟩
    clear hK K hi
    change wpAnyH _ _ _ _ _ _ _ { tmps := #[.agg cs, .bool true, .pointer (some ⟨w.heap.size, 0, none⟩), undef, .pointer (some ⟨w.heap.size + 1, 0, none⟩), .pointer (some ⟨w.heap.size + 1 + 1, 0, none⟩), .int .i64 2, .pointer (some ⟨w.heap.size, 4, none⟩), .agg #[.int .i64 p0, .int .i64 p1, .int .i64 p2, .int .i64 p3], .int .i64 2, .bool true, .bool true, .bool true, .bool true, .int .i64 1, .int .i64 2, .int .i64 2, .int .i64 2, .pointer (some ⟨w.heap.size + 1 + 1, 2, none⟩), .int .i64 p2, .int .i64 2, .pointer (some ⟨w.heap.size, 8, none⟩), .pointer (some ⟨w.heap.size, 14, none⟩), .pointer (some ⟨w.heap.size, 15, none⟩), .int .i64 v2, .int .i64 t2, .pointer (some ⟨w.heap.size + 1 + 1, 2, none⟩), undef], defers := [] } _
    obtain ⟨X3, hX3⟩ : ∃ X, W6.setCell ⟨w.heap.size + 1 + 1, 2, none⟩ (.int .i64 t2) = X := ⟨_, rfl⟩
    rw [hX3] at BS KOS KBS KRS ⊢
    have HB := Lib.hid BS
    have KO := Lib.hid KOS
    have K0 := Lib.hid KBS
    have R0' := Lib.hid KRS
    clear hX3 BS KOS KBS KRS u1 u2 u3 SV KO6 KB6 KR6 B6
    refine wpAnyH_done (by kernel_rfl) ?_ _
    go_wp2
    rw [rounds_succ]
    go_wp2
    refine region_held_at (S := fun X => X.cell? ⟨w.heap.size, 18, none⟩ = some (.int .i64 v3)) (by kernel_rfl) (fun W6 hW6 => ?_)
    have KO6 : Whole W6 (w.heap.size + 1 + 1) 24 [.int .i64 t0, .int .i64 t1, .int .i64 t2, .int .i64 p3] := by rw [← hW6]; exact KO.out
    have KB6 : Whole W6 w.heap.size 31 s.cells := by rw [← hW6]; exact K0.out
    have KR6 : Whole W6 (w.heap.size + 1) 24 [.int .i64 0, .int .i64 0, .int .i64 0, .int .i64 0] := by rw [← hW6]; exact R0'.out
    have B6 : Below w.heap.size w W6 := by rw [← hW6]; exact HB.out.trans (below_dn _ X3 1)
    have SV : W6.cell? ⟨w.heap.size, 18, none⟩ = some (.int .i64 v3) := by rw [KB6.cellAt]; exact HW3.out
    clear hW6 HB KO K0 R0'
    refine wpAnyH_take (i := 0) (v := .int .i64 3) rfl (by kernel_rfl) (by kernel_rfl) (by kernel_rfl) (fun _ _ _ h => h) (Or.inl ⟨by rfl, ?_⟩) SV ?_
    · intro X hX; go_simp
    change wpAnyH _ _ _ _ _ _ _ { tmps := #[.agg cs, .bool true, .pointer (some ⟨w.heap.size, 0, none⟩), undef, .pointer (some ⟨w.heap.size + 1, 0, none⟩), .pointer (some ⟨w.heap.size + 1 + 1, 0, none⟩), .int .i64 3, .pointer (some ⟨w.heap.size, 4, none⟩), .agg #[.int .i64 p0, .int .i64 p1, .int .i64 p2, .int .i64 p3], .int .i64 3, .bool true, .bool true, .bool true, .bool true, .int .i64 2, .int .i64 3, .int .i64 3, .int .i64 2, .pointer (some ⟨w.heap.size + 1 + 1, 2, none⟩), .int .i64 p2, .int .i64 2, .pointer (some ⟨w.heap.size, 8, none⟩), .pointer (some ⟨w.heap.size, 14, none⟩), .pointer (some ⟨w.heap.size, 15, none⟩), .int .i64 v2, .int .i64 t2, .pointer (some ⟨w.heap.size + 1 + 1, 2, none⟩), undef], defers := [] } _
    refine wpAnyH_take (i := 1) (v := .int .i64 3) rfl (by kernel_rfl) (by kernel_rfl) (by kernel_rfl) (fun _ _ _ h => h) (Or.inl ⟨by rfl, ?_⟩) SV ?_
    · intro X hX; go_simp
    change wpAnyH _ _ _ _ _ _ _ { tmps := #[.agg cs, .bool true, .pointer (some ⟨w.heap.size, 0, none⟩), undef, .pointer (some ⟨w.heap.size + 1, 0, none⟩), .pointer (some ⟨w.heap.size + 1 + 1, 0, none⟩), .int .i64 3, .pointer (some ⟨w.heap.size, 4, none⟩), .agg #[.int .i64 p0, .int .i64 p1, .int .i64 p2, .int .i64 p3], .int .i64 3, .bool true, .bool true, .bool true, .bool true, .int .i64 2, .int .i64 3, .int .i64 3, .int .i64 3, .pointer (some ⟨w.heap.size + 1 + 1, 2, none⟩), .int .i64 p2, .int .i64 2, .pointer (some ⟨w.heap.size, 8, none⟩), .pointer (some ⟨w.heap.size, 14, none⟩), .pointer (some ⟨w.heap.size, 15, none⟩), .int .i64 v2, .int .i64 t2, .pointer (some ⟨w.heap.size + 1 + 1, 2, none⟩), undef], defers := [] } _
    refine wpAnyH_take (i := 2) (v := .pointer (some ⟨w.heap.size + 1 + 1, 3, none⟩)) rfl (by kernel_rfl) (by kernel_rfl) (by kernel_rfl) (fun _ _ _ h => h) (Or.inl ⟨by rfl, ?_⟩) SV ?_
    · intro X hX; go_simp
    change wpAnyH _ _ _ _ _ _ _ { tmps := #[.agg cs, .bool true, .pointer (some ⟨w.heap.size, 0, none⟩), undef, .pointer (some ⟨w.heap.size + 1, 0, none⟩), .pointer (some ⟨w.heap.size + 1 + 1, 0, none⟩), .int .i64 3, .pointer (some ⟨w.heap.size, 4, none⟩), .agg #[.int .i64 p0, .int .i64 p1, .int .i64 p2, .int .i64 p3], .int .i64 3, .bool true, .bool true, .bool true, .bool true, .int .i64 2, .int .i64 3, .int .i64 3, .int .i64 3, .pointer (some ⟨w.heap.size + 1 + 1, 3, none⟩), .int .i64 p2, .int .i64 2, .pointer (some ⟨w.heap.size, 8, none⟩), .pointer (some ⟨w.heap.size, 14, none⟩), .pointer (some ⟨w.heap.size, 15, none⟩), .int .i64 v2, .int .i64 t2, .pointer (some ⟨w.heap.size + 1 + 1, 2, none⟩), undef], defers := [] } _
    refine wpAnyH_take (i := 4) (v := .int .i64 3) rfl (by kernel_rfl) (by kernel_rfl) (by kernel_rfl) (fun _ _ _ h => h) (Or.inl ⟨by rfl, ?_⟩) SV ?_
    · intro X hX; go_simp
    change wpAnyH _ _ _ _ _ _ _ { tmps := #[.agg cs, .bool true, .pointer (some ⟨w.heap.size, 0, none⟩), undef, .pointer (some ⟨w.heap.size + 1, 0, none⟩), .pointer (some ⟨w.heap.size + 1 + 1, 0, none⟩), .int .i64 3, .pointer (some ⟨w.heap.size, 4, none⟩), .agg #[.int .i64 p0, .int .i64 p1, .int .i64 p2, .int .i64 p3], .int .i64 3, .bool true, .bool true, .bool true, .bool true, .int .i64 2, .int .i64 3, .int .i64 3, .int .i64 3, .pointer (some ⟨w.heap.size + 1 + 1, 3, none⟩), .int .i64 p2, .int .i64 3, .pointer (some ⟨w.heap.size, 8, none⟩), .pointer (some ⟨w.heap.size, 14, none⟩), .pointer (some ⟨w.heap.size, 15, none⟩), .int .i64 v2, .int .i64 t2, .pointer (some ⟨w.heap.size + 1 + 1, 2, none⟩), undef], defers := [] } _
    refine wpAnyH_take (i := 5) (v := .pointer (some ⟨w.heap.size, 8, none⟩)) rfl (by kernel_rfl) (by kernel_rfl) (by kernel_rfl) (fun _ _ _ h => h) (Or.inl ⟨by rfl, ?_⟩) SV ?_
    · intro X hX; go_simp
    change wpAnyH _ _ _ _ _ _ _ { tmps := #[.agg cs, .bool true, .pointer (some ⟨w.heap.size, 0, none⟩), undef, .pointer (some ⟨w.heap.size + 1, 0, none⟩), .pointer (some ⟨w.heap.size + 1 + 1, 0, none⟩), .int .i64 3, .pointer (some ⟨w.heap.size, 4, none⟩), .agg #[.int .i64 p0, .int .i64 p1, .int .i64 p2, .int .i64 p3], .int .i64 3, .bool true, .bool true, .bool true, .bool true, .int .i64 2, .int .i64 3, .int .i64 3, .int .i64 3, .pointer (some ⟨w.heap.size + 1 + 1, 3, none⟩), .int .i64 p2, .int .i64 3, .pointer (some ⟨w.heap.size, 8, none⟩), .pointer (some ⟨w.heap.size, 14, none⟩), .pointer (some ⟨w.heap.size, 15, none⟩), .int .i64 v2, .int .i64 t2, .pointer (some ⟨w.heap.size + 1 + 1, 2, none⟩), undef], defers := [] } _
    refine wpAnyH_take (i := 6) (v := .pointer (some ⟨w.heap.size, 17, none⟩)) rfl (by kernel_rfl) (by kernel_rfl) (by kernel_rfl) (fun _ _ _ h => h) (Or.inl ⟨by rfl, ?_⟩) SV ?_
    · intro X hX; go_simp
    change wpAnyH _ _ _ _ _ _ _ { tmps := #[.agg cs, .bool true, .pointer (some ⟨w.heap.size, 0, none⟩), undef, .pointer (some ⟨w.heap.size + 1, 0, none⟩), .pointer (some ⟨w.heap.size + 1 + 1, 0, none⟩), .int .i64 3, .pointer (some ⟨w.heap.size, 4, none⟩), .agg #[.int .i64 p0, .int .i64 p1, .int .i64 p2, .int .i64 p3], .int .i64 3, .bool true, .bool true, .bool true, .bool true, .int .i64 2, .int .i64 3, .int .i64 3, .int .i64 3, .pointer (some ⟨w.heap.size + 1 + 1, 3, none⟩), .int .i64 p2, .int .i64 3, .pointer (some ⟨w.heap.size, 8, none⟩), .pointer (some ⟨w.heap.size, 17, none⟩), .pointer (some ⟨w.heap.size, 15, none⟩), .int .i64 v2, .int .i64 t2, .pointer (some ⟨w.heap.size + 1 + 1, 2, none⟩), undef], defers := [] } _
    refine wpAnyH_take (i := 7) (v := .pointer (some ⟨w.heap.size, 18, none⟩)) rfl (by kernel_rfl) (by kernel_rfl) (by kernel_rfl) (fun _ _ _ h => h) (Or.inl ⟨by rfl, ?_⟩) SV ?_
    · intro X hX; go_simp
    change wpAnyH _ _ _ _ _ _ _ { tmps := #[.agg cs, .bool true, .pointer (some ⟨w.heap.size, 0, none⟩), undef, .pointer (some ⟨w.heap.size + 1, 0, none⟩), .pointer (some ⟨w.heap.size + 1 + 1, 0, none⟩), .int .i64 3, .pointer (some ⟨w.heap.size, 4, none⟩), .agg #[.int .i64 p0, .int .i64 p1, .int .i64 p2, .int .i64 p3], .int .i64 3, .bool true, .bool true, .bool true, .bool true, .int .i64 2, .int .i64 3, .int .i64 3, .int .i64 3, .pointer (some ⟨w.heap.size + 1 + 1, 3, none⟩), .int .i64 p2, .int .i64 3, .pointer (some ⟨w.heap.size, 8, none⟩), .pointer (some ⟨w.heap.size, 17, none⟩), .pointer (some ⟨w.heap.size, 18, none⟩), .int .i64 v2, .int .i64 t2, .pointer (some ⟨w.heap.size + 1 + 1, 2, none⟩), undef], defers := [] } _
    refine wpAnyH_take (i := 8) (v := .int .i64 v3) rfl (by kernel_rfl) (by kernel_rfl) (by kernel_rfl) (fun _ _ _ h => h) (Or.inl ⟨by rfl, ?_⟩) SV ?_
    · intro X hX; go_simp
    change wpAnyH _ _ _ _ _ _ _ { tmps := #[.agg cs, .bool true, .pointer (some ⟨w.heap.size, 0, none⟩), undef, .pointer (some ⟨w.heap.size + 1, 0, none⟩), .pointer (some ⟨w.heap.size + 1 + 1, 0, none⟩), .int .i64 3, .pointer (some ⟨w.heap.size, 4, none⟩), .agg #[.int .i64 p0, .int .i64 p1, .int .i64 p2, .int .i64 p3], .int .i64 3, .bool true, .bool true, .bool true, .bool true, .int .i64 2, .int .i64 3, .int .i64 3, .int .i64 3, .pointer (some ⟨w.heap.size + 1 + 1, 3, none⟩), .int .i64 p2, .int .i64 3, .pointer (some ⟨w.heap.size, 8, none⟩), .pointer (some ⟨w.heap.size, 17, none⟩), .pointer (some ⟨w.heap.size, 18, none⟩), .int .i64 v3, .int .i64 t2, .pointer (some ⟨w.heap.size + 1 + 1, 2, none⟩), undef], defers := [] } _
    have u1 : W6.cell? ⟨w.heap.size + 1 + 1, 3, none⟩ = some (.int .i64 p3) := KO6.cellAt 3
    have u2 := KO6.free 3
    have u3 := KO6.lt
    refine wpAnyH_all (rs := [3]) (by kernel_rfl) (by simp) ?_
    intro i hi; obtain rfl : i = 3 := by simpa using hi
    refine wpOp_step rfl (fun K hK => ?_)
    go_simp
    refine hK _ _ ⟨SV, ?_⟩
    clear hK K hi
    change wpAnyH _ _ _ _ _ _ _ { tmps := #[.agg cs, .bool true, .pointer (some ⟨w.heap.size, 0, none⟩), undef, .pointer (some ⟨w.heap.size + 1, 0, none⟩), .pointer (some ⟨w.heap.size + 1 + 1, 0, none⟩), .int .i64 3, .pointer (some ⟨w.heap.size, 4, none⟩), .agg #[.int .i64 p0, .int .i64 p1, .int .i64 p2, .int .i64 p3], .int .i64 3, .bool true, .bool true, .bool true, .bool true, .int .i64 2, .int .i64 3, .int .i64 3, .int .i64 3, .pointer (some ⟨w.heap.size + 1 + 1, 3, none⟩), .int .i64 p3, .int .i64 3, .pointer (some ⟨w.heap.size, 8, none⟩), .pointer (some ⟨w.heap.size, 17, none⟩), .pointer (some ⟨w.heap.size, 18, none⟩), .int .i64 v3, .int .i64 t2, .pointer (some ⟨w.heap.size + 1 + 1, 2, none⟩), undef], defers := [] } _
    refine wpAnyH_all (rs := [9]) (by kernel_rfl) (by simp) ?_
    intro i hi; obtain rfl : i = 9 := by simpa using hi
    refine wpOp_step rfl (fun K hK => ?_)
    go_simp
    refine (R3.out _).mono ?_
    rintro e W7 ⟨rfl, rfl⟩
    refine hK _ _ ⟨SV, ?_⟩
    clear hK K hi
    change wpAnyH _ _ _ _ _ _ _ { tmps := #[.agg cs, .bool true, .pointer (some ⟨w.heap.size, 0, none⟩), undef, .pointer (some ⟨w.heap.size + 1, 0, none⟩), .pointer (some ⟨w.heap.size + 1 + 1, 0, none⟩), .int .i64 3, .pointer (some ⟨w.heap.size, 4, none⟩), .agg #[.int .i64 p0, .int .i64 p1, .int .i64 p2, .int .i64 p3], .int .i64 3, .bool true, .bool true, .bool true, .bool true, .int .i64 2, .int .i64 3, .int .i64 3, .int .i64 3, .pointer (some ⟨w.heap.size + 1 + 1, 3, none⟩), .int .i64 p3, .int .i64 3, .pointer (some ⟨w.heap.size, 8, none⟩), .pointer (some ⟨w.heap.size, 17, none⟩), .pointer (some ⟨w.heap.size, 18, none⟩), .int .i64 v3, .int .i64 t3, .pointer (some ⟨w.heap.size + 1 + 1, 2, none⟩), undef], defers := [] } _
    refine wpAnyH_take (i := 10) (v := .pointer (some ⟨w.heap.size + 1 + 1, 3, none⟩)) rfl (by kernel_rfl) (by kernel_rfl) (by kernel_rfl) (fun _ _ _ h => h) (Or.inl ⟨by rfl, ?_⟩) SV ?_
    · intro X hX; go_simp
    change wpAnyH _ _ _ _ _ _ _ { tmps := #[.agg cs, .bool true, .pointer (some ⟨w.heap.size, 0, none⟩), undef, .pointer (some ⟨w.heap.size + 1, 0, none⟩), .pointer (some ⟨w.heap.size + 1 + 1, 0, none⟩), .int .i64 3, .pointer (some ⟨w.heap.size, 4, none⟩), .agg #[.int .i64 p0, .int .i64 p1, .int .i64 p2, .int .i64 p3], .int .i64 3, .bool true, .bool true, .bool true, .bool true, .int .i64 2, .int .i64 3, .int .i64 3, .int .i64 3, .pointer (some ⟨w.heap.size + 1 + 1, 3, none⟩), .int .i64 p3, .int .i64 3, .pointer (some ⟨w.heap.size, 8, none⟩), .pointer (some ⟨w.heap.size, 17, none⟩), .pointer (some ⟨w.heap.size, 18, none⟩), .int .i64 v3, .int .i64 t3, .pointer (some ⟨w.heap.size + 1 + 1, 3, none⟩), undef], defers := [] } _
    refine wpAnyH_all (rs := [11]) (by kernel_rfl) (by simp) ?_
    intro i hi; obtain rfl : i = 11 := by simpa using hi
    refine wpOp_step rfl (fun K hK => ?_)
    go_simp
    have BS : Below w.heap.size w (W6.setCell ⟨w.heap.size + 1 + 1, 3, none⟩ (.int .i64 t3)) := B6.setCell (p := ⟨w.heap.size + 1 + 1, 3, none⟩) (by simp; omega) _
    have KOS := KO6.set 3 (.int .i64 t3)
    have KBS := KB6.other ⟨w.heap.size + 1 + 1, 3, none⟩ (.int .i64 t3) (by show w.heap.size ≠ w.heap.size + 1 + 1; omega)
    have KRS := KR6.other ⟨w.heap.size + 1 + 1, 3, none⟩ (.int .i64 t3) (by simp)
    refine hK _ _ ⟨by rw [KBS.cellAt]; exact HW3.out, ?_⟩
    clear hK K hi
    change wpAnyH _ _ _ _ _ _ _ { tmps := #[.agg cs, .bool true, .pointer (some ⟨w.heap.size, 0, none⟩), undef, .pointer (some ⟨w.heap.size + 1, 0, none⟩), .pointer (some ⟨w.heap.size + 1 + 1, 0, none⟩), .int .i64 3, .pointer (some ⟨w.heap.size, 4, none⟩), .agg #[.int .i64 p0, .int .i64 p1, .int .i64 p2, .int .i64 p3], .int .i64 3, .bool true, .bool true, .bool true, .bool true, .int .i64 2, .int .i64 3, .int .i64 3, .int .i64 3, .pointer (some ⟨w.heap.size + 1 + 1, 3, none⟩), .int .i64 p3, .int .i64 3, .pointer (some ⟨w.heap.size, 8, none⟩), .pointer (some ⟨w.heap.size, 17, none⟩), .pointer (some ⟨w.heap.size, 18, none⟩), .int .i64 v3, .int .i64 t3, .pointer (some ⟨w.heap.size + 1 + 1, 3, none⟩), undef], defers := [] } _
    obtain ⟨X4, hX4⟩ : ∃ X, W6.setCell ⟨w.heap.size + 1 + 1, 3, none⟩ (.int .i64 t3) = X := ⟨_, rfl⟩
    rw [hX4] at BS KOS KBS KRS ⊢
    have HB := Lib.hid BS
    have KO := Lib.hid KOS
    have K0 := Lib.hid KBS
    have R0' := Lib.hid KRS
    clear hX4 BS KOS KBS KRS u1 u2 u3 SV KO6 KB6 KR6 B6
    refine wpAnyH_done (by kernel_rfl) ?_ _
    go_wp2
    rw [rounds_succ]
    have ko : X4.heap[w.heap.size + 1 + 1]? = some (.cells #[.int .i64 t0, .int .i64 t1, .int .i64 t2, .int .i64 t3] 24 (0, 0)) := KO.out
    have kr : X4.heap[w.heap.size + 1]? = some (.cells #[.int .i64 0, .int .i64 0, .int .i64 0, .int .i64 0] 24 (0, 0)) := R0'.out
    have KF := Lib.hid (whole_row R0'.out (four (frS true s)))
    have BF := Lib.hid (HB.out.trans (below_row X4 (w.heap.size + 1) (four (frS true s)).toArray (by omega)))
    have e4 : (four (frS true s)).toArray = #[.int .i64 t0, .int .i64 t1, .int .i64 t2, .int .i64 t3] := by rw [hfv.out]; rfl
    rw [e4] at BF KF
    clear KO R0' HB K0
    go_wp2_with (first
      | (refine wpList_load_row rfl 24 (.tmp 5) rfl _ rfl 24 #[.int .i64 t0, .int .i64 t1, .int .i64 t2, .int .i64 t3] (0, 0) _ ko Try.underlying24 rfl Try.infoFour ?_; clear ko)
      | (refine wpList_store_row rfl 24 (.tmp 4) (.tmp 27) rfl _ #[.int .i64 t0, .int .i64 t1, .int .i64 t2, .int .i64 t3] rfl rfl 24 #[.int .i64 0, .int .i64 0, .int .i64 0, .int .i64 0] kr Try.infoFour rfl (by simp [Value.oneCell']) ?_; clear kr))
    refine bodyPost_ret (results_four (g := w.heap.size + 1) (n := 4) rfl rfl KF.out) rfl ⟨rfl, BF.out⟩
end Go.Proofs.Ytmhpailpjfieoaa
