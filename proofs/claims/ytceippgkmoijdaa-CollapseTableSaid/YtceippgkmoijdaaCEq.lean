/- Ranks, and sides, held against each other by ==. -/
import Derived.Test.YtceippgkmoijdaaCRank
import Derived.ChangeKeysEq
import Derived.Laws.StructEq
namespace Go.Proofs.Ytceippgkmoijdaa
open Go.RowKit Go.Shelf
set_option linter.unusedVariables false
set_option linter.unusedSimpArgs false

theorem info_partsC {t : Nat} {x : Option Value × Nat × Nat} (h : (Try.prog.info? t).map (fun i => (i.zero, i.size, i.bytes)) = some x) : ∃ i, Try.prog.info? t = some i := by
  cases hi : Try.prog.info? t with
  | none => rw [hi] at h; cases h
  | some i => exact ⟨i, rfl⟩
theorem Try.infoI64C : (Try.prog.info? 2).map (fun i => (i.zero, i.size, i.bytes)) = some (some (.int .i64 0), 1, 8) := by kernel_rfl
set_option maxHeartbeats 1000000 in
theorem rank_eql (x0 x1 x2 x3 x4 x5 x6 y0 y1 y2 y3 y4 y5 y6 : Int) (X : World) : (binOp .eql 161 (.agg #[.int .i64 x0, .int .i64 x1, .int .i64 x2, .int .i64 x3, .int .i64 x4, .int .i64 x5, .int .i64 x6]) (.agg #[.int .i64 y0, .int .i64 y1, .int .i64 y2, .int .i64 y3, .int .i64 y4, .int .i64 y5, .int .i64 y6])).run Try.prog X = .ok (.bool (decide ([x0, x1, x2, x3, x4, x5, x6] = [y0, y1, y2, y3, y4, y5, y6]))) X := by
  obtain ⟨i, hi⟩ := info_partsC Try.infoI64C
  have k1 : Try.prog.cellsOf 2 = 1 := by kernel_rfl
  have he : Try.prog.plainKey 2 = true := by kernel_rfl
  have h := run_equalIn_array (P := Try.prog) X 9999 #[.int .i64 x0, .int .i64 x1, .int .i64 x2, .int .i64 x3, .int .i64 x4, .int .i64 x5, .int .i64 x6] #[.int .i64 y0, .int .i64 y1, .int .i64 y2, .int .i64 y3, .int .i64 y4, .int .i64 y5, .int .i64 y6] Try.underlying161 hi
  have p0 := run_part_plain (P := Try.prog) X he (xs := #[.int .i64 x0, .int .i64 x1, .int .i64 x2, .int .i64 x3, .int .i64 x4, .int .i64 x5, .int .i64 x6]) (off := 0) rfl
  have r0 := run_part_plain (P := Try.prog) X he (xs := #[.int .i64 y0, .int .i64 y1, .int .i64 y2, .int .i64 y3, .int .i64 y4, .int .i64 y5, .int .i64 y6]) (off := 0) rfl
  have q0 := run_equalIn_int (P := Try.prog) X 9998 2 .i64 .i64 x0 y0 Try.underlying2
  have p1 := run_part_plain (P := Try.prog) X he (xs := #[.int .i64 x0, .int .i64 x1, .int .i64 x2, .int .i64 x3, .int .i64 x4, .int .i64 x5, .int .i64 x6]) (off := 1) rfl
  have r1 := run_part_plain (P := Try.prog) X he (xs := #[.int .i64 y0, .int .i64 y1, .int .i64 y2, .int .i64 y3, .int .i64 y4, .int .i64 y5, .int .i64 y6]) (off := 1) rfl
  have q1 := run_equalIn_int (P := Try.prog) X 9998 2 .i64 .i64 x1 y1 Try.underlying2
  have p2 := run_part_plain (P := Try.prog) X he (xs := #[.int .i64 x0, .int .i64 x1, .int .i64 x2, .int .i64 x3, .int .i64 x4, .int .i64 x5, .int .i64 x6]) (off := 2) rfl
  have r2 := run_part_plain (P := Try.prog) X he (xs := #[.int .i64 y0, .int .i64 y1, .int .i64 y2, .int .i64 y3, .int .i64 y4, .int .i64 y5, .int .i64 y6]) (off := 2) rfl
  have q2 := run_equalIn_int (P := Try.prog) X 9998 2 .i64 .i64 x2 y2 Try.underlying2
  have p3 := run_part_plain (P := Try.prog) X he (xs := #[.int .i64 x0, .int .i64 x1, .int .i64 x2, .int .i64 x3, .int .i64 x4, .int .i64 x5, .int .i64 x6]) (off := 3) rfl
  have r3 := run_part_plain (P := Try.prog) X he (xs := #[.int .i64 y0, .int .i64 y1, .int .i64 y2, .int .i64 y3, .int .i64 y4, .int .i64 y5, .int .i64 y6]) (off := 3) rfl
  have q3 := run_equalIn_int (P := Try.prog) X 9998 2 .i64 .i64 x3 y3 Try.underlying2
  have p4 := run_part_plain (P := Try.prog) X he (xs := #[.int .i64 x0, .int .i64 x1, .int .i64 x2, .int .i64 x3, .int .i64 x4, .int .i64 x5, .int .i64 x6]) (off := 4) rfl
  have r4 := run_part_plain (P := Try.prog) X he (xs := #[.int .i64 y0, .int .i64 y1, .int .i64 y2, .int .i64 y3, .int .i64 y4, .int .i64 y5, .int .i64 y6]) (off := 4) rfl
  have q4 := run_equalIn_int (P := Try.prog) X 9998 2 .i64 .i64 x4 y4 Try.underlying2
  have p5 := run_part_plain (P := Try.prog) X he (xs := #[.int .i64 x0, .int .i64 x1, .int .i64 x2, .int .i64 x3, .int .i64 x4, .int .i64 x5, .int .i64 x6]) (off := 5) rfl
  have r5 := run_part_plain (P := Try.prog) X he (xs := #[.int .i64 y0, .int .i64 y1, .int .i64 y2, .int .i64 y3, .int .i64 y4, .int .i64 y5, .int .i64 y6]) (off := 5) rfl
  have q5 := run_equalIn_int (P := Try.prog) X 9998 2 .i64 .i64 x5 y5 Try.underlying2
  have p6 := run_part_plain (P := Try.prog) X he (xs := #[.int .i64 x0, .int .i64 x1, .int .i64 x2, .int .i64 x3, .int .i64 x4, .int .i64 x5, .int .i64 x6]) (off := 6) rfl
  have r6 := run_part_plain (P := Try.prog) X he (xs := #[.int .i64 y0, .int .i64 y1, .int .i64 y2, .int .i64 y3, .int .i64 y4, .int .i64 y5, .int .i64 y6]) (off := 6) rfl
  have q6 := run_equalIn_int (P := Try.prog) X 9998 2 .i64 .i64 x6 y6 Try.underlying2
  go_simp
  by_cases h0 : x0 = y0
  · subst h0
    by_cases h1 : x1 = y1
    · subst h1
      by_cases h2 : x2 = y2
      · subst h2
        by_cases h3 : x3 = y3
        · subst h3
          by_cases h4 : x4 = y4
          · subst h4
            by_cases h5 : x5 = y5
            · subst h5
              by_cases h6 : x6 = y6
              · subst h6
                simp [Op.eqItems, List.range_succ, k1, p0, r0, q0, p1, r1, q1, p2, r2, q2, p3, r3, q3, p4, r4, q4, p5, r5, q5, p6, r6, q6]
              · have e6 : (x6 == y6) = false := by simpa using h6
                simp [Op.eqItems, List.range_succ, k1, p0, r0, q0, p1, r1, q1, p2, r2, q2, p3, r3, q3, p4, r4, q4, p5, r5, q5, p6, r6, q6, h6]
            · have e5 : (x5 == y5) = false := by simpa using h5
              simp [Op.eqItems, List.range_succ, k1, p0, r0, q0, p1, r1, q1, p2, r2, q2, p3, r3, q3, p4, r4, q4, p5, r5, q5, p6, r6, q6, h5]
          · have e4 : (x4 == y4) = false := by simpa using h4
            simp [Op.eqItems, List.range_succ, k1, p0, r0, q0, p1, r1, q1, p2, r2, q2, p3, r3, q3, p4, r4, q4, p5, r5, q5, p6, r6, q6, h4]
        · have e3 : (x3 == y3) = false := by simpa using h3
          simp [Op.eqItems, List.range_succ, k1, p0, r0, q0, p1, r1, q1, p2, r2, q2, p3, r3, q3, p4, r4, q4, p5, r5, q5, p6, r6, q6, h3]
      · have e2 : (x2 == y2) = false := by simpa using h2
        simp [Op.eqItems, List.range_succ, k1, p0, r0, q0, p1, r1, q1, p2, r2, q2, p3, r3, q3, p4, r4, q4, p5, r5, q5, p6, r6, q6, h2]
    · have e1 : (x1 == y1) = false := by simpa using h1
      simp [Op.eqItems, List.range_succ, k1, p0, r0, q0, p1, r1, q1, p2, r2, q2, p3, r3, q3, p4, r4, q4, p5, r5, q5, p6, r6, q6, h1]
  · have e0 : (x0 == y0) = false := by simpa using h0
    simp [Op.eqItems, List.range_succ, k1, p0, r0, q0, p1, r1, q1, p2, r2, q2, p3, r3, q3, p4, r4, q4, p5, r5, q5, p6, r6, q6, h0]
set_option maxHeartbeats 1000000 in
theorem rank_in (x0 x1 x2 x3 x4 x5 x6 y0 y1 y2 y3 y4 y5 y6 : Int) (X : World) : (Op.equalIn 10000 161 (.agg #[.int .i64 x0, .int .i64 x1, .int .i64 x2, .int .i64 x3, .int .i64 x4, .int .i64 x5, .int .i64 x6]) (.agg #[.int .i64 y0, .int .i64 y1, .int .i64 y2, .int .i64 y3, .int .i64 y4, .int .i64 y5, .int .i64 y6])).run Try.prog X = .ok (decide ([x0, x1, x2, x3, x4, x5, x6] = [y0, y1, y2, y3, y4, y5, y6])) X := by
  obtain ⟨i, hi⟩ := info_partsC Try.infoI64C
  have k1 : Try.prog.cellsOf 2 = 1 := by kernel_rfl
  have he : Try.prog.plainKey 2 = true := by kernel_rfl
  have h := run_equalIn_array (P := Try.prog) X 9999 #[.int .i64 x0, .int .i64 x1, .int .i64 x2, .int .i64 x3, .int .i64 x4, .int .i64 x5, .int .i64 x6] #[.int .i64 y0, .int .i64 y1, .int .i64 y2, .int .i64 y3, .int .i64 y4, .int .i64 y5, .int .i64 y6] Try.underlying161 hi
  have p0 := run_part_plain (P := Try.prog) X he (xs := #[.int .i64 x0, .int .i64 x1, .int .i64 x2, .int .i64 x3, .int .i64 x4, .int .i64 x5, .int .i64 x6]) (off := 0) rfl
  have r0 := run_part_plain (P := Try.prog) X he (xs := #[.int .i64 y0, .int .i64 y1, .int .i64 y2, .int .i64 y3, .int .i64 y4, .int .i64 y5, .int .i64 y6]) (off := 0) rfl
  have q0 := run_equalIn_int (P := Try.prog) X 9998 2 .i64 .i64 x0 y0 Try.underlying2
  have p1 := run_part_plain (P := Try.prog) X he (xs := #[.int .i64 x0, .int .i64 x1, .int .i64 x2, .int .i64 x3, .int .i64 x4, .int .i64 x5, .int .i64 x6]) (off := 1) rfl
  have r1 := run_part_plain (P := Try.prog) X he (xs := #[.int .i64 y0, .int .i64 y1, .int .i64 y2, .int .i64 y3, .int .i64 y4, .int .i64 y5, .int .i64 y6]) (off := 1) rfl
  have q1 := run_equalIn_int (P := Try.prog) X 9998 2 .i64 .i64 x1 y1 Try.underlying2
  have p2 := run_part_plain (P := Try.prog) X he (xs := #[.int .i64 x0, .int .i64 x1, .int .i64 x2, .int .i64 x3, .int .i64 x4, .int .i64 x5, .int .i64 x6]) (off := 2) rfl
  have r2 := run_part_plain (P := Try.prog) X he (xs := #[.int .i64 y0, .int .i64 y1, .int .i64 y2, .int .i64 y3, .int .i64 y4, .int .i64 y5, .int .i64 y6]) (off := 2) rfl
  have q2 := run_equalIn_int (P := Try.prog) X 9998 2 .i64 .i64 x2 y2 Try.underlying2
  have p3 := run_part_plain (P := Try.prog) X he (xs := #[.int .i64 x0, .int .i64 x1, .int .i64 x2, .int .i64 x3, .int .i64 x4, .int .i64 x5, .int .i64 x6]) (off := 3) rfl
  have r3 := run_part_plain (P := Try.prog) X he (xs := #[.int .i64 y0, .int .i64 y1, .int .i64 y2, .int .i64 y3, .int .i64 y4, .int .i64 y5, .int .i64 y6]) (off := 3) rfl
  have q3 := run_equalIn_int (P := Try.prog) X 9998 2 .i64 .i64 x3 y3 Try.underlying2
  have p4 := run_part_plain (P := Try.prog) X he (xs := #[.int .i64 x0, .int .i64 x1, .int .i64 x2, .int .i64 x3, .int .i64 x4, .int .i64 x5, .int .i64 x6]) (off := 4) rfl
  have r4 := run_part_plain (P := Try.prog) X he (xs := #[.int .i64 y0, .int .i64 y1, .int .i64 y2, .int .i64 y3, .int .i64 y4, .int .i64 y5, .int .i64 y6]) (off := 4) rfl
  have q4 := run_equalIn_int (P := Try.prog) X 9998 2 .i64 .i64 x4 y4 Try.underlying2
  have p5 := run_part_plain (P := Try.prog) X he (xs := #[.int .i64 x0, .int .i64 x1, .int .i64 x2, .int .i64 x3, .int .i64 x4, .int .i64 x5, .int .i64 x6]) (off := 5) rfl
  have r5 := run_part_plain (P := Try.prog) X he (xs := #[.int .i64 y0, .int .i64 y1, .int .i64 y2, .int .i64 y3, .int .i64 y4, .int .i64 y5, .int .i64 y6]) (off := 5) rfl
  have q5 := run_equalIn_int (P := Try.prog) X 9998 2 .i64 .i64 x5 y5 Try.underlying2
  have p6 := run_part_plain (P := Try.prog) X he (xs := #[.int .i64 x0, .int .i64 x1, .int .i64 x2, .int .i64 x3, .int .i64 x4, .int .i64 x5, .int .i64 x6]) (off := 6) rfl
  have r6 := run_part_plain (P := Try.prog) X he (xs := #[.int .i64 y0, .int .i64 y1, .int .i64 y2, .int .i64 y3, .int .i64 y4, .int .i64 y5, .int .i64 y6]) (off := 6) rfl
  have q6 := run_equalIn_int (P := Try.prog) X 9998 2 .i64 .i64 x6 y6 Try.underlying2
  go_simp
  by_cases h0 : x0 = y0
  · subst h0
    by_cases h1 : x1 = y1
    · subst h1
      by_cases h2 : x2 = y2
      · subst h2
        by_cases h3 : x3 = y3
        · subst h3
          by_cases h4 : x4 = y4
          · subst h4
            by_cases h5 : x5 = y5
            · subst h5
              by_cases h6 : x6 = y6
              · subst h6
                simp [Op.eqItems, List.range_succ, k1, p0, r0, q0, p1, r1, q1, p2, r2, q2, p3, r3, q3, p4, r4, q4, p5, r5, q5, p6, r6, q6]
              · have e6 : (x6 == y6) = false := by simpa using h6
                simp [Op.eqItems, List.range_succ, k1, p0, r0, q0, p1, r1, q1, p2, r2, q2, p3, r3, q3, p4, r4, q4, p5, r5, q5, p6, r6, q6, h6]
            · have e5 : (x5 == y5) = false := by simpa using h5
              simp [Op.eqItems, List.range_succ, k1, p0, r0, q0, p1, r1, q1, p2, r2, q2, p3, r3, q3, p4, r4, q4, p5, r5, q5, p6, r6, q6, h5]
          · have e4 : (x4 == y4) = false := by simpa using h4
            simp [Op.eqItems, List.range_succ, k1, p0, r0, q0, p1, r1, q1, p2, r2, q2, p3, r3, q3, p4, r4, q4, p5, r5, q5, p6, r6, q6, h4]
        · have e3 : (x3 == y3) = false := by simpa using h3
          simp [Op.eqItems, List.range_succ, k1, p0, r0, q0, p1, r1, q1, p2, r2, q2, p3, r3, q3, p4, r4, q4, p5, r5, q5, p6, r6, q6, h3]
      · have e2 : (x2 == y2) = false := by simpa using h2
        simp [Op.eqItems, List.range_succ, k1, p0, r0, q0, p1, r1, q1, p2, r2, q2, p3, r3, q3, p4, r4, q4, p5, r5, q5, p6, r6, q6, h2]
    · have e1 : (x1 == y1) = false := by simpa using h1
      simp [Op.eqItems, List.range_succ, k1, p0, r0, q0, p1, r1, q1, p2, r2, q2, p3, r3, q3, p4, r4, q4, p5, r5, q5, p6, r6, q6, h1]
  · have e0 : (x0 == y0) = false := by simpa using h0
    simp [Op.eqItems, List.range_succ, k1, p0, r0, q0, p1, r1, q1, p2, r2, q2, p3, r3, q3, p4, r4, q4, p5, r5, q5, p6, r6, q6, h0]
theorem side_eql (a b : Si) (X : World) : (binOp .eql 54 a.val b.val).run Try.prog X = .ok (.bool (decide (a = b))) X := by
  obtain ⟨a0, a1, a2, a3, a4, a5⟩ := a
  obtain ⟨b0, b1, b2, b3, b4, b5⟩ := b
  unfold Si.val
  dsimp only
  by_cases h0 : a0 = b0
  · skip
    by_cases h1 : a1 = b1
    · skip
      by_cases h2 : a2 = b2
      · skip
        by_cases h3 : a3 = b3
        · skip
          by_cases h4 : a4 = b4
          · skip
            by_cases h5 : a5 = b5
            · skip
              subst h0 h1 h2 h3 h4 h5; go_simp
            · subst h0 h1 h2 h3 h4; go_simp
          · subst h0 h1 h2 h3; go_simp
        · subst h0 h1 h2; go_simp
      · subst h0 h1; go_simp
    · subst h0; go_simp
  · go_simp
theorem side_neq (a b : Si) (X : World) : (binOp .neq 54 a.val b.val).run Try.prog X = .ok (.bool (!decide (a = b))) X := by
  obtain ⟨a0, a1, a2, a3, a4, a5⟩ := a
  obtain ⟨b0, b1, b2, b3, b4, b5⟩ := b
  unfold Si.val
  dsimp only
  by_cases h0 : a0 = b0
  · skip
    by_cases h1 : a1 = b1
    · skip
      by_cases h2 : a2 = b2
      · skip
        by_cases h3 : a3 = b3
        · skip
          by_cases h4 : a4 = b4
          · skip
            by_cases h5 : a5 = b5
            · skip
              subst h0 h1 h2 h3 h4 h5; go_simp
            · subst h0 h1 h2 h3 h4; go_simp
          · subst h0 h1 h2 h3; go_simp
        · subst h0 h1 h2; go_simp
      · subst h0 h1; go_simp
    · subst h0; go_simp
  · go_simp
end Go.Proofs.Ytceippgkmoijdaa
