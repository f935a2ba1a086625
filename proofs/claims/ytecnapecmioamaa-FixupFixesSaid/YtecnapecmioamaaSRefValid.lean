/- Contract of the document's Valid: whether a style is valid. -/
import Derived.Test.YtecnapecmioamaaSComp
namespace Go.Proofs.Ytecnapecmioamaa
open Go.RowKit Go.Shelf
set_option linter.unusedVariables false

theorem sides_upto (f : Nat → Sd) (h : ∀ j, j < 4 → sideB (f j) = true) : sidesB f = true := by
  simp [sidesB, h 0 (by omega), h 1 (by omega), h 2 (by omega), h 3 (by omega)]
theorem valid_no1 {s : Sty} (h : sizeB s.wk s.wn = false) : validS s = false := by simp [validS, h]
theorem valid_no2 {s : Sty} (h : sizeB s.hk s.hn = false) : validS s = false := by simp [validS, h]
theorem valid_no3 {s : Sty} (h : s.al < 0 ∨ 3 < s.al) : validS s = false := by
  have : (decide (0 ≤ s.al) && decide (s.al ≤ 3)) = false := by simp; omega
  simp [validS, this]
theorem valid_rest {s : Sty} (h1 : sizeB s.wk s.wn = true) (h2 : sizeB s.hk s.hn = true) (h3 : ¬ s.al < 0) (h4 : ¬ 3 < s.al) (h5 : sidesB s.sd = true) : validS s = (inPx s.g0 && (inPx s.g1 && (spanB s.cs && spanB s.rs))) := by
  have : (decide (0 ≤ s.al) && decide (s.al ≤ 3)) = true := by simp; omega
  simp [validS, h1, h2, h5, this, Bool.and_assoc]
theorem cells_sty (u : Sty) (k : Nat) (hk : k < 4) : u.cells[8 + k * 3]? = some (.int .i64 (u.sd k).s) := by
  obtain rfl | rfl | rfl | rfl : k = 0 ∨ k = 1 ∨ k = 2 ∨ k = 3 := by omega
  all_goals rfl
theorem cells_col (u : Sty) (k : Nat) (hk : k < 4) : u.cells[8 + k * 3 + 2]? = some (.int .u32 (u.sd k).c) := by
  obtain rfl | rfl | rfl | rfl : k = 0 ∨ k = 1 ∨ k = 2 ∨ k = 3 := by omega
  all_goals rfl
set_option maxRecDepth 100000 in
set_option maxHeartbeats 8000000 in
theorem refValid_any (s : Sty) (w : World) : Calls Try.prog 39 #[s.val] w fun e W' => e = .returned (.bool (validS s)) ∧ Below w.heap.size w W' := by
  obtain ⟨cs, hcs⟩ : ∃ cs, s.cells.toArray = cs := ⟨_, rfl⟩
  have kb : Whole (w.alloc (.cells cs 44)) w.heap.size 44 s.cells := by rw [← hcs]; exact whole_new w s.cells 44 _ rfl
  have d0 : (w.alloc (.cells cs 44)).cell? ⟨w.heap.size, 0, none⟩ = some (.int .i64 s.wk) := kb.cellAt 0
  have d1 : (w.alloc (.cells cs 44)).cell? ⟨w.heap.size, 1, none⟩ = some (.int .i64 s.wn) := kb.cellAt 1
  have KB := Lib.hid kb
  have HB : Hid (Below w.heap.size w (w.alloc (.cells cs 44))) := Lib.hid ((Below.refl _ w).alloc (Nat.le_refl _) _)
  have S1 := Lib.hid (fun X => refSize_any s.wk s.wn X)
  have S2 := Lib.hid (fun X => refSize_any s.hk s.hn X)
  rw [show s.val = .agg s.cells.toArray from rfl, hcs]
  clear kb hcs
  cases h1 : sizeB s.wk s.wn with
  | false =>
    rw [h1] at S1
    have hv := valid_no1 h1
    clear h1
    go_enter Try.func39, Try.ntmps39
    go_wp2_with (first
      | (go_at_call 52; refine (S1.out _).mono ?_; clear S1; rintro e w1 ⟨rfl, hb1⟩; have b1 := Lib.hid (HB.out.trans (hb1.mono (by simp))); have k1 := Lib.hid (KB.out.below hb1 (by simp)); have l1 := k1.out.lt; have e2 : w1.cell? ⟨w.heap.size, 2, none⟩ = some (.int .i64 s.hk) := k1.out.cellAt 2; have e3 : w1.cell? ⟨w.heap.size, 3, none⟩ = some (.int .i64 s.hn) := k1.out.cellAt 3; clear hb1))
    go_ret
    exact ⟨by first | (rw [hv]; rfl) | (rw [hv]; done) | rfl | (simp; omega) | (simp [hv]; omega), b1.out⟩
  | true =>
    rw [h1] at S1
    cases h2 : sizeB s.hk s.hn with
    | false =>
      rw [h2] at S2
      have hv := valid_no2 h2
      clear h1 h2
      go_enter Try.func39, Try.ntmps39
      go_wp2_with (first
        | (go_at_call 52; refine (S1.out _).mono ?_; clear S1; rintro e w1 ⟨rfl, hb1⟩; have b1 := Lib.hid (HB.out.trans (hb1.mono (by simp))); have k1 := Lib.hid (KB.out.below hb1 (by simp)); have l1 := k1.out.lt; have e2 : w1.cell? ⟨w.heap.size, 2, none⟩ = some (.int .i64 s.hk) := k1.out.cellAt 2; have e3 : w1.cell? ⟨w.heap.size, 3, none⟩ = some (.int .i64 s.hn) := k1.out.cellAt 3; clear hb1)
        | (go_at_call 52; refine (S2.out _).mono ?_; clear S2; rintro e w2 ⟨rfl, hb2⟩; have b2 := Lib.hid (b1.out.trans (hb2.mono b1.out.size)); have k2 := Lib.hid (k1.out.below hb2 l1); have l2 := k2.out.lt; have e22 : w2.cell? ⟨w.heap.size, 22, none⟩ = some (.int .i64 s.al) := k2.out.cellAt 22; clear hb2))
      go_ret
      exact ⟨by first | (rw [hv]; rfl) | (rw [hv]; done) | rfl | (simp; omega) | (simp [hv]; omega), b2.out⟩
    | true =>
      rw [h2] at S2
      by_cases ha0 : s.al < 0
      · have hv := valid_no3 (.inl ha0)
        clear h1 h2
        go_enter Try.func39, Try.ntmps39
        go_wp2_with (first
          | (go_at_call 52; refine (S1.out _).mono ?_; clear S1; rintro e w1 ⟨rfl, hb1⟩; have b1 := Lib.hid (HB.out.trans (hb1.mono (by simp))); have k1 := Lib.hid (KB.out.below hb1 (by simp)); have l1 := k1.out.lt; have e2 : w1.cell? ⟨w.heap.size, 2, none⟩ = some (.int .i64 s.hk) := k1.out.cellAt 2; have e3 : w1.cell? ⟨w.heap.size, 3, none⟩ = some (.int .i64 s.hn) := k1.out.cellAt 3; clear hb1)
          | (go_at_call 52; refine (S2.out _).mono ?_; clear S2; rintro e w2 ⟨rfl, hb2⟩; have b2 := Lib.hid (b1.out.trans (hb2.mono b1.out.size)); have k2 := Lib.hid (k1.out.below hb2 l1); have l2 := k2.out.lt; have e22 : w2.cell? ⟨w.heap.size, 22, none⟩ = some (.int .i64 s.al) := k2.out.cellAt 22; clear hb2))
        go_ret
        exact ⟨by first | (rw [hv]; rfl) | (rw [hv]; done) | rfl | (simp; omega) | (simp [hv]; omega), b2.out⟩
      · by_cases ha3 : 3 < s.al
        · have hv := valid_no3 (.inr ha3)
          clear h1 h2
          go_enter Try.func39, Try.ntmps39
          go_wp2_with (first
            | (go_at_call 52; refine (S1.out _).mono ?_; clear S1; rintro e w1 ⟨rfl, hb1⟩; have b1 := Lib.hid (HB.out.trans (hb1.mono (by simp))); have k1 := Lib.hid (KB.out.below hb1 (by simp)); have l1 := k1.out.lt; have e2 : w1.cell? ⟨w.heap.size, 2, none⟩ = some (.int .i64 s.hk) := k1.out.cellAt 2; have e3 : w1.cell? ⟨w.heap.size, 3, none⟩ = some (.int .i64 s.hn) := k1.out.cellAt 3; clear hb1)
            | (go_at_call 52; refine (S2.out _).mono ?_; clear S2; rintro e w2 ⟨rfl, hb2⟩; have b2 := Lib.hid (b1.out.trans (hb2.mono b1.out.size)); have k2 := Lib.hid (k1.out.below hb2 l1); have l2 := k2.out.lt; have e22 : w2.cell? ⟨w.heap.size, 22, none⟩ = some (.int .i64 s.al) := k2.out.cellAt 22; clear hb2))
          go_ret
          exact ⟨by first | (rw [hv]; rfl) | (rw [hv]; done) | rfl | (simp; omega) | (simp [hv]; omega), b2.out⟩
        · have HV := Lib.hid (valid_rest h1 h2 ha0 ha3)
          clear h1 h2
          go_enter Try.func39, Try.ntmps39
          go_wp2_with (first
            | (go_at_call 52; refine (S1.out _).mono ?_; clear S1; rintro e w1 ⟨rfl, hb1⟩; have b1 := Lib.hid (HB.out.trans (hb1.mono (by simp))); have k1 := Lib.hid (KB.out.below hb1 (by simp)); have l1 := k1.out.lt; have e2 : w1.cell? ⟨w.heap.size, 2, none⟩ = some (.int .i64 s.hk) := k1.out.cellAt 2; have e3 : w1.cell? ⟨w.heap.size, 3, none⟩ = some (.int .i64 s.hn) := k1.out.cellAt 3; clear hb1)
            | (go_at_call 52; refine (S2.out _).mono ?_; clear S2; rintro e w2 ⟨rfl, hb2⟩; have b2 := Lib.hid (b1.out.trans (hb2.mono b1.out.size)); have k2 := Lib.hid (k1.out.below hb2 l1); have l2 := k2.out.lt; have e22 : w2.cell? ⟨w.heap.size, 22, none⟩ = some (.int .i64 s.al) := k2.out.cellAt 22; clear hb2))
          clear HB KB k1 b1 e2 e3 l1 d0 d1
          go_loopw [3] (fun i wr => ∃ k : Nat, k ≤ 4 ∧ i = .int .i64 k ∧ Hid (∀ j, j < k → sideB (s.sd j) = true) ∧ Hid (Below w2.heap.size w2 wr)) (fun i _ => 4 - (intOf i).toNat)
          case atStart => exact ⟨0, Nat.zero_le _, rfl, Lib.hid (fun j h => absurd h (by omega)), Lib.hid (Below.refl _ _)⟩
          case round =>
            obtain ⟨k, hk, rfl, hgood, hbr⟩ := hrel
            have KR := Lib.hid (k2.out.below hbr.out l2)
            have lr := KR.out.lt
            have zr := hbr.out.size
            have BR := Lib.hid (b2.out.trans (hbr.out.mono b2.out.size))
            have zb := BR.out.size
            by_cases hlt : k < 4
            · have hbad : Hid (sideB (s.sd k) = false → validS s = false) := Lib.hid (fun h => by have := sides_bad s.sd (k, s.sd k) k hlt rfl h; simp [validS, this])
              have qp := (KR.out.cellAt (4 + k)).trans (cells_pad s k hlt)
              have qs := (KR.out.cellAt (8 + k * 3)).trans (cells_sty s k hlt)
              have qw := (KR.out.cellAt (8 + k * 3 + 1)).trans (cells_wid s k hlt)
              have qc := (KR.out.cellAt (8 + k * 3 + 2)).trans (cells_col s k hlt)
              have hk4 : (k : Int) < 4 := by omega
              have hstep : Hid (sideB (s.sd k) = true → ∀ j, j < k + 1 → sideB (s.sd j) = true) := Lib.hid (fun h j hj => by
                by_cases e : j = k
                · rw [e]; exact h
                · exact hgood.out j (by omega))
              obtain ⟨⟨p, s', w', c⟩, ek⟩ : ∃ a, s.sd k = a := ⟨_, rfl⟩
              rw [ek] at qp qs qw qc hbad hstep
              dsimp only at qp qs qw qc
              have P1 := Lib.hid (fun X => refLen_any p X)
              have P2 := Lib.hid (fun X => refLen_any w' X)
              have hdef : sideB ⟨p, s', w', c⟩ = (inPx p && inPx w' && (decide (0 ≤ s') && decide (s' ≤ 9))) := rfl
              clear hgood ek KR ha0 ha3 e22
              cases i1 : inPx p with
              | false =>
                rw [i1] at P1
                have hv := hbad.out (by rw [hdef]; rw [i1]; rfl)
                clear hdef hstep hbad
                go_wp2_with (first
                  | (go_at_call 53; refine (P1.out _).mono ?_; clear P1; rintro e wx ⟨rfl, rfl⟩))
                go_ret
                exact ⟨by first | (rw [hv]; rfl) | (rw [hv]; done) | rfl | (simp; omega) | (simp [hv]; omega), BR.out.alloc zb _⟩
              | true =>
                rw [i1] at P1
                cases i2 : inPx w' with
                | false =>
                  rw [i2] at P2
                  have hv := hbad.out (by rw [hdef]; rw [i1, i2]; rfl)
                  clear hdef hstep hbad
                  go_wp2_with (first
                    | (go_at_call 53; refine (P1.out _).mono ?_; clear P1; rintro e wx ⟨rfl, rfl⟩)
                    | (go_at_call 53; refine (P2.out _).mono ?_; clear P2; rintro e wy ⟨rfl, rfl⟩))
                  go_ret
                  exact ⟨by first | (rw [hv]; rfl) | (rw [hv]; done) | rfl | (simp; omega) | (simp [hv]; omega), BR.out.alloc zb _⟩
                | true =>
                  rw [i2] at P2
                  by_cases i3 : s' < 0
                  · skip
                    have hv := hbad.out (by rw [hdef]; simp; omega)
                    clear hdef hstep hbad
                    go_wp2_with (first
                      | (go_at_call 53; refine (P1.out _).mono ?_; clear P1; rintro e wx ⟨rfl, rfl⟩)
                      | (go_at_call 53; refine (P2.out _).mono ?_; clear P2; rintro e wy ⟨rfl, rfl⟩))
                    go_ret
                    exact ⟨by first | (rw [hv]; rfl) | (rw [hv]; done) | rfl | (simp; omega) | (simp [hv]; omega), BR.out.alloc zb _⟩
                  · by_cases i4 : 9 < s'
                    · skip
                      have hv := hbad.out (by rw [hdef]; simp; omega)
                      clear hdef hstep hbad
                      go_wp2_with (first
                        | (go_at_call 53; refine (P1.out _).mono ?_; clear P1; rintro e wx ⟨rfl, rfl⟩)
                        | (go_at_call 53; refine (P2.out _).mono ?_; clear P2; rintro e wy ⟨rfl, rfl⟩))
                      go_ret
                      exact ⟨by first | (rw [hv]; rfl) | (rw [hv]; done) | rfl | (simp; omega) | (simp [hv]; omega), BR.out.alloc zb _⟩
                    · have hg := Lib.hid (hstep.out (by rw [hdef, i1, i2]; simp; omega))
                      clear hdef hstep hbad i1 i2
                      go_wp2_with (first
                        | (go_at_call 53; refine (P1.out _).mono ?_; clear P1; rintro e wx ⟨rfl, rfl⟩)
                        | (go_at_call 53; refine (P2.out _).mono ?_; clear P2; rintro e wy ⟨rfl, rfl⟩))
                      go_roundw
                      case rel => exact ⟨k + 1, by omega, by simp, hg, Lib.hid (hbr.out.alloc zr _)⟩
                      case measure => simp [intOf]; omega
            · have hk4 : k = 4 := by omega
              have hr := HV.out (sides_upto s.sd (fun j hj => hgood.out j (by omega)))
              have q25 : wr.cell? ⟨w.heap.size, 25, none⟩ = some (.int .i64 s.g0) := KR.out.cellAt 25
              have q26 : wr.cell? ⟨w.heap.size, 26, none⟩ = some (.int .i64 s.g1) := KR.out.cellAt 26
              have q20 : wr.cell? ⟨w.heap.size, 20, none⟩ = some (.int .i64 s.cs) := KR.out.cellAt 20
              have q21 : wr.cell? ⟨w.heap.size, 21, none⟩ = some (.int .i64 s.rs) := KR.out.cellAt 21
              have P1 := Lib.hid (fun X => refLen_any s.g0 X)
              have P2 := Lib.hid (fun X => refLen_any s.g1 X)
              clear hgood KR ha0 ha3 e22 HV
              cases i1 : inPx s.g0 with
              | false =>
                rw [i1] at P1
                have hv : validS s = false := by rw [hr]; rw [i1]; rfl
                clear hr
                go_wp2_with (first
                  | (go_at_call 53; refine (P1.out _).mono ?_; clear P1; rintro e wx ⟨rfl, rfl⟩))
                go_ret
                exact ⟨by first | (rw [hv]; rfl) | (rw [hv]; done) | rfl | (simp; omega) | (simp [hv]; omega), BR.out⟩
              | true =>
                rw [i1] at P1
                cases i2 : inPx s.g1 with
                | false =>
                  rw [i2] at P2
                  have hv : validS s = false := by rw [hr]; rw [i1, i2]; rfl
                  clear hr
                  go_wp2_with (first
                    | (go_at_call 53; refine (P1.out _).mono ?_; clear P1; rintro e wx ⟨rfl, rfl⟩)
                    | (go_at_call 53; refine (P2.out _).mono ?_; clear P2; rintro e wy ⟨rfl, rfl⟩))
                  go_ret
                  exact ⟨by first | (rw [hv]; rfl) | (rw [hv]; done) | rfl | (simp; omega) | (simp [hv]; omega), BR.out⟩
                | true =>
                  rw [i2] at P2
                  rw [i1, i2] at hr
                  by_cases i3 : s.cs < -1000
                  · skip
                    have hv : validS s = false := by rw [hr]; simp [spanB]; omega
                    clear hr
                    go_wp2_with (first
                      | (go_at_call 53; refine (P1.out _).mono ?_; clear P1; rintro e wx ⟨rfl, rfl⟩)
                      | (go_at_call 53; refine (P2.out _).mono ?_; clear P2; rintro e wy ⟨rfl, rfl⟩))
                    go_ret
                    exact ⟨by first | (rw [hv]; rfl) | (rw [hv]; done) | rfl | (simp; omega) | (simp [hv]; omega), BR.out⟩
                  · by_cases i4 : 1000 < s.cs
                    · skip
                      have hv : validS s = false := by rw [hr]; simp [spanB]; omega
                      clear hr
                      go_wp2_with (first
                        | (go_at_call 53; refine (P1.out _).mono ?_; clear P1; rintro e wx ⟨rfl, rfl⟩)
                        | (go_at_call 53; refine (P2.out _).mono ?_; clear P2; rintro e wy ⟨rfl, rfl⟩))
                      go_ret
                      exact ⟨by first | (rw [hv]; rfl) | (rw [hv]; done) | rfl | (simp; omega) | (simp [hv]; omega), BR.out⟩
                    · by_cases i5 : s.rs < -1000
                      · skip
                        have hv : validS s = false := by rw [hr]; simp [spanB]; omega
                        clear hr
                        go_wp2_with (first
                          | (go_at_call 53; refine (P1.out _).mono ?_; clear P1; rintro e wx ⟨rfl, rfl⟩)
                          | (go_at_call 53; refine (P2.out _).mono ?_; clear P2; rintro e wy ⟨rfl, rfl⟩))
                        go_ret
                        exact ⟨by first | (rw [hv]; rfl) | (rw [hv]; done) | rfl | (simp; omega) | (simp [hv]; omega), BR.out⟩
                      · by_cases i6 : 1000 < s.rs
                        · skip
                          have hv : validS s = false := by rw [hr]; simp [spanB]; omega
                          clear hr
                          go_wp2_with (first
                            | (go_at_call 53; refine (P1.out _).mono ?_; clear P1; rintro e wx ⟨rfl, rfl⟩)
                            | (go_at_call 53; refine (P2.out _).mono ?_; clear P2; rintro e wy ⟨rfl, rfl⟩))
                          go_ret
                          exact ⟨by first | (rw [hv]; rfl) | (rw [hv]; done) | rfl | (simp; omega) | (simp [hv]; omega), BR.out⟩
                        · skip
                          have hv : validS s = true := by rw [hr]; simp [spanB]; omega
                          clear hr
                          go_wp2_with (first
                            | (go_at_call 53; refine (P1.out _).mono ?_; clear P1; rintro e wx ⟨rfl, rfl⟩)
                            | (go_at_call 53; refine (P2.out _).mono ?_; clear P2; rintro e wy ⟨rfl, rfl⟩))
                          go_ret
                          exact ⟨by first | (rw [hv]; rfl) | (rw [hv]; done) | rfl | (simp; omega) | (simp [hv]; omega), BR.out⟩
end Go.Proofs.Ytecnapecmioamaa
