/- Contracts of the columns' methods of package grid (free, gap, take), and of grid.high. -/
import Derived.Test.YtcgnldcdcbnofaaGPlain
import Derived.Test.YtcgnldcdcbnofaaGSp
import Derived.Test.YtcgnldcdcbnofaaSBase
import Derived.Maps.AppendAt
import Derived.Deep.AppendLies
import Derived.Laws.OwnMore
namespace Go.Proofs.Ytcgnldcdcbnofaa
open Go.RowKit Go.Shelf
set_option linter.unusedVariables false
attribute [local go_sem] Oper.semAt_some

/-- numbers that are no less than 0, as the program's -/
def zz (t : List Nat) : List Int := t.map fun (n : Nat) => (n : Int)
theorem zz_get (t : List Nat) (c z : Nat) (h : t[c]? = some z) : (zz t)[c]?.getD 0 = (z : Int) := by simp [zz, h]
theorem zz_len (t : List Nat) : (zz t).length = t.length := by simp [zz]
theorem ints_at (W : World) (p : Option Addr) (l c : Nat) (t : List Nat) (h : Ints W (.slice p l c) (zz t)) (i z : Nat) (hz : t[i]? = some z) :
    ∃ b off, p = some ⟨b, off, none⟩ ∧ W.cell? ⟨b, off + i, none⟩ = some (.int .i64 (z : Int)) ∧ b < W.heap.size := by
  have hi := (List.getElem?_eq_some_iff.1 hz).1
  obtain ⟨_, ⟨a, c', e, h0⟩ | ⟨b, off, c', e, hc⟩⟩ := h
  · have := congrArg List.length h0
    rw [zz_len] at this; simp only [List.length_nil] at this; omega
  · injection e with e1 e2 e3
    have := hc i (by rw [zz_len]; exact hi)
    rw [zz_get t i z hz] at this
    exact ⟨b, off, e1, this, cell_lt this⟩
set_option maxHeartbeats 1000000 in
theorem free_any (p : Option Addr) (l c : Nat) (t : List Nat) (row col : Nat) (w : World) (hl : t.length = l) (hI : Ints w (.slice p l c) (zz t)) :
    Calls Try.prog 46 #[.slice p l c, .int .i64 row, .int .i64 col] w fun e w' => e = .returned (.bool (freeB t row col)) ∧ w = w' := by
  by_cases h : l ≤ col
  · have hb := Lib.hid (freeB_out (row := row) (t := t) (c := col) (by omega))
    have hd : decide ((col : Int) ≥ (l : Int)) = true := by simp; omega
    clear hI hl
    go_enter Try.func46, Try.ntmps46
    go_wp2
    go_ret
    exact ⟨by rw [hb.out]; first | rfl | (simp; done) | (simp; omega), rfl⟩
  · obtain ⟨z, hz⟩ : ∃ z, t[col]? = some z := ⟨_, List.getElem?_eq_getElem (by omega)⟩
    have hb := Lib.hid (freeB_at (row := row) hz)
    obtain ⟨b, off, rfl, cz, lb⟩ := ints_at w p l c t hI col z hz
    have hd : decide ((col : Int) ≥ (l : Int)) = false := by simp; omega
    clear hI hl hz
    go_enter Try.func46, Try.ntmps46
    go_wp2
    go_ret
    exact ⟨by rw [hb.out]; first | rfl | (simp; done) | (simp; omega), rfl⟩
def JG (p : Option Addr) (l c : Nat) (t : List Nat) (row col most : Nat) (w : World) : Act → World → Prop := fun a X =>
  ∃ (cc : Nat) (ci : Int) (x10 x11 x12 x13 x14 x15 x16 x17 x18 x19 x20 x21 x22 x23 x24 x25 x26 x27 x28 x29 : Value),
    a = { tmps := #[.slice p l c, .int .i64 row, .int .i64 ci, .int .i64 most, undef, undef, undef, undef, .int .i64 0, .int .i64 0, x10, x11, x12, x13, x14, x15, x16, x17, x18, x19, x20, x21, x22, x23, x24, x25, x26, x27, x28, x29], defers := [] } ∧ w = X ∧ ci = (cc : Int) ∧ Hid (firstF t row cc = firstF t row col ∧ cc ≤ l)
set_option maxRecDepth 100000 in
set_option maxHeartbeats 2000000 in
theorem gap_at (p : Option Addr) (l c : Nat) (t : List Nat) (row col most : Nat) (w : World) (hl : t.length = l) (hl2 : l ≤ 100000) (hc : col ≤ l) (hm : 1 ≤ most) (hm2 : most ≤ 100000) (hI : Ints w (.slice p l c) (zz t)) :
    Calls Try.prog 28 #[.slice p l c, .int .i64 row, .int .i64 col, .int .i64 most] w fun e w' => e = .returned (.tuple #[.int .i64 (firstF t row col : Nat), .int .i64 (wideF t row (firstF t row col) most : Nat)]) ∧ w = w' := by
  have HI := Lib.hid hI
  have HL := Lib.hid hl
  clear hI hl
  go_enter Try.func28, Try.ntmps28
  go_wp2
  refine wp_scope_jumps 0 (JG p l c t row col most w) (fun a _ => l - (intOf (a.tmps.getD 2 undef)).toNat) rfl ?first ?pass
  case first =>
    go_wp2
    refine wp_label ?_
    obtain ⟨cc, hcc⟩ : ∃ cc, cc = col := ⟨_, rfl⟩
    have HJ : Hid (firstF t row cc = firstF t row col ∧ cc ≤ l) := Lib.hid ⟨by rw [hcc], by omega⟩
    rw [← hcc]
    clear hcc
    go_wp2
    go_loopw [10] (fun s10 X => ∃ k : Nat, k ≤ most ∧ s10 = .int .i64 (k : Int) ∧ w = X ∧ Hid (∀ j, j < k → freeB t row (cc + j) = true)) (fun s10 _ => most - (intOf s10).toNat)
    case atStart => exact ⟨0, Nat.zero_le _, rfl, rfl, Lib.hid (fun j h => by omega)⟩
    case round =>
      obtain ⟨k, hk, rfl, rfl, HA⟩ := hrel
      have hccl := HJ.out.2
      have HF := Lib.hid (free_any p l c t row (cc + k) w HL.out HI.out)
      have ec : ((cc + k : Nat) : Int) = (cc : Int) + (k : Int) := by omega
      rw [ec] at HF
      clear ec
      by_cases hlt : k < most
      · cases hf : freeB t row (cc + k) with
        | true =>
          rw [hf] at HF
          have HA2 : Hid (∀ j, j < k + 1 → freeB t row (cc + j) = true) := Lib.hid fun j hj => by
            by_cases e : j = k
            · subst e; exact hf
            · exact HA.out j (by omega)
          clear hf HA
          go_wp2_with (go_at_call 46; refine HF.out.mono ?_; clear HF; rintro e w1 ⟨rfl, rfl⟩)
          go_roundw
          case rel => exact ⟨k + 1, by omega, by go_num, by first | rfl | trivial, HA2⟩
          case measure => simp [intOf]; omega
        | false =>
          rw [hf] at HF
          have HFF := Lib.hid hf
          clear hf
          by_cases hk0 : k = 0
          · subst hk0
            have HJ2 : Hid (firstF t row (cc + 1) = firstF t row col ∧ cc + 1 ≤ l) := Lib.hid ⟨by rw [← HJ.out.1]; exact (firstF_step HFF.out).symm, by have := freeB_lt HFF.out; have := HL.out; omega⟩
            clear HA HFF
            go_wp2_with (go_at_call 46; refine HF.out.mono ?_; clear HF; rintro e w1 ⟨rfl, rfl⟩)
            apply wp_goto
            exact ⟨rfl, cc + 1, _, _, _, _, _, _, _, _, _, _, _, _, _, _, _, _, _, _, _, _, _, rfl, rfl, by omega, HJ2⟩
          · have HE : Hid (firstF t row col = cc ∧ wideF t row cc most = k) := Lib.hid ⟨by rw [← HJ.out.1]; exact firstF_eq (Nat.le_refl _) (fun j h1 h2 => by omega) (HA.out 0 (by omega)), wideF_eq hk HA.out (.inr HFF.out)⟩
            clear HA HFF
            go_wp2_with (go_at_call 46; refine HF.out.mono ?_; clear HF; rintro e w1 ⟨rfl, rfl⟩)
            simp only [Exit.jump]
            refine bodyPost_ret (v := .tuple #[.int .i64 (cc : Int), .int .i64 (k : Int)]) (by simp [results, Try.results28, go_sem]) rfl ⟨?_, rfl⟩
            rw [HE.out.1, HE.out.2]
      · obtain rfl : k = most := by omega
        have HE : Hid (firstF t row col = cc ∧ wideF t row cc k = k) := Lib.hid ⟨by rw [← HJ.out.1]; exact firstF_eq (Nat.le_refl _) (fun j h1 h2 => by omega) (HA.out 0 (by omega)), wideF_eq (Nat.le_refl _) HA.out (.inl rfl)⟩
        have hk0 : ¬ k = 0 := by omega
        clear HA HF
        go_wp2
        simp only [Exit.jump]
        refine bodyPost_ret (v := .tuple #[.int .i64 (cc : Int), .int .i64 (k : Int)]) (by simp [results, Try.results28, go_sem]) rfl ⟨?_, rfl⟩
        rw [HE.out.1, HE.out.2]
  case pass =>
    rintro a X ⟨cc, ci, x10, x11, x12, x13, x14, x15, x16, x17, x18, x19, x20, x21, x22, x23, x24, x25, x26, x27, x28, x29, rfl, rfl, rfl, HJ⟩
    go_wp2
    go_loopw [10] (fun s10 X => ∃ k : Nat, k ≤ most ∧ s10 = .int .i64 (k : Int) ∧ w = X ∧ Hid (∀ j, j < k → freeB t row (cc + j) = true)) (fun s10 _ => most - (intOf s10).toNat)
    case atStart => exact ⟨0, Nat.zero_le _, rfl, rfl, Lib.hid (fun j h => by omega)⟩
    case round =>
      obtain ⟨k, hk, rfl, rfl, HA⟩ := hrel
      have hccl := HJ.out.2
      have HF := Lib.hid (free_any p l c t row (cc + k) w HL.out HI.out)
      have ec : ((cc + k : Nat) : Int) = (cc : Int) + (k : Int) := by omega
      rw [ec] at HF
      clear ec
      by_cases hlt : k < most
      · cases hf : freeB t row (cc + k) with
        | true =>
          rw [hf] at HF
          have HA2 : Hid (∀ j, j < k + 1 → freeB t row (cc + j) = true) := Lib.hid fun j hj => by
            by_cases e : j = k
            · subst e; exact hf
            · exact HA.out j (by omega)
          clear hf HA
          go_wp2_with (go_at_call 46; refine HF.out.mono ?_; clear HF; rintro e w1 ⟨rfl, rfl⟩)
          go_roundw
          case rel => exact ⟨k + 1, by omega, by go_num, by first | rfl | trivial, HA2⟩
          case measure => simp [intOf]; omega
        | false =>
          rw [hf] at HF
          have HFF := Lib.hid hf
          clear hf
          by_cases hk0 : k = 0
          · subst hk0
            have HJ2 : Hid (firstF t row (cc + 1) = firstF t row col ∧ cc + 1 ≤ l) := Lib.hid ⟨by rw [← HJ.out.1]; exact (firstF_step HFF.out).symm, by have := freeB_lt HFF.out; have := HL.out; omega⟩
            clear HA HFF
            go_wp2_with (go_at_call 46; refine HF.out.mono ?_; clear HF; rintro e w1 ⟨rfl, rfl⟩)
            apply wp_goto
            exact ⟨rfl, ⟨cc + 1, _, _, _, _, _, _, _, _, _, _, _, _, _, _, _, _, _, _, _, _, _, rfl, rfl, by omega, HJ2⟩, by have := HJ2.out.2; simp [intOf]; omega⟩
          · have HE : Hid (firstF t row col = cc ∧ wideF t row cc most = k) := Lib.hid ⟨by rw [← HJ.out.1]; exact firstF_eq (Nat.le_refl _) (fun j h1 h2 => by omega) (HA.out 0 (by omega)), wideF_eq hk HA.out (.inr HFF.out)⟩
            clear HA HFF
            go_wp2_with (go_at_call 46; refine HF.out.mono ?_; clear HF; rintro e w1 ⟨rfl, rfl⟩)
            simp only [Exit.jump]
            refine bodyPost_ret (v := .tuple #[.int .i64 (cc : Int), .int .i64 (k : Int)]) (by simp [results, Try.results28, go_sem]) rfl ⟨?_, rfl⟩
            rw [HE.out.1, HE.out.2]
      · obtain rfl : k = most := by omega
        have HE : Hid (firstF t row col = cc ∧ wideF t row cc k = k) := Lib.hid ⟨by rw [← HJ.out.1]; exact firstF_eq (Nat.le_refl _) (fun j h1 h2 => by omega) (HA.out 0 (by omega)), wideF_eq (Nat.le_refl _) HA.out (.inl rfl)⟩
        have hk0 : ¬ k = 0 := by omega
        clear HA HF
        go_wp2
        simp only [Exit.jump]
        refine bodyPost_ret (v := .tuple #[.int .i64 (cc : Int), .int .i64 (k : Int)]) (by simp [results, Try.results28, go_sem]) rfl ⟨?_, rfl⟩
        rw [HE.out.1, HE.out.2]
end Go.Proofs.Ytcgnldcdcbnofaa
