/- The law's shown and Cut, its arguments opened, and the document's Same of two lists that have the same bands. -/
import Derived.Test.YtmfllaanobafkaaKBands
namespace Go.Proofs.Ytmfllaanobafkaa
open Go.ChangeShapes Go.WideShapes Go.ChangeAt Go.RowKit Go.Joins Go.Shelf
set_option linter.unusedVariables false
set_option linter.unusedSimpArgs false
attribute [local go_sem] Oper.semAt_some

theorem band_eql (a b c d : Int) (X : World) : (binOp .neq 42 (.agg #[.int .i64 a, .int .i64 b, .int .i64 c, .int .i64 d]) (.agg #[.int .i64 a, .int .i64 b, .int .i64 c, .int .i64 d])).run Try.prog X = .ok (.bool false) X := by go_simp
set_option maxRecDepth 100000 in
set_option maxHeartbeats 2000000 in
theorem ksame_any (v1 v2 : Value) (L : List Ba) (w : World) (h1 : RowsK Ba.cells 4 w v1 L) (h2 : RowsK Ba.cells 4 w v2 L) :
    Calls Try.prog 14 #[v1, v2] w fun e w' => e = .returned (.bool true) ∧ Below w.heap.size w w' := by
  obtain ⟨p1, c1, rfl⟩ := h1.slice
  obtain ⟨p2, c2, rfl⟩ := h2.slice
  have hmm := h1.1
  obtain ⟨m, hm⟩ : ∃ m, L.length = m := ⟨_, rfl⟩
  rw [hm] at h1 h2 hmm ⊢
  have HM := Lib.hid hm
  have H1 := Lib.hid h1
  have H2 := Lib.hid h2
  clear h1 h2 hm
  go_enter Try.func14, Try.ntmps14
  go_wp2
  go_loopw [5] (fun s5 X => ∃ k : Nat, k ≤ m ∧ s5 = .int .i64 (k : Int) ∧ Hid (Below w.heap.size w X)) (fun s5 _ => m - (intOf s5).toNat)
  case atStart => exact ⟨0, Nat.zero_le _, rfl, Lib.hid (Below.refl _ _)⟩
  case round =>
    obtain ⟨k, hk, rfl, HB⟩ := hrel
    by_cases hlt : k < m
    · obtain ⟨q, hq⟩ : ∃ q, L[k]? = some q := ⟨_, List.getElem?_eq_getElem (by rw [HM.out]; exact hlt)⟩
      obtain ⟨g1, o1, rfl, l1, ha⟩ := (H1.out.below HB.out).at k q hq
      obtain ⟨g2, o2, rfl, l2, hb⟩ := (H2.out.below HB.out).at k q hq
      obtain ⟨x, y, u, v⟩ := q
      have a0 : wr.cell? ⟨g1, o1 + k * 4, none⟩ = some (.int .i64 x) := ha 0 _ rfl
      have a1 : wr.cell? ⟨g1, o1 + k * 4 + 1, none⟩ = some (.int .i64 y) := ha 1 _ rfl
      have a2 : wr.cell? ⟨g1, o1 + k * 4 + 2, none⟩ = some (.int .i64 u) := ha 2 _ rfl
      have a3 : wr.cell? ⟨g1, o1 + k * 4 + 3, none⟩ = some (.int .i64 v) := ha 3 _ rfl
      have b0 : wr.cell? ⟨g2, o2 + k * 4, none⟩ = some (.int .i64 x) := hb 0 _ rfl
      have b1 : wr.cell? ⟨g2, o2 + k * 4 + 1, none⟩ = some (.int .i64 y) := hb 1 _ rfl
      have b2 : wr.cell? ⟨g2, o2 + k * 4 + 2, none⟩ = some (.int .i64 u) := hb 2 _ rfl
      have b3 : wr.cell? ⟨g2, o2 + k * 4 + 3, none⟩ = some (.int .i64 v) := hb 3 _ rfl
      have hneq := band_eql x y u v
      clear hq ha hb
      go_wp2
      go_quiet (fail)
      go_wp2
      go_roundw
      case rel => exact ⟨k + 1, by omega, by go_num, Lib.hid (HB.out.trans (below_dn _ _ _))⟩
      case measure => simp [intOf]; omega
    · go_wp2
      go_ret
      exact ⟨rfl, HB.out⟩
theorem shown_bands : bandsB [⟨1, 100⟩, ⟨0, 0⟩] [⟨0, 0, 0, 0, 1, 30, 300, ⟨0, 0⟩⟩, ⟨0, 0, 1, 0, 1, 30, 300, ⟨0, 0⟩⟩] = [⟨30, 100, -1, 100⟩, ⟨30, 300, -1, -1⟩] := by decide
theorem shown_right : rightK [⟨1, 100⟩, ⟨0, 0⟩] [⟨0, 0, 0, 0, 1, 30, 300, ⟨0, 0⟩⟩, ⟨0, 0, 1, 0, 1, 30, 300, ⟨0, 0⟩⟩] = true := by decide
theorem shown_wrong : rightK [⟨0, 1⟩] [] = false := by decide
set_option maxRecDepth 100000 in
set_option maxHeartbeats 4000000 in
theorem shown13_any (w : World) : Calls Try.prog 9 #[] w fun e w' => e = .returned (.bool true) ∧ Below w.heap.size w w' := by
  have H1 := Lib.hid (fun X p q (hz : RowsK Sz.cells 2 X (.slice p 2 2) [⟨1, 100⟩, ⟨0, 0⟩]) (hn : RowsK Ne.cells 9 X (.slice q 2 2) [⟨0, 0, 0, 0, 1, 30, 300, ⟨0, 0⟩⟩, ⟨0, 0, 1, 0, 1, 30, 300, ⟨0, 0⟩⟩]) => bands_ok p q 2 2 2 2 _ _ X hz hn shown_right)
  rw [shown_bands] at H1
  have H2 := Lib.hid (fun X p (hz : RowsK Sz.cells 2 X (.slice p 1 1) [⟨0, 1⟩]) => bands_bad p none 1 1 0 0 _ _ X hz RowsK.none shown_wrong)
  obtain ⟨W1, hW1⟩ : ∃ W1, (w.alloc (.cells #[.int .i64 1, .int .i64 100, .int .i64 0, .int .i64 0] 38)).alloc (.cells #[.int .i64 0, .int .i64 0, .int .i64 0, .int .i64 0, .int .i64 1, .int .i64 30, .int .i64 300, .int .i64 0, .int .i64 0, .int .i64 0, .int .i64 0, .int .i64 1, .int .i64 0, .int .i64 1, .int .i64 30, .int .i64 300, .int .i64 0, .int .i64 0] 40) = W1 := ⟨_, rfl⟩
  have KZ : Hid (RowsK Sz.cells 2 W1 (.slice (some ⟨w.heap.size, 0, none⟩) 2 2) [⟨1, 100⟩, ⟨0, 0⟩]) := Lib.hid (RowsK.whole Sz.cells_len (t := 38) (by rw [← hW1]; exact (whole_new w [.int .i64 1, .int .i64 100, .int .i64 0, .int .i64 0] 38 _ rfl).alloc _) rfl 2 (by simp))
  have KN : Hid (RowsK Ne.cells 9 W1 (.slice (some ⟨w.heap.size + 1, 0, none⟩) 2 2) [⟨0, 0, 0, 0, 1, 30, 300, ⟨0, 0⟩⟩, ⟨0, 0, 1, 0, 1, 30, 300, ⟨0, 0⟩⟩]) := Lib.hid (RowsK.whole Ne.cells_len (t := 40) (by rw [← hW1]; exact whole_new _ [.int .i64 0, .int .i64 0, .int .i64 0, .int .i64 0, .int .i64 1, .int .i64 30, .int .i64 300, .int .i64 0, .int .i64 0, .int .i64 0, .int .i64 0, .int .i64 1, .int .i64 0, .int .i64 1, .int .i64 30, .int .i64 300, .int .i64 0, .int .i64 0] 40 _ (by simp)) rfl 2 (by simp))
  have B1 : Hid (Below w.heap.size w W1) := Lib.hid (by rw [← hW1]; exact ((Below.refl _ w).alloc (Nat.le_refl _) _).alloc (by simp) _)
  go_enter Try.func9, Try.ntmps9
  go_wp2_with fail
  try rw [hW1]
  refine (H1.out _ _ _ KZ.out KN.out).mono ?_
  rintro e w2 ⟨G, rfl, hG, hbs, hb2⟩
  have HB2 := Lib.hid (B1.out.trans (hb2.mono B1.out.size))
  have HBS := Lib.hid hbs
  have hsz : Hid (w.heap.size ≤ w2.heap.size) := Lib.hid HB2.out.size
  have KZ2 : Hid (RowsK Sz.cells 2 (w2.alloc (.cells #[.int .i64 0, .int .i64 1] 38)) (.slice (some ⟨w2.heap.size, 0, none⟩) 1 1) [⟨0, 1⟩]) := Lib.hid (RowsK.whole Sz.cells_len (t := 38) (whole_new w2 [.int .i64 0, .int .i64 1] 38 _ rfl) rfl 1 (by simp))
  clear hG hbs hb2 hW1 KZ KN H1
  go_wp2_with fail
  refine (H2.out _ _ KZ2.out).mono ?_
  rintro e w3 ⟨rfl, hb3⟩
  have hb3' : Below w2.heap.size w2 w3 := ((Below.refl _ w2).alloc (Nat.le_refl _) _).trans (hb3.mono (by simp))
  have K3 := HBS.out.below hb3' HBS.out.lt
  have HB3 := Lib.hid (HB2.out.trans (hb3'.mono hsz.out))
  have q0 := K3.cell 0 _ rfl 0 (by omega)
  have q1 := K3.cell 0 _ rfl 1 (by omega)
  have q2 := K3.cell 0 _ rfl 2 (by omega)
  have q3 := K3.cell 0 _ rfl 3 (by omega)
  have r0 := K3.cell 1 _ rfl 0 (by omega)
  have r1 := K3.cell 1 _ rfl 1 (by omega)
  have r2 := K3.cell 1 _ rfl 2 (by omega)
  have r3 := K3.cell 1 _ rfl 3 (by omega)
  have lG := K3.lt
  simp only [Ba.cells, List.getElem?_cons_zero, List.getElem?_cons_succ, Nat.zero_mul, Nat.one_mul, Nat.zero_add, Nat.reduceAdd] at q0 q1 q2 q3 r0 r1 r2 r3
  clear hb3 hb3' K3 HBS KZ2 H2
  go_wp2
  go_ret
  exact ⟨rfl, HB3.out⟩
end Go.Proofs.Ytmfllaanobafkaa
