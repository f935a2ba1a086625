/- Contract of edges.Gutters. Written by mk_EGut.py. -/
import Derived.Test.YtlnfgmmgkmhehaaECells
namespace Go.Proofs.Ytlnfgmmgkmhehaa
open Go.RowKit Go.Shelf
set_option linter.unusedVariables false
set_option linter.unusedSimpArgs false
attribute [local go_sem] Oper.semAt_some run_store_complexE

theorem gap_same (a b : Int) (X : World) : (binOp .eql 23 (.agg #[.int .i64 a, .int .i64 b]) (.agg #[.int .i64 0, .int .i64 0])).run Try.prog X = .ok (.bool (decide (a = 0) && decide (b = 0))) X := by
  obtain ⟨i, hi, _⟩ := infoE Try.infoI64E
  have k1 : Try.prog.cellsOf 2 = 1 := by kernel_rfl
  have he : Try.prog.plainKey 2 = true := by kernel_rfl
  have h := run_equalIn_array (P := Try.prog) X 9999 #[.int .i64 a, .int .i64 b] #[.int .i64 0, .int .i64 0] Try.underlying23 hi
  have p0 := run_part_plain (P := Try.prog) X he (xs := #[.int .i64 a, .int .i64 b]) (off := 0) rfl
  have p1 := run_part_plain (P := Try.prog) X he (xs := #[.int .i64 a, .int .i64 b]) (off := 1) rfl
  have r0 := run_part_plain (P := Try.prog) X he (xs := #[.int .i64 0, .int .i64 0]) (off := 0) rfl
  have r1 := run_part_plain (P := Try.prog) X he (xs := #[.int .i64 0, .int .i64 0]) (off := 1) rfl
  have q0 := run_equalIn_int (P := Try.prog) X 9998 2 .i64 .i64 a 0 Try.underlying2
  have q1 := run_equalIn_int (P := Try.prog) X 9998 2 .i64 .i64 b 0 Try.underlying2
  by_cases ha : a = 0
  · by_cases hb : b = 0
    · subst ha hb
      go_simp
      simp [Op.eqItems, List.range_succ, k1, p0, p1, r0, r1, q0, q1]
    · subst ha
      go_simp
      simp [Op.eqItems, List.range_succ, k1, p0, p1, r0, r1, q0, q1, hb]
  · go_simp
    simp [Op.eqItems, List.range_succ, k1, p0, p1, r0, r1, q0, q1, ha]
/-- the gap before a column, and the gap above a row at a column -/
def stdE (g0 g1 : Int) (cs rs : List Int) (i : Nat) : RR.R := ⟨begW g0 cs i - g0, 0, g0, begW g1 rs rs.length⟩
def lyE (g0 g1 : Int) (cs rs : List Int) (j i : Nat) : RR.R := ⟨begW g0 cs i, begW g1 rs j - g1, wideW g0 cs i (i + 1), g1⟩
def stdsE (g0 g1 : Int) (cs rs : List Int) (t : Nat) : List RR.R := (List.range t).map (stdE g0 g1 cs rs)
def lysE (g0 g1 : Int) (cs rs : List Int) (j t : Nat) : List RR.R := (List.range t).map (lyE g0 g1 cs rs j)
def lyJE (g0 g1 : Int) (cs rs : List Int) (m j : Nat) : List RR.R := (List.range j).flatMap fun j => lysE g0 g1 cs rs j m
def gutE (g0 g1 : Int) (cs rs : List Int) : List RR.R := if cs.length = 0 ∨ rs.length = 0 ∨ (g0 = 0 ∧ g1 = 0) then [] else stdsE g0 g1 cs rs (cs.length + 1) ++ lyJE g0 g1 cs rs cs.length (rs.length + 1)
theorem stdsE_succ (g0 g1 : Int) (cs rs : List Int) (t : Nat) : stdsE g0 g1 cs rs (t + 1) = stdsE g0 g1 cs rs t ++ [stdE g0 g1 cs rs t] := by simp [stdsE, List.range_succ]
theorem lysE_succ (g0 g1 : Int) (cs rs : List Int) (j t : Nat) : lysE g0 g1 cs rs j (t + 1) = lysE g0 g1 cs rs j t ++ [lyE g0 g1 cs rs j t] := by simp [lysE, List.range_succ]
theorem lyJE_succ (g0 g1 : Int) (cs rs : List Int) (m j : Nat) : lyJE g0 g1 cs rs m (j + 1) = lyJE g0 g1 cs rs m j ++ lysE g0 g1 cs rs j m := by simp [lyJE, List.range_succ, List.flatMap_append]
theorem lyJE_len (g0 g1 : Int) (cs rs : List Int) (m j : Nat) : (lyJE g0 g1 cs rs m j).length = j * m := by
  induction j with
  | zero => simp [lyJE]
  | succ j ih => rw [lyJE_succ, List.length_append, ih]; simp [lysE, Nat.succ_mul]
theorem gutE_len (g0 g1 : Int) (cs rs : List Int) (h : ¬ (cs.length = 0 ∨ rs.length = 0 ∨ (g0 = 0 ∧ g1 = 0))) : (gutE g0 g1 cs rs).length = cs.length + 1 + (rs.length + 1) * cs.length := by
  unfold gutE; rw [if_neg h, List.length_append, lyJE_len]; simp [stdsE]
theorem make_rectsE (n : Nat) (hn : n ≤ 1000000000) : ∃ cs : Array Value, cs.size = n * 4 ∧ ∀ w : World, (Instr.makeSlice 28 (.int .i64 0) (.int .i64 (n : Int))).run Try.prog w = .ok (.slice (some ⟨w.heap.size, 0, none⟩) 0 n) (w.alloc (.cells cs 38)) := by
  obtain ⟨i0, hi, hz0, hz1, hz2⟩ := infoE Try.infoRE
  refine ⟨madeCells (Value.agg #[.int .i64 0, .int .i64 0, .int .i64 0, .int .i64 0]).cells (n * 4), by simp [madeCells], fun w => ?_⟩
  have hr := run_make (P := Try.prog) w 28 38 i0 _ Try.underlying28 hi hz0 .i64 .i64 0 n (by omega) (by omega) (by rw [hz2]; omega) (by omega)
  simp only [Int.toNat_natCast, Int.toNat_zero, hz1] at hr
  exact hr
theorem made_ownE {w : World} {cs : Array Value} {n base : Nat} (hc : cs.size = n * 4) (hn : n ≤ 1000000000) (hb : base ≤ w.heap.size) : (w.alloc (.cells cs 38)).ownsRow base 38 4 (.slice (some ⟨w.heap.size, 0, none⟩) 0 n) 0 (flatE []) := by
  refine ⟨rfl, .inr ⟨w.heap.size, n, cs, rfl, hb, ?_, Nat.zero_le _, by unfold maxLen; omega, hc, rfl⟩⟩
  have := whole_new w cs.toList 38 _ rfl
  simpa [Whole] using this
set_option maxHeartbeats 2000000 in
theorem gut_bad (p q : Option Addr) (m c k d : Nat) (cs rs : List Int) (g0 g1 : Int) (w : World) (hL : LowI w.heap.size w (.slice p m c) cs) (hm : cs.length = m) (hR : LowI w.heap.size w (.slice q k d) rs) (hk : rs.length = k) (hb : okB g0 cs = false ∨ okB g1 rs = false) :
    Calls Try.prog 6 #[.slice p m c, .slice q k d, .agg #[.int .i64 g0, .int .i64 g1]] w fun e W' => e = .returned (.tuple #[.slice none 0 0, .int .i64 100]) ∧ Below w.heap.size w W' := by
  obtain ⟨gn, hgn⟩ : ∃ gn, w.heap.size = gn := ⟨_, rfl⟩
  have HGN := Lib.hid hgn
  obtain ⟨W0, hW0⟩ : ∃ W0, w.alloc (.cells #[.int .i64 g0, .int .i64 g1] 23) = W0 := ⟨_, rfl⟩
  have hB0 : Below w.heap.size w W0 := by rw [← hW0]; exact (Below.refl _ w).alloc (Nat.le_refl _) _
  have hA0 : Whole W0 gn 23 [.int .i64 g0, .int .i64 g1] := by rw [← hW0]; exact whole_new w [.int .i64 g0, .int .i64 g1] 23 gn hgn.symm
  have hL0 := (hL.keep (Y := W0) (fun k hk => hB0.block k hk)).mono hB0.size
  have hR0 := (hR.keep (Y := W0) (fun k hk => hB0.block k hk)).mono hB0.size
  have a0 := hA0.cellAt 0
  have a1 := hA0.cellAt 1
  have la := hA0.lt
  simp only [List.getElem?_cons_zero, List.getElem?_cons_succ] at a0 a1
  have HB0 := Lib.hid hB0
  have HA0 := Lib.hid hA0
  have HNE := Lib.hid (netOf_bad p q m c k d cs rs g0 g1 W0 hL0 hm hR0 hk hb)
  clear hL hR hL0 hR0 hm hk hb hA0 hB0 HA0
  go_enter Try.func6, Try.ntmps6
  go_wp2_with fail
  try rw [hW0]
  clear hW0 hgn
  refine HNE.out.mono ?_
  clear HNE
  rintro e w1 ⟨rfl, hb1⟩
  have HB1 := Lib.hid (HB0.out.trans (hb1.mono HB0.out.size))
  clear hb1 a0 a1 la HB0
  go_wp2
  go_ret2
  exact ⟨rfl, HB1.out.alloc HB1.out.size _⟩
set_option maxRecDepth 100000 in
set_option maxHeartbeats 4000000 in
theorem gut_none0 (p q : Option Addr) (m c k d : Nat) (cs rs : List Int) (g0 g1 : Int) (w : World) (hL : LowI w.heap.size w (.slice p m c) cs) (hm : cs.length = m) (hR : LowI w.heap.size w (.slice q k d) rs) (hk : rs.length = k) (ok0 : okW g0 cs) (ok1 : okW g1 rs) (h0 : m = 0) :
    Calls Try.prog 6 #[.slice p m c, .slice q k d, .agg #[.int .i64 g0, .int .i64 g1]] w fun e W' => e = .returned (.tuple #[.slice none 0 0, .int .i64 0]) ∧ Below w.heap.size w W' := by
  have e0 : ((m : Int) == 0) = true := by simp [h0]
  clear h0
  obtain ⟨gn, hgn⟩ : ∃ gn, w.heap.size = gn := ⟨_, rfl⟩
  have HGN := Lib.hid hgn
  obtain ⟨W0, hW0⟩ : ∃ W0, w.alloc (.cells #[.int .i64 g0, .int .i64 g1] 23) = W0 := ⟨_, rfl⟩
  have hB0 : Below w.heap.size w W0 := by rw [← hW0]; exact (Below.refl _ w).alloc (Nat.le_refl _) _
  have hA0 : Whole W0 gn 23 [.int .i64 g0, .int .i64 g1] := by rw [← hW0]; exact whole_new w [.int .i64 g0, .int .i64 g1] 23 gn hgn.symm
  have hL0 := (hL.keep (Y := W0) (fun k hk => hB0.block k hk)).mono hB0.size
  have hR0 := (hR.keep (Y := W0) (fun k hk => hB0.block k hk)).mono hB0.size
  have a0 := hA0.cellAt 0
  have a1 := hA0.cellAt 1
  have la := hA0.lt
  simp only [List.getElem?_cons_zero, List.getElem?_cons_succ] at a0 a1
  have HB0 := Lib.hid hB0
  have HA0 := Lib.hid hA0
  have hm4 : m ≤ 10000 := by have := ok0.2.1; omega
  have hk4 : k ≤ 10000 := by have := ok1.2.1; omega
  have HNE := Lib.hid (netOf_good p q m c k d cs rs g0 g1 W0 hL0 hm hR0 hk ok0 ok1)
  have HCO := Lib.hid (fun (px py : Nat) (X : World) => cols_any px py m k g0 g1 X hm4)
  have HRO := Lib.hid (fun (px py : Nat) (X : World) => rows_any px py m k g0 g1 X hk4)
  have HST := Lib.hid (fun (B px py i : Nat) (X : World) (hN : NetAt B X px py cs rs g0 g1) (h1 : i ≤ m) => standing_any px py m k cs rs g0 g1 i X hN hm hk h1 hm4 hk4 ok0 ok1)
  have HLY := Lib.hid (fun (B px py i j : Nat) (X : World) (hN : NetAt B X px py cs rs g0 g1) (h1 : i < m) (h2 : j ≤ k) => lying_any px py m k cs rs g0 g1 i j X hN hm hk h1 h2 hm4 hk4 ok0 ok1)
  have HGS := gap_same g0 g1
  unfold netV at HNE HCO HRO HST HLY
  generalize floatOfInt .f64 g0 = fx at HNE HCO HRO HST HLY
  generalize floatOfInt .f64 g1 = fy at HNE HCO HRO HST HLY
  have HM := Lib.hid hm
  have HK := Lib.hid hk
  have HO0 := Lib.hid ok0
  have HO1 := Lib.hid ok1
  clear hL hR hL0 hR0 hm hk hA0 hB0 ok0 ok1
  go_enter Try.func6, Try.ntmps6
  go_wp2_with fail
  try rw [hW0]
  clear hW0 hgn
  refine HNE.out.mono ?_
  clear HNE
  rintro e w1 ⟨⟨px, py, rfl, hnet⟩, hb1⟩
  obtain ⟨W3, hW3⟩ : ∃ W3, w1.alloc (.cells #[.slice (some ⟨px, 0, none⟩) (m + 1) (m + 1), .slice (some ⟨py, 0, none⟩) (k + 1) (k + 1), .complex .f64 fx 0, .complex .f64 0 fy] 45) = W3 := ⟨_, rfl⟩
  have hb3 : Below w1.heap.size w1 W3 := by rw [← hW3]; exact (Below.refl _ w1).alloc (Nat.le_refl _) _
  have hNB : Whole W3 w1.heap.size 45 [.slice (some ⟨px, 0, none⟩) (m + 1) (m + 1), .slice (some ⟨py, 0, none⟩) (k + 1) (k + 1), .complex .f64 fx 0, .complex .f64 0 fy] := by rw [← hW3]; exact whole_new w1 [.slice (some ⟨px, 0, none⟩) (m + 1) (m + 1), .slice (some ⟨py, 0, none⟩) (k + 1) (k + 1), .complex .f64 fx 0, .complex .f64 0 fy] 45 _ rfl
  have HNB := Lib.hid hNB
  have HNET := Lib.hid (hnet.below hb3)
  have HB1 := Lib.hid (HB0.out.trans (hb1.mono HB0.out.size))
  have HB3 := Lib.hid (HB1.out.trans (hb3.mono HB1.out.size))
  have HA3 := Lib.hid ((HA0.out.below hb1 HA0.out.lt).below hb3 (Nat.lt_of_lt_of_le HA0.out.lt hb1.size))
  clear hb1 hnet a0 a1 la HB0 HB1 hNB hb3 HA0
  obtain ⟨nb, hnb⟩ : ∃ nb, w1.heap.size = nb := ⟨_, rfl⟩
  rw [hnb] at HNB
  have n0 := HNB.out.cellAt 0
  have n1 := HNB.out.cellAt 1
  have n2 := HNB.out.cellAt 2
  have n3 := HNB.out.cellAt 3
  have ln := HNB.out.lt
  have a0 := HA3.out.cellAt 0
  have a1 := HA3.out.cellAt 1
  have la := HA3.out.lt
  simp only [List.getElem?_cons_zero, List.getElem?_cons_succ] at a0 a1 n0 n1 n2 n3
  go_wp2_with fail
  try rw [hW3]
  try simp only [hnb]
  clear hW3 hnb
  refine (HCO.out px py _).mono ?_
  rintro e w4 ⟨rfl, hb4⟩
  have HB4 := Lib.hid (HB3.out.trans (hb4.mono HB3.out.size))
  have HNB4 := Lib.hid (HNB.out.below hb4 HNB.out.lt)
  have HNT4 := Lib.hid (HNET.out.below hb4)
  have HA4 := Lib.hid (HA3.out.below hb4 HA3.out.lt)
  clear hb4 HB3 HNB HNET HA3
  clear n0 n1 n2 n3 ln a0 a1 la
  have n0 := HNB4.out.cellAt 0
  have n1 := HNB4.out.cellAt 1
  have n2 := HNB4.out.cellAt 2
  have n3 := HNB4.out.cellAt 3
  have ln := HNB4.out.lt
  have a0 := HA4.out.cellAt 0
  have a1 := HA4.out.cellAt 1
  have la := HA4.out.lt
  simp only [List.getElem?_cons_zero, List.getElem?_cons_succ] at a0 a1 n0 n1 n2 n3
  go_wp2
  go_ret2
  exact ⟨rfl, HB4.out⟩
set_option maxRecDepth 100000 in
set_option maxHeartbeats 4000000 in
theorem gut_none1 (p q : Option Addr) (m c k d : Nat) (cs rs : List Int) (g0 g1 : Int) (w : World) (hL : LowI w.heap.size w (.slice p m c) cs) (hm : cs.length = m) (hR : LowI w.heap.size w (.slice q k d) rs) (hk : rs.length = k) (ok0 : okW g0 cs) (ok1 : okW g1 rs) (h0 : m ≠ 0) (h1 : k = 0) :
    Calls Try.prog 6 #[.slice p m c, .slice q k d, .agg #[.int .i64 g0, .int .i64 g1]] w fun e W' => e = .returned (.tuple #[.slice none 0 0, .int .i64 0]) ∧ Below w.heap.size w W' := by
  have e0 : ((m : Int) == 0) = false := by simp; omega
  have e1 : ((k : Int) == 0) = true := by simp [h1]
  clear h0 h1
  obtain ⟨gn, hgn⟩ : ∃ gn, w.heap.size = gn := ⟨_, rfl⟩
  have HGN := Lib.hid hgn
  obtain ⟨W0, hW0⟩ : ∃ W0, w.alloc (.cells #[.int .i64 g0, .int .i64 g1] 23) = W0 := ⟨_, rfl⟩
  have hB0 : Below w.heap.size w W0 := by rw [← hW0]; exact (Below.refl _ w).alloc (Nat.le_refl _) _
  have hA0 : Whole W0 gn 23 [.int .i64 g0, .int .i64 g1] := by rw [← hW0]; exact whole_new w [.int .i64 g0, .int .i64 g1] 23 gn hgn.symm
  have hL0 := (hL.keep (Y := W0) (fun k hk => hB0.block k hk)).mono hB0.size
  have hR0 := (hR.keep (Y := W0) (fun k hk => hB0.block k hk)).mono hB0.size
  have a0 := hA0.cellAt 0
  have a1 := hA0.cellAt 1
  have la := hA0.lt
  simp only [List.getElem?_cons_zero, List.getElem?_cons_succ] at a0 a1
  have HB0 := Lib.hid hB0
  have HA0 := Lib.hid hA0
  have hm4 : m ≤ 10000 := by have := ok0.2.1; omega
  have hk4 : k ≤ 10000 := by have := ok1.2.1; omega
  have HNE := Lib.hid (netOf_good p q m c k d cs rs g0 g1 W0 hL0 hm hR0 hk ok0 ok1)
  have HCO := Lib.hid (fun (px py : Nat) (X : World) => cols_any px py m k g0 g1 X hm4)
  have HRO := Lib.hid (fun (px py : Nat) (X : World) => rows_any px py m k g0 g1 X hk4)
  have HST := Lib.hid (fun (B px py i : Nat) (X : World) (hN : NetAt B X px py cs rs g0 g1) (h1 : i ≤ m) => standing_any px py m k cs rs g0 g1 i X hN hm hk h1 hm4 hk4 ok0 ok1)
  have HLY := Lib.hid (fun (B px py i j : Nat) (X : World) (hN : NetAt B X px py cs rs g0 g1) (h1 : i < m) (h2 : j ≤ k) => lying_any px py m k cs rs g0 g1 i j X hN hm hk h1 h2 hm4 hk4 ok0 ok1)
  have HGS := gap_same g0 g1
  unfold netV at HNE HCO HRO HST HLY
  generalize floatOfInt .f64 g0 = fx at HNE HCO HRO HST HLY
  generalize floatOfInt .f64 g1 = fy at HNE HCO HRO HST HLY
  have HM := Lib.hid hm
  have HK := Lib.hid hk
  have HO0 := Lib.hid ok0
  have HO1 := Lib.hid ok1
  clear hL hR hL0 hR0 hm hk hA0 hB0 ok0 ok1
  go_enter Try.func6, Try.ntmps6
  go_wp2_with fail
  try rw [hW0]
  clear hW0 hgn
  refine HNE.out.mono ?_
  clear HNE
  rintro e w1 ⟨⟨px, py, rfl, hnet⟩, hb1⟩
  obtain ⟨W3, hW3⟩ : ∃ W3, w1.alloc (.cells #[.slice (some ⟨px, 0, none⟩) (m + 1) (m + 1), .slice (some ⟨py, 0, none⟩) (k + 1) (k + 1), .complex .f64 fx 0, .complex .f64 0 fy] 45) = W3 := ⟨_, rfl⟩
  have hb3 : Below w1.heap.size w1 W3 := by rw [← hW3]; exact (Below.refl _ w1).alloc (Nat.le_refl _) _
  have hNB : Whole W3 w1.heap.size 45 [.slice (some ⟨px, 0, none⟩) (m + 1) (m + 1), .slice (some ⟨py, 0, none⟩) (k + 1) (k + 1), .complex .f64 fx 0, .complex .f64 0 fy] := by rw [← hW3]; exact whole_new w1 [.slice (some ⟨px, 0, none⟩) (m + 1) (m + 1), .slice (some ⟨py, 0, none⟩) (k + 1) (k + 1), .complex .f64 fx 0, .complex .f64 0 fy] 45 _ rfl
  have HNB := Lib.hid hNB
  have HNET := Lib.hid (hnet.below hb3)
  have HB1 := Lib.hid (HB0.out.trans (hb1.mono HB0.out.size))
  have HB3 := Lib.hid (HB1.out.trans (hb3.mono HB1.out.size))
  have HA3 := Lib.hid ((HA0.out.below hb1 HA0.out.lt).below hb3 (Nat.lt_of_lt_of_le HA0.out.lt hb1.size))
  clear hb1 hnet a0 a1 la HB0 HB1 hNB hb3 HA0
  obtain ⟨nb, hnb⟩ : ∃ nb, w1.heap.size = nb := ⟨_, rfl⟩
  rw [hnb] at HNB
  have n0 := HNB.out.cellAt 0
  have n1 := HNB.out.cellAt 1
  have n2 := HNB.out.cellAt 2
  have n3 := HNB.out.cellAt 3
  have ln := HNB.out.lt
  have a0 := HA3.out.cellAt 0
  have a1 := HA3.out.cellAt 1
  have la := HA3.out.lt
  simp only [List.getElem?_cons_zero, List.getElem?_cons_succ] at a0 a1 n0 n1 n2 n3
  go_wp2_with fail
  try rw [hW3]
  try simp only [hnb]
  clear hW3 hnb
  refine (HCO.out px py _).mono ?_
  rintro e w4 ⟨rfl, hb4⟩
  have HB4 := Lib.hid (HB3.out.trans (hb4.mono HB3.out.size))
  have HNB4 := Lib.hid (HNB.out.below hb4 HNB.out.lt)
  have HNT4 := Lib.hid (HNET.out.below hb4)
  have HA4 := Lib.hid (HA3.out.below hb4 HA3.out.lt)
  clear hb4 HB3 HNB HNET HA3
  clear n0 n1 n2 n3 ln a0 a1 la
  have n0 := HNB4.out.cellAt 0
  have n1 := HNB4.out.cellAt 1
  have n2 := HNB4.out.cellAt 2
  have n3 := HNB4.out.cellAt 3
  have ln := HNB4.out.lt
  have a0 := HA4.out.cellAt 0
  have a1 := HA4.out.cellAt 1
  have la := HA4.out.lt
  simp only [List.getElem?_cons_zero, List.getElem?_cons_succ] at a0 a1 n0 n1 n2 n3
  go_wp2_with fail
  refine (HRO.out px py _).mono ?_
  rintro e w5 ⟨rfl, hb5⟩
  have HB5 := Lib.hid (HB4.out.trans (hb5.mono HB4.out.size))
  have HNB5 := Lib.hid (HNB4.out.below hb5 HNB4.out.lt)
  have HNT5 := Lib.hid (HNT4.out.below hb5)
  have HA5 := Lib.hid (HA4.out.below hb5 HA4.out.lt)
  clear hb5 HB4 HNB4 HNT4 HA4
  clear n0 n1 n2 n3 ln a0 a1 la
  have n0 := HNB5.out.cellAt 0
  have n1 := HNB5.out.cellAt 1
  have n2 := HNB5.out.cellAt 2
  have n3 := HNB5.out.cellAt 3
  have ln := HNB5.out.lt
  have a0 := HA5.out.cellAt 0
  have a1 := HA5.out.cellAt 1
  have la := HA5.out.lt
  simp only [List.getElem?_cons_zero, List.getElem?_cons_succ] at a0 a1 n0 n1 n2 n3
  go_wp2
  go_ret2
  exact ⟨rfl, HB5.out⟩
set_option maxRecDepth 100000 in
set_option maxHeartbeats 4000000 in
theorem gut_none2 (p q : Option Addr) (m c k d : Nat) (cs rs : List Int) (g0 g1 : Int) (w : World) (hL : LowI w.heap.size w (.slice p m c) cs) (hm : cs.length = m) (hR : LowI w.heap.size w (.slice q k d) rs) (hk : rs.length = k) (ok0 : okW g0 cs) (ok1 : okW g1 rs) (h0 : m ≠ 0) (h1 : k ≠ 0) (h2 : g0 = 0) (h3 : g1 = 0) :
    Calls Try.prog 6 #[.slice p m c, .slice q k d, .agg #[.int .i64 g0, .int .i64 g1]] w fun e W' => e = .returned (.tuple #[.slice none 0 0, .int .i64 0]) ∧ Below w.heap.size w W' := by
  have e0 : ((m : Int) == 0) = false := by simp; omega
  have e1 : ((k : Int) == 0) = false := by simp; omega
  have e2 : (decide (g0 = 0) && decide (g1 = 0)) = true := by simp [h2, h3]
  clear h0 h1 h2 h3
  obtain ⟨gn, hgn⟩ : ∃ gn, w.heap.size = gn := ⟨_, rfl⟩
  have HGN := Lib.hid hgn
  obtain ⟨W0, hW0⟩ : ∃ W0, w.alloc (.cells #[.int .i64 g0, .int .i64 g1] 23) = W0 := ⟨_, rfl⟩
  have hB0 : Below w.heap.size w W0 := by rw [← hW0]; exact (Below.refl _ w).alloc (Nat.le_refl _) _
  have hA0 : Whole W0 gn 23 [.int .i64 g0, .int .i64 g1] := by rw [← hW0]; exact whole_new w [.int .i64 g0, .int .i64 g1] 23 gn hgn.symm
  have hL0 := (hL.keep (Y := W0) (fun k hk => hB0.block k hk)).mono hB0.size
  have hR0 := (hR.keep (Y := W0) (fun k hk => hB0.block k hk)).mono hB0.size
  have a0 := hA0.cellAt 0
  have a1 := hA0.cellAt 1
  have la := hA0.lt
  simp only [List.getElem?_cons_zero, List.getElem?_cons_succ] at a0 a1
  have HB0 := Lib.hid hB0
  have HA0 := Lib.hid hA0
  have hm4 : m ≤ 10000 := by have := ok0.2.1; omega
  have hk4 : k ≤ 10000 := by have := ok1.2.1; omega
  have HNE := Lib.hid (netOf_good p q m c k d cs rs g0 g1 W0 hL0 hm hR0 hk ok0 ok1)
  have HCO := Lib.hid (fun (px py : Nat) (X : World) => cols_any px py m k g0 g1 X hm4)
  have HRO := Lib.hid (fun (px py : Nat) (X : World) => rows_any px py m k g0 g1 X hk4)
  have HST := Lib.hid (fun (B px py i : Nat) (X : World) (hN : NetAt B X px py cs rs g0 g1) (h1 : i ≤ m) => standing_any px py m k cs rs g0 g1 i X hN hm hk h1 hm4 hk4 ok0 ok1)
  have HLY := Lib.hid (fun (B px py i j : Nat) (X : World) (hN : NetAt B X px py cs rs g0 g1) (h1 : i < m) (h2 : j ≤ k) => lying_any px py m k cs rs g0 g1 i j X hN hm hk h1 h2 hm4 hk4 ok0 ok1)
  have HGS := gap_same g0 g1
  unfold netV at HNE HCO HRO HST HLY
  generalize floatOfInt .f64 g0 = fx at HNE HCO HRO HST HLY
  generalize floatOfInt .f64 g1 = fy at HNE HCO HRO HST HLY
  have HM := Lib.hid hm
  have HK := Lib.hid hk
  have HO0 := Lib.hid ok0
  have HO1 := Lib.hid ok1
  clear hL hR hL0 hR0 hm hk hA0 hB0 ok0 ok1
  go_enter Try.func6, Try.ntmps6
  go_wp2_with fail
  try rw [hW0]
  clear hW0 hgn
  refine HNE.out.mono ?_
  clear HNE
  rintro e w1 ⟨⟨px, py, rfl, hnet⟩, hb1⟩
  obtain ⟨W3, hW3⟩ : ∃ W3, w1.alloc (.cells #[.slice (some ⟨px, 0, none⟩) (m + 1) (m + 1), .slice (some ⟨py, 0, none⟩) (k + 1) (k + 1), .complex .f64 fx 0, .complex .f64 0 fy] 45) = W3 := ⟨_, rfl⟩
  have hb3 : Below w1.heap.size w1 W3 := by rw [← hW3]; exact (Below.refl _ w1).alloc (Nat.le_refl _) _
  have hNB : Whole W3 w1.heap.size 45 [.slice (some ⟨px, 0, none⟩) (m + 1) (m + 1), .slice (some ⟨py, 0, none⟩) (k + 1) (k + 1), .complex .f64 fx 0, .complex .f64 0 fy] := by rw [← hW3]; exact whole_new w1 [.slice (some ⟨px, 0, none⟩) (m + 1) (m + 1), .slice (some ⟨py, 0, none⟩) (k + 1) (k + 1), .complex .f64 fx 0, .complex .f64 0 fy] 45 _ rfl
  have HNB := Lib.hid hNB
  have HNET := Lib.hid (hnet.below hb3)
  have HB1 := Lib.hid (HB0.out.trans (hb1.mono HB0.out.size))
  have HB3 := Lib.hid (HB1.out.trans (hb3.mono HB1.out.size))
  have HA3 := Lib.hid ((HA0.out.below hb1 HA0.out.lt).below hb3 (Nat.lt_of_lt_of_le HA0.out.lt hb1.size))
  clear hb1 hnet a0 a1 la HB0 HB1 hNB hb3 HA0
  obtain ⟨nb, hnb⟩ : ∃ nb, w1.heap.size = nb := ⟨_, rfl⟩
  rw [hnb] at HNB
  have n0 := HNB.out.cellAt 0
  have n1 := HNB.out.cellAt 1
  have n2 := HNB.out.cellAt 2
  have n3 := HNB.out.cellAt 3
  have ln := HNB.out.lt
  have a0 := HA3.out.cellAt 0
  have a1 := HA3.out.cellAt 1
  have la := HA3.out.lt
  simp only [List.getElem?_cons_zero, List.getElem?_cons_succ] at a0 a1 n0 n1 n2 n3
  rw [e2] at HGS
  go_wp2_with fail
  try rw [hW3]
  try simp only [hnb]
  clear hW3 hnb
  refine (HCO.out px py _).mono ?_
  rintro e w4 ⟨rfl, hb4⟩
  have HB4 := Lib.hid (HB3.out.trans (hb4.mono HB3.out.size))
  have HNB4 := Lib.hid (HNB.out.below hb4 HNB.out.lt)
  have HNT4 := Lib.hid (HNET.out.below hb4)
  have HA4 := Lib.hid (HA3.out.below hb4 HA3.out.lt)
  clear hb4 HB3 HNB HNET HA3
  clear n0 n1 n2 n3 ln a0 a1 la
  have n0 := HNB4.out.cellAt 0
  have n1 := HNB4.out.cellAt 1
  have n2 := HNB4.out.cellAt 2
  have n3 := HNB4.out.cellAt 3
  have ln := HNB4.out.lt
  have a0 := HA4.out.cellAt 0
  have a1 := HA4.out.cellAt 1
  have la := HA4.out.lt
  simp only [List.getElem?_cons_zero, List.getElem?_cons_succ] at a0 a1 n0 n1 n2 n3
  go_wp2_with fail
  refine (HRO.out px py _).mono ?_
  rintro e w5 ⟨rfl, hb5⟩
  have HB5 := Lib.hid (HB4.out.trans (hb5.mono HB4.out.size))
  have HNB5 := Lib.hid (HNB4.out.below hb5 HNB4.out.lt)
  have HNT5 := Lib.hid (HNT4.out.below hb5)
  have HA5 := Lib.hid (HA4.out.below hb5 HA4.out.lt)
  clear hb5 HB4 HNB4 HNT4 HA4
  clear n0 n1 n2 n3 ln a0 a1 la
  have n0 := HNB5.out.cellAt 0
  have n1 := HNB5.out.cellAt 1
  have n2 := HNB5.out.cellAt 2
  have n3 := HNB5.out.cellAt 3
  have ln := HNB5.out.lt
  have a0 := HA5.out.cellAt 0
  have a1 := HA5.out.cellAt 1
  have la := HA5.out.lt
  simp only [List.getElem?_cons_zero, List.getElem?_cons_succ] at a0 a1 n0 n1 n2 n3
  go_wp2
  go_ret2
  exact ⟨rfl, HB5.out⟩
set_option maxRecDepth 100000 in
set_option maxHeartbeats 8000000 in
theorem gut_main (p q : Option Addr) (m c k d : Nat) (cs rs : List Int) (g0 g1 : Int) (w : World) (hL : LowI w.heap.size w (.slice p m c) cs) (hm : cs.length = m) (hR : LowI w.heap.size w (.slice q k d) rs) (hk : rs.length = k) (ok0 : okW g0 cs) (ok1 : okW g1 rs) (h0 : m ≠ 0) (h1 : k ≠ 0) (h2 : ¬ (g0 = 0 ∧ g1 = 0)) :
    Calls Try.prog 6 #[.slice p m c, .slice q k d, .agg #[.int .i64 g0, .int .i64 g1]] w fun e W' => (∃ v, e = .returned (.tuple #[v, .int .i64 0]) ∧ W'.ownsRow w.heap.size 38 4 v (m + 1 + (k + 1) * m) (flatE (stdsE g0 g1 cs rs (m + 1) ++ lyJE g0 g1 cs rs m (k + 1)))) ∧ Below w.heap.size w W' := by
  have e0 : ((m : Int) == 0) = false := by simp; omega
  have e1 : ((k : Int) == 0) = false := by simp; omega
  have e2 : (decide (g0 = 0) && decide (g1 = 0)) = false := by rw [← Bool.decide_and]; simpa using h2
  clear h0 h1 h2
  obtain ⟨gn, hgn⟩ : ∃ gn, w.heap.size = gn := ⟨_, rfl⟩
  have HGN := Lib.hid hgn
  obtain ⟨W0, hW0⟩ : ∃ W0, w.alloc (.cells #[.int .i64 g0, .int .i64 g1] 23) = W0 := ⟨_, rfl⟩
  have hB0 : Below w.heap.size w W0 := by rw [← hW0]; exact (Below.refl _ w).alloc (Nat.le_refl _) _
  have hA0 : Whole W0 gn 23 [.int .i64 g0, .int .i64 g1] := by rw [← hW0]; exact whole_new w [.int .i64 g0, .int .i64 g1] 23 gn hgn.symm
  have hL0 := (hL.keep (Y := W0) (fun k hk => hB0.block k hk)).mono hB0.size
  have hR0 := (hR.keep (Y := W0) (fun k hk => hB0.block k hk)).mono hB0.size
  have a0 := hA0.cellAt 0
  have a1 := hA0.cellAt 1
  have la := hA0.lt
  simp only [List.getElem?_cons_zero, List.getElem?_cons_succ] at a0 a1
  have HB0 := Lib.hid hB0
  have HA0 := Lib.hid hA0
  have hm4 : m ≤ 10000 := by have := ok0.2.1; omega
  have hk4 : k ≤ 10000 := by have := ok1.2.1; omega
  have HNE := Lib.hid (netOf_good p q m c k d cs rs g0 g1 W0 hL0 hm hR0 hk ok0 ok1)
  have HCO := Lib.hid (fun (px py : Nat) (X : World) => cols_any px py m k g0 g1 X hm4)
  have HRO := Lib.hid (fun (px py : Nat) (X : World) => rows_any px py m k g0 g1 X hk4)
  have HST := Lib.hid (fun (B px py i : Nat) (X : World) (hN : NetAt B X px py cs rs g0 g1) (h1 : i ≤ m) => standing_any px py m k cs rs g0 g1 i X hN hm hk h1 hm4 hk4 ok0 ok1)
  have HLY := Lib.hid (fun (B px py i j : Nat) (X : World) (hN : NetAt B X px py cs rs g0 g1) (h1 : i < m) (h2 : j ≤ k) => lying_any px py m k cs rs g0 g1 i j X hN hm hk h1 h2 hm4 hk4 ok0 ok1)
  have HGS := gap_same g0 g1
  unfold netV at HNE HCO HRO HST HLY
  generalize floatOfInt .f64 g0 = fx at HNE HCO HRO HST HLY
  generalize floatOfInt .f64 g1 = fy at HNE HCO HRO HST HLY
  have HM := Lib.hid hm
  have HK := Lib.hid hk
  have HO0 := Lib.hid ok0
  have HO1 := Lib.hid ok1
  clear hL hR hL0 hR0 hm hk hA0 hB0 ok0 ok1
  go_enter Try.func6, Try.ntmps6
  go_wp2_with fail
  try rw [hW0]
  clear hW0 hgn
  refine HNE.out.mono ?_
  clear HNE
  rintro e w1 ⟨⟨px, py, rfl, hnet⟩, hb1⟩
  obtain ⟨W3, hW3⟩ : ∃ W3, w1.alloc (.cells #[.slice (some ⟨px, 0, none⟩) (m + 1) (m + 1), .slice (some ⟨py, 0, none⟩) (k + 1) (k + 1), .complex .f64 fx 0, .complex .f64 0 fy] 45) = W3 := ⟨_, rfl⟩
  have hb3 : Below w1.heap.size w1 W3 := by rw [← hW3]; exact (Below.refl _ w1).alloc (Nat.le_refl _) _
  have hNB : Whole W3 w1.heap.size 45 [.slice (some ⟨px, 0, none⟩) (m + 1) (m + 1), .slice (some ⟨py, 0, none⟩) (k + 1) (k + 1), .complex .f64 fx 0, .complex .f64 0 fy] := by rw [← hW3]; exact whole_new w1 [.slice (some ⟨px, 0, none⟩) (m + 1) (m + 1), .slice (some ⟨py, 0, none⟩) (k + 1) (k + 1), .complex .f64 fx 0, .complex .f64 0 fy] 45 _ rfl
  have HNB := Lib.hid hNB
  have HNET := Lib.hid (hnet.below hb3)
  have HB1 := Lib.hid (HB0.out.trans (hb1.mono HB0.out.size))
  have HB3 := Lib.hid (HB1.out.trans (hb3.mono HB1.out.size))
  have HA3 := Lib.hid ((HA0.out.below hb1 HA0.out.lt).below hb3 (Nat.lt_of_lt_of_le HA0.out.lt hb1.size))
  clear hb1 hnet a0 a1 la HB0 HB1 hNB hb3 HA0
  obtain ⟨nb, hnb⟩ : ∃ nb, w1.heap.size = nb := ⟨_, rfl⟩
  rw [hnb] at HNB
  have n0 := HNB.out.cellAt 0
  have n1 := HNB.out.cellAt 1
  have n2 := HNB.out.cellAt 2
  have n3 := HNB.out.cellAt 3
  have ln := HNB.out.lt
  have a0 := HA3.out.cellAt 0
  have a1 := HA3.out.cellAt 1
  have la := HA3.out.lt
  simp only [List.getElem?_cons_zero, List.getElem?_cons_succ] at a0 a1 n0 n1 n2 n3
  rw [e2] at HGS
  obtain ⟨i0, hi0, hz0, hz1, hz2⟩ := infoE Try.infoRE
  have HZ0 := Lib.hid hz0
  have HZ1 := Lib.hid hz1
  have HZ2 := Lib.hid hz2
  have HI0 := Lib.hid hi0
  clear hz0 hz1 hz2 hi0
  go_wp2_with fail
  try rw [hW3]
  try simp only [hnb]
  clear hW3 hnb
  refine (HCO.out px py _).mono ?_
  rintro e w4 ⟨rfl, hb4⟩
  have HB4 := Lib.hid (HB3.out.trans (hb4.mono HB3.out.size))
  have HNB4 := Lib.hid (HNB.out.below hb4 HNB.out.lt)
  have HNT4 := Lib.hid (HNET.out.below hb4)
  have HA4 := Lib.hid (HA3.out.below hb4 HA3.out.lt)
  clear hb4 HB3 HNB HNET HA3
  clear n0 n1 n2 n3 ln a0 a1 la
  have n0 := HNB4.out.cellAt 0
  have n1 := HNB4.out.cellAt 1
  have n2 := HNB4.out.cellAt 2
  have n3 := HNB4.out.cellAt 3
  have ln := HNB4.out.lt
  have a0 := HA4.out.cellAt 0
  have a1 := HA4.out.cellAt 1
  have la := HA4.out.lt
  simp only [List.getElem?_cons_zero, List.getElem?_cons_succ] at a0 a1 n0 n1 n2 n3
  go_wp2_with fail
  refine (HRO.out px py _).mono ?_
  rintro e w5 ⟨rfl, hb5⟩
  have HB5 := Lib.hid (HB4.out.trans (hb5.mono HB4.out.size))
  have HNB5 := Lib.hid (HNB4.out.below hb5 HNB4.out.lt)
  have HNT5 := Lib.hid (HNT4.out.below hb5)
  have HA5 := Lib.hid (HA4.out.below hb5 HA4.out.lt)
  clear hb5 HB4 HNB4 HNT4 HA4
  clear n0 n1 n2 n3 ln a0 a1 la
  have n0 := HNB5.out.cellAt 0
  have n1 := HNB5.out.cellAt 1
  have n2 := HNB5.out.cellAt 2
  have n3 := HNB5.out.cellAt 3
  have ln := HNB5.out.lt
  have a0 := HA5.out.cellAt 0
  have a1 := HA5.out.cellAt 1
  have la := HA5.out.lt
  simp only [List.getElem?_cons_zero, List.getElem?_cons_succ] at a0 a1 n0 n1 n2 n3
  obtain ⟨M, hM⟩ : ∃ M, (k + 1) * m = M := ⟨_, rfl⟩
  have hM1 : M ≤ 100010000 := by rw [← hM]; exact Nat.le_trans (Nat.mul_le_mul (show k + 1 ≤ 10001 by omega) hm4) (by decide)
  have hmc : ((k : Int) + 1) * (m : Int) = (M : Int) := by rw [← hM]; push_cast; rfl
  obtain ⟨csz, hcz, hmake⟩ := make_rectsE (m + 1 + M) (by omega)
  push_cast at hmake
  have HCZ := Lib.hid hcz
  have HMM := Lib.hid hM
  clear hcz hM
  go_wp2
  refine region_held_atE (S := fun X => Hid (Below w5.heap.size w5 X)) (by kernel_rfl) (fun w6 hw6 => ?_)
  have SV : Hid (Below w5.heap.size w5 w6) := Lib.hid (by rw [← hw6]; exact (Below.refl _ _).drew)
  clear hw6
  have hwm : IntKind.i64.wrap (((k : Int) + 1) * (m : Int)) = (M : Int) := by rw [hmc]; simp [IntKind.wrap, IntKind.bits, IntKind.signed]; omega
  have hwM : IntKind.i64.wrap (M : Int) = (M : Int) := by simp [IntKind.wrap, IntKind.bits, IntKind.signed]; omega
  have hwa : IntKind.i64.wrap ((m : Int) + 1 + (M : Int)) = (m : Int) + 1 + (M : Int) := by simp [IntKind.wrap, IntKind.bits, IntKind.signed]; omega
  try simp only [Act.put, List.setIfInBounds_toArray, List.set_cons_succ, List.set_cons_zero]
  refine wpAnyH_takeD (i := 0) (v := .pointer (some ⟨nb, 0, none⟩)) (some 36) rfl rfl (by kernel_rfl) (by kernel_rfl) (by kernel_rfl) (fun _ _ _ h => h) (Or.inl ⟨by rfl, ?_⟩) SV ?_
  · intro X hX; go_simp
  try simp only [Act.put, List.setIfInBounds_toArray, List.set_cons_succ, List.set_cons_zero]
  refine wpAnyH_takeD (i := 1) (v := .slice (some ⟨px, 0, none⟩) (m + 1) (m + 1)) (some 37) rfl rfl (by kernel_rfl) (by kernel_rfl) (by kernel_rfl) (fun _ _ _ h => h) (Or.inl ⟨by rfl, ?_⟩) SV ?_
  · intro X hX; have o0 := (hX.out.cell (p := ⟨nb, 0, none⟩) ln).trans n0; have o1 := (hX.out.cell (p := ⟨nb, 1, none⟩) ln).trans n1; have o2 := (hX.out.cell (p := ⟨nb, 2, none⟩) ln).trans n2; have o3 := (hX.out.cell (p := ⟨nb, 3, none⟩) ln).trans n3; have lX := hX.out.size; have lbX : nb < X.heap.size := (by omega); go_simp
  try simp only [Act.put, List.setIfInBounds_toArray, List.set_cons_succ, List.set_cons_zero]
  refine wpAnyH_takeD (i := 2) (v := .int .i64 ((m : Int) + 1)) (some 38) rfl rfl (by kernel_rfl) (by kernel_rfl) (by kernel_rfl) (fun _ _ _ h => h) (Or.inl ⟨by rfl, ?_⟩) SV ?_
  · intro X hX; go_simp
  try simp only [Act.put, List.setIfInBounds_toArray, List.set_cons_succ, List.set_cons_zero]
  refine wpAnyH_takeD (i := 3) (v := .pointer (some ⟨nb, 1, none⟩)) (some 39) rfl rfl (by kernel_rfl) (by kernel_rfl) (by kernel_rfl) (fun _ _ _ h => h) (Or.inl ⟨by rfl, ?_⟩) SV ?_
  · intro X hX; go_simp
  try simp only [Act.put, List.setIfInBounds_toArray, List.set_cons_succ, List.set_cons_zero]
  refine wpAnyH_takeD (i := 4) (v := .slice (some ⟨py, 0, none⟩) (k + 1) (k + 1)) (some 40) rfl rfl (by kernel_rfl) (by kernel_rfl) (by kernel_rfl) (fun _ _ _ h => h) (Or.inl ⟨by rfl, ?_⟩) SV ?_
  · intro X hX; have o0 := (hX.out.cell (p := ⟨nb, 0, none⟩) ln).trans n0; have o1 := (hX.out.cell (p := ⟨nb, 1, none⟩) ln).trans n1; have o2 := (hX.out.cell (p := ⟨nb, 2, none⟩) ln).trans n2; have o3 := (hX.out.cell (p := ⟨nb, 3, none⟩) ln).trans n3; have lX := hX.out.size; have lbX : nb < X.heap.size := (by omega); go_simp
  try simp only [Act.put, List.setIfInBounds_toArray, List.set_cons_succ, List.set_cons_zero]
  refine wpAnyH_takeD (i := 5) (v := .int .i64 ((k : Int) + 1)) (some 41) rfl rfl (by kernel_rfl) (by kernel_rfl) (by kernel_rfl) (fun _ _ _ h => h) (Or.inl ⟨by rfl, ?_⟩) SV ?_
  · intro X hX; go_simp
  try simp only [Act.put, List.setIfInBounds_toArray, List.set_cons_succ, List.set_cons_zero]
  refine wpAnyH_takeD (i := 6) (v := .agg #[.slice (some ⟨px, 0, none⟩) (m + 1) (m + 1), .slice (some ⟨py, 0, none⟩) (k + 1) (k + 1), .complex .f64 fx 0, .complex .f64 0 fy]) (some 42) rfl rfl (by kernel_rfl) (by kernel_rfl) (by kernel_rfl) (fun _ _ _ h => h) (Or.inl ⟨by rfl, ?_⟩) SV ?_
  · intro X hX; have o0 := (hX.out.cell (p := ⟨nb, 0, none⟩) ln).trans n0; have o1 := (hX.out.cell (p := ⟨nb, 1, none⟩) ln).trans n1; have o2 := (hX.out.cell (p := ⟨nb, 2, none⟩) ln).trans n2; have o3 := (hX.out.cell (p := ⟨nb, 3, none⟩) ln).trans n3; have lX := hX.out.size; have lbX : nb < X.heap.size := (by omega); go_simp
  try simp only [Act.put, List.setIfInBounds_toArray, List.set_cons_succ, List.set_cons_zero]
  refine wpAnyH_all (rs := [7]) (by kernel_rfl) (by simp) ?_
  intro ii hii; obtain rfl : ii = 7 := by simpa using hii
  clear hii
  refine wpOp_step rfl (fun K hK => ?_)
  go_simp
  refine (HCO.out px py _).mono ?_
  rintro e w7 ⟨rfl, hb7⟩
  have SV7 : Hid (Below w5.heap.size w5 w7) := Lib.hid (SV.out.trans (hb7.mono SV.out.size))
  refine hK _ _ ⟨SV7, ?_⟩
  clear hK K SV hb7
  have SV := SV7
  clear SV7
  try simp only [Act.put, List.setIfInBounds_toArray, List.set_cons_succ, List.set_cons_zero]
  refine wpAnyH_takeD (i := 8) (v := .int .i64 (M : Int)) (some 44) rfl rfl (by kernel_rfl) (by kernel_rfl) (by kernel_rfl) (fun _ _ _ h => h) (Or.inl ⟨by rfl, ?_⟩) SV ?_
  · intro X hX; go_simp
  try simp only [Act.put, List.setIfInBounds_toArray, List.set_cons_succ, List.set_cons_zero]
  refine wpAnyH_takeD (i := 9) (v := .int .i64 ((m : Int) + 1 + (M : Int))) (some 45) rfl rfl (by kernel_rfl) (by kernel_rfl) (by kernel_rfl) (fun _ _ _ h => h) (Or.inl ⟨by rfl, ?_⟩) SV ?_
  · intro X hX; go_simp
  try simp only [Act.put, List.setIfInBounds_toArray, List.set_cons_succ, List.set_cons_zero]
  refine wpAnyH_all (rs := [10]) (by kernel_rfl) (by simp) ?_
  intro ii hii; obtain rfl : ii = 10 := by simpa using hii
  clear hii
  refine wpOp_step rfl (fun K hK => ?_)
  go_simp
  have SV8 : Hid (Below w5.heap.size w5 (w7.alloc (.cells csz 38))) := Lib.hid (SV.out.alloc SV.out.size _)
  refine hK _ _ ⟨SV8, ?_⟩
  clear hK K
  try simp only [Act.put, List.setIfInBounds_toArray, List.set_cons_succ, List.set_cons_zero]
  refine wpAnyH_takeD (i := 11) (v := .slice (some ⟨w7.heap.size, 0, none⟩) 0 (m + 1 + M)) (some 10) rfl rfl (by kernel_rfl) (by kernel_rfl) (by kernel_rfl) (fun _ _ _ h => h) (Or.inl ⟨by rfl, ?_⟩) SV8 ?_
  · intro X hX; go_simp
  try simp only [Act.put, List.setIfInBounds_toArray, List.set_cons_succ, List.set_cons_zero]
  refine wpAnyH_done (by kernel_rfl) ?_ _
  have HB7 := Lib.hid (HB5.out.trans (SV.out.mono HB5.out.size))
  have HNB7 := Lib.hid (HNB5.out.below SV.out HNB5.out.lt)
  have HNT7 := Lib.hid (HNT5.out.below SV.out)
  clear SV8 SV HB5 HNB5 HNT5 HA5 n0 n1 n2 n3 ln a0 a1 la hwa hwM

  obtain ⟨W8, hW8⟩ : ∃ W8, w7.alloc (.cells csz 38) = W8 := ⟨_, rfl⟩
  have b8 : Below w7.heap.size w7 W8 := by rw [← hW8]; exact (Below.refl _ w7).alloc (Nat.le_refl _) _
  have hown8 : W8.ownsRow w7.heap.size 38 4 (.slice (some ⟨w7.heap.size, 0, none⟩) 0 (m + 1 + M)) 0 (flatE []) := by rw [← hW8]; exact made_ownE HCZ.out (by omega) (Nat.le_refl _)
  have HB8 := Lib.hid b8
  have HO8 := Lib.hid hown8
  have HNB8 := Lib.hid (HNB7.out.below b8 HNB7.out.lt)
  have n0 := HNB8.out.cellAt 0
  have n1 := HNB8.out.cellAt 1
  have n2 := HNB8.out.cellAt 2
  have n3 := HNB8.out.cellAt 3
  have ln := HNB8.out.lt
  simp only [List.getElem?_cons_zero, List.getElem?_cons_succ] at n0 n1 n2 n3
  clear b8 hown8
  have z7 : w7.heap.size ≤ W8.heap.size := HB8.out.size
  go_wp2_with fail
  try rw [hW8]
  clear hW8 hmake hmc hwm n0 n1 n2 n3 ln HNB8
  go_loopw [10, 50] (fun s10 s50 X => ∃ (t : Nat) (lv : Value), t ≤ m + 1 ∧ s50 = .int .i64 (t : Int) ∧ lv = s10 ∧ Hid (X.ownsRow w7.heap.size 38 4 lv t (flatE (stdsE g0 g1 cs rs t))) ∧ Hid (Below w7.heap.size w7 X)) (fun _ s50 _ => m + 1 - (intOf s50).toNat)
  case atStart => exact ⟨0, _, Nat.zero_le _, rfl, rfl, HO8, HB8⟩
  case round =>
    obtain ⟨t, lv, ht, rfl, rfl, HO, HB⟩ := hrel
    clear HO8 HB8 z7
    have z7 := HB.out.size
    have HNR := Lib.hid (HNB7.out.below HB.out HNB7.out.lt)
    have n0 := HNR.out.cellAt 0
    have n1 := HNR.out.cellAt 1
    have n2 := HNR.out.cellAt 2
    have n3 := HNR.out.cellAt 3
    have ln := HNR.out.lt
    simp only [List.getElem?_cons_zero, List.getElem?_cons_succ] at n0 n1 n2 n3
    by_cases hlt : t < m + 1
    · have HTK := Lib.hid (stdsE_succ g0 g1 cs rs t)
      have HSV := Lib.hid (show stdE g0 g1 cs rs t = ⟨begW g0 cs t - g0, 0, g0, begW g1 rs k⟩ by unfold stdE; rw [HK.out])
      go_wp2_with fail
      refine (HST.out _ px py t _ (HNT7.out.below HB.out) (by omega)).mono ?_
      rintro e w5' ⟨rfl, hb5⟩
      have HO5 := Lib.hid (own_laterE HO.out hb5)
      have HB35 := Lib.hid (HB.out.trans (hb5.mono HB.out.size))
      have z35 := HB35.out.size
      clear n0 n1 n2 n3 ln hb5 HO HNR
      generalize begW g0 cs t - g0 = xx at *
      generalize begW g1 rs k = vv at *
      dsimp only [RR.R.val]
      go_wp2_with (at_builtin; refine wpList_append_own_at _ rfl _ _ 28 rfl w7.heap.size 38 i0 (.agg #[.int .i64 0, .int .i64 0, .int .i64 0, .int .i64 0]) 4 32 Try.underlying28 HI0.out HZ0.out HZ1.out HZ2.out rfl (by decide) lv t (flatE (stdsE g0 g1 cs rs t)) rfl (HO5.out.alloc _) ⟨w5'.heap.size, 0, none⟩ 1 1 [.int .i64 xx, .int .i64 0, .int .i64 g0, .int .i64 vv] rfl rfl (layE _ [.int .i64 xx, .int .i64 0, .int .i64 g0, .int .i64 vv] _ _ rfl) (by simp [Value.oneCell']) (by unfold maxLen; omega) (by omega) (by simp <;> omega) ?_)
      intro v' w6' hown hgrow _ _
      have HB6' := Lib.hid (own_below (HB35.out.alloc z35 _) (HO5.out.alloc _) (Nat.le_refl _) hgrow (by simp <;> omega))
      have HO6 := Lib.hid hown
      clear hown hgrow HO5 HB35
      go_wp2
      go_roundw
      case rel => exact ⟨t + 1, v', by omega, by go_num, rfl, Lib.hid (by rw [HTK.out, HSV.out, flatE_snoc]; exact HO6.out), HB6'⟩
      case measure => simp [intOf]; omega
    · have HT := Lib.hid (show t = m + 1 by omega)
      go_wp2
      go_loopw [10, 63] (fun s10 s63 X => ∃ (j n : Nat) (lv : Value), j ≤ k + 1 ∧ s63 = .int .i64 (j : Int) ∧ lv = s10 ∧ Hid (n = m + 1 + j * m) ∧ Hid (X.ownsRow w7.heap.size 38 4 lv n (flatE (stdsE g0 g1 cs rs (m + 1) ++ lyJE g0 g1 cs rs m j))) ∧ Hid (Below w7.heap.size w7 X)) (fun _ s63 _ => k + 1 - (intOf s63).toNat)
      case atStart => exact ⟨0, m + 1, _, Nat.zero_le _, rfl, rfl, Lib.hid (by omega), Lib.hid (by have e := HO.out; rw [HT.out] at e; simpa [lyJE] using e), HB⟩
      case round =>
        obtain ⟨j, n, lv2, hj, rfl, rfl, HNN, HO2, HB2⟩ := hrel
        clear HO n0 n1 n2 n3 ln HNR z7
        have z7 := HB2.out.size
        have HNR := Lib.hid (HNB7.out.below HB2.out HNB7.out.lt)
        have n0 := HNR.out.cellAt 0
        have n1 := HNR.out.cellAt 1
        have n2 := HNR.out.cellAt 2
        have n3 := HNR.out.cellAt 3
        have ln := HNR.out.lt
        simp only [List.getElem?_cons_zero, List.getElem?_cons_succ] at n0 n1 n2 n3
        by_cases hjl : j < k + 1
        · have hjm : j * m ≤ 100010000 := Nat.le_trans (Nat.mul_le_mul (show j ≤ 10001 by omega) hm4) (by decide)
          have hn1 : n ≤ 100030000 := by have := HNN.out; omega
          have HJS := Lib.hid (lyJE_succ g0 g1 cs rs m j)
          go_wp2_with fail
          refine (HCO.out px py _).mono ?_
          rintro e w9 ⟨rfl, hb9⟩
          have HO9 := Lib.hid (own_laterE HO2.out hb9)
          have HB9 := Lib.hid (HB2.out.trans (hb9.mono HB2.out.size))
          clear n0 n1 n2 n3 ln hb9 HO2 HNR
          go_wp2_with fail
          go_loopw [10, 68] (fun s10 s68 X => ∃ (i : Nat) (lv : Value), i ≤ m ∧ s68 = .int .i64 (i : Int) ∧ lv = s10 ∧ Hid (X.ownsRow w7.heap.size 38 4 lv (n + i) (flatE (stdsE g0 g1 cs rs (m + 1) ++ lyJE g0 g1 cs rs m j ++ lysE g0 g1 cs rs j i))) ∧ Hid (Below w7.heap.size w7 X)) (fun _ s68 _ => m - (intOf s68).toNat)
          case atStart => exact ⟨0, _, Nat.zero_le _, rfl, rfl, Lib.hid (by simpa [lysE] using HO9.out), HB9⟩
          case round =>
            obtain ⟨i, lv3, hi, rfl, rfl, HO3, HB3'⟩ := hrel
            clear HO9 HB9 z7
            have z7 := HB3'.out.size
            by_cases hil : i < m
            · have HNR := Lib.hid (HNB7.out.below HB3'.out HNB7.out.lt)
              have n0 := HNR.out.cellAt 0
              have n1 := HNR.out.cellAt 1
              have n2 := HNR.out.cellAt 2
              have n3 := HNR.out.cellAt 3
              have ln := HNR.out.lt
              simp only [List.getElem?_cons_zero, List.getElem?_cons_succ] at n0 n1 n2 n3
              have HTK := Lib.hid (lysE_succ g0 g1 cs rs j i)
              have HSV := Lib.hid (show lyE g0 g1 cs rs j i = ⟨begW g0 cs i, begW g1 rs j - g1, wideW g0 cs i (i + 1), g1⟩ from rfl)
              go_wp2_with fail
              refine (HLY.out _ px py i j _ (HNT7.out.below HB3'.out) hil (by omega)).mono ?_
              rintro e w5' ⟨rfl, hb5⟩
              have HO5 := Lib.hid (own_laterE HO3.out hb5)
              have HB35 := Lib.hid (HB3'.out.trans (hb5.mono HB3'.out.size))
              have z35 := HB35.out.size
              clear n0 n1 n2 n3 ln hb5 HO3 HNR
              generalize begW g1 rs j - g1 = yy at *
              generalize begW g0 cs i = xx at *
              generalize wideW g0 cs i (i + 1) = uu at *
              dsimp only [RR.R.val]
              go_wp2_with (at_builtin; refine wpList_append_own_at _ rfl _ _ 28 rfl w7.heap.size 38 i0 (.agg #[.int .i64 0, .int .i64 0, .int .i64 0, .int .i64 0]) 4 32 Try.underlying28 HI0.out HZ0.out HZ1.out HZ2.out rfl (by decide) lv3 (n + i) (flatE (stdsE g0 g1 cs rs (m + 1) ++ lyJE g0 g1 cs rs m j ++ lysE g0 g1 cs rs j i)) rfl (HO5.out.alloc _) ⟨w5'.heap.size, 0, none⟩ 1 1 [.int .i64 xx, .int .i64 yy, .int .i64 uu, .int .i64 g1] rfl rfl (layE _ [.int .i64 xx, .int .i64 yy, .int .i64 uu, .int .i64 g1] _ _ rfl) (by simp [Value.oneCell']) (by unfold maxLen; omega) (by omega) (by simp <;> omega) ?_)
              intro v' w6' hown hgrow _ _
              have HB6' := Lib.hid (own_below (HB35.out.alloc z35 _) (HO5.out.alloc _) (Nat.le_refl _) hgrow (by simp <;> omega))
              have HO6 := Lib.hid hown
              clear hown hgrow HO5 HB35
              go_wp2
              go_roundw
              case rel => exact ⟨i + 1, v', by omega, by go_num, rfl, Lib.hid (by rw [HTK.out, HSV.out, ← List.append_assoc, flatE_snoc, ← Nat.add_assoc]; simpa only [List.append_assoc] using HO6.out), HB6'⟩
              case measure => simp [intOf]; omega
            · obtain rfl : i = m := by omega
              go_wp2
              go_roundw
              case rel => exact ⟨j + 1, n + i, _, by omega, by go_num, rfl, Lib.hid (by rw [HNN.out, Nat.succ_mul]; omega), Lib.hid (by rw [HJS.out, ← List.append_assoc]; exact HO3.out), HB3'⟩
              case measure => simp [intOf]; omega
        · have HJ2 := Lib.hid (show j = k + 1 by omega)
          have HE : Hid (n = m + 1 + (k + 1) * m) := Lib.hid (by rw [← HJ2.out]; exact HNN.out)
          go_wp2
          go_ret2
          exact ⟨⟨_, rfl, by rw [← HE.out, ← HJ2.out]; exact own_mono HO2.out HB7.out.size⟩, HB7.out.trans (HB2.out.mono HB7.out.size)⟩
theorem gutters_any (p q : Option Addr) (m c k d : Nat) (cs rs : List Int) (g0 g1 : Int) (w : World) (hL : LowI w.heap.size w (.slice p m c) cs) (hm : cs.length = m) (hR : LowI w.heap.size w (.slice q k d) rs) (hk : rs.length = k) :
    Calls Try.prog 6 #[.slice p m c, .slice q k d, .agg #[.int .i64 g0, .int .i64 g1]] w (CellsPost (okB g0 cs && okB g1 rs) w (gutE g0 g1 cs rs)) := by
  cases hb0 : okB g0 cs with
  | false => exact (gut_bad p q m c k d cs rs g0 g1 w hL hm hR hk (.inl hb0)).mono fun e W' h => ⟨h.2, .inr ⟨rfl, h.1⟩⟩
  | true =>
    cases hb1 : okB g1 rs with
    | false => exact (gut_bad p q m c k d cs rs g0 g1 w hL hm hR hk (.inr hb1)).mono fun e W' h => ⟨h.2, .inr ⟨rfl, h.1⟩⟩
    | true =>
      have ok0 := okB_iff.1 hb0
      have ok1 := okB_iff.1 hb1
      have hnone : (cs.length = 0 ∨ rs.length = 0 ∨ (g0 = 0 ∧ g1 = 0)) → gutE g0 g1 cs rs = [] := fun h => by unfold gutE; rw [if_pos h]
      by_cases h0 : m = 0
      · refine (gut_none0 p q m c k d cs rs g0 g1 w hL hm hR hk ok0 ok1 h0).mono fun e W' h => ⟨h.2, .inl ⟨rfl, _, h.1, ?_⟩⟩
        rw [hnone (.inl (by omega))]; exact World.ownsRow_nil _ _ _ _
      · by_cases h1 : k = 0
        · refine (gut_none1 p q m c k d cs rs g0 g1 w hL hm hR hk ok0 ok1 h0 h1).mono fun e W' h => ⟨h.2, .inl ⟨rfl, _, h.1, ?_⟩⟩
          rw [hnone (.inr (.inl (by omega)))]; exact World.ownsRow_nil _ _ _ _
        · by_cases h2 : g0 = 0 ∧ g1 = 0
          · refine (gut_none2 p q m c k d cs rs g0 g1 w hL hm hR hk ok0 ok1 h0 h1 h2.1 h2.2).mono fun e W' h => ⟨h.2, .inl ⟨rfl, _, h.1, ?_⟩⟩
            rw [hnone (.inr (.inr h2))]; exact World.ownsRow_nil _ _ _ _
          · refine (gut_main p q m c k d cs rs g0 g1 w hL hm hR hk ok0 ok1 h0 h1 h2).mono fun e W' h => ?_
            obtain ⟨⟨v, h3, h4⟩, h5⟩ := h
            refine ⟨h5, .inl ⟨rfl, v, h3, ?_⟩⟩
            have hn : ¬ (cs.length = 0 ∨ rs.length = 0 ∨ (g0 = 0 ∧ g1 = 0)) := by rw [hm, hk]; omega
            rw [gutE_len g0 g1 cs rs hn, hm, hk]
            unfold gutE
            rw [if_neg hn, hm, hk]
            exact h4
end Go.Proofs.Ytlnfgmmgkmhehaa
