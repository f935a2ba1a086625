/- Contracts of collapse.net.courseOf and collapse.widen. Written by mk_CoWid.py. -/
import Derived.Test.YtceippgkmoijdaaCoWon
namespace Go.Proofs.Ytceippgkmoijdaa
open Go.RowKit Go.Shelf Go.Sort Go.Maps
set_option linter.unusedVariables false
set_option linter.unusedSimpArgs false
attribute [local go_sem] Oper.semAt_some

theorem results_crs {fn : Func} {W : World} {g q : Nat} {xs : List Value} {tmps : Array Value} (hl : xs.length = 7) (hf : fn.results = #[.cell q 70]) (ht : tmps.getD q undef = .pointer (some ⟨g, 0, none⟩)) (h : Whole W g 70 xs) :
    (results fn tmps).run Try.prog W = .ok (.agg xs.toArray) W :=
  results_cell_row hf tmps W g 70 xs.toArray (0, 0) _ ht h Try.underlying70 rfl (by rw [Try.infoCourse, List.size_toArray, hl])
theorem crs_len (l : Bool) (rn kn g : Nat) : (crs l rn kn g).length = 7 := by cases l <;> rfl
set_option maxRecDepth 100000 in
set_option maxHeartbeats 4000000 in
theorem courseOf_any (rn kn : Nat) (po : Option Addr) (co : Nat) (e : Ed) (W : World) :
    Calls Try.prog 24 #[.agg #[.int .i64 (rn : Int), .int .i64 (kn : Int), .slice po rn co], e.val] W fun x X => ∃ gb, x = .returned (.agg (crs e.lies rn kn gb).toArray) ∧ Whole X gb 64 (NetV rn kn po co) ∧ W.heap.size ≤ gb ∧ Below W.heap.size W X := by
  have HLY := Lib.hid (fun X => lying_any rn kn po co X)
  have HST := Lib.hid (fun X => standing_any rn kn po co X)
  obtain ⟨row, col, l, ⟨a0, a1, a2, a3, a4, a5⟩, n⟩ := e
  have HRS := Lib.hid (((whole_new ((W.alloc (.cells #[.int .i64 (rn : Int), .int .i64 (kn : Int), .slice po rn co] 64)).alloc (.cells #[.int .i64 row, .int .i64 col, .bool l, .int .i64 a0, .int .i64 a1, .int .u32 a2, .int .i64 a3, .int .i64 a4, .int .i64 a5, .int .i64 n] 56)) zeroCo 70 _ rfl)))
  have HBE : Hid (Below W.heap.size W (((W.alloc (.cells #[.int .i64 (rn : Int), .int .i64 (kn : Int), .slice po rn co] 64)).alloc (.cells #[.int .i64 row, .int .i64 col, .bool l, .int .i64 a0, .int .i64 a1, .int .u32 a2, .int .i64 a3, .int .i64 a4, .int .i64 a5, .int .i64 n] 56)).alloc (.cells zeroCo.toArray 70))) := Lib.hid ((((Below.refl _ W).alloc (Nat.le_refl _) _).alloc (by simp) _).alloc (by simp; omega) _)
  have IC : Hid (∀ g, (Try.prog.info? 70).map (·.size) = some (crs l rn kn g).toArray.size) := Lib.hid (fun g => by rw [Try.infoCourse, List.size_toArray, crs_len])
  have OC : Hid (∀ g, (crs l rn kn g).toArray.all (·.oneCell') = true) := Lib.hid (fun g => by cases l <;> simp [crs, colying, costanding, Value.oneCell'])
  have ZC : Hid (∀ g, zeroCo.toArray.size = (crs l rn kn g).toArray.size) := Lib.hid (fun g => by rw [List.size_toArray, List.size_toArray, crs_len]; rfl)
  unfold Ed.val Ed.cells Si.cells
  simp only [List.cons_append, List.nil_append]
  obtain ⟨W3, hW3⟩ : ∃ W3, (((W.alloc (.cells #[.int .i64 (rn : Int), .int .i64 (kn : Int), .slice po rn co] 64)).alloc (.cells #[.int .i64 row, .int .i64 col, .bool l, .int .i64 a0, .int .i64 a1, .int .u32 a2, .int .i64 a3, .int .i64 a4, .int .i64 a5, .int .i64 n] 56)).alloc (.cells zeroCo.toArray 70)) = W3 := ⟨_, rfl⟩
  have s3 : W3.heap.size = W.heap.size + 3 := by rw [← hW3]; simp
  rw [hW3] at HRS HBE
  have HR2 : Hid (Whole W3 (W.heap.size + 2) 70 zeroCo) := Lib.hid (by have h := HRS.out; simpa using h)
  clear HRS
  have hW4 : (((W.alloc (.cells #[.int .i64 (rn : Int), .int .i64 (kn : Int), .slice po rn co] 64)).alloc (.cells #[.int .i64 row, .int .i64 col, .bool l, .int .i64 a0, .int .i64 a1, .int .u32 a2, .int .i64 a3, .int .i64 a4, .int .i64 a5, .int .i64 n] 56)).alloc (.cells #[.bool false, .int .i64 0, .int .i64 0, .int .i64 0, .int .i64 0, .nilFunc, .nilFunc] 70)) = W3 := hW3
  have HW4 := Lib.hid hW4
  clear hW4 hW3
  cases l with
  | true =>
    go_enter Try.func24, Try.ntmps24
    go_wp2_with fail
    rw [HW4.out]
    refine (HLY.out W3).mono ?_
    rintro e w1 ⟨rfl, h1, hb⟩
    have KR : Hid (Whole w1 (W.heap.size + 1 + 1) 70 zeroCo) := Lib.hid (HR2.out.below hb HR2.out.lt)
    have KN := Lib.hid h1
    have B1 := Lib.hid hb
    obtain ⟨g3, hg3⟩ : ∃ g, W3.heap.size = g := ⟨_, rfl⟩
    rw [hg3] at KN
    try rw [hg3]
    have HG3 := Lib.hid hg3
    have IC1 : Hid ((Try.prog.info? 70).map (·.size) = some (colying rn kn g3).toArray.size) := Lib.hid (by rw [Try.infoCourse]; rfl)
    have OC1 : Hid ((colying rn kn g3).toArray.all (·.oneCell') = true) := Lib.hid (by simp [colying, Value.oneCell'])
    have ZC1 : Hid (zeroCo.toArray.size = (colying rn kn g3).toArray.size) := Lib.hid rfl
    clear h1 hb HW4 hg3
    go_wp2_with (refine wpList_store_row rfl 70 (.tmp 4) (.tmp 8) rfl (W.heap.size + 1 + 1) (colying rn kn g3).toArray rfl rfl 70 zeroCo.toArray KR.out IC1.out ZC1.out OC1.out ?_)
    refine bodyPost_ret (results_crs (crs_len true rn kn g3) (g := W.heap.size + 2) rfl rfl (whole_rowA KR.out _)) rfl ⟨g3, rfl, ?_, by have := HG3.out; omega, ?_⟩
    · exact whole_rowO KN.out _ _ (by have := HG3.out; omega)
    · exact (HBE.out.trans (B1.out.mono HBE.out.size)).trans (below_setRow (Below.refl _ _) _ _ (by omega))
  | false =>
    go_enter Try.func24, Try.ntmps24
    go_wp2_with fail
    rw [HW4.out]
    refine (HST.out W3).mono ?_
    rintro e w1 ⟨rfl, h1, hb⟩
    have KR : Hid (Whole w1 (W.heap.size + 1 + 1) 70 zeroCo) := Lib.hid (HR2.out.below hb HR2.out.lt)
    have KN := Lib.hid h1
    have B1 := Lib.hid hb
    obtain ⟨g3, hg3⟩ : ∃ g, W3.heap.size = g := ⟨_, rfl⟩
    rw [hg3] at KN
    try rw [hg3]
    have HG3 := Lib.hid hg3
    have IC1 : Hid ((Try.prog.info? 70).map (·.size) = some (costanding rn kn g3).toArray.size) := Lib.hid (by rw [Try.infoCourse]; rfl)
    have OC1 : Hid ((costanding rn kn g3).toArray.all (·.oneCell') = true) := Lib.hid (by simp [costanding, Value.oneCell'])
    have ZC1 : Hid (zeroCo.toArray.size = (costanding rn kn g3).toArray.size) := Lib.hid rfl
    clear h1 hb HW4 hg3
    go_wp2_with (refine wpList_store_row rfl 70 (.tmp 4) (.tmp 10) rfl (W.heap.size + 1 + 1) (costanding rn kn g3).toArray rfl rfl 70 zeroCo.toArray KR.out IC1.out ZC1.out OC1.out ?_)
    refine bodyPost_ret (results_crs (crs_len false rn kn g3) (g := W.heap.size + 2) rfl rfl (whole_rowA KR.out _)) rfl ⟨g3, rfl, ?_, by have := HG3.out; omega, ?_⟩
    · exact whole_rowO KN.out _ _ (by have := HG3.out; omega)
    · exact (HBE.out.trans (B1.out.mono HBE.out.size)).trans (below_setRow (Below.refl _ _) _ _ (by omega))
set_option maxRecDepth 100000 in
set_option maxHeartbeats 4000000 in
theorem widen_any (g o k : Nat) (hk : k < 4) (e : Ed) (first : Bool) (z : Int) (W : World) (hw : I64 e.won.wd) (hz : W.cell? ⟨g, o + k, none⟩ = some (.int .i64 z)) (hfz : W.frozen? ⟨g, o + k, none⟩ = false) :
    Calls Try.prog 26 #[.pointer (some ⟨g, o, none⟩), .int .i64 (k : Int), e.val, .bool first] W fun x X => x = .returned (.tuple #[]) ∧ ∃ Y, Below W.heap.size W Y ∧ X = Y.setCell ⟨g, o + k, none⟩ (.int .i64 (max z (halfI e.won.wd first))) := by
  have lg : g < W.heap.size := cell_lt hz
  obtain ⟨row, col, l, ⟨a0, a1, a2, a3, a4, a5⟩, n⟩ := e
  have HH := Lib.hid (fun X => half_any a1 first hw.1 hw.2 X)
  unfold Ed.val Ed.cells Si.cells
  simp only [List.cons_append, List.nil_append]
  try dsimp only
  obtain ⟨h0, hh0⟩ : ∃ h, halfI a1 first = h := ⟨_, rfl⟩
  rw [hh0] at HH ⊢
  clear hh0 hw
  have KB := Lib.hid (whole_new W [.int .i64 row, .int .i64 col, .bool l, .int .i64 a0, .int .i64 a1, .int .u32 a2, .int .i64 a3, .int .i64 a4, .int .i64 a5, .int .i64 n] 56 _ rfl)
  have BB := Lib.hid ((Below.refl W.heap.size W).alloc (Nat.le_refl _) (.cells [.int .i64 row, .int .i64 col, .bool l, .int .i64 a0, .int .i64 a1, .int .u32 a2, .int .i64 a3, .int .i64 a4, .int .i64 a5, .int .i64 n].toArray 56))
  have HZ := Lib.hid (And.intro hz (And.intro hfz lg))
  clear hz hfz lg
  obtain rfl | rfl | rfl | rfl : k = 0 ∨ k = 1 ∨ k = 2 ∨ k = 3 := by omega
  · go_enter Try.func26, Try.ntmps26
    go_wp2_with (refine region_L (S := fun X => Hid (Whole X W.heap.size 56 [.int .i64 row, .int .i64 col, .bool l, .int .i64 a0, .int .i64 a1, .int .u32 a2, .int .i64 a3, .int .i64 a4, .int .i64 a5, .int .i64 n])) (by kernel_rfl) (fun w9 hw9 => ?_))
    have B9 : Hid (Below W.heap.size W w9) := Lib.hid (by rw [← hw9]; exact BB.out.trans (below_dn _ _ 1))
    have SV : Hid (Whole w9 W.heap.size 56 [.int .i64 row, .int .i64 col, .bool l, .int .i64 a0, .int .i64 a1, .int .u32 a2, .int .i64 a3, .int .i64 a4, .int .i64 a5, .int .i64 n]) := Lib.hid (by rw [← hw9]; exact KB.out.below (below_dn (W.heap.size + 1) _ 1) (by omega))
    clear hw9 KB BB
    try simp only [Act.put, List.setIfInBounds_toArray, List.set_cons_succ, List.set_cons_zero]
    refine AnyL.take (i := 0) (v := .pointer (some ⟨g, o, none⟩)) (some 8) rfl rfl (by kernel_rfl) (by kernel_rfl) (by kernel_rfl) (fun _ _ _ h => h) SV (Or.inl ⟨by rfl, ?_⟩) ?_
    · intro X hX; go_simp
    try simp only [Act.put, List.setIfInBounds_toArray, List.set_cons_succ, List.set_cons_zero]
    refine AnyL.take (i := 1) (v := .int .i64 0) (some 9) rfl rfl (by kernel_rfl) (by kernel_rfl) (by kernel_rfl) (fun _ _ _ h => h) SV (Or.inl ⟨by rfl, ?_⟩) ?_
    · intro X hX; go_simp
    try simp only [Act.put, List.setIfInBounds_toArray, List.set_cons_succ, List.set_cons_zero]
    refine AnyL.take (i := 2) (v := .pointer (some ⟨g, o, none⟩)) (some 10) rfl rfl (by kernel_rfl) (by kernel_rfl) (by kernel_rfl) (fun _ _ _ h => h) SV (Or.inl ⟨by rfl, ?_⟩) ?_
    · intro X hX; go_simp
    try simp only [Act.put, List.setIfInBounds_toArray, List.set_cons_succ, List.set_cons_zero]
    refine AnyL.take (i := 3) (v := .int .i64 0) (some 11) rfl rfl (by kernel_rfl) (by kernel_rfl) (by kernel_rfl) (fun _ _ _ h => h) SV (Or.inl ⟨by rfl, ?_⟩) ?_
    · intro X hX; go_simp
    try simp only [Act.put, List.setIfInBounds_toArray, List.set_cons_succ, List.set_cons_zero]
    refine AnyL.take (i := 4) (v := .pointer (some ⟨g, o, none⟩)) (some 12) rfl rfl (by kernel_rfl) (by kernel_rfl) (by kernel_rfl) (fun _ _ _ h => h) SV (Or.inl ⟨by rfl, ?_⟩) ?_
    · intro X hX; go_simp
    try simp only [Act.put, List.setIfInBounds_toArray, List.set_cons_succ, List.set_cons_zero]
    refine AnyL.take (i := 5) (v := .pointer (some ⟨g, o, none⟩)) (some 13) rfl rfl (by kernel_rfl) (by kernel_rfl) (by kernel_rfl) (fun _ _ _ h => h) SV (Or.inl ⟨by rfl, ?_⟩) ?_
    · intro X hX; go_simp
    try simp only [Act.put, List.setIfInBounds_toArray, List.set_cons_succ, List.set_cons_zero]
    refine AnyL.take (i := 7) (v := .pointer (some ⟨W.heap.size, 3, none⟩)) (some 15) rfl rfl (by kernel_rfl) (by kernel_rfl) (by kernel_rfl) (fun _ _ _ h => h) SV (Or.inl ⟨by rfl, ?_⟩) ?_
    · intro X hX; go_simp
    try simp only [Act.put, List.setIfInBounds_toArray, List.set_cons_succ, List.set_cons_zero]
    refine AnyL.take (i := 8) (v := .pointer (some ⟨W.heap.size, 3, none⟩)) (some 16) rfl rfl (by kernel_rfl) (by kernel_rfl) (by kernel_rfl) (fun _ _ _ h => h) SV (Or.inl ⟨by rfl, ?_⟩) ?_
    · intro X hX; go_simp
    try simp only [Act.put, List.setIfInBounds_toArray, List.set_cons_succ, List.set_cons_zero]
    refine AnyL.take (i := 9) (v := .pointer (some ⟨W.heap.size, 4, none⟩)) (some 17) rfl rfl (by kernel_rfl) (by kernel_rfl) (by kernel_rfl) (fun _ _ _ h => h) SV (Or.inl ⟨by rfl, ?_⟩) ?_
    · intro X hX; go_simp
    try simp only [Act.put, List.setIfInBounds_toArray, List.set_cons_succ, List.set_cons_zero]
    refine AnyL.take (i := 10) (v := .int .i64 a1) (some 18) rfl rfl (by kernel_rfl) (by kernel_rfl) (by kernel_rfl) (fun _ _ _ h => h) SV (Or.inl ⟨by rfl, ?_⟩) ?_
    · intro X hX; have q := hX.out.cellAt 4; have lq := hX.out.lt; simp only [List.getElem?_cons_zero, List.getElem?_cons_succ] at q; go_simp
    try simp only [Act.put, List.setIfInBounds_toArray, List.set_cons_succ, List.set_cons_zero]
    refine AnyL.take (i := 11) (v := .bool first) (some 19) rfl rfl (by kernel_rfl) (by kernel_rfl) (by kernel_rfl) (fun _ _ _ h => h) SV (Or.inl ⟨by rfl, ?_⟩) ?_
    · intro X hX; go_simp
    try simp only [Act.put, List.setIfInBounds_toArray, List.set_cons_succ, List.set_cons_zero]
    refine AnyL.take (i := 14) (v := .pointer (some ⟨g, o, none⟩)) (some 22) rfl rfl (by kernel_rfl) (by kernel_rfl) (by kernel_rfl) (fun _ _ _ h => h) SV (Or.inl ⟨by rfl, ?_⟩) ?_
    · intro X hX; go_simp
    try simp only [Act.put, List.setIfInBounds_toArray, List.set_cons_succ, List.set_cons_zero]
    refine AnyL.some (rs := [6, 12]) (by kernel_rfl) (by simp) ?_
    intro ii hii
    obtain rfl | rfl : ii = 6 ∨ ii = 12 := by simpa using hii
    · clear hii
      refine wpOp_step rfl (fun K hK => ?_)
      have z9 : w9.cell? ⟨g, o, none⟩ = some (.int .i64 z) := (B9.out.cell (p := ⟨g, o, none⟩) HZ.out.2.2).trans HZ.out.1
      have l9 : g < w9.heap.size := Nat.lt_of_lt_of_le HZ.out.2.2 B9.out.size
      go_simp
      clear z9 l9
      refine hK _ _ ⟨fun _ => SV, ?_⟩
      clear hK K
      try simp only [Act.put, List.setIfInBounds_toArray, List.set_cons_succ, List.set_cons_zero]
      refine AnyL.one (i := 12) rfl (by kernel_rfl) ?_
      refine wpOp_step rfl (fun K hK => ?_)
      go_simp
      refine (HH.out w9).mono ?_
      rintro e w10 ⟨rfl, rfl⟩
      refine hK _ _ ⟨fun _ => SV, ?_⟩
      clear hK K
      try simp only [Act.put, List.setIfInBounds_toArray, List.set_cons_succ, List.set_cons_zero]
      refine AnyL.one (i := 13) rfl (by kernel_rfl) ?_
      refine wpOp_step rfl (fun K hK => ?_)
      go_simp
      refine hK _ _ ⟨fun _ => SV, ?_⟩
      clear hK K
      try simp only [Act.put, List.setIfInBounds_toArray, List.set_cons_succ, List.set_cons_zero]
      refine AnyL.take (i := 15) (v := .pointer (some ⟨g, o, none⟩)) (some 23) rfl rfl (by kernel_rfl) (by kernel_rfl) (by kernel_rfl) (fun _ _ _ h => h) SV (Or.inl ⟨by rfl, ?_⟩) ?_
      · intro X hX; go_simp
      try simp only [Act.put, List.setIfInBounds_toArray, List.set_cons_succ, List.set_cons_zero]
      refine AnyL.one (i := 16) rfl (by kernel_rfl) ?_
      refine wpOp_step rfl (fun K hK => ?_)
      have z9 : w9.cell? ⟨g, o, none⟩ = some (.int .i64 z) := (B9.out.cell (p := ⟨g, o, none⟩) HZ.out.2.2).trans HZ.out.1
      have f9 : w9.frozen? ⟨g, o, none⟩ = false := (B9.out.frozen (p := ⟨g, o, none⟩) HZ.out.2.2).trans HZ.out.2.1
      have l9 : g < w9.heap.size := Nat.lt_of_lt_of_le HZ.out.2.2 B9.out.size
      go_simp
      have SX := Lib.hid (SV.out.other ⟨g, o, none⟩ (.int .i64 (max z h0)) (by have := HZ.out.2.2; show W.heap.size ≠ g; omega))
      refine hK _ _ ⟨fun _ => SX, ?_⟩
      clear hK K z9 f9 l9
      refine AnyL.done (by kernel_rfl) ?_
      go_end0
      exact ⟨rfl, w9, B9.out, rfl⟩
    · clear hii
      refine wpOp_step rfl (fun K hK => ?_)
      go_simp
      refine (HH.out w9).mono ?_
      rintro e w10 ⟨rfl, rfl⟩
      refine hK _ _ ⟨fun _ => SV, ?_⟩
      clear hK K
      try simp only [Act.put, List.setIfInBounds_toArray, List.set_cons_succ, List.set_cons_zero]
      refine AnyL.one (i := 6) rfl (by kernel_rfl) ?_
      refine wpOp_step rfl (fun K hK => ?_)
      have z9 : w9.cell? ⟨g, o, none⟩ = some (.int .i64 z) := (B9.out.cell (p := ⟨g, o, none⟩) HZ.out.2.2).trans HZ.out.1
      have l9 : g < w9.heap.size := Nat.lt_of_lt_of_le HZ.out.2.2 B9.out.size
      go_simp
      clear z9 l9
      refine hK _ _ ⟨fun _ => SV, ?_⟩
      clear hK K
      try simp only [Act.put, List.setIfInBounds_toArray, List.set_cons_succ, List.set_cons_zero]
      refine AnyL.one (i := 13) rfl (by kernel_rfl) ?_
      refine wpOp_step rfl (fun K hK => ?_)
      go_simp
      refine hK _ _ ⟨fun _ => SV, ?_⟩
      clear hK K
      try simp only [Act.put, List.setIfInBounds_toArray, List.set_cons_succ, List.set_cons_zero]
      refine AnyL.take (i := 15) (v := .pointer (some ⟨g, o, none⟩)) (some 23) rfl rfl (by kernel_rfl) (by kernel_rfl) (by kernel_rfl) (fun _ _ _ h => h) SV (Or.inl ⟨by rfl, ?_⟩) ?_
      · intro X hX; go_simp
      try simp only [Act.put, List.setIfInBounds_toArray, List.set_cons_succ, List.set_cons_zero]
      refine AnyL.one (i := 16) rfl (by kernel_rfl) ?_
      refine wpOp_step rfl (fun K hK => ?_)
      have z9 : w9.cell? ⟨g, o, none⟩ = some (.int .i64 z) := (B9.out.cell (p := ⟨g, o, none⟩) HZ.out.2.2).trans HZ.out.1
      have f9 : w9.frozen? ⟨g, o, none⟩ = false := (B9.out.frozen (p := ⟨g, o, none⟩) HZ.out.2.2).trans HZ.out.2.1
      have l9 : g < w9.heap.size := Nat.lt_of_lt_of_le HZ.out.2.2 B9.out.size
      go_simp
      have SX := Lib.hid (SV.out.other ⟨g, o, none⟩ (.int .i64 (max z h0)) (by have := HZ.out.2.2; show W.heap.size ≠ g; omega))
      refine hK _ _ ⟨fun _ => SX, ?_⟩
      clear hK K z9 f9 l9
      refine AnyL.done (by kernel_rfl) ?_
      go_end0
      exact ⟨rfl, w9, B9.out, rfl⟩
  · go_enter Try.func26, Try.ntmps26
    go_wp2_with (refine region_L (S := fun X => Hid (Whole X W.heap.size 56 [.int .i64 row, .int .i64 col, .bool l, .int .i64 a0, .int .i64 a1, .int .u32 a2, .int .i64 a3, .int .i64 a4, .int .i64 a5, .int .i64 n])) (by kernel_rfl) (fun w9 hw9 => ?_))
    have B9 : Hid (Below W.heap.size W w9) := Lib.hid (by rw [← hw9]; exact BB.out.trans (below_dn _ _ 1))
    have SV : Hid (Whole w9 W.heap.size 56 [.int .i64 row, .int .i64 col, .bool l, .int .i64 a0, .int .i64 a1, .int .u32 a2, .int .i64 a3, .int .i64 a4, .int .i64 a5, .int .i64 n]) := Lib.hid (by rw [← hw9]; exact KB.out.below (below_dn (W.heap.size + 1) _ 1) (by omega))
    clear hw9 KB BB
    try simp only [Act.put, List.setIfInBounds_toArray, List.set_cons_succ, List.set_cons_zero]
    refine AnyL.take (i := 0) (v := .pointer (some ⟨g, o, none⟩)) (some 8) rfl rfl (by kernel_rfl) (by kernel_rfl) (by kernel_rfl) (fun _ _ _ h => h) SV (Or.inl ⟨by rfl, ?_⟩) ?_
    · intro X hX; go_simp
    try simp only [Act.put, List.setIfInBounds_toArray, List.set_cons_succ, List.set_cons_zero]
    refine AnyL.take (i := 1) (v := .int .i64 1) (some 9) rfl rfl (by kernel_rfl) (by kernel_rfl) (by kernel_rfl) (fun _ _ _ h => h) SV (Or.inl ⟨by rfl, ?_⟩) ?_
    · intro X hX; go_simp
    try simp only [Act.put, List.setIfInBounds_toArray, List.set_cons_succ, List.set_cons_zero]
    refine AnyL.take (i := 2) (v := .pointer (some ⟨g, o, none⟩)) (some 10) rfl rfl (by kernel_rfl) (by kernel_rfl) (by kernel_rfl) (fun _ _ _ h => h) SV (Or.inl ⟨by rfl, ?_⟩) ?_
    · intro X hX; go_simp
    try simp only [Act.put, List.setIfInBounds_toArray, List.set_cons_succ, List.set_cons_zero]
    refine AnyL.take (i := 3) (v := .int .i64 1) (some 11) rfl rfl (by kernel_rfl) (by kernel_rfl) (by kernel_rfl) (fun _ _ _ h => h) SV (Or.inl ⟨by rfl, ?_⟩) ?_
    · intro X hX; go_simp
    try simp only [Act.put, List.setIfInBounds_toArray, List.set_cons_succ, List.set_cons_zero]
    refine AnyL.take (i := 4) (v := .pointer (some ⟨g, o, none⟩)) (some 12) rfl rfl (by kernel_rfl) (by kernel_rfl) (by kernel_rfl) (fun _ _ _ h => h) SV (Or.inl ⟨by rfl, ?_⟩) ?_
    · intro X hX; go_simp
    try simp only [Act.put, List.setIfInBounds_toArray, List.set_cons_succ, List.set_cons_zero]
    refine AnyL.take (i := 5) (v := .pointer (some ⟨g, o + 1, none⟩)) (some 13) rfl rfl (by kernel_rfl) (by kernel_rfl) (by kernel_rfl) (fun _ _ _ h => h) SV (Or.inl ⟨by rfl, ?_⟩) ?_
    · intro X hX; go_simp
    try simp only [Act.put, List.setIfInBounds_toArray, List.set_cons_succ, List.set_cons_zero]
    refine AnyL.take (i := 7) (v := .pointer (some ⟨W.heap.size, 3, none⟩)) (some 15) rfl rfl (by kernel_rfl) (by kernel_rfl) (by kernel_rfl) (fun _ _ _ h => h) SV (Or.inl ⟨by rfl, ?_⟩) ?_
    · intro X hX; go_simp
    try simp only [Act.put, List.setIfInBounds_toArray, List.set_cons_succ, List.set_cons_zero]
    refine AnyL.take (i := 8) (v := .pointer (some ⟨W.heap.size, 3, none⟩)) (some 16) rfl rfl (by kernel_rfl) (by kernel_rfl) (by kernel_rfl) (fun _ _ _ h => h) SV (Or.inl ⟨by rfl, ?_⟩) ?_
    · intro X hX; go_simp
    try simp only [Act.put, List.setIfInBounds_toArray, List.set_cons_succ, List.set_cons_zero]
    refine AnyL.take (i := 9) (v := .pointer (some ⟨W.heap.size, 4, none⟩)) (some 17) rfl rfl (by kernel_rfl) (by kernel_rfl) (by kernel_rfl) (fun _ _ _ h => h) SV (Or.inl ⟨by rfl, ?_⟩) ?_
    · intro X hX; go_simp
    try simp only [Act.put, List.setIfInBounds_toArray, List.set_cons_succ, List.set_cons_zero]
    refine AnyL.take (i := 10) (v := .int .i64 a1) (some 18) rfl rfl (by kernel_rfl) (by kernel_rfl) (by kernel_rfl) (fun _ _ _ h => h) SV (Or.inl ⟨by rfl, ?_⟩) ?_
    · intro X hX; have q := hX.out.cellAt 4; have lq := hX.out.lt; simp only [List.getElem?_cons_zero, List.getElem?_cons_succ] at q; go_simp
    try simp only [Act.put, List.setIfInBounds_toArray, List.set_cons_succ, List.set_cons_zero]
    refine AnyL.take (i := 11) (v := .bool first) (some 19) rfl rfl (by kernel_rfl) (by kernel_rfl) (by kernel_rfl) (fun _ _ _ h => h) SV (Or.inl ⟨by rfl, ?_⟩) ?_
    · intro X hX; go_simp
    try simp only [Act.put, List.setIfInBounds_toArray, List.set_cons_succ, List.set_cons_zero]
    refine AnyL.take (i := 14) (v := .pointer (some ⟨g, o, none⟩)) (some 22) rfl rfl (by kernel_rfl) (by kernel_rfl) (by kernel_rfl) (fun _ _ _ h => h) SV (Or.inl ⟨by rfl, ?_⟩) ?_
    · intro X hX; go_simp
    try simp only [Act.put, List.setIfInBounds_toArray, List.set_cons_succ, List.set_cons_zero]
    refine AnyL.some (rs := [6, 12]) (by kernel_rfl) (by simp) ?_
    intro ii hii
    obtain rfl | rfl : ii = 6 ∨ ii = 12 := by simpa using hii
    · clear hii
      refine wpOp_step rfl (fun K hK => ?_)
      have z9 : w9.cell? ⟨g, o + 1, none⟩ = some (.int .i64 z) := (B9.out.cell (p := ⟨g, o + 1, none⟩) HZ.out.2.2).trans HZ.out.1
      have l9 : g < w9.heap.size := Nat.lt_of_lt_of_le HZ.out.2.2 B9.out.size
      go_simp
      clear z9 l9
      refine hK _ _ ⟨fun _ => SV, ?_⟩
      clear hK K
      try simp only [Act.put, List.setIfInBounds_toArray, List.set_cons_succ, List.set_cons_zero]
      refine AnyL.one (i := 12) rfl (by kernel_rfl) ?_
      refine wpOp_step rfl (fun K hK => ?_)
      go_simp
      refine (HH.out w9).mono ?_
      rintro e w10 ⟨rfl, rfl⟩
      refine hK _ _ ⟨fun _ => SV, ?_⟩
      clear hK K
      try simp only [Act.put, List.setIfInBounds_toArray, List.set_cons_succ, List.set_cons_zero]
      refine AnyL.one (i := 13) rfl (by kernel_rfl) ?_
      refine wpOp_step rfl (fun K hK => ?_)
      go_simp
      refine hK _ _ ⟨fun _ => SV, ?_⟩
      clear hK K
      try simp only [Act.put, List.setIfInBounds_toArray, List.set_cons_succ, List.set_cons_zero]
      refine AnyL.take (i := 15) (v := .pointer (some ⟨g, o + 1, none⟩)) (some 23) rfl rfl (by kernel_rfl) (by kernel_rfl) (by kernel_rfl) (fun _ _ _ h => h) SV (Or.inl ⟨by rfl, ?_⟩) ?_
      · intro X hX; go_simp
      try simp only [Act.put, List.setIfInBounds_toArray, List.set_cons_succ, List.set_cons_zero]
      refine AnyL.one (i := 16) rfl (by kernel_rfl) ?_
      refine wpOp_step rfl (fun K hK => ?_)
      have z9 : w9.cell? ⟨g, o + 1, none⟩ = some (.int .i64 z) := (B9.out.cell (p := ⟨g, o + 1, none⟩) HZ.out.2.2).trans HZ.out.1
      have f9 : w9.frozen? ⟨g, o + 1, none⟩ = false := (B9.out.frozen (p := ⟨g, o + 1, none⟩) HZ.out.2.2).trans HZ.out.2.1
      have l9 : g < w9.heap.size := Nat.lt_of_lt_of_le HZ.out.2.2 B9.out.size
      go_simp
      have SX := Lib.hid (SV.out.other ⟨g, o + 1, none⟩ (.int .i64 (max z h0)) (by have := HZ.out.2.2; show W.heap.size ≠ g; omega))
      refine hK _ _ ⟨fun _ => SX, ?_⟩
      clear hK K z9 f9 l9
      refine AnyL.done (by kernel_rfl) ?_
      go_end0
      exact ⟨rfl, w9, B9.out, rfl⟩
    · clear hii
      refine wpOp_step rfl (fun K hK => ?_)
      go_simp
      refine (HH.out w9).mono ?_
      rintro e w10 ⟨rfl, rfl⟩
      refine hK _ _ ⟨fun _ => SV, ?_⟩
      clear hK K
      try simp only [Act.put, List.setIfInBounds_toArray, List.set_cons_succ, List.set_cons_zero]
      refine AnyL.one (i := 6) rfl (by kernel_rfl) ?_
      refine wpOp_step rfl (fun K hK => ?_)
      have z9 : w9.cell? ⟨g, o + 1, none⟩ = some (.int .i64 z) := (B9.out.cell (p := ⟨g, o + 1, none⟩) HZ.out.2.2).trans HZ.out.1
      have l9 : g < w9.heap.size := Nat.lt_of_lt_of_le HZ.out.2.2 B9.out.size
      go_simp
      clear z9 l9
      refine hK _ _ ⟨fun _ => SV, ?_⟩
      clear hK K
      try simp only [Act.put, List.setIfInBounds_toArray, List.set_cons_succ, List.set_cons_zero]
      refine AnyL.one (i := 13) rfl (by kernel_rfl) ?_
      refine wpOp_step rfl (fun K hK => ?_)
      go_simp
      refine hK _ _ ⟨fun _ => SV, ?_⟩
      clear hK K
      try simp only [Act.put, List.setIfInBounds_toArray, List.set_cons_succ, List.set_cons_zero]
      refine AnyL.take (i := 15) (v := .pointer (some ⟨g, o + 1, none⟩)) (some 23) rfl rfl (by kernel_rfl) (by kernel_rfl) (by kernel_rfl) (fun _ _ _ h => h) SV (Or.inl ⟨by rfl, ?_⟩) ?_
      · intro X hX; go_simp
      try simp only [Act.put, List.setIfInBounds_toArray, List.set_cons_succ, List.set_cons_zero]
      refine AnyL.one (i := 16) rfl (by kernel_rfl) ?_
      refine wpOp_step rfl (fun K hK => ?_)
      have z9 : w9.cell? ⟨g, o + 1, none⟩ = some (.int .i64 z) := (B9.out.cell (p := ⟨g, o + 1, none⟩) HZ.out.2.2).trans HZ.out.1
      have f9 : w9.frozen? ⟨g, o + 1, none⟩ = false := (B9.out.frozen (p := ⟨g, o + 1, none⟩) HZ.out.2.2).trans HZ.out.2.1
      have l9 : g < w9.heap.size := Nat.lt_of_lt_of_le HZ.out.2.2 B9.out.size
      go_simp
      have SX := Lib.hid (SV.out.other ⟨g, o + 1, none⟩ (.int .i64 (max z h0)) (by have := HZ.out.2.2; show W.heap.size ≠ g; omega))
      refine hK _ _ ⟨fun _ => SX, ?_⟩
      clear hK K z9 f9 l9
      refine AnyL.done (by kernel_rfl) ?_
      go_end0
      exact ⟨rfl, w9, B9.out, rfl⟩
  · go_enter Try.func26, Try.ntmps26
    go_wp2_with (refine region_L (S := fun X => Hid (Whole X W.heap.size 56 [.int .i64 row, .int .i64 col, .bool l, .int .i64 a0, .int .i64 a1, .int .u32 a2, .int .i64 a3, .int .i64 a4, .int .i64 a5, .int .i64 n])) (by kernel_rfl) (fun w9 hw9 => ?_))
    have B9 : Hid (Below W.heap.size W w9) := Lib.hid (by rw [← hw9]; exact BB.out.trans (below_dn _ _ 1))
    have SV : Hid (Whole w9 W.heap.size 56 [.int .i64 row, .int .i64 col, .bool l, .int .i64 a0, .int .i64 a1, .int .u32 a2, .int .i64 a3, .int .i64 a4, .int .i64 a5, .int .i64 n]) := Lib.hid (by rw [← hw9]; exact KB.out.below (below_dn (W.heap.size + 1) _ 1) (by omega))
    clear hw9 KB BB
    try simp only [Act.put, List.setIfInBounds_toArray, List.set_cons_succ, List.set_cons_zero]
    refine AnyL.take (i := 0) (v := .pointer (some ⟨g, o, none⟩)) (some 8) rfl rfl (by kernel_rfl) (by kernel_rfl) (by kernel_rfl) (fun _ _ _ h => h) SV (Or.inl ⟨by rfl, ?_⟩) ?_
    · intro X hX; go_simp
    try simp only [Act.put, List.setIfInBounds_toArray, List.set_cons_succ, List.set_cons_zero]
    refine AnyL.take (i := 1) (v := .int .i64 2) (some 9) rfl rfl (by kernel_rfl) (by kernel_rfl) (by kernel_rfl) (fun _ _ _ h => h) SV (Or.inl ⟨by rfl, ?_⟩) ?_
    · intro X hX; go_simp
    try simp only [Act.put, List.setIfInBounds_toArray, List.set_cons_succ, List.set_cons_zero]
    refine AnyL.take (i := 2) (v := .pointer (some ⟨g, o, none⟩)) (some 10) rfl rfl (by kernel_rfl) (by kernel_rfl) (by kernel_rfl) (fun _ _ _ h => h) SV (Or.inl ⟨by rfl, ?_⟩) ?_
    · intro X hX; go_simp
    try simp only [Act.put, List.setIfInBounds_toArray, List.set_cons_succ, List.set_cons_zero]
    refine AnyL.take (i := 3) (v := .int .i64 2) (some 11) rfl rfl (by kernel_rfl) (by kernel_rfl) (by kernel_rfl) (fun _ _ _ h => h) SV (Or.inl ⟨by rfl, ?_⟩) ?_
    · intro X hX; go_simp
    try simp only [Act.put, List.setIfInBounds_toArray, List.set_cons_succ, List.set_cons_zero]
    refine AnyL.take (i := 4) (v := .pointer (some ⟨g, o, none⟩)) (some 12) rfl rfl (by kernel_rfl) (by kernel_rfl) (by kernel_rfl) (fun _ _ _ h => h) SV (Or.inl ⟨by rfl, ?_⟩) ?_
    · intro X hX; go_simp
    try simp only [Act.put, List.setIfInBounds_toArray, List.set_cons_succ, List.set_cons_zero]
    refine AnyL.take (i := 5) (v := .pointer (some ⟨g, o + 2, none⟩)) (some 13) rfl rfl (by kernel_rfl) (by kernel_rfl) (by kernel_rfl) (fun _ _ _ h => h) SV (Or.inl ⟨by rfl, ?_⟩) ?_
    · intro X hX; go_simp
    try simp only [Act.put, List.setIfInBounds_toArray, List.set_cons_succ, List.set_cons_zero]
    refine AnyL.take (i := 7) (v := .pointer (some ⟨W.heap.size, 3, none⟩)) (some 15) rfl rfl (by kernel_rfl) (by kernel_rfl) (by kernel_rfl) (fun _ _ _ h => h) SV (Or.inl ⟨by rfl, ?_⟩) ?_
    · intro X hX; go_simp
    try simp only [Act.put, List.setIfInBounds_toArray, List.set_cons_succ, List.set_cons_zero]
    refine AnyL.take (i := 8) (v := .pointer (some ⟨W.heap.size, 3, none⟩)) (some 16) rfl rfl (by kernel_rfl) (by kernel_rfl) (by kernel_rfl) (fun _ _ _ h => h) SV (Or.inl ⟨by rfl, ?_⟩) ?_
    · intro X hX; go_simp
    try simp only [Act.put, List.setIfInBounds_toArray, List.set_cons_succ, List.set_cons_zero]
    refine AnyL.take (i := 9) (v := .pointer (some ⟨W.heap.size, 4, none⟩)) (some 17) rfl rfl (by kernel_rfl) (by kernel_rfl) (by kernel_rfl) (fun _ _ _ h => h) SV (Or.inl ⟨by rfl, ?_⟩) ?_
    · intro X hX; go_simp
    try simp only [Act.put, List.setIfInBounds_toArray, List.set_cons_succ, List.set_cons_zero]
    refine AnyL.take (i := 10) (v := .int .i64 a1) (some 18) rfl rfl (by kernel_rfl) (by kernel_rfl) (by kernel_rfl) (fun _ _ _ h => h) SV (Or.inl ⟨by rfl, ?_⟩) ?_
    · intro X hX; have q := hX.out.cellAt 4; have lq := hX.out.lt; simp only [List.getElem?_cons_zero, List.getElem?_cons_succ] at q; go_simp
    try simp only [Act.put, List.setIfInBounds_toArray, List.set_cons_succ, List.set_cons_zero]
    refine AnyL.take (i := 11) (v := .bool first) (some 19) rfl rfl (by kernel_rfl) (by kernel_rfl) (by kernel_rfl) (fun _ _ _ h => h) SV (Or.inl ⟨by rfl, ?_⟩) ?_
    · intro X hX; go_simp
    try simp only [Act.put, List.setIfInBounds_toArray, List.set_cons_succ, List.set_cons_zero]
    refine AnyL.take (i := 14) (v := .pointer (some ⟨g, o, none⟩)) (some 22) rfl rfl (by kernel_rfl) (by kernel_rfl) (by kernel_rfl) (fun _ _ _ h => h) SV (Or.inl ⟨by rfl, ?_⟩) ?_
    · intro X hX; go_simp
    try simp only [Act.put, List.setIfInBounds_toArray, List.set_cons_succ, List.set_cons_zero]
    refine AnyL.some (rs := [6, 12]) (by kernel_rfl) (by simp) ?_
    intro ii hii
    obtain rfl | rfl : ii = 6 ∨ ii = 12 := by simpa using hii
    · clear hii
      refine wpOp_step rfl (fun K hK => ?_)
      have z9 : w9.cell? ⟨g, o + 2, none⟩ = some (.int .i64 z) := (B9.out.cell (p := ⟨g, o + 2, none⟩) HZ.out.2.2).trans HZ.out.1
      have l9 : g < w9.heap.size := Nat.lt_of_lt_of_le HZ.out.2.2 B9.out.size
      go_simp
      clear z9 l9
      refine hK _ _ ⟨fun _ => SV, ?_⟩
      clear hK K
      try simp only [Act.put, List.setIfInBounds_toArray, List.set_cons_succ, List.set_cons_zero]
      refine AnyL.one (i := 12) rfl (by kernel_rfl) ?_
      refine wpOp_step rfl (fun K hK => ?_)
      go_simp
      refine (HH.out w9).mono ?_
      rintro e w10 ⟨rfl, rfl⟩
      refine hK _ _ ⟨fun _ => SV, ?_⟩
      clear hK K
      try simp only [Act.put, List.setIfInBounds_toArray, List.set_cons_succ, List.set_cons_zero]
      refine AnyL.one (i := 13) rfl (by kernel_rfl) ?_
      refine wpOp_step rfl (fun K hK => ?_)
      go_simp
      refine hK _ _ ⟨fun _ => SV, ?_⟩
      clear hK K
      try simp only [Act.put, List.setIfInBounds_toArray, List.set_cons_succ, List.set_cons_zero]
      refine AnyL.take (i := 15) (v := .pointer (some ⟨g, o + 2, none⟩)) (some 23) rfl rfl (by kernel_rfl) (by kernel_rfl) (by kernel_rfl) (fun _ _ _ h => h) SV (Or.inl ⟨by rfl, ?_⟩) ?_
      · intro X hX; go_simp
      try simp only [Act.put, List.setIfInBounds_toArray, List.set_cons_succ, List.set_cons_zero]
      refine AnyL.one (i := 16) rfl (by kernel_rfl) ?_
      refine wpOp_step rfl (fun K hK => ?_)
      have z9 : w9.cell? ⟨g, o + 2, none⟩ = some (.int .i64 z) := (B9.out.cell (p := ⟨g, o + 2, none⟩) HZ.out.2.2).trans HZ.out.1
      have f9 : w9.frozen? ⟨g, o + 2, none⟩ = false := (B9.out.frozen (p := ⟨g, o + 2, none⟩) HZ.out.2.2).trans HZ.out.2.1
      have l9 : g < w9.heap.size := Nat.lt_of_lt_of_le HZ.out.2.2 B9.out.size
      go_simp
      have SX := Lib.hid (SV.out.other ⟨g, o + 2, none⟩ (.int .i64 (max z h0)) (by have := HZ.out.2.2; show W.heap.size ≠ g; omega))
      refine hK _ _ ⟨fun _ => SX, ?_⟩
      clear hK K z9 f9 l9
      refine AnyL.done (by kernel_rfl) ?_
      go_end0
      exact ⟨rfl, w9, B9.out, rfl⟩
    · clear hii
      refine wpOp_step rfl (fun K hK => ?_)
      go_simp
      refine (HH.out w9).mono ?_
      rintro e w10 ⟨rfl, rfl⟩
      refine hK _ _ ⟨fun _ => SV, ?_⟩
      clear hK K
      try simp only [Act.put, List.setIfInBounds_toArray, List.set_cons_succ, List.set_cons_zero]
      refine AnyL.one (i := 6) rfl (by kernel_rfl) ?_
      refine wpOp_step rfl (fun K hK => ?_)
      have z9 : w9.cell? ⟨g, o + 2, none⟩ = some (.int .i64 z) := (B9.out.cell (p := ⟨g, o + 2, none⟩) HZ.out.2.2).trans HZ.out.1
      have l9 : g < w9.heap.size := Nat.lt_of_lt_of_le HZ.out.2.2 B9.out.size
      go_simp
      clear z9 l9
      refine hK _ _ ⟨fun _ => SV, ?_⟩
      clear hK K
      try simp only [Act.put, List.setIfInBounds_toArray, List.set_cons_succ, List.set_cons_zero]
      refine AnyL.one (i := 13) rfl (by kernel_rfl) ?_
      refine wpOp_step rfl (fun K hK => ?_)
      go_simp
      refine hK _ _ ⟨fun _ => SV, ?_⟩
      clear hK K
      try simp only [Act.put, List.setIfInBounds_toArray, List.set_cons_succ, List.set_cons_zero]
      refine AnyL.take (i := 15) (v := .pointer (some ⟨g, o + 2, none⟩)) (some 23) rfl rfl (by kernel_rfl) (by kernel_rfl) (by kernel_rfl) (fun _ _ _ h => h) SV (Or.inl ⟨by rfl, ?_⟩) ?_
      · intro X hX; go_simp
      try simp only [Act.put, List.setIfInBounds_toArray, List.set_cons_succ, List.set_cons_zero]
      refine AnyL.one (i := 16) rfl (by kernel_rfl) ?_
      refine wpOp_step rfl (fun K hK => ?_)
      have z9 : w9.cell? ⟨g, o + 2, none⟩ = some (.int .i64 z) := (B9.out.cell (p := ⟨g, o + 2, none⟩) HZ.out.2.2).trans HZ.out.1
      have f9 : w9.frozen? ⟨g, o + 2, none⟩ = false := (B9.out.frozen (p := ⟨g, o + 2, none⟩) HZ.out.2.2).trans HZ.out.2.1
      have l9 : g < w9.heap.size := Nat.lt_of_lt_of_le HZ.out.2.2 B9.out.size
      go_simp
      have SX := Lib.hid (SV.out.other ⟨g, o + 2, none⟩ (.int .i64 (max z h0)) (by have := HZ.out.2.2; show W.heap.size ≠ g; omega))
      refine hK _ _ ⟨fun _ => SX, ?_⟩
      clear hK K z9 f9 l9
      refine AnyL.done (by kernel_rfl) ?_
      go_end0
      exact ⟨rfl, w9, B9.out, rfl⟩
  · go_enter Try.func26, Try.ntmps26
    go_wp2_with (refine region_L (S := fun X => Hid (Whole X W.heap.size 56 [.int .i64 row, .int .i64 col, .bool l, .int .i64 a0, .int .i64 a1, .int .u32 a2, .int .i64 a3, .int .i64 a4, .int .i64 a5, .int .i64 n])) (by kernel_rfl) (fun w9 hw9 => ?_))
    have B9 : Hid (Below W.heap.size W w9) := Lib.hid (by rw [← hw9]; exact BB.out.trans (below_dn _ _ 1))
    have SV : Hid (Whole w9 W.heap.size 56 [.int .i64 row, .int .i64 col, .bool l, .int .i64 a0, .int .i64 a1, .int .u32 a2, .int .i64 a3, .int .i64 a4, .int .i64 a5, .int .i64 n]) := Lib.hid (by rw [← hw9]; exact KB.out.below (below_dn (W.heap.size + 1) _ 1) (by omega))
    clear hw9 KB BB
    try simp only [Act.put, List.setIfInBounds_toArray, List.set_cons_succ, List.set_cons_zero]
    refine AnyL.take (i := 0) (v := .pointer (some ⟨g, o, none⟩)) (some 8) rfl rfl (by kernel_rfl) (by kernel_rfl) (by kernel_rfl) (fun _ _ _ h => h) SV (Or.inl ⟨by rfl, ?_⟩) ?_
    · intro X hX; go_simp
    try simp only [Act.put, List.setIfInBounds_toArray, List.set_cons_succ, List.set_cons_zero]
    refine AnyL.take (i := 1) (v := .int .i64 3) (some 9) rfl rfl (by kernel_rfl) (by kernel_rfl) (by kernel_rfl) (fun _ _ _ h => h) SV (Or.inl ⟨by rfl, ?_⟩) ?_
    · intro X hX; go_simp
    try simp only [Act.put, List.setIfInBounds_toArray, List.set_cons_succ, List.set_cons_zero]
    refine AnyL.take (i := 2) (v := .pointer (some ⟨g, o, none⟩)) (some 10) rfl rfl (by kernel_rfl) (by kernel_rfl) (by kernel_rfl) (fun _ _ _ h => h) SV (Or.inl ⟨by rfl, ?_⟩) ?_
    · intro X hX; go_simp
    try simp only [Act.put, List.setIfInBounds_toArray, List.set_cons_succ, List.set_cons_zero]
    refine AnyL.take (i := 3) (v := .int .i64 3) (some 11) rfl rfl (by kernel_rfl) (by kernel_rfl) (by kernel_rfl) (fun _ _ _ h => h) SV (Or.inl ⟨by rfl, ?_⟩) ?_
    · intro X hX; go_simp
    try simp only [Act.put, List.setIfInBounds_toArray, List.set_cons_succ, List.set_cons_zero]
    refine AnyL.take (i := 4) (v := .pointer (some ⟨g, o, none⟩)) (some 12) rfl rfl (by kernel_rfl) (by kernel_rfl) (by kernel_rfl) (fun _ _ _ h => h) SV (Or.inl ⟨by rfl, ?_⟩) ?_
    · intro X hX; go_simp
    try simp only [Act.put, List.setIfInBounds_toArray, List.set_cons_succ, List.set_cons_zero]
    refine AnyL.take (i := 5) (v := .pointer (some ⟨g, o + 3, none⟩)) (some 13) rfl rfl (by kernel_rfl) (by kernel_rfl) (by kernel_rfl) (fun _ _ _ h => h) SV (Or.inl ⟨by rfl, ?_⟩) ?_
    · intro X hX; go_simp
    try simp only [Act.put, List.setIfInBounds_toArray, List.set_cons_succ, List.set_cons_zero]
    refine AnyL.take (i := 7) (v := .pointer (some ⟨W.heap.size, 3, none⟩)) (some 15) rfl rfl (by kernel_rfl) (by kernel_rfl) (by kernel_rfl) (fun _ _ _ h => h) SV (Or.inl ⟨by rfl, ?_⟩) ?_
    · intro X hX; go_simp
    try simp only [Act.put, List.setIfInBounds_toArray, List.set_cons_succ, List.set_cons_zero]
    refine AnyL.take (i := 8) (v := .pointer (some ⟨W.heap.size, 3, none⟩)) (some 16) rfl rfl (by kernel_rfl) (by kernel_rfl) (by kernel_rfl) (fun _ _ _ h => h) SV (Or.inl ⟨by rfl, ?_⟩) ?_
    · intro X hX; go_simp
    try simp only [Act.put, List.setIfInBounds_toArray, List.set_cons_succ, List.set_cons_zero]
    refine AnyL.take (i := 9) (v := .pointer (some ⟨W.heap.size, 4, none⟩)) (some 17) rfl rfl (by kernel_rfl) (by kernel_rfl) (by kernel_rfl) (fun _ _ _ h => h) SV (Or.inl ⟨by rfl, ?_⟩) ?_
    · intro X hX; go_simp
    try simp only [Act.put, List.setIfInBounds_toArray, List.set_cons_succ, List.set_cons_zero]
    refine AnyL.take (i := 10) (v := .int .i64 a1) (some 18) rfl rfl (by kernel_rfl) (by kernel_rfl) (by kernel_rfl) (fun _ _ _ h => h) SV (Or.inl ⟨by rfl, ?_⟩) ?_
    · intro X hX; have q := hX.out.cellAt 4; have lq := hX.out.lt; simp only [List.getElem?_cons_zero, List.getElem?_cons_succ] at q; go_simp
    try simp only [Act.put, List.setIfInBounds_toArray, List.set_cons_succ, List.set_cons_zero]
    refine AnyL.take (i := 11) (v := .bool first) (some 19) rfl rfl (by kernel_rfl) (by kernel_rfl) (by kernel_rfl) (fun _ _ _ h => h) SV (Or.inl ⟨by rfl, ?_⟩) ?_
    · intro X hX; go_simp
    try simp only [Act.put, List.setIfInBounds_toArray, List.set_cons_succ, List.set_cons_zero]
    refine AnyL.take (i := 14) (v := .pointer (some ⟨g, o, none⟩)) (some 22) rfl rfl (by kernel_rfl) (by kernel_rfl) (by kernel_rfl) (fun _ _ _ h => h) SV (Or.inl ⟨by rfl, ?_⟩) ?_
    · intro X hX; go_simp
    try simp only [Act.put, List.setIfInBounds_toArray, List.set_cons_succ, List.set_cons_zero]
    refine AnyL.some (rs := [6, 12]) (by kernel_rfl) (by simp) ?_
    intro ii hii
    obtain rfl | rfl : ii = 6 ∨ ii = 12 := by simpa using hii
    · clear hii
      refine wpOp_step rfl (fun K hK => ?_)
      have z9 : w9.cell? ⟨g, o + 3, none⟩ = some (.int .i64 z) := (B9.out.cell (p := ⟨g, o + 3, none⟩) HZ.out.2.2).trans HZ.out.1
      have l9 : g < w9.heap.size := Nat.lt_of_lt_of_le HZ.out.2.2 B9.out.size
      go_simp
      clear z9 l9
      refine hK _ _ ⟨fun _ => SV, ?_⟩
      clear hK K
      try simp only [Act.put, List.setIfInBounds_toArray, List.set_cons_succ, List.set_cons_zero]
      refine AnyL.one (i := 12) rfl (by kernel_rfl) ?_
      refine wpOp_step rfl (fun K hK => ?_)
      go_simp
      refine (HH.out w9).mono ?_
      rintro e w10 ⟨rfl, rfl⟩
      refine hK _ _ ⟨fun _ => SV, ?_⟩
      clear hK K
      try simp only [Act.put, List.setIfInBounds_toArray, List.set_cons_succ, List.set_cons_zero]
      refine AnyL.one (i := 13) rfl (by kernel_rfl) ?_
      refine wpOp_step rfl (fun K hK => ?_)
      go_simp
      refine hK _ _ ⟨fun _ => SV, ?_⟩
      clear hK K
      try simp only [Act.put, List.setIfInBounds_toArray, List.set_cons_succ, List.set_cons_zero]
      refine AnyL.take (i := 15) (v := .pointer (some ⟨g, o + 3, none⟩)) (some 23) rfl rfl (by kernel_rfl) (by kernel_rfl) (by kernel_rfl) (fun _ _ _ h => h) SV (Or.inl ⟨by rfl, ?_⟩) ?_
      · intro X hX; go_simp
      try simp only [Act.put, List.setIfInBounds_toArray, List.set_cons_succ, List.set_cons_zero]
      refine AnyL.one (i := 16) rfl (by kernel_rfl) ?_
      refine wpOp_step rfl (fun K hK => ?_)
      have z9 : w9.cell? ⟨g, o + 3, none⟩ = some (.int .i64 z) := (B9.out.cell (p := ⟨g, o + 3, none⟩) HZ.out.2.2).trans HZ.out.1
      have f9 : w9.frozen? ⟨g, o + 3, none⟩ = false := (B9.out.frozen (p := ⟨g, o + 3, none⟩) HZ.out.2.2).trans HZ.out.2.1
      have l9 : g < w9.heap.size := Nat.lt_of_lt_of_le HZ.out.2.2 B9.out.size
      go_simp
      have SX := Lib.hid (SV.out.other ⟨g, o + 3, none⟩ (.int .i64 (max z h0)) (by have := HZ.out.2.2; show W.heap.size ≠ g; omega))
      refine hK _ _ ⟨fun _ => SX, ?_⟩
      clear hK K z9 f9 l9
      refine AnyL.done (by kernel_rfl) ?_
      go_end0
      exact ⟨rfl, w9, B9.out, rfl⟩
    · clear hii
      refine wpOp_step rfl (fun K hK => ?_)
      go_simp
      refine (HH.out w9).mono ?_
      rintro e w10 ⟨rfl, rfl⟩
      refine hK _ _ ⟨fun _ => SV, ?_⟩
      clear hK K
      try simp only [Act.put, List.setIfInBounds_toArray, List.set_cons_succ, List.set_cons_zero]
      refine AnyL.one (i := 6) rfl (by kernel_rfl) ?_
      refine wpOp_step rfl (fun K hK => ?_)
      have z9 : w9.cell? ⟨g, o + 3, none⟩ = some (.int .i64 z) := (B9.out.cell (p := ⟨g, o + 3, none⟩) HZ.out.2.2).trans HZ.out.1
      have l9 : g < w9.heap.size := Nat.lt_of_lt_of_le HZ.out.2.2 B9.out.size
      go_simp
      clear z9 l9
      refine hK _ _ ⟨fun _ => SV, ?_⟩
      clear hK K
      try simp only [Act.put, List.setIfInBounds_toArray, List.set_cons_succ, List.set_cons_zero]
      refine AnyL.one (i := 13) rfl (by kernel_rfl) ?_
      refine wpOp_step rfl (fun K hK => ?_)
      go_simp
      refine hK _ _ ⟨fun _ => SV, ?_⟩
      clear hK K
      try simp only [Act.put, List.setIfInBounds_toArray, List.set_cons_succ, List.set_cons_zero]
      refine AnyL.take (i := 15) (v := .pointer (some ⟨g, o + 3, none⟩)) (some 23) rfl rfl (by kernel_rfl) (by kernel_rfl) (by kernel_rfl) (fun _ _ _ h => h) SV (Or.inl ⟨by rfl, ?_⟩) ?_
      · intro X hX; go_simp
      try simp only [Act.put, List.setIfInBounds_toArray, List.set_cons_succ, List.set_cons_zero]
      refine AnyL.one (i := 16) rfl (by kernel_rfl) ?_
      refine wpOp_step rfl (fun K hK => ?_)
      have z9 : w9.cell? ⟨g, o + 3, none⟩ = some (.int .i64 z) := (B9.out.cell (p := ⟨g, o + 3, none⟩) HZ.out.2.2).trans HZ.out.1
      have f9 : w9.frozen? ⟨g, o + 3, none⟩ = false := (B9.out.frozen (p := ⟨g, o + 3, none⟩) HZ.out.2.2).trans HZ.out.2.1
      have l9 : g < w9.heap.size := Nat.lt_of_lt_of_le HZ.out.2.2 B9.out.size
      go_simp
      have SX := Lib.hid (SV.out.other ⟨g, o + 3, none⟩ (.int .i64 (max z h0)) (by have := HZ.out.2.2; show W.heap.size ≠ g; omega))
      refine hK _ _ ⟨fun _ => SX, ?_⟩
      clear hK K z9 f9 l9
      refine AnyL.done (by kernel_rfl) ?_
      go_end0
      exact ⟨rfl, w9, B9.out, rfl⟩
end Go.Proofs.Ytceippgkmoijdaa
