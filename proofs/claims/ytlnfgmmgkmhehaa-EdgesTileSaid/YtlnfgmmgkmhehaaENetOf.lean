/- Contract of edges.netOf. Written by mk_ENetOf.py. -/
import Derived.Test.YtlnfgmmgkmhehaaECel2
namespace Go.Proofs.Ytlnfgmmgkmhehaa
open Go.RowKit Go.Shelf
set_option linter.unusedVariables false
set_option linter.unusedSimpArgs false
attribute [local go_sem] Oper.semAt_some

theorem run_store_complexE {P : Program} (w : World) (a : Addr) (m : Mode) (k : FloatKind) (x y : Nat) : (store a (.complex k x y) m).run P w = stored P w a (.complex k x y) m := run_store P w a _ m rfl
attribute [local go_sem] run_store_complexE
theorem put4V {X : World} {g t : Nat} {a b c d x y u v : Value} (h : Whole X g t [a, b, c, d]) : Whole ((((X.setCell ⟨g, 0, none⟩ x).setCell ⟨g, 1, none⟩ y).setCell ⟨g, 2, none⟩ u).setCell ⟨g, 3, none⟩ v) g t [x, y, u, v] :=
  (((h.set 0 x).set 1 y).set 2 u).set 3 v
theorem results_net {fn : Func} {W : World} {g : Nat} {cs : List Value} {v : Value} {tmps : Array Value} (hf : fn.results = #[.cell 6 45, .tmp 7]) (ht : tmps.getD 6 undef = .pointer (some ⟨g, 0, none⟩)) (hv : tmps.getD 7 undef = v) (h : Whole W g 45 cs) (hl : cs.length = 4) :
    (results fn tmps).run Try.prog W = .ok (.tuple #[.agg cs.toArray, v]) W := by
  have hi : (Try.prog.info? 45).map (·.size) = some cs.toArray.size := by rw [List.size_toArray, hl]; kernel_rfl
  have hl := run_loadVar_row (P := Try.prog) W g 45 45 cs.toArray (0, 0) _ h Try.underlying45 rfl hi
  rw [results_cell_tmp hf, ht, hv]
  simp [asAddr, hl]
set_option maxRecDepth 100000 in
set_option maxHeartbeats 4000000 in
theorem netOf_good (p q : Option Addr) (m c k d : Nat) (cs rs : List Int) (g0 g1 : Int) (w : World) (hL : LowI w.heap.size w (.slice p m c) cs) (hm : cs.length = m) (hR : LowI w.heap.size w (.slice q k d) rs) (hk : rs.length = k) (ok0 : okW g0 cs) (ok1 : okW g1 rs) :
    Calls Try.prog 11 #[.slice p m c, .slice q k d, .agg #[.int .i64 g0, .int .i64 g1]] w fun e w' => (∃ px py, e = .returned (.tuple #[netV px py m k g0 g1, .bool true]) ∧ NetAt w.heap.size w' px py cs rs g0 g1) ∧ Below w.heap.size w w' := by
  have HRA := Lib.hid (fun X (h : Below w.heap.size w X) => by have := eright_any g0 p m c cs X ((hL.keep (Y := X) (fun k hk => h.block k hk)).ints) hm; rw [okB_iff.2 ok0] at this; exact this)
  have HRB := Lib.hid (fun X (h : Below w.heap.size w X) => by have := eright_any g1 q k d rs X ((hR.keep (Y := X) (fun k hk => h.block k hk)).ints) hk; rw [okB_iff.2 ok1] at this; exact this)
  have HFA := Lib.hid (fun X (h : Below w.heap.size w X) => first_any g0 p m c (m + 1) cs X ((hL.keep (Y := X) (fun k hk => h.block k hk)).mono h.size) hm ok0 (Nat.le_refl _))
  have HFB := Lib.hid (fun X (h : Below w.heap.size w X) => first_any g1 q k d (k + 1) rs X ((hR.keep (Y := X) (fun k hk => h.block k hk)).mono h.size) hk ok1 (Nat.le_refl _))
  have hm4 : m ≤ 10000 := by have := ok0.2.1; omega
  have hk4 : k ≤ 10000 := by have := ok1.2.1; omega
  have hw1 : IntKind.i64.wrap ((m : Int) + 1) = (m : Int) + 1 := by simp [IntKind.wrap, IntKind.bits, IntKind.signed]; omega
  have hw2 : IntKind.i64.wrap ((k : Int) + 1) = (k : Int) + 1 := by simp [IntKind.wrap, IntKind.bits, IntKind.signed]; omega
  push_cast at HFA HFB
  have HM := Lib.hid hm
  have HK := Lib.hid hk
  unfold netV
  obtain ⟨fx, hfx⟩ : ∃ fx, floatOfInt .f64 g0 = fx := ⟨_, rfl⟩
  obtain ⟨fy, hfy⟩ : ∃ fy, floatOfInt .f64 g1 = fy := ⟨_, rfl⟩
  rw [hfx, hfy]
  clear hL hR hm hk ok0 ok1
  obtain ⟨gn, hgn⟩ : ∃ gn, w.heap.size = gn := ⟨_, rfl⟩
  have HGN := Lib.hid hgn
  obtain ⟨W0, hW0⟩ : ∃ W0, (w.alloc (.cells #[.int .i64 g0, .int .i64 g1] 23)).alloc (.cells #[.slice none 0 0, .slice none 0 0, .complex .f64 0 0, .complex .f64 0 0] 45) = W0 := ⟨_, rfl⟩
  have HB0 : Hid (Below w.heap.size w W0) := Lib.hid (by rw [← hW0]; exact ((Below.refl _ w).alloc (Nat.le_refl _) _).alloc (by simp) _)
  have hA0 : Whole W0 gn 23 [.int .i64 g0, .int .i64 g1] := by rw [← hW0]; exact (whole_new w [.int .i64 g0, .int .i64 g1] 23 gn hgn.symm).alloc _
  have hZ0 : Whole W0 (gn + 1) 45 [.slice none 0 0, .slice none 0 0, .complex .f64 0 0, .complex .f64 0 0] := by rw [← hW0]; exact whole_new (w.alloc (.cells #[.int .i64 g0, .int .i64 g1] 23)) [.slice none 0 0, .slice none 0 0, .complex .f64 0 0, .complex .f64 0 0] 45 (gn + 1) (by simp [hgn])
  have a0 := hA0.cellAt 0
  have a1 := hA0.cellAt 1
  have la := hA0.lt
  simp only [List.getElem?_cons_zero, List.getElem?_cons_succ] at a0 a1
  have HA0 := Lib.hid hA0
  have HZ0 := Lib.hid hZ0
  clear hA0 hZ0
  go_enter Try.func11, Try.ntmps11
  go_wp2_with fail
  try rw [hW0]
  clear hW0 hgn
  refine (HRA.out _ HB0.out).mono ?_
  rintro e w1 ⟨rfl, hb1⟩
  have HB1 := Lib.hid (HB0.out.trans (hb1.mono HB0.out.size))
  have HA1 := Lib.hid (HA0.out.below hb1 HA0.out.lt)
  have HZ1 := Lib.hid (HZ0.out.below hb1 HZ0.out.lt)
  clear hb1 HRA HA0 HZ0 HB0 a0 a1 la
  have a0 := HA1.out.cellAt 0
  have a1 := HA1.out.cellAt 1
  have la := HA1.out.lt
  simp only [List.getElem?_cons_zero, List.getElem?_cons_succ] at a0 a1
  go_wp2_with fail
  refine (HRB.out _ HB1.out).mono ?_
  rintro e w2 ⟨rfl, hb2⟩
  have HB2 := Lib.hid (HB1.out.trans (hb2.mono HB1.out.size))
  have HA2 := Lib.hid (HA1.out.below hb2 HA1.out.lt)
  have HZ2 := Lib.hid (HZ1.out.below hb2 HZ1.out.lt)
  clear hb2 HRB HA1 HZ1 HB1 a0 a1 la
  have a0 := HA2.out.cellAt 0
  have a1 := HA2.out.cellAt 1
  simp only [List.getElem?_cons_zero, List.getElem?_cons_succ] at a0 a1
  obtain ⟨gp, hgp⟩ : ∃ gp, gn + 1 = gp := ⟨_, rfl⟩
  have lgg : gn < gp := by omega
  have lgp : gp < w2.heap.size := by have := HZ2.out.lt; omega
  rw [hgp] at HZ2
  go_wp2
  try simp only [hgp]
  clear hgp
  refine region_held_atE (S := fun X => Hid (Below gp w2 X)) (by kernel_rfl) (fun w9 hw9 => ?_)
  have SV : Hid (Below gp w2 w9) := Lib.hid (by rw [← hw9]; exact (Below.refl _ _).drew)
  have HG : Hid (Whole w9 gp 45 [.slice none 0 0, .slice none 0 0, .complex .f64 0 0, .complex .f64 0 0]) := Lib.hid (by rw [← hw9]; exact HZ2.out)
  clear hw9 HZ2 HA2
  try simp only [Act.put, List.setIfInBounds_toArray, List.set_cons_succ, List.set_cons_zero]
  refine wpAnyH_takeD (i := 0) (v := .slice p m c) (some 21) rfl rfl (by kernel_rfl) (by kernel_rfl) (by kernel_rfl) (fun _ _ _ h => h) (Or.inl ⟨by rfl, ?_⟩) SV ?_
  · intro X hX; go_simp
  try simp only [Act.put, List.setIfInBounds_toArray, List.set_cons_succ, List.set_cons_zero]
  refine wpAnyH_takeD (i := 1) (v := .int .i64 (m : Int)) (some 22) rfl rfl (by kernel_rfl) (by kernel_rfl) (by kernel_rfl) (fun _ _ _ h => h) (Or.inl ⟨by rfl, ?_⟩) SV ?_
  · intro X hX; go_simp
  try simp only [Act.put, List.setIfInBounds_toArray, List.set_cons_succ, List.set_cons_zero]
  refine wpAnyH_takeD (i := 2) (v := .int .i64 ((m : Int) + 1)) (some 23) rfl rfl (by kernel_rfl) (by kernel_rfl) (by kernel_rfl) (fun _ _ _ h => h) (Or.inl ⟨by rfl, ?_⟩) SV ?_
  · intro X hX; go_simp
  try simp only [Act.put, List.setIfInBounds_toArray, List.set_cons_succ, List.set_cons_zero]
  refine wpAnyH_takeD (i := 3) (v := .pointer (some ⟨gn, 0, none⟩)) (some 24) rfl rfl (by kernel_rfl) (by kernel_rfl) (by kernel_rfl) (fun _ _ _ h => h) (Or.inl ⟨by rfl, ?_⟩) SV ?_
  · intro X hX; go_simp
  try simp only [Act.put, List.setIfInBounds_toArray, List.set_cons_succ, List.set_cons_zero]
  refine wpAnyH_takeD (i := 4) (v := .int .i64 g0) (some 25) rfl rfl (by kernel_rfl) (by kernel_rfl) (by kernel_rfl) (fun _ _ _ h => h) (Or.inl ⟨by rfl, ?_⟩) SV ?_
  · intro X hX; have o0 := (hX.out.cell (p := ⟨gn, 0, none⟩) lgg).trans a0; have lX := hX.out.size; have lbX : gn < X.heap.size := (by omega); go_simp
  try simp only [Act.put, List.setIfInBounds_toArray, List.set_cons_succ, List.set_cons_zero]
  refine wpAnyH_takeD (i := 5) (v := .slice p m c) (some 26) rfl rfl (by kernel_rfl) (by kernel_rfl) (by kernel_rfl) (fun _ _ _ h => h) (Or.inl ⟨by rfl, ?_⟩) SV ?_
  · intro X hX; go_simp
  try simp only [Act.put, List.setIfInBounds_toArray, List.set_cons_succ, List.set_cons_zero]
  refine wpAnyH_takeD (i := 7) (v := .slice q k d) (some 28) rfl rfl (by kernel_rfl) (by kernel_rfl) (by kernel_rfl) (fun _ _ _ h => h) (Or.inl ⟨by rfl, ?_⟩) SV ?_
  · intro X hX; go_simp
  try simp only [Act.put, List.setIfInBounds_toArray, List.set_cons_succ, List.set_cons_zero]
  refine wpAnyH_takeD (i := 8) (v := .int .i64 (k : Int)) (some 29) rfl rfl (by kernel_rfl) (by kernel_rfl) (by kernel_rfl) (fun _ _ _ h => h) (Or.inl ⟨by rfl, ?_⟩) SV ?_
  · intro X hX; go_simp
  try simp only [Act.put, List.setIfInBounds_toArray, List.set_cons_succ, List.set_cons_zero]
  refine wpAnyH_takeD (i := 9) (v := .int .i64 ((k : Int) + 1)) (some 30) rfl rfl (by kernel_rfl) (by kernel_rfl) (by kernel_rfl) (fun _ _ _ h => h) (Or.inl ⟨by rfl, ?_⟩) SV ?_
  · intro X hX; go_simp
  try simp only [Act.put, List.setIfInBounds_toArray, List.set_cons_succ, List.set_cons_zero]
  refine wpAnyH_takeD (i := 10) (v := .pointer (some ⟨gn, 1, none⟩)) (some 31) rfl rfl (by kernel_rfl) (by kernel_rfl) (by kernel_rfl) (fun _ _ _ h => h) (Or.inl ⟨by rfl, ?_⟩) SV ?_
  · intro X hX; go_simp
  try simp only [Act.put, List.setIfInBounds_toArray, List.set_cons_succ, List.set_cons_zero]
  refine wpAnyH_takeD (i := 11) (v := .int .i64 g1) (some 32) rfl rfl (by kernel_rfl) (by kernel_rfl) (by kernel_rfl) (fun _ _ _ h => h) (Or.inl ⟨by rfl, ?_⟩) SV ?_
  · intro X hX; have o0 := (hX.out.cell (p := ⟨gn, 1, none⟩) lgg).trans a1; have lX := hX.out.size; have lbX : gn < X.heap.size := (by omega); go_simp
  try simp only [Act.put, List.setIfInBounds_toArray, List.set_cons_succ, List.set_cons_zero]
  refine wpAnyH_takeD (i := 12) (v := .slice q k d) (some 33) rfl rfl (by kernel_rfl) (by kernel_rfl) (by kernel_rfl) (fun _ _ _ h => h) (Or.inl ⟨by rfl, ?_⟩) SV ?_
  · intro X hX; go_simp
  try simp only [Act.put, List.setIfInBounds_toArray, List.set_cons_succ, List.set_cons_zero]
  refine wpAnyH_takeD (i := 14) (v := .pointer (some ⟨gn, 0, none⟩)) (some 35) rfl rfl (by kernel_rfl) (by kernel_rfl) (by kernel_rfl) (fun _ _ _ h => h) (Or.inl ⟨by rfl, ?_⟩) SV ?_
  · intro X hX; go_simp
  try simp only [Act.put, List.setIfInBounds_toArray, List.set_cons_succ, List.set_cons_zero]
  refine wpAnyH_takeD (i := 15) (v := .int .i64 g0) (some 36) rfl rfl (by kernel_rfl) (by kernel_rfl) (by kernel_rfl) (fun _ _ _ h => h) (Or.inl ⟨by rfl, ?_⟩) SV ?_
  · intro X hX; have o0 := (hX.out.cell (p := ⟨gn, 0, none⟩) lgg).trans a0; have lX := hX.out.size; have lbX : gn < X.heap.size := (by omega); go_simp
  try simp only [Act.put, List.setIfInBounds_toArray, List.set_cons_succ, List.set_cons_zero]
  refine wpAnyH_takeD (i := 16) (v := .float .f64 fx) (some 37) rfl rfl (by kernel_rfl) (by kernel_rfl) (by kernel_rfl) (fun _ _ _ h => h) (Or.inl ⟨by rfl, ?_⟩) SV ?_
  · intro X hX; go_simp
  try simp only [Act.put, List.setIfInBounds_toArray, List.set_cons_succ, List.set_cons_zero]
  refine wpAnyH_takeD (i := 17) (v := .complex .f64 fx 0) (some 38) rfl rfl (by kernel_rfl) (by kernel_rfl) (by kernel_rfl) (fun _ _ _ h => h) (Or.inl ⟨by rfl, ?_⟩) SV ?_
  · intro X hX; go_simp
  try simp only [Act.put, List.setIfInBounds_toArray, List.set_cons_succ, List.set_cons_zero]
  refine wpAnyH_takeD (i := 18) (v := .pointer (some ⟨gn, 1, none⟩)) (some 39) rfl rfl (by kernel_rfl) (by kernel_rfl) (by kernel_rfl) (fun _ _ _ h => h) (Or.inl ⟨by rfl, ?_⟩) SV ?_
  · intro X hX; go_simp
  try simp only [Act.put, List.setIfInBounds_toArray, List.set_cons_succ, List.set_cons_zero]
  refine wpAnyH_takeD (i := 19) (v := .int .i64 g1) (some 40) rfl rfl (by kernel_rfl) (by kernel_rfl) (by kernel_rfl) (fun _ _ _ h => h) (Or.inl ⟨by rfl, ?_⟩) SV ?_
  · intro X hX; have o0 := (hX.out.cell (p := ⟨gn, 1, none⟩) lgg).trans a1; have lX := hX.out.size; have lbX : gn < X.heap.size := (by omega); go_simp
  try simp only [Act.put, List.setIfInBounds_toArray, List.set_cons_succ, List.set_cons_zero]
  refine wpAnyH_takeD (i := 20) (v := .float .f64 fy) (some 41) rfl rfl (by kernel_rfl) (by kernel_rfl) (by kernel_rfl) (fun _ _ _ h => h) (Or.inl ⟨by rfl, ?_⟩) SV ?_
  · intro X hX; go_simp
  try simp only [Act.put, List.setIfInBounds_toArray, List.set_cons_succ, List.set_cons_zero]
  refine wpAnyH_takeD (i := 21) (v := .complex .f64 0 fy) (some 42) rfl rfl (by kernel_rfl) (by kernel_rfl) (by kernel_rfl) (fun _ _ _ h => h) (Or.inl ⟨by rfl, ?_⟩) SV ?_
  · intro X hX; go_simp
  try simp only [Act.put, List.setIfInBounds_toArray, List.set_cons_succ, List.set_cons_zero]
  refine wpAnyH_all (rs := [6]) (by kernel_rfl) (by simp) ?_
  intro ii hii; obtain rfl : ii = 6 := by simpa using hii
  clear hii
  refine wpOp_step rfl (fun K hK => ?_)
  go_simp
  refine (HFA.out _ (HB2.out.trans (SV.out.mono (by have := HGN.out; omega)))).mono ?_
  rintro e w1a ⟨rfl, hwha, hb1a⟩
  have S1a : Hid (Below gp w2 w1a) := Lib.hid (SV.out.trans (hb1a.mono (Nat.le_trans (Nat.le_of_lt lgp) SV.out.size)))
  have G1a := Lib.hid (HG.out.below hb1a HG.out.lt)
  have HWa := Lib.hid hwha
  have lta : w.heap.size ≤ w9.heap.size + 1 := Nat.le_succ_of_le (Nat.le_trans (show w.heap.size ≤ w2.heap.size from HB2.out.size) SV.out.size)
  refine hK _ _ ⟨S1a, ?_⟩
  clear hK K hb1a SV HG hwha
  have SV := S1a
  have HG := G1a
  clear S1a G1a
  generalize w9.heap.size + 1 = pxa at HWa lta ⊢
  try simp only [Act.put, List.setIfInBounds_toArray, List.set_cons_succ, List.set_cons_zero]
  refine wpAnyH_all (rs := [13]) (by kernel_rfl) (by simp) ?_
  intro ii hii; obtain rfl : ii = 13 := by simpa using hii
  clear hii
  refine wpOp_step rfl (fun K hK => ?_)
  go_simp
  refine (HFB.out _ (HB2.out.trans (SV.out.mono (by have := HGN.out; omega)))).mono ?_
  rintro e w1b ⟨rfl, hwhb, hb1b⟩
  have S1b : Hid (Below gp w2 w1b) := Lib.hid (SV.out.trans (hb1b.mono (Nat.le_trans (Nat.le_of_lt lgp) SV.out.size)))
  have G1b := Lib.hid (HG.out.below hb1b HG.out.lt)
  have HWb := Lib.hid hwhb
  have ltb : w.heap.size ≤ w1a.heap.size + 1 := Nat.le_succ_of_le (Nat.le_trans (show w.heap.size ≤ w2.heap.size from HB2.out.size) SV.out.size)
  have HWA2 := Lib.hid (HWa.out.below hb1b HWa.out.lt)
  clear HWa
  refine hK _ _ ⟨S1b, ?_⟩
  clear hK K hb1b SV HG hwhb
  have SV := S1b
  have HG := G1b
  clear S1b G1b
  generalize w1a.heap.size + 1 = pxb at HWb ltb ⊢
  try simp only [Act.put, List.setIfInBounds_toArray, List.set_cons_succ, List.set_cons_zero]
  refine wpAnyH_takeD (i := 22) (v := .agg #[.slice (some ⟨pxa, 0, none⟩) (m + 1) (m + 1), .slice (some ⟨pxb, 0, none⟩) (k + 1) (k + 1), .complex .f64 fx 0, .complex .f64 0 fy]) (some 43) rfl rfl (by kernel_rfl) (by kernel_rfl) (by kernel_rfl) (fun _ _ _ h => h) (Or.inl ⟨by rfl, ?_⟩) SV ?_
  · intro X hX; go_simp
  try simp only [Act.put, List.setIfInBounds_toArray, List.set_cons_succ, List.set_cons_zero]
  refine wpAnyH_all (rs := [23]) (by kernel_rfl) (by simp) ?_
  intro ii hii; obtain rfl : ii = 23 := by simpa using hii
  clear hii
  have qf0 := HG.out.free 0
  have qf1 := HG.out.free 1
  have qf2 := HG.out.free 2
  have qf3 := HG.out.free 3
  have qc0 := HG.out.cellAt 0
  have qc1 := HG.out.cellAt 1
  have qc2 := HG.out.cellAt 2
  have qc3 := HG.out.cellAt 3
  have ql := HG.out.lt
  refine wpOp_step rfl (fun K hK => ?_)
  go_simp
  have hgw : w.heap.size ≤ gp := by have := HGN.out; omega
  have SX := (((SV.out.setCell (p := ⟨gp, 0, none⟩) (Nat.le_refl _) (.slice (some ⟨pxa, 0, none⟩) (m + 1) (m + 1))).setCell (p := ⟨gp, 1, none⟩) (Nat.le_refl _) (.slice (some ⟨pxb, 0, none⟩) (k + 1) (k + 1))).setCell (p := ⟨gp, 2, none⟩) (Nat.le_refl _) (.complex .f64 fx 0)).setCell (p := ⟨gp, 3, none⟩) (Nat.le_refl _) (.complex .f64 0 fy)
  have KX := put4V (x := .slice (some ⟨pxa, 0, none⟩) (m + 1) (m + 1)) (y := .slice (some ⟨pxb, 0, none⟩) (k + 1) (k + 1)) (u := .complex .f64 fx 0) (v := .complex .f64 0 fy) HG.out
  have e1 : ∀ {t : Nat} {zs : List Int} {g : Nat}, Whole w1b g 2 (zs.map (Value.int .i64)) → g ≠ gp := fun h e => by
    have h2 := HG.out
    subst e
    have := h.symm.trans h2
    injection this with this
    injection this with _ e2
    exact absurd e2 (by decide)
  have hA9 := (((HWA2.out.other ⟨gp, 0, none⟩ (.slice (some ⟨pxa, 0, none⟩) (m + 1) (m + 1)) (e1 (t := 0) HWA2.out)).other ⟨gp, 1, none⟩ (.slice (some ⟨pxb, 0, none⟩) (k + 1) (k + 1)) (e1 (t := 0) HWA2.out)).other ⟨gp, 2, none⟩ (.complex .f64 fx 0) (e1 (t := 0) HWA2.out)).other ⟨gp, 3, none⟩ (.complex .f64 0 fy) (e1 (t := 0) HWA2.out)
  have hB9 := (((HWb.out.other ⟨gp, 0, none⟩ (.slice (some ⟨pxa, 0, none⟩) (m + 1) (m + 1)) (e1 (t := 0) HWb.out)).other ⟨gp, 1, none⟩ (.slice (some ⟨pxb, 0, none⟩) (k + 1) (k + 1)) (e1 (t := 0) HWb.out)).other ⟨gp, 2, none⟩ (.complex .f64 fx 0) (e1 (t := 0) HWb.out)).other ⟨gp, 3, none⟩ (.complex .f64 0 fy) (e1 (t := 0) HWb.out)
  clear qc0 qc1 qc2 qc3 qf0 qf1 qf2 qf3 ql
  refine hK _ _ ⟨Lib.hid SX, ?_⟩
  clear hK K
  refine wpAnyH_takeD (i := 24) (v := .bool true) (some 7) rfl rfl (by kernel_rfl) (by kernel_rfl) (by kernel_rfl) (fun _ _ _ h => h) (Or.inl ⟨by rfl, ?_⟩) (Lib.hid SX) ?_
  · intro X hX; go_simp
  try simp only [Act.put, List.setIfInBounds_toArray, List.set_cons_succ, List.set_cons_zero]
  refine wpAnyH_done (by kernel_rfl) ?_ _
  refine at_worldE (fun Y => Below gp w2 Y ∧ Whole Y gp 45 [.slice (some ⟨pxa, 0, none⟩) (m + 1) (m + 1), .slice (some ⟨pxb, 0, none⟩) (k + 1) (k + 1), .complex .f64 fx 0, .complex .f64 0 fy] ∧ Whole Y pxa 2 ((begsW g0 cs (m + 1)).map (Value.int .i64)) ∧ Whole Y pxb 2 ((begsW g1 rs (k + 1)).map (Value.int .i64))) ⟨SX, KX, hA9, hB9⟩ (fun Y hY => ?_)
  obtain ⟨SY, KY, AY, BY⟩ := hY
  clear SX KX HG SV hA9 hB9 HWA2 HWb e1
  go_wp2
  refine bodyPost_ret (results_net rfl rfl rfl KY rfl) rfl ⟨⟨pxa, pxb, rfl, lta, by rw [HM.out]; exact AY, by rw [HK.out]; exact BY, ltb⟩, ?_⟩
  exact HB2.out.trans (SY.mono (by have := HGN.out; omega))
set_option maxHeartbeats 2000000 in
theorem netOf_bad (p q : Option Addr) (m c k d : Nat) (cs rs : List Int) (g0 g1 : Int) (w : World) (hL : LowI w.heap.size w (.slice p m c) cs) (hm : cs.length = m) (hR : LowI w.heap.size w (.slice q k d) rs) (hk : rs.length = k) (h : okB g0 cs = false ∨ okB g1 rs = false) :
    Calls Try.prog 11 #[.slice p m c, .slice q k d, .agg #[.int .i64 g0, .int .i64 g1]] w fun e w' => e = .returned (.tuple #[.agg #[.slice none 0 0, .slice none 0 0, .complex .f64 0 0, .complex .f64 0 0], .bool false]) ∧ Below w.heap.size w w' := by
  have HRA := Lib.hid (fun X (h : Below w.heap.size w X) => eright_any g0 p m c cs X ((hL.keep (Y := X) (fun k hk => h.block k hk)).ints) hm)
  have HRB := Lib.hid (fun X (h : Below w.heap.size w X) => eright_any g1 q k d rs X ((hR.keep (Y := X) (fun k hk => h.block k hk)).ints) hk)
  clear hL hR hm hk
  obtain ⟨gn, hgn⟩ : ∃ gn, w.heap.size = gn := ⟨_, rfl⟩
  have HGN := Lib.hid hgn
  obtain ⟨W0, hW0⟩ : ∃ W0, (w.alloc (.cells #[.int .i64 g0, .int .i64 g1] 23)).alloc (.cells #[.slice none 0 0, .slice none 0 0, .complex .f64 0 0, .complex .f64 0 0] 45) = W0 := ⟨_, rfl⟩
  have HB0 : Hid (Below w.heap.size w W0) := Lib.hid (by rw [← hW0]; exact ((Below.refl _ w).alloc (Nat.le_refl _) _).alloc (by simp) _)
  have hA0 : Whole W0 gn 23 [.int .i64 g0, .int .i64 g1] := by rw [← hW0]; exact (whole_new w [.int .i64 g0, .int .i64 g1] 23 gn hgn.symm).alloc _
  have hZ0 : Whole W0 (gn + 1) 45 [.slice none 0 0, .slice none 0 0, .complex .f64 0 0, .complex .f64 0 0] := by rw [← hW0]; exact whole_new (w.alloc (.cells #[.int .i64 g0, .int .i64 g1] 23)) [.slice none 0 0, .slice none 0 0, .complex .f64 0 0, .complex .f64 0 0] 45 (gn + 1) (by simp [hgn])
  have a0 := hA0.cellAt 0
  have la := hA0.lt
  simp only [List.getElem?_cons_zero, List.getElem?_cons_succ] at a0
  have HA0 := Lib.hid hA0
  have HZ0 := Lib.hid hZ0
  clear hA0 hZ0
  cases h0 : okB g0 cs with
  | false =>
    rw [h0] at HRA
    clear h h0
    go_enter Try.func11, Try.ntmps11
    go_wp2_with fail
    try rw [hW0]
    clear hW0 hgn
    refine (HRA.out _ HB0.out).mono ?_
    rintro e w1 ⟨rfl, hb1⟩
    have HB1 := Lib.hid (HB0.out.trans (hb1.mono HB0.out.size))
    have HZ1 := Lib.hid (HZ0.out.below hb1 HZ0.out.lt)
    clear hb1 HRA HA0 HZ0 HB0 a0 la
    have qf0 := HZ1.out.free 0
    have qf1 := HZ1.out.free 1
    have qf2 := HZ1.out.free 2
    have qf3 := HZ1.out.free 3
    have qc0 := HZ1.out.cellAt 0
    have qc1 := HZ1.out.cellAt 1
    have qc2 := HZ1.out.cellAt 2
    have qc3 := HZ1.out.cellAt 3
    have ql := HZ1.out.lt
    go_wp2
    refine bodyPost_ret (results_net rfl rfl rfl (put4V HZ1.out) rfl) rfl ⟨rfl, ?_⟩
    have hgg : w.heap.size ≤ gn + 1 := by have := HGN.out; omega
    exact (((HB1.out.setCell (p := ⟨gn + 1, 0, none⟩) hgg _).setCell (p := ⟨gn + 1, 1, none⟩) hgg _).setCell (p := ⟨gn + 1, 2, none⟩) hgg _).setCell (p := ⟨gn + 1, 3, none⟩) hgg _
  | true =>
    have h1 : okB g1 rs = false := by rcases h with h | h; rw [h0] at h; cases h; exact h
    rw [h0] at HRA
    rw [h1] at HRB
    clear h h0 h1
    go_enter Try.func11, Try.ntmps11
    go_wp2_with fail
    try rw [hW0]
    clear hW0 hgn
    refine (HRA.out _ HB0.out).mono ?_
    rintro e w0 ⟨rfl, hb1⟩
    have HB2 := Lib.hid (HB0.out.trans (hb1.mono HB0.out.size))
    have HZ2 := Lib.hid (HZ0.out.below hb1 HZ0.out.lt)
    have HA2 := Lib.hid (HA0.out.below hb1 HA0.out.lt)
    clear hb1 HRA HA0 HZ0 HB0 a0 la
    have a1 := HA2.out.cellAt 1
    have la := HA2.out.lt
    simp only [List.getElem?_cons_zero, List.getElem?_cons_succ] at a1
    go_wp2_with fail
    refine (HRB.out _ HB2.out).mono ?_
    rintro e w1 ⟨rfl, hb1⟩
    have HB1 := Lib.hid (HB2.out.trans (hb1.mono HB2.out.size))
    have HZ1 := Lib.hid (HZ2.out.below hb1 HZ2.out.lt)
    clear hb1 HRB HA2 HZ2 HB2 a1 la
    have qf0 := HZ1.out.free 0
    have qf1 := HZ1.out.free 1
    have qf2 := HZ1.out.free 2
    have qf3 := HZ1.out.free 3
    have qc0 := HZ1.out.cellAt 0
    have qc1 := HZ1.out.cellAt 1
    have qc2 := HZ1.out.cellAt 2
    have qc3 := HZ1.out.cellAt 3
    have ql := HZ1.out.lt
    go_wp2
    refine bodyPost_ret (results_net rfl rfl rfl (put4V HZ1.out) rfl) rfl ⟨rfl, ?_⟩
    have hgg : w.heap.size ≤ gn + 1 := by have := HGN.out; omega
    exact (((HB1.out.setCell (p := ⟨gn + 1, 0, none⟩) hgg _).setCell (p := ⟨gn + 1, 1, none⟩) hgg _).setCell (p := ⟨gn + 1, 2, none⟩) hgg _).setCell (p := ⟨gn + 1, 3, none⟩) hgg _
end Go.Proofs.Ytlnfgmmgkmhehaa
