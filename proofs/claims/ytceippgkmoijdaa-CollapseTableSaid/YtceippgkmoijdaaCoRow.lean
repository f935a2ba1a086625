/- collapse.rowStretches, colStretches. Written by mk_CoRow.py. -/
import Derived.Test.YtceippgkmoijdaaCoCat
import Derived.Test.YtceippgkmoijdaaCoNet
namespace Go.Proofs.Ytceippgkmoijdaa
open Go.RowKit Go.Shelf Go.Maps
set_option linter.unusedVariables false
set_option linter.unusedSimpArgs false
attribute [local go_sem] Oper.semAt_some

theorem two_lists {X : World} {b g1 g2 m n : Nat} {A B : List Sr} (h : Whole X b 82 [.slice (some ⟨g1, 0, none⟩) m m, .slice (some ⟨g2, 0, none⟩) n n]) (ha : LsB Sr.cells 99 g1 A X) (hb : LsB Sr.cells 99 g2 B X) (hm : A.length = m) (hn : B.length = n) (m1 : m ≤ 1000000) (n1 : n ≤ 1000000) :
    ∀ i L, [A, B][i]? = some L → ∃ p c, X.cell? ⟨b, i, none⟩ = some (.slice p L.length c) ∧ RowsK Sr.cells 20 X (.slice p L.length c) L := fun i L hL => by
  rcases i with _ | _ | i
  · simp at hL; subst hL
    exact ⟨_, m, by rw [h.cellAt, hm]; rfl, by rw [hm]; exact ha.rows Sr.cells_len hm m (by omega)⟩
  · simp at hL; subst hL
    exact ⟨_, n, by rw [h.cellAt, hn]; rfl, by rw [hn]; exact hb.rows Sr.cells_len hn n (by omega)⟩
  · simp at hL
set_option maxRecDepth 100000 in
set_option maxHeartbeats 4000000 in
theorem rowStr_any (cs : Array Value) (ap bp : Option Addr) (an ac bn bc : Nat) (r1 r2 : List Rn) (W : World) (h4 : cs[4]? = some (.slice ap an ac)) (h5 : cs[5]? = some (.slice bp bn bc)) (H1 : RowsK Rn.cells 14 W (.slice ap an ac) r1) (H2 : RowsK Rn.cells 14 W (.slice bp bn bc) r2) (n1 : an ≤ 400000) (n2 : bn ≤ 400000) :
    Calls Try.prog 31 #[.agg cs] W fun e X => ∃ v, e = .returned v ∧ RowsK Sr.cells 20 X v (strP 0 r1 ++ strP 1 r2) ∧ Below W.heap.size W X := by
  have HS1 := Lib.hid (fun X (hX : Below W.heap.size W X) => stretches_any 0 ap an ac r1 X (H1.below hX) H1.len (by omega))
  have HS2 := Lib.hid (fun X (hX : Below W.heap.size W X) => stretches_any 1 bp bn bc r2 X (H2.below hX) H2.len (by omega))
  have HLN : Hid ((strP 0 r1).length = an ∧ (strP 1 r2).length = bn) := Lib.hid ⟨by unfold strP; rw [List.length_map]; exact H1.len, by unfold strP; rw [List.length_map]; exact H2.len⟩
  clear H1 H2
  have K1 : Hid (Whole (W.alloc (.cells cs 30)) W.heap.size 30 cs.toList) := Lib.hid (by have := whole_new W cs.toList 30 _ rfl; simpa using this)
  have B1 : Hid (Below W.heap.size W (W.alloc (.cells cs 30))) := Lib.hid ((Below.refl _ W).alloc (Nat.le_refl _) _)
  obtain ⟨bx, hbx⟩ : ∃ b, b = W.heap.size := ⟨_, rfl⟩
  rw [← hbx] at K1
  go_enter Try.func31, Try.ntmps31
  go_wp2_with fail
  rw [← hbx]
  generalize W.alloc (.cells cs 30) = w1 at K1 B1 ⊢
  refine region_held_atC (S := fun X => Hid (Below W.heap.size W X ∧ Whole X bx 30 cs.toList)) (by kernel_rfl) (fun w9 hw9 => ?_)
  have SV : Hid (Below W.heap.size W w9 ∧ Whole w9 bx 30 cs.toList) := Lib.hid ⟨B1.out.trans (hw9 ▸ below_dn _ _ _), K1.out.below (hw9 ▸ below_dn _ _ 1) K1.out.lt⟩
  clear hw9 K1 B1 hbx
  try simp only [Act.put, List.setIfInBounds_toArray, List.set_cons_succ, List.set_cons_zero]
  refine wpAnyH_takeC (i := 0) (v := .pointer (some ⟨bx, 4, none⟩)) (some 3) rfl rfl (by kernel_rfl) (by kernel_rfl) (by kernel_rfl) (fun _ _ _ h => h) (Or.inl ⟨by rfl, ?_⟩) SV ?_
  · intro X hX; have lx := hX.out.2.lt; go_simp
  try simp only [Act.put, List.setIfInBounds_toArray, List.set_cons_succ, List.set_cons_zero]
  refine wpAnyH_takeC (i := 1) (v := .slice ap an ac) (some 4) rfl rfl (by kernel_rfl) (by kernel_rfl) (by kernel_rfl) (fun _ _ _ h => h) (Or.inl ⟨by rfl, ?_⟩) SV ?_
  · intro X hX; have e1 := hX.out.2.cellAt 4; have lx := hX.out.2.lt; rw [Array.getElem?_toList, h4] at e1; go_simp
  try simp only [Act.put, List.setIfInBounds_toArray, List.set_cons_succ, List.set_cons_zero]
  refine wpAnyH_takeC (i := 3) (v := .pointer (some ⟨bx, 5, none⟩)) (some 6) rfl rfl (by kernel_rfl) (by kernel_rfl) (by kernel_rfl) (fun _ _ _ h => h) (Or.inl ⟨by rfl, ?_⟩) SV ?_
  · intro X hX; have lx := hX.out.2.lt; go_simp
  try simp only [Act.put, List.setIfInBounds_toArray, List.set_cons_succ, List.set_cons_zero]
  refine wpAnyH_takeC (i := 4) (v := .slice bp bn bc) (some 7) rfl rfl (by kernel_rfl) (by kernel_rfl) (by kernel_rfl) (fun _ _ _ h => h) (Or.inl ⟨by rfl, ?_⟩) SV ?_
  · intro X hX; have e1 := hX.out.2.cellAt 5; have lx := hX.out.2.lt; rw [Array.getElem?_toList, h5] at e1; go_simp
  try simp only [Act.put, List.setIfInBounds_toArray, List.set_cons_succ, List.set_cons_zero]
  refine wpAnyH_all (rs := [2]) (by kernel_rfl) (by simp) ?_
  intro ii hii; obtain rfl : ii = 2 := by simpa using hii
  clear hii
  refine wpOp_step rfl (fun K hK => ?_)
  go_simp
  refine (HS1.out w9 SV.out.1).mono ?_
  rintro e w10 ⟨rfl, hl, hb⟩
  have LA := Lib.hid hl
  have SV2 : Hid (Below W.heap.size W w10 ∧ Whole w10 bx 30 cs.toList) := Lib.hid ⟨SV.out.1.trans (hb.mono SV.out.1.size), SV.out.2.below hb SV.out.2.lt⟩
  have hgl := hl.lt
  refine hK _ _ ⟨SV2, ?_⟩
  clear hK K hl hb
  try simp only [Act.put, List.setIfInBounds_toArray, List.set_cons_succ, List.set_cons_zero]
  refine wpAnyH_all (rs := [5]) (by kernel_rfl) (by simp) ?_
  intro ii hii; obtain rfl : ii = 5 := by simpa using hii
  clear hii
  refine wpOp_step rfl (fun K hK => ?_)
  go_simp
  refine (HS2.out w10 SV2.out.1).mono ?_
  rintro e w11 ⟨rfl, hl, hb⟩
  have LB := Lib.hid hl
  have LA2 := Lib.hid (LA.out.below hb LA.out.lt)
  have SV3 : Hid (Below W.heap.size W w11 ∧ Whole w11 bx 30 cs.toList) := Lib.hid ⟨SV2.out.1.trans (hb.mono SV2.out.1.size), SV2.out.2.below hb SV2.out.2.lt⟩
  refine hK _ _ ⟨SV3, ?_⟩
  clear hK K hl hb
  try simp only [Act.put, List.setIfInBounds_toArray, List.set_cons_succ, List.set_cons_zero]
  refine wpAnyH_all (rs := [6]) (by kernel_rfl) (by simp) ?_
  intro ii hii; obtain rfl : ii = 6 := by simpa using hii
  clear hii
  refine wpOp_step rfl (fun K hK => ?_)
  go_simp
  have K12 := Lib.hid (whole_new w11 [.slice (some ⟨w9.heap.size, 0, none⟩) an an, .slice (some ⟨w10.heap.size, 0, none⟩) bn bn] 82 _ rfl)
  have B12 : Below w11.heap.size w11 (w11.alloc (.cells [.slice (some ⟨w9.heap.size, 0, none⟩) an an, .slice (some ⟨w10.heap.size, 0, none⟩) bn bn].toArray 82)) := (Below.refl _ w11).alloc (Nat.le_refl _) _
  have SV4 : Hid (Below W.heap.size W (w11.alloc (.cells [.slice (some ⟨w9.heap.size, 0, none⟩) an an, .slice (some ⟨w10.heap.size, 0, none⟩) bn bn].toArray 82)) ∧ Whole (w11.alloc (.cells [.slice (some ⟨w9.heap.size, 0, none⟩) an an, .slice (some ⟨w10.heap.size, 0, none⟩) bn bn].toArray 82)) bx 30 cs.toList) := Lib.hid ⟨SV3.out.1.trans (B12.mono SV3.out.1.size), SV3.out.2.below B12 SV3.out.2.lt⟩
  have HCC := concat_str w11.heap.size 2 2 [strP 0 r1, strP 1 r2] (w11.alloc (.cells [.slice (some ⟨w9.heap.size, 0, none⟩) an an, .slice (some ⟨w10.heap.size, 0, none⟩) bn bn].toArray 82)) rfl (by omega) (by simp [HLN.out.1, HLN.out.2]; omega) (by simp) (two_lists K12.out (LA2.out.below B12 LA2.out.lt) (LB.out.below B12 LB.out.lt) HLN.out.1 HLN.out.2 (by omega) (by omega))
  refine hK _ _ ⟨SV4, ?_⟩
  clear hK K
  try simp only [Act.put, List.setIfInBounds_toArray, List.set_cons_succ, List.set_cons_zero]
  refine wpAnyH_all (rs := [7]) (by kernel_rfl) (by simp) ?_
  intro ii hii; obtain rfl : ii = 7 := by simpa using hii
  clear hii
  refine wpOp_step rfl (fun K hK => ?_)
  go_simp
  refine HCC.mono ?_
  rintro e w13 ⟨v, rfl, hv, hb⟩
  have SV5 : Hid (Below W.heap.size W w13 ∧ Whole w13 bx 30 cs.toList) := Lib.hid ⟨SV4.out.1.trans (hb.mono SV4.out.1.size), SV4.out.2.below hb SV4.out.2.lt⟩
  have HV := Lib.hid hv
  refine hK _ _ ⟨SV5, ?_⟩
  clear hK K hv hb HCC
  have SV := SV5
  try simp only [Act.put, List.setIfInBounds_toArray, List.set_cons_succ, List.set_cons_zero]
  refine wpAnyH_takeC (i := 8) (v := v) (some 2) rfl rfl (by kernel_rfl) (by kernel_rfl) (by kernel_rfl) (fun _ _ _ h => h) (Or.inl ⟨by rfl, ?_⟩) SV ?_
  · intro X hX; go_simp
  try simp only [Act.put, List.setIfInBounds_toArray, List.set_cons_succ, List.set_cons_zero]
  refine wpAnyH_done (by kernel_rfl) ?_ _
  go_wp2
  go_ret
  exact ⟨v, rfl, by simpa using HV.out, SV5.out.1⟩
set_option maxRecDepth 100000 in
set_option maxHeartbeats 4000000 in
theorem colStr_any (cs : Array Value) (ap bp : Option Addr) (an ac bn bc : Nat) (r1 r2 : List Rn) (W : World) (h4 : cs[6]? = some (.slice ap an ac)) (h5 : cs[7]? = some (.slice bp bn bc)) (H1 : RowsK Rn.cells 14 W (.slice ap an ac) r1) (H2 : RowsK Rn.cells 14 W (.slice bp bn bc) r2) (n1 : an ≤ 400000) (n2 : bn ≤ 400000) :
    Calls Try.prog 32 #[.agg cs] W fun e X => ∃ v, e = .returned v ∧ RowsK Sr.cells 20 X v (strP 2 r1 ++ strP 3 r2) ∧ Below W.heap.size W X := by
  have HS1 := Lib.hid (fun X (hX : Below W.heap.size W X) => stretches_any 2 ap an ac r1 X (H1.below hX) H1.len (by omega))
  have HS2 := Lib.hid (fun X (hX : Below W.heap.size W X) => stretches_any 3 bp bn bc r2 X (H2.below hX) H2.len (by omega))
  have HLN : Hid ((strP 2 r1).length = an ∧ (strP 3 r2).length = bn) := Lib.hid ⟨by unfold strP; rw [List.length_map]; exact H1.len, by unfold strP; rw [List.length_map]; exact H2.len⟩
  clear H1 H2
  have K1 : Hid (Whole (W.alloc (.cells cs 30)) W.heap.size 30 cs.toList) := Lib.hid (by have := whole_new W cs.toList 30 _ rfl; simpa using this)
  have B1 : Hid (Below W.heap.size W (W.alloc (.cells cs 30))) := Lib.hid ((Below.refl _ W).alloc (Nat.le_refl _) _)
  obtain ⟨bx, hbx⟩ : ∃ b, b = W.heap.size := ⟨_, rfl⟩
  rw [← hbx] at K1
  go_enter Try.func32, Try.ntmps32
  go_wp2_with fail
  rw [← hbx]
  generalize W.alloc (.cells cs 30) = w1 at K1 B1 ⊢
  refine region_held_atC (S := fun X => Hid (Below W.heap.size W X ∧ Whole X bx 30 cs.toList)) (by kernel_rfl) (fun w9 hw9 => ?_)
  have SV : Hid (Below W.heap.size W w9 ∧ Whole w9 bx 30 cs.toList) := Lib.hid ⟨B1.out.trans (hw9 ▸ below_dn _ _ _), K1.out.below (hw9 ▸ below_dn _ _ 1) K1.out.lt⟩
  clear hw9 K1 B1 hbx
  try simp only [Act.put, List.setIfInBounds_toArray, List.set_cons_succ, List.set_cons_zero]
  refine wpAnyH_takeC (i := 0) (v := .pointer (some ⟨bx, 6, none⟩)) (some 3) rfl rfl (by kernel_rfl) (by kernel_rfl) (by kernel_rfl) (fun _ _ _ h => h) (Or.inl ⟨by rfl, ?_⟩) SV ?_
  · intro X hX; have lx := hX.out.2.lt; go_simp
  try simp only [Act.put, List.setIfInBounds_toArray, List.set_cons_succ, List.set_cons_zero]
  refine wpAnyH_takeC (i := 1) (v := .slice ap an ac) (some 4) rfl rfl (by kernel_rfl) (by kernel_rfl) (by kernel_rfl) (fun _ _ _ h => h) (Or.inl ⟨by rfl, ?_⟩) SV ?_
  · intro X hX; have e1 := hX.out.2.cellAt 6; have lx := hX.out.2.lt; rw [Array.getElem?_toList, h4] at e1; go_simp
  try simp only [Act.put, List.setIfInBounds_toArray, List.set_cons_succ, List.set_cons_zero]
  refine wpAnyH_takeC (i := 3) (v := .pointer (some ⟨bx, 7, none⟩)) (some 6) rfl rfl (by kernel_rfl) (by kernel_rfl) (by kernel_rfl) (fun _ _ _ h => h) (Or.inl ⟨by rfl, ?_⟩) SV ?_
  · intro X hX; have lx := hX.out.2.lt; go_simp
  try simp only [Act.put, List.setIfInBounds_toArray, List.set_cons_succ, List.set_cons_zero]
  refine wpAnyH_takeC (i := 4) (v := .slice bp bn bc) (some 7) rfl rfl (by kernel_rfl) (by kernel_rfl) (by kernel_rfl) (fun _ _ _ h => h) (Or.inl ⟨by rfl, ?_⟩) SV ?_
  · intro X hX; have e1 := hX.out.2.cellAt 7; have lx := hX.out.2.lt; rw [Array.getElem?_toList, h5] at e1; go_simp
  try simp only [Act.put, List.setIfInBounds_toArray, List.set_cons_succ, List.set_cons_zero]
  refine wpAnyH_all (rs := [2]) (by kernel_rfl) (by simp) ?_
  intro ii hii; obtain rfl : ii = 2 := by simpa using hii
  clear hii
  refine wpOp_step rfl (fun K hK => ?_)
  go_simp
  refine (HS1.out w9 SV.out.1).mono ?_
  rintro e w10 ⟨rfl, hl, hb⟩
  have LA := Lib.hid hl
  have SV2 : Hid (Below W.heap.size W w10 ∧ Whole w10 bx 30 cs.toList) := Lib.hid ⟨SV.out.1.trans (hb.mono SV.out.1.size), SV.out.2.below hb SV.out.2.lt⟩
  have hgl := hl.lt
  refine hK _ _ ⟨SV2, ?_⟩
  clear hK K hl hb
  try simp only [Act.put, List.setIfInBounds_toArray, List.set_cons_succ, List.set_cons_zero]
  refine wpAnyH_all (rs := [5]) (by kernel_rfl) (by simp) ?_
  intro ii hii; obtain rfl : ii = 5 := by simpa using hii
  clear hii
  refine wpOp_step rfl (fun K hK => ?_)
  go_simp
  refine (HS2.out w10 SV2.out.1).mono ?_
  rintro e w11 ⟨rfl, hl, hb⟩
  have LB := Lib.hid hl
  have LA2 := Lib.hid (LA.out.below hb LA.out.lt)
  have SV3 : Hid (Below W.heap.size W w11 ∧ Whole w11 bx 30 cs.toList) := Lib.hid ⟨SV2.out.1.trans (hb.mono SV2.out.1.size), SV2.out.2.below hb SV2.out.2.lt⟩
  refine hK _ _ ⟨SV3, ?_⟩
  clear hK K hl hb
  try simp only [Act.put, List.setIfInBounds_toArray, List.set_cons_succ, List.set_cons_zero]
  refine wpAnyH_all (rs := [6]) (by kernel_rfl) (by simp) ?_
  intro ii hii; obtain rfl : ii = 6 := by simpa using hii
  clear hii
  refine wpOp_step rfl (fun K hK => ?_)
  go_simp
  have K12 := Lib.hid (whole_new w11 [.slice (some ⟨w9.heap.size, 0, none⟩) an an, .slice (some ⟨w10.heap.size, 0, none⟩) bn bn] 82 _ rfl)
  have B12 : Below w11.heap.size w11 (w11.alloc (.cells [.slice (some ⟨w9.heap.size, 0, none⟩) an an, .slice (some ⟨w10.heap.size, 0, none⟩) bn bn].toArray 82)) := (Below.refl _ w11).alloc (Nat.le_refl _) _
  have SV4 : Hid (Below W.heap.size W (w11.alloc (.cells [.slice (some ⟨w9.heap.size, 0, none⟩) an an, .slice (some ⟨w10.heap.size, 0, none⟩) bn bn].toArray 82)) ∧ Whole (w11.alloc (.cells [.slice (some ⟨w9.heap.size, 0, none⟩) an an, .slice (some ⟨w10.heap.size, 0, none⟩) bn bn].toArray 82)) bx 30 cs.toList) := Lib.hid ⟨SV3.out.1.trans (B12.mono SV3.out.1.size), SV3.out.2.below B12 SV3.out.2.lt⟩
  have HCC := concat_str w11.heap.size 2 2 [strP 2 r1, strP 3 r2] (w11.alloc (.cells [.slice (some ⟨w9.heap.size, 0, none⟩) an an, .slice (some ⟨w10.heap.size, 0, none⟩) bn bn].toArray 82)) rfl (by omega) (by simp [HLN.out.1, HLN.out.2]; omega) (by simp) (two_lists K12.out (LA2.out.below B12 LA2.out.lt) (LB.out.below B12 LB.out.lt) HLN.out.1 HLN.out.2 (by omega) (by omega))
  refine hK _ _ ⟨SV4, ?_⟩
  clear hK K
  try simp only [Act.put, List.setIfInBounds_toArray, List.set_cons_succ, List.set_cons_zero]
  refine wpAnyH_all (rs := [7]) (by kernel_rfl) (by simp) ?_
  intro ii hii; obtain rfl : ii = 7 := by simpa using hii
  clear hii
  refine wpOp_step rfl (fun K hK => ?_)
  go_simp
  refine HCC.mono ?_
  rintro e w13 ⟨v, rfl, hv, hb⟩
  have SV5 : Hid (Below W.heap.size W w13 ∧ Whole w13 bx 30 cs.toList) := Lib.hid ⟨SV4.out.1.trans (hb.mono SV4.out.1.size), SV4.out.2.below hb SV4.out.2.lt⟩
  have HV := Lib.hid hv
  refine hK _ _ ⟨SV5, ?_⟩
  clear hK K hv hb HCC
  have SV := SV5
  try simp only [Act.put, List.setIfInBounds_toArray, List.set_cons_succ, List.set_cons_zero]
  refine wpAnyH_takeC (i := 8) (v := v) (some 2) rfl rfl (by kernel_rfl) (by kernel_rfl) (by kernel_rfl) (fun _ _ _ h => h) (Or.inl ⟨by rfl, ?_⟩) SV ?_
  · intro X hX; go_simp
  try simp only [Act.put, List.setIfInBounds_toArray, List.set_cons_succ, List.set_cons_zero]
  refine wpAnyH_done (by kernel_rfl) ?_ _
  go_wp2
  go_ret
  exact ⟨v, rfl, by simpa using HV.out, SV5.out.1⟩
end Go.Proofs.Ytceippgkmoijdaa
