/- Contract of (spread.widths).meet: a need, distributed over the Mins and Maxs of its own columns, in place. Written by mk_SpMeet.py. -/
import Derived.Test.YtmljndggblfeiaaSpOver
import Derived.OrdersHeld
namespace Go.Proofs.Ytmljndggblfeiaa
open Go.RowKit Go.Shelf
set_option linter.unusedVariables false
set_option linter.unusedSimpArgs false
attribute [local go_sem] Oper.semAt_some

/-- the first j of them are the greater ones of two -/
def upM (b a : List Int) (j : Nat) : List Int := b.mapIdx fun i z => if i < j then max z (a[i]?.getD 0) else z
theorem upM_len (b a : List Int) (j : Nat) : (upM b a j).length = b.length := by simp [upM]
theorem upM_get (b a : List Int) (j i : Nat) (hi : i < b.length) : (upM b a j)[i]? = some (if i < j then max (b[i]?.getD 0) (a[i]?.getD 0) else b[i]?.getD 0) := by
  simp [upM, hi]
theorem upM_zero (b a : List Int) : upM b a 0 = b := by
  apply List.ext_getElem?
  intro i
  by_cases hi : i < b.length
  · rw [upM_get _ _ _ _ hi, List.getElem?_eq_getElem hi]; simp
  · rw [List.getElem?_eq_none (by rw [upM_len]; omega), List.getElem?_eq_none (by omega)]
theorem upM_succ (b a : List Int) (j : Nat) (hj : j < b.length) : (upM b a j).set j (max (b[j]?.getD 0) (a[j]?.getD 0)) = upM b a (j + 1) := by
  apply List.ext_getElem?
  intro i
  by_cases hi : i < b.length
  · by_cases e : i = j
    · subst e
      rw [List.getElem?_set_self (by rw [upM_len]; exact hi), upM_get _ _ _ _ hi]; simp
    · rw [List.getElem?_set_ne (Ne.symm e), upM_get _ _ _ _ hi, upM_get _ _ _ _ hi]
      by_cases h : i < j
      · rw [if_pos h, if_pos (by omega)]
      · rw [if_neg h, if_neg (by omega)]
  · rw [List.getElem?_eq_none (by simp [upM_len]; omega), List.getElem?_eq_none (by rw [upM_len]; omega)]
theorem upM_all (b a : List Int) (h : b.length = a.length) : upM b a b.length = maxL b a := by
  apply List.ext_getElem?
  intro i
  by_cases hi : i < b.length
  · rw [upM_get _ _ _ _ hi, if_pos hi]
    have h1 := maxL_get b a h i
    rw [List.getElem?_eq_getElem (by rw [maxL_len b a h]; exact hi : i < (maxL b a).length)] at h1 ⊢
    rw [← h1]; rfl
  · rw [List.getElem?_eq_none (by rw [upM_len]; omega), List.getElem?_eq_none (by rw [maxL_len b a h]; omega)]
theorem spl_set (l : List Int) (c : Nat) (m : List Int) (h : c + m.length ≤ l.length) (j : Nat) (z : Int) (hj : j < m.length) : (spl l c m).set (c + j) z = spl l c (m.set j z) := by
  unfold spl
  rw [List.length_set, List.append_assoc, List.append_assoc, List.set_append_right _ _ (by simp; omega), List.length_take, Nat.min_eq_left (by omega), Nat.add_sub_cancel_left, List.set_append_left _ _ hj]
theorem spl_spl (l : List Int) (c : Nat) (m m' : List Int) (h : c + m.length ≤ l.length) (e : m.length = m'.length) : spl (spl l c m) c m' = spl l c m' := by
  have h' : c + m'.length ≤ l.length := by omega
  apply List.ext_getElem?
  intro i
  have hl := spl_len l c m h
  by_cases hi : c ≤ i ∧ i < c + m'.length
  · obtain ⟨j, rfl⟩ : ∃ j, i = c + j := ⟨i - c, by omega⟩
    rw [spl_in _ _ _ (by omega) _ (by omega), spl_in _ _ _ h' _ (by omega)]
  · rw [spl_out _ _ _ (by omega) _ (by omega), spl_out _ _ _ h' _ (by omega), spl_out _ _ _ h _ (by omega)]

set_option maxRecDepth 100000 in
set_option maxHeartbeats 8000000 in
theorem meet_any (gl gm : Nat) (ls hs : List Int) (sl sm : List Value) (c k : Nat) (gap : Int) (s : Ne) (W : World) (hne : gl ≠ gm) (HL : IRow W gl ls sl) (HM : IRow W gm hs sm) (lc : c + k ≤ ls.length) (hc : c + k ≤ hs.length) (hk : SegOk gap s k (seg ls c k) (seg hs c k)) :
    Calls Try.prog 20 #[.agg #[.slice (some ⟨gl, c, none⟩) k k, .slice (some ⟨gm, c, none⟩) k k], s.val, .int .i64 gap] W fun e W' => e = .returned (.tuple #[]) ∧
      IRow W' gl (spl ls c (lo1 gap s (seg ls c k) (seg hs c k))) sl ∧ IRow W' gm (spl hs c (hi2 gap s (seg ls c k) (seg hs c k))) sm ∧ Upd [gl, gm] W W' := by
  have k1 := hk.k1
  have k2 := hk.k2
  have hsk := hk.sk
  have lgl := HL.lt
  have lgm := HM.lt
  have HP1 := Lib.hid (fun X => part_any s.mn gap s.cs X (by have := hk.mn0; omega) (by have := hk.mnx; have := hk.mx1; omega) (by have := hk.g0; omega) (by have := hk.g1; omega) (by omega) (by omega))
  have HP2 := Lib.hid (fun X => part_any s.mx gap s.cs X (by have := hk.mn0; have := hk.mnx; omega) (by have := hk.mx1; omega) (by have := hk.g0; omega) (by have := hk.g1; omega) (by omega) (by omega))
  have HO1 := Lib.hid (fun X v0 a1 (h1 : Nums .i64 X (.slice a1 k k) (seg ls c k)) (h2 : Nums .i64 X v0 (seg hs c k)) => over_any v0 a1 k k _ _ _ X hk.al h1 h2 hk.o1)
  have HO2 := Lib.hid (fun X v0 a1 (h1 : Nums .i64 X (.slice a1 k k) (hi1 gap s (seg ls c k) (seg hs c k))) (h2 : Nums .i64 X v0 (hi1 gap s (seg ls c k) (seg hs c k))) => over_any v0 a1 k k _ _ _ X hk.h1l h1 h2 hk.o2)
  have e1 : overP (partP s.mn gap s.cs) (seg ls c k) (seg hs c k) = lo1 gap s (seg ls c k) (seg hs c k) := rfl
  have e2 : overP (partP s.mx gap s.cs) (hi1 gap s (seg ls c k) (seg hs c k)) (hi1 gap s (seg ls c k) (seg hs c k)) = hi2 gap s (seg ls c k) (seg hs c k) := rfl
  rw [e1] at HO1
  rw [e2] at HO2
  clear e1 e2
  have HL1 := Lib.hid hk.lol
  have HLH := Lib.hid hk.h1l
  have HLH2 := Lib.hid hk.h2l
  have HKB := Lib.hid hk.bl
  have HUM : Hid (upM (seg hs c k) (lo1 gap s (seg ls c k) (seg hs c k)) k = hi1 gap s (seg ls c k) (seg hs c k)) := Lib.hid (by
    have := upM_all (seg hs c k) (lo1 gap s (seg ls c k) (seg hs c k)) (by rw [hk.bl, hk.lol])
    rw [hk.bl] at this; exact this)
  have HOK1 := Lib.hid hk.o1.ok
  have HOKB := Lib.hid hk.bk
  have HSL := Lib.hid (HL.nums c k k lc (Nat.le_refl _) (by omega))
  have hspm := spl_seg hs c k hc
  have hsb := seg_len hs c k hc
  have hE1 : overP (partP s.mn gap s.cs) (seg ls c k) (seg hs c k) = lo1 gap s (seg ls c k) (seg hs c k) := rfl
  rw [hE1] at HOK1
  clear hE1 hk
  generalize lo1 gap s (seg ls c k) (seg hs c k) = L1 at *
  generalize hi1 gap s (seg ls c k) (seg hs c k) = H1 at *
  generalize hi2 gap s (seg ls c k) (seg hs c k) = H2 at *
  obtain ⟨nd, ro, co, rs, cs, mn, mx, ⟨wk, wn⟩⟩ := s
  dsimp only at HP1 HP2 HO1 HO2 hsk
  subst hsk
  obtain ⟨p1, hp1⟩ : ∃ p, p = partP mn gap (k : Int) := ⟨_, rfl⟩
  obtain ⟨p2, hp2⟩ : ∃ p, p = partP mx gap (k : Int) := ⟨_, rfl⟩
  rw [← hp1] at HP1 HO1
  rw [← hp2] at HP2 HO2
  clear hp1 hp2
  dsimp only [Ne.val]
  have NU : Hid (hs = spl hs c (seg hs c k)) := Lib.hid hspm.symm
  have HCC := Lib.hid hc
  clear hspm
  obtain ⟨hb, hhb⟩ : ∃ q, q = seg hs c k := ⟨_, rfl⟩
  obtain ⟨lb, hlb⟩ : ∃ q, q = seg ls c k := ⟨_, rfl⟩
  rw [← hhb] at HO1 HKB HUM HOKB NU hsb
  rw [← hlb] at HO1 HSL
  have SEGM := Lib.hid hhb
  have SEGL := Lib.hid hlb
  clear hhb hlb
  obtain ⟨W1, hW1⟩ : ∃ W1, (W.alloc (.cells #[.slice (some ⟨gl, c, none⟩) k k, .slice (some ⟨gm, c, none⟩) k k] 47)).alloc (.cells #[.int .i64 nd, .int .i64 ro, .int .i64 co, .int .i64 rs, .int .i64 k, .int .i64 mn, .int .i64 mx, .int .i64 wk, .int .i64 wn] 37) = W1 := ⟨_, rfl⟩
  have HW01 : Hid (Below W.heap.size W W1) := Lib.hid (by rw [← hW1]; exact ((Below.refl _ W).alloc (Nat.le_refl _) _).alloc (by simp) _)
  obtain ⟨b3, hb3⟩ : ∃ b, b = W.heap.size := ⟨_, rfl⟩
  obtain ⟨b4, hb4⟩ : ∃ b, b = W.heap.size + 1 := ⟨_, rfl⟩
  have kb3 : Whole W1 b3 47 [.slice (some ⟨gl, c, none⟩) k k, .slice (some ⟨gm, c, none⟩) k k] := by
    rw [← hW1]; exact (whole_new W _ _ b3 hb3).alloc _
  have kb4 : Whole W1 b4 37 [.int .i64 nd, .int .i64 ro, .int .i64 co, .int .i64 rs, .int .i64 k, .int .i64 mn, .int .i64 mx, .int .i64 wk, .int .i64 wn] := by
    rw [← hW1]; exact whole_new _ _ _ b4 (by simp [hb4])
  have y0 := kb3.cellAt 0
  have y1 := kb3.cellAt 1
  have z4 := kb4.cellAt 4
  have z5 := kb4.cellAt 5
  have z6 := kb4.cellAt 6
  simp only [List.getElem?_cons_zero, List.getElem?_cons_succ] at y0 y1 z4 z5 z6
  have l3 := kb3.lt
  have l4 := kb4.lt
  have nb3 : b3 ∉ [gl, gm] := by simp; omega
  have nb4 : b4 ∉ [gl, gm] := by simp; omega
  have RL : Hid (IRow W1 gl ls sl) := Lib.hid (HL.below HW01.out lgl)
  have RM : Hid (IRow W1 gm hs sm) := Lib.hid (HM.below HW01.out lgm)
  have SU : Hid (Upd [gl, gm] W1 W1) := Lib.hid (Upd.refl _ _)
  clear HL HM kb3 kb4 HSL
  go_enter Try.func20, Try.ntmps20
  go_wp2_with fail
  try rw [hW1]
  rw [← hb4]
  rw [← hb3]
  clear hW1 hb3 hb4
  have lb3 : b3 < W1.heap.size := l3
  have lb4 : b4 < W1.heap.size := l4
  refine region_held_atC (S := fun X => Hid (Upd [gl, gm] W1 X)) (by kernel_rfl) (fun w9 hw9 => ?_)
  have SV : Hid (Upd [gl, gm] W1 w9) := Lib.hid (SU.out.trans (hw9 ▸ Upd.drew _ _ 1))
  replace RL : Hid (IRow w9 gl ls sl) := Lib.hid (RL.out.upd (E := []) (hw9 ▸ Upd.drew _ _ 1) (by simp))
  replace RM : Hid (IRow w9 gm hs sm) := Lib.hid (RM.out.upd (E := []) (hw9 ▸ Upd.drew _ _ 1) (by simp))
  clear hw9 SU
  try simp only [Act.put, List.setIfInBounds_toArray, List.set_cons_succ, List.set_cons_zero]
  refine wpAnyH_takeC (i := 0) (v := .pointer (some ⟨b4, 0, none⟩)) (some 10) rfl rfl (by kernel_rfl) (by kernel_rfl) (by kernel_rfl) (fun _ _ _ h => h) (Or.inl ⟨by rfl, ?_⟩) SV ?_
  · intro X hX; have lX := hX.out.size; have lbX : b4 < X.heap.size := (by omega); go_simp
  try simp only [Act.put, List.setIfInBounds_toArray, List.set_cons_succ, List.set_cons_zero]
  refine wpAnyH_takeC (i := 1) (v := .pointer (some ⟨b4, 4, none⟩)) (some 11) rfl rfl (by kernel_rfl) (by kernel_rfl) (by kernel_rfl) (fun _ _ _ h => h) (Or.inl ⟨by rfl, ?_⟩) SV ?_
  · intro X hX; have lX := hX.out.size; have lbX : b4 < X.heap.size := (by omega); go_simp
  try simp only [Act.put, List.setIfInBounds_toArray, List.set_cons_succ, List.set_cons_zero]
  refine wpAnyH_takeC (i := 2) (v := .int .i64 k) (some 12) rfl rfl (by kernel_rfl) (by kernel_rfl) (by kernel_rfl) (fun _ _ _ h => h) (Or.inl ⟨by rfl, ?_⟩) SV ?_
  · intro X hX; have o0 := hX.out.cell z4 nb4; have lX := hX.out.size; have lbX : b4 < X.heap.size := (by omega); go_simp
  try simp only [Act.put, List.setIfInBounds_toArray, List.set_cons_succ, List.set_cons_zero]
  refine wpAnyH_takeC (i := 3) (v := .pointer (some ⟨b3, 1, none⟩)) (some 13) rfl rfl (by kernel_rfl) (by kernel_rfl) (by kernel_rfl) (fun _ _ _ h => h) (Or.inl ⟨by rfl, ?_⟩) SV ?_
  · intro X hX; have lX := hX.out.size; have lbX : b3 < X.heap.size := (by omega); go_simp
  try simp only [Act.put, List.setIfInBounds_toArray, List.set_cons_succ, List.set_cons_zero]
  refine wpAnyH_takeC (i := 4) (v := .slice (some ⟨gm, c, none⟩) k k) (some 14) rfl rfl (by kernel_rfl) (by kernel_rfl) (by kernel_rfl) (fun _ _ _ h => h) (Or.inl ⟨by rfl, ?_⟩) SV ?_
  · intro X hX; have o0 := hX.out.cell y1 nb3; have lX := hX.out.size; have lbX : b3 < X.heap.size := (by omega); go_simp
  try simp only [Act.put, List.setIfInBounds_toArray, List.set_cons_succ, List.set_cons_zero]
  refine wpAnyH_takeC (i := 5) (v := .func (.func 28) #[.slice (some ⟨gm, c, none⟩) k k] #[]) (some 15) rfl rfl (by kernel_rfl) (by kernel_rfl) (by kernel_rfl) (fun _ _ _ h => h) (Or.inl ⟨by rfl, ?_⟩) SV ?_
  · intro X hX; go_simp
  try simp only [Act.put, List.setIfInBounds_toArray, List.set_cons_succ, List.set_cons_zero]
  refine wpAnyH_takeC (i := 6) (v := .int .i64 k) (some 6) rfl rfl (by kernel_rfl) (by kernel_rfl) (by kernel_rfl) (fun _ _ _ h => h) (Or.inl ⟨by rfl, ?_⟩) SV ?_
  · intro X hX; go_simp
  try simp only [Act.put, List.setIfInBounds_toArray, List.set_cons_succ, List.set_cons_zero]
  refine wpAnyH_takeC (i := 7) (v := .func (.func 28) #[.slice (some ⟨gm, c, none⟩) k k] #[]) (some 7) rfl rfl (by kernel_rfl) (by kernel_rfl) (by kernel_rfl) (fun _ _ _ h => h) (Or.inl ⟨by rfl, ?_⟩) SV ?_
  · intro X hX; go_simp
  try simp only [Act.put, List.setIfInBounds_toArray, List.set_cons_succ, List.set_cons_zero]
  refine wpAnyH_done (by kernel_rfl) ?_ _
  have SU := SV
  clear SV
  go_wp2_with fail
  refine region_held_atC (S := fun X => Hid (Upd [gl, gm] W1 X)) (by kernel_rfl) (fun w9 hw9 => ?_)
  have SV : Hid (Upd [gl, gm] W1 w9) := Lib.hid (SU.out.trans (hw9 ▸ Upd.drew _ _ 1))
  have RL9 : Hid (IRow w9 gl ls sl) := Lib.hid (RL.out.upd (E := []) (hw9 ▸ Upd.drew _ _ 1) (by simp))
  have RM9 : Hid (IRow w9 gm hs sm) := Lib.hid (RM.out.upd (E := []) (hw9 ▸ Upd.drew _ _ 1) (by simp))
  clear hw9 SU RL RM
  try simp only [Act.put, List.setIfInBounds_toArray, List.set_cons_succ, List.set_cons_zero]
  refine wpAnyH_takeC (i := 0) (v := .pointer (some ⟨b3, 0, none⟩)) (some 16) rfl rfl (by kernel_rfl) (by kernel_rfl) (by kernel_rfl) (fun _ _ _ h => h) (Or.inl ⟨by rfl, ?_⟩) SV ?_
  · intro X hX; have lX := hX.out.size; have lbX : b3 < X.heap.size := (by omega); go_simp
  try simp only [Act.put, List.setIfInBounds_toArray, List.set_cons_succ, List.set_cons_zero]
  refine wpAnyH_takeC (i := 1) (v := .slice (some ⟨gl, c, none⟩) k k) (some 17) rfl rfl (by kernel_rfl) (by kernel_rfl) (by kernel_rfl) (fun _ _ _ h => h) (Or.inl ⟨by rfl, ?_⟩) SV ?_
  · intro X hX; have o0 := hX.out.cell y0 nb3; have lX := hX.out.size; have lbX : b3 < X.heap.size := (by omega); go_simp
  try simp only [Act.put, List.setIfInBounds_toArray, List.set_cons_succ, List.set_cons_zero]
  refine wpAnyH_takeC (i := 2) (v := .func (.func 28) #[.slice (some ⟨gm, c, none⟩) k k] #[]) (some 18) rfl rfl (by kernel_rfl) (by kernel_rfl) (by kernel_rfl) (fun _ _ _ h => h) (Or.inl ⟨by rfl, ?_⟩) SV ?_
  · intro X hX; go_simp
  try simp only [Act.put, List.setIfInBounds_toArray, List.set_cons_succ, List.set_cons_zero]
  refine wpAnyH_takeC (i := 3) (v := .pointer (some ⟨b4, 5, none⟩)) (some 19) rfl rfl (by kernel_rfl) (by kernel_rfl) (by kernel_rfl) (fun _ _ _ h => h) (Or.inl ⟨by rfl, ?_⟩) SV ?_
  · intro X hX; have lX := hX.out.size; have lbX : b4 < X.heap.size := (by omega); go_simp
  try simp only [Act.put, List.setIfInBounds_toArray, List.set_cons_succ, List.set_cons_zero]
  refine wpAnyH_takeC (i := 4) (v := .int .i64 mn) (some 20) rfl rfl (by kernel_rfl) (by kernel_rfl) (by kernel_rfl) (fun _ _ _ h => h) (Or.inl ⟨by rfl, ?_⟩) SV ?_
  · intro X hX; have o0 := hX.out.cell z5 nb4; have lX := hX.out.size; have lbX : b4 < X.heap.size := (by omega); go_simp
  try simp only [Act.put, List.setIfInBounds_toArray, List.set_cons_succ, List.set_cons_zero]
  refine wpAnyH_takeC (i := 5) (v := .int .i64 gap) (some 21) rfl rfl (by kernel_rfl) (by kernel_rfl) (by kernel_rfl) (fun _ _ _ h => h) (Or.inl ⟨by rfl, ?_⟩) SV ?_
  · intro X hX; go_simp
  try simp only [Act.put, List.setIfInBounds_toArray, List.set_cons_succ, List.set_cons_zero]
  refine wpAnyH_takeC (i := 6) (v := .int .i64 k) (some 22) rfl rfl (by kernel_rfl) (by kernel_rfl) (by kernel_rfl) (fun _ _ _ h => h) (Or.inl ⟨by rfl, ?_⟩) SV ?_
  · intro X hX; go_simp
  try simp only [Act.put, List.setIfInBounds_toArray, List.set_cons_succ, List.set_cons_zero]
  refine wpAnyH_takeC (i := 8) (v := .pointer (some ⟨b3, 0, none⟩)) (some 24) rfl rfl (by kernel_rfl) (by kernel_rfl) (by kernel_rfl) (fun _ _ _ h => h) (Or.inl ⟨by rfl, ?_⟩) SV ?_
  · intro X hX; have lX := hX.out.size; have lbX : b3 < X.heap.size := (by omega); go_simp
  try simp only [Act.put, List.setIfInBounds_toArray, List.set_cons_succ, List.set_cons_zero]
  refine wpAnyH_takeC (i := 9) (v := .slice (some ⟨gl, c, none⟩) k k) (some 25) rfl rfl (by kernel_rfl) (by kernel_rfl) (by kernel_rfl) (fun _ _ _ h => h) (Or.inl ⟨by rfl, ?_⟩) SV ?_
  · intro X hX; have o0 := hX.out.cell y0 nb3; have lX := hX.out.size; have lbX : b3 < X.heap.size := (by omega); go_simp
  try simp only [Act.put, List.setIfInBounds_toArray, List.set_cons_succ, List.set_cons_zero]
  refine wpAnyH_all (rs := [7]) (by kernel_rfl) (by simp) ?_
  intro ii hii; obtain rfl : ii = 7 := by simpa using hii
  clear hii
  refine wpOp_step rfl (fun K hK => ?_)
  go_simp
  refine (HP1.out _).mono ?_
  rintro e w1a ⟨rfl, rfl⟩
  refine hK _ _ ⟨SV, ?_⟩
  clear hK K
  try simp only [Act.put, List.setIfInBounds_toArray, List.set_cons_succ, List.set_cons_zero]
  refine wpAnyH_all (rs := [10]) (by kernel_rfl) (by simp) ?_
  intro ii hii; obtain rfl : ii = 10 := by simpa using hii
  clear hii
  refine wpOp_step rfl (fun K hK => ?_)
  go_simp
  refine (HO1.out _ _ _ (by rw [SEGL.out]; exact RL9.out.nums c k k (by omega) (Nat.le_refl _) (by omega)) (by rw [SEGM.out]; exact RM9.out.nums c k k HCC.out (Nat.le_refl _) (by omega))).mono ?_
  rintro e w2a ⟨g2, cap2, sp2, rfl, hir, hg2, hk2, hcm2, hb2⟩
  have S2 : Hid (Upd [gl, gm] W1 w2a) := Lib.hid (SV.out.trans (Upd.of_below hb2))
  have RL2 : Hid (IRow w2a gl ls sl) := Lib.hid (RL9.out.below hb2 RL9.out.lt)
  have RM2 : Hid (IRow w2a gm hs sm) := Lib.hid (RM9.out.below hb2 RM9.out.lt)
  have HG2 := Lib.hid (fun j (hj : j < k) => hir.cell j (by rw [HL1.out]; exact hj))
  refine hK _ _ ⟨S2, ?_⟩
  clear hK K hb2 SV RL9 RM9 hir
  try simp only [Act.put, List.setIfInBounds_toArray, List.set_cons_succ, List.set_cons_zero]
  refine wpAnyH_all (rs := [11]) (by kernel_rfl) (by simp) ?_
  intro ii hii; obtain rfl : ii = 11 := by simpa using hii
  clear hii
  refine wpOp_step rfl (fun K hK => ?_)
  go_simp
  obtain ⟨w3a, hr3, hi3, hu3⟩ := RL2.out.copy c k k cap2 g2 0 3 L1 HL1.out (by omega) (fun j hj => by rw [Nat.zero_add]; exact HG2.out j hj)
  have S3 : Hid (Upd [gl, gm] W1 w3a) := Lib.hid (S2.out.trans (hu3.more (by simp)))
  have RM3 : Hid (IRow w3a gm hs sm) := Lib.hid (RM2.out.upd hu3 (by simp; omega))
  have RL3 := Lib.hid hi3
  clear hu3 hi3 HG2 S2 RL2 RM2
  first | rw [hr3] | simp only [hr3, Result.andThen_ok]
  refine hK _ _ ⟨S3, ?_⟩
  clear hK K hr3
  try simp only [Act.put, List.setIfInBounds_toArray, List.set_cons_succ, List.set_cons_zero]
  refine wpAnyH_done (by kernel_rfl) ?_ _
  have SU := S3
  have RL := RL3
  have RM : Hid (IRow w3a gm (spl hs c (upM hb L1 0)) sm) := Lib.hid (by rw [upM_zero, ← NU.out]; exact RM3.out)
  clear S3 RL3 RM3
  have lb3a : b3 < w3a.heap.size := by have := SU.out.size; omega
  have ya0 := SU.out.cell y0 nb3
  clear HO1 HP1
  have mixed : Try.prog.follows Departure.mixedOrders = true := by kernel_rfl
  go_wp2
  go_loopw [31] (fun s31 X => ∃ j : Nat, j ≤ k ∧ s31 = .int .i64 (j : Int) ∧ Hid (Upd [gl, gm] W1 X) ∧ Hid (IRow X gl (spl ls c L1) sl) ∧ Hid (IRow X gm (spl hs c (upM hb L1 j)) sm)) (fun s31 _ => k - (intOf s31).toNat)
  case atStart => exact ⟨0, Nat.zero_le _, rfl, SU, RL, RM⟩
  case round =>
    obtain ⟨j, hj, rfl, SU1, RL1, RM1⟩ := hrel
    clear SU RL RM ya0 lb3a
    have hul : (upM hb L1 j).length = k := by rw [upM_len, HKB.out]
    by_cases hlt : j < k
    · have q1 := RL1.out.cell (c + j) (by rw [spl_len _ _ _ (by rw [HL1.out]; omega)]; omega)
      have q2 := RM1.out.cell (c + j) (by rw [spl_len _ _ _ (by rw [hul]; exact HCC.out)]; have := HCC.out; omega)
      rw [spl_in _ _ _ (by rw [HL1.out]; omega) _ (by rw [HL1.out]; exact hlt)] at q1
      rw [spl_in _ _ _ (by rw [hul]; exact HCC.out) _ (by rw [hul]; exact hlt), upM_get _ _ _ _ (by rw [HKB.out]; exact hlt)] at q2
      simp only [Nat.lt_irrefl, if_false, Option.getD_some] at q2
      have f2 := RM1.out.free (c + j)
      have STEP : Hid (∀ X, IRow X gm (spl hs c (upM hb L1 j)) sm → IRow (X.setCell ⟨gm, c + j, none⟩ (.int .i64 (max (hb[j]?.getD 0) (L1[j]?.getD 0)))) gm (spl hs c (upM hb L1 (j + 1))) sm) := Lib.hid (fun X h => by
        rw [← upM_succ hb L1 j (by rw [HKB.out]; exact hlt), ← spl_set _ _ _ (by rw [hul]; exact HCC.out) _ _ (by rw [hul]; exact hlt)]
        exact h.set (c + j) _ (by rw [spl_len _ _ _ (by rw [hul]; exact HCC.out)]; have := HCC.out; omega))
      generalize hb[j]?.getD 0 = zb at *
      generalize L1[j]?.getD 0 = za at *
      have g1 := SU1.out.cell y1 nb3
      have lx := SU1.out.size
      have lb3x : b3 < wr.heap.size := by omega
      clear hul
      go_wp2_with fail
      go_big_region_o
      obtain ⟨mz, hmz⟩ : ∃ z, z = max zb za := ⟨_, rfl⟩
      rw [← hmz] at STEP ⊢
      have S4 : Hid (Upd [gl, gm] W1 (wr.setCell ⟨gm, c + j, none⟩ (.int .i64 mz)).drew) := Lib.hid ((SU1.out.trans (Upd.set wr gm (c + j) _ (by simp))).trans (Upd.drew _ _ 1))
      have R4 : Hid (IRow (wr.setCell ⟨gm, c + j, none⟩ (.int .i64 mz)).drew gl (spl ls c L1) sl) := Lib.hid ((RL1.out.upd (Upd.set (E := [gm]) wr gm (c + j) (.int .i64 mz) (by simp)) (by simp; omega)).below (below_dn wr.heap.size _ 1) RL1.out.lt)
      have M4 : Hid (IRow (wr.setCell ⟨gm, c + j, none⟩ (.int .i64 mz)).drew gm (spl hs c (upM hb L1 (j + 1))) sm) := Lib.hid ((STEP.out wr RM1.out).below (below_dn wr.heap.size _ 1) RM1.out.lt)
      clear STEP RL1 RM1 q1 q2 f2 g1
      generalize (wr.setCell ⟨gm, c + j, none⟩ (.int .i64 mz)).drew = wq at *
      go_wp2
      go_roundw
      case rel => exact ⟨j + 1, by omega, by go_num, S4, R4, M4⟩
      case measure => simp [intOf]; omega
    · obtain rfl : k = j := by omega
      have RM : Hid (IRow wr gm (spl hs c H1) sm) := Lib.hid (by rw [← HUM.out]; exact RM1.out)
      have RL := RL1
      have SU := SU1
      clear RM1 RL1 SU1 hul
      have SEGH : Hid (seg (spl hs c H1) c k = H1) := Lib.hid (by have := seg_spl hs c H1 (by rw [HLH.out]; exact HCC.out); rwa [HLH.out] at this)
      go_wp2_with fail
      refine region_held_atC (S := fun X => Hid (Upd [gl, gm] W1 X)) (by kernel_rfl) (fun w9 hw9 => ?_)
      have SV : Hid (Upd [gl, gm] W1 w9) := Lib.hid (SU.out.trans (hw9 ▸ Upd.drew _ _ 1))
      have RL9 : Hid (IRow w9 gl (spl ls c L1) sl) := Lib.hid (RL.out.upd (E := []) (hw9 ▸ Upd.drew _ _ 1) (by simp))
      have RM9 : Hid (IRow w9 gm (spl hs c H1) sm) := Lib.hid (RM.out.upd (E := []) (hw9 ▸ Upd.drew _ _ 1) (by simp))
      clear hw9 SU RL RM
      try simp only [Act.put, List.setIfInBounds_toArray, List.set_cons_succ, List.set_cons_zero]
      refine wpAnyH_takeC (i := 0) (v := .pointer (some ⟨b3, 1, none⟩)) (some 48) rfl rfl (by kernel_rfl) (by kernel_rfl) (by kernel_rfl) (fun _ _ _ h => h) (Or.inl ⟨by rfl, ?_⟩) SV ?_
      · intro X hX; have lX := hX.out.size; have lbX : b3 < X.heap.size := (by omega); go_simp
      try simp only [Act.put, List.setIfInBounds_toArray, List.set_cons_succ, List.set_cons_zero]
      refine wpAnyH_takeC (i := 1) (v := .slice (some ⟨gm, c, none⟩) k k) (some 49) rfl rfl (by kernel_rfl) (by kernel_rfl) (by kernel_rfl) (fun _ _ _ h => h) (Or.inl ⟨by rfl, ?_⟩) SV ?_
      · intro X hX; have o0 := hX.out.cell y1 nb3; have lX := hX.out.size; have lbX : b3 < X.heap.size := (by omega); go_simp
      try simp only [Act.put, List.setIfInBounds_toArray, List.set_cons_succ, List.set_cons_zero]
      refine wpAnyH_takeC (i := 2) (v := .func (.func 28) #[.slice (some ⟨gm, c, none⟩) k k] #[]) (some 50) rfl rfl (by kernel_rfl) (by kernel_rfl) (by kernel_rfl) (fun _ _ _ h => h) (Or.inl ⟨by rfl, ?_⟩) SV ?_
      · intro X hX; go_simp
      try simp only [Act.put, List.setIfInBounds_toArray, List.set_cons_succ, List.set_cons_zero]
      refine wpAnyH_takeC (i := 3) (v := .pointer (some ⟨b4, 6, none⟩)) (some 51) rfl rfl (by kernel_rfl) (by kernel_rfl) (by kernel_rfl) (fun _ _ _ h => h) (Or.inl ⟨by rfl, ?_⟩) SV ?_
      · intro X hX; have lX := hX.out.size; have lbX : b4 < X.heap.size := (by omega); go_simp
      try simp only [Act.put, List.setIfInBounds_toArray, List.set_cons_succ, List.set_cons_zero]
      refine wpAnyH_takeC (i := 4) (v := .int .i64 mx) (some 52) rfl rfl (by kernel_rfl) (by kernel_rfl) (by kernel_rfl) (fun _ _ _ h => h) (Or.inl ⟨by rfl, ?_⟩) SV ?_
      · intro X hX; have o0 := hX.out.cell z6 nb4; have lX := hX.out.size; have lbX : b4 < X.heap.size := (by omega); go_simp
      try simp only [Act.put, List.setIfInBounds_toArray, List.set_cons_succ, List.set_cons_zero]
      refine wpAnyH_takeC (i := 5) (v := .int .i64 gap) (some 53) rfl rfl (by kernel_rfl) (by kernel_rfl) (by kernel_rfl) (fun _ _ _ h => h) (Or.inl ⟨by rfl, ?_⟩) SV ?_
      · intro X hX; go_simp
      try simp only [Act.put, List.setIfInBounds_toArray, List.set_cons_succ, List.set_cons_zero]
      refine wpAnyH_takeC (i := 6) (v := .int .i64 k) (some 54) rfl rfl (by kernel_rfl) (by kernel_rfl) (by kernel_rfl) (fun _ _ _ h => h) (Or.inl ⟨by rfl, ?_⟩) SV ?_
      · intro X hX; go_simp
      try simp only [Act.put, List.setIfInBounds_toArray, List.set_cons_succ, List.set_cons_zero]
      refine wpAnyH_takeC (i := 8) (v := .pointer (some ⟨b3, 1, none⟩)) (some 56) rfl rfl (by kernel_rfl) (by kernel_rfl) (by kernel_rfl) (fun _ _ _ h => h) (Or.inl ⟨by rfl, ?_⟩) SV ?_
      · intro X hX; have lX := hX.out.size; have lbX : b3 < X.heap.size := (by omega); go_simp
      try simp only [Act.put, List.setIfInBounds_toArray, List.set_cons_succ, List.set_cons_zero]
      refine wpAnyH_takeC (i := 9) (v := .slice (some ⟨gm, c, none⟩) k k) (some 57) rfl rfl (by kernel_rfl) (by kernel_rfl) (by kernel_rfl) (fun _ _ _ h => h) (Or.inl ⟨by rfl, ?_⟩) SV ?_
      · intro X hX; have o0 := hX.out.cell y1 nb3; have lX := hX.out.size; have lbX : b3 < X.heap.size := (by omega); go_simp
      try simp only [Act.put, List.setIfInBounds_toArray, List.set_cons_succ, List.set_cons_zero]
      refine wpAnyH_all (rs := [7]) (by kernel_rfl) (by simp) ?_
      intro ii hii; obtain rfl : ii = 7 := by simpa using hii
      clear hii
      refine wpOp_step rfl (fun K hK => ?_)
      go_simp
      refine (HP2.out _).mono ?_
      rintro e w1b ⟨rfl, rfl⟩
      refine hK _ _ ⟨SV, ?_⟩
      clear hK K
      try simp only [Act.put, List.setIfInBounds_toArray, List.set_cons_succ, List.set_cons_zero]
      refine wpAnyH_all (rs := [10]) (by kernel_rfl) (by simp) ?_
      intro ii hii; obtain rfl : ii = 10 := by simpa using hii
      clear hii
      refine wpOp_step rfl (fun K hK => ?_)
      go_simp
      refine (HO2.out _ _ _ (by have := RM9.out.nums c k k (by rw [spl_len _ _ _ (by rw [HLH.out]; exact HCC.out)]; exact HCC.out) (Nat.le_refl _) (by omega); rwa [SEGH.out] at this) (by have := RM9.out.nums c k k (by rw [spl_len _ _ _ (by rw [HLH.out]; exact HCC.out)]; exact HCC.out) (Nat.le_refl _) (by omega); rwa [SEGH.out] at this)).mono ?_
      rintro e w2b ⟨g2, cap2, sp2, rfl, hir, hg2, hk2, hcm2, hb2⟩
      have S2 : Hid (Upd [gl, gm] W1 w2b) := Lib.hid (SV.out.trans (Upd.of_below hb2))
      have RL2 : Hid (IRow w2b gl (spl ls c L1) sl) := Lib.hid (RL9.out.below hb2 RL9.out.lt)
      have RM2 : Hid (IRow w2b gm (spl hs c H1) sm) := Lib.hid (RM9.out.below hb2 RM9.out.lt)
      have HG2 := Lib.hid (fun j (hj : j < k) => hir.cell j (by rw [HLH2.out]; exact hj))
      refine hK _ _ ⟨S2, ?_⟩
      clear hK K hb2 SV RL9 RM9 hir
      try simp only [Act.put, List.setIfInBounds_toArray, List.set_cons_succ, List.set_cons_zero]
      refine wpAnyH_all (rs := [11]) (by kernel_rfl) (by simp) ?_
      intro ii hii; obtain rfl : ii = 11 := by simpa using hii
      clear hii
      refine wpOp_step rfl (fun K hK => ?_)
      go_simp
      obtain ⟨w3b, hr3, hi3, hu3⟩ := RM2.out.copy c k k cap2 g2 0 3 H2 HLH2.out (by rw [spl_len _ _ _ (by rw [HLH.out]; exact HCC.out)]; exact HCC.out) (fun j hj => by rw [Nat.zero_add]; exact HG2.out j hj)
      have S3 : Hid (Upd [gl, gm] W1 w3b) := Lib.hid (S2.out.trans (hu3.more (by simp)))
      have RL3 : Hid (IRow w3b gl (spl ls c L1) sl) := Lib.hid (RL2.out.upd hu3 (by simp; omega))
      have RM3 := Lib.hid hi3
      clear hu3 hi3 HG2 S2 RL2 RM2
      first | rw [hr3] | simp only [hr3, Result.andThen_ok]
      refine hK _ _ ⟨S3, ?_⟩
      clear hK K hr3
      try simp only [Act.put, List.setIfInBounds_toArray, List.set_cons_succ, List.set_cons_zero]
      refine wpAnyH_done (by kernel_rfl) ?_ _
      go_wp2
      go_end0
      exact ⟨rfl, RL3.out, by rw [← spl_spl hs c H1 H2 (by rw [HLH.out]; exact HCC.out) (by rw [HLH.out, HLH2.out])]; exact RM3.out, (Upd.of_below HW01.out).trans S3.out⟩
end Go.Proofs.Ytmljndggblfeiaa
