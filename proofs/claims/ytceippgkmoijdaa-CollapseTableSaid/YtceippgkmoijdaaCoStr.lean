/- Contract of collapse.stretches. -/
import Derived.Test.YtceippgkmoijdaaCoAs
import Derived.Test.YtceippgkmoijdaaLst
namespace Go.Proofs.Ytceippgkmoijdaa
open Go.RowKit Go.Shelf Go.Sort
set_option linter.unusedVariables false
set_option linter.unusedSimpArgs false

def Sr.zero : Sr := ⟨⟨0, 0, ⟨⟨0, 0, 0⟩, ⟨0, 0, 0⟩, ⟨0, 0, 0⟩, ⟨0, 0, 0⟩⟩⟩, ⟨0, 0, 0, 0, 0, 0⟩⟩
theorem Try.infoSr : (Try.prog.info? 99).map (fun i => (i.zero, i.size, i.bytes)) = some (some (.agg #[.int .i64 0, .int .i64 0, .int .i64 0, .int .i64 0, .int .u32 0, .int .i64 0, .int .i64 0, .int .u32 0, .int .i64 0, .int .i64 0, .int .u32 0, .int .i64 0, .int .i64 0, .int .u32 0, .int .i64 0, .int .i64 0, .int .u32 0, .int .i64 0, .int .i64 0, .int .i64 0]), 20, 160) := by kernel_rfl
theorem Sr.one (s : Sr) : s.cells.toArray.all (·.oneCell') = true := by simp [Sr.cells, Rn.cells, Fr.cells, Li.cells, Si.cells, Value.oneCell']
theorem Try.infoSrN : (Try.prog.info? 99).map (·.size) = some 20 := by kernel_rfl
theorem make_str (m : Nat) (hm : m ≤ 1000000) (w : World) : (Instr.makeSlice 82 (.int .i64 (m : Int)) (.int .i64 (m : Int))).run Try.prog w = .ok (.slice (some ⟨w.heap.size, 0, none⟩) m m) (w.alloc (.cells ((List.replicate m Sr.zero).flatMap Sr.cells).toArray 99)) := by
  cases hi : Try.prog.info? 99 with
  | none => have := Try.infoSr; rw [hi] at this; cases this
  | some i =>
    have h := Try.infoSr
    rw [hi] at h
    simp only [Option.map_some, Option.some.injEq, Prod.mk.injEq] at h
    obtain ⟨hz, h1, h2⟩ := h
    have hr := run_make (P := Try.prog) w 82 99 i _ Try.underlying82 hi hz .i64 .i64 m m (by omega) (by omega) (by rw [h2]; omega) (by omega)
    rw [hr, h1]
    simp only [Int.toNat_natCast]
    rw [← made_flatL Sr.cells_len]
    rfl
theorem wp_store_midL {P : Program} {o : Oper} {a : Act} {w : World} {K : Act → World → Prop} {Q : Exit → Act → World → Prop} (hd : o.dst = none) (ty : TypeId) (x y : Operand) (ho : o.op = .store ty x y)
    (b off : Nat) (cells : Array Value) (hx : a.eval x = .pointer (some ⟨b, off, none⟩)) (hy : a.eval y = .agg cells) (ht : w.there b off cells.size) (hi : (P.info? ty).map (·.size) = some cells.size) (h1 : cells.all (·.oneCell') = true)
    (h : K a (w.setCells b off cells.toList)) : o.wp P a w K Q := by
  refine wp_store_mid ty x y ho b off cells hx hy ht hi h1 ?_
  rw [hd]; exact h
/-- what a list of runs is as stretches -/
def strP (w : Nat) (rs : List Rn) : List Sr := rs.map fun r => ⟨r, asP w r.fr⟩
set_option maxRecDepth 100000 in
set_option maxHeartbeats 8000000 in
theorem stretches_any (w : Nat) (p : Option Addr) (m c : Nat) (rs : List Rn) (W : World) (hr : RowsK Rn.cells 14 W (.slice p m c) rs) (hm : rs.length = m) (hm2 : m ≤ 1000000) :
    Calls Try.prog 45 #[.slice p m c, .func (.func (asF w)) #[] #[]] W fun e W' => e = .returned (.slice (some ⟨W.heap.size, 0, none⟩) m m) ∧ LsB Sr.cells 99 W.heap.size (strP w rs) W' ∧ Below W.heap.size W W' := by
  have HAT : Hid (∀ X, Below W.heap.size W X → ∀ j c, rs[j]? = some c → ∃ g o, p = some ⟨g, o, none⟩ ∧ g < W.heap.size ∧ ∀ q v, c.cells[q]? = some v → X.cell? ⟨g, o + j * 14 + q, none⟩ = some v) := Lib.hid fun X hX j c hj => by
    obtain ⟨g, o, e, hg, hc⟩ := hr.at j c hj
    exact ⟨g, o, e, hg, fun q v hv => (hX.cell (p := ⟨g, o + j * 14 + q, none⟩) hg).trans (hc q v hv)⟩
  have HM := Lib.hid hm
  have HEN := Lib.hid (as_enter w)
  have HAS := Lib.hid (fun fr X => as_any w fr X)
  obtain ⟨fa, hfa⟩ : ∃ f, asF w = f := ⟨_, rfl⟩
  rw [hfa] at HEN HAS ⊢
  have hmk := make_str m hm2 W
  obtain ⟨zc, hzc⟩ : ∃ zc, ((List.replicate m Sr.zero).flatMap Sr.cells).toArray = zc := ⟨_, rfl⟩
  have K0 : Hid (LsB Sr.cells 99 W.heap.size (strP w (rs.take 0) ++ List.replicate (m - 0) Sr.zero) (W.alloc (.cells zc 99))) := Lib.hid (by
    unfold LsB
    rw [← hzc]
    exact whole_new W _ 99 _ rfl)
  have B0 : Hid (Below W.heap.size W (W.alloc (.cells zc 99))) := Lib.hid ((Below.refl _ W).alloc (Nat.le_refl _) _)
  rw [hzc] at hmk
  clear hr hm hfa hzc
  go_enter Try.func45, Try.ntmps45
  go_wp2
  clear hmk
  generalize W.alloc (.cells zc 99) = W1 at K0 B0 ⊢
  go_loopw [13] (fun s13 X => ∃ i : Nat, i ≤ m ∧ s13 = .int .i64 (i : Int) ∧ Hid (LsB Sr.cells 99 W.heap.size (strP w (rs.take i) ++ List.replicate (m - i) Sr.zero) X) ∧ Hid (Below W.heap.size W X)) (fun s13 _ => m - (intOf s13).toNat)
  case atStart => exact ⟨0, Nat.zero_le _, rfl, K0, B0⟩
  case round =>
    clear K0 B0
    obtain ⟨i, hi, rfl, HL, HB⟩ := hrel
    by_cases hlt : i < m
    · obtain ⟨x, hx⟩ : ∃ x, rs[i]? = some x := ⟨_, List.getElem?_eq_getElem (by rw [HM.out]; exact hlt)⟩
      obtain ⟨g, o, rfl, lg0, hcs⟩ := HAT.out wr HB.out i x hx
      have HTK : Hid ((strP w (rs.take i) ++ List.replicate (m - i) Sr.zero).set i ⟨x, asP w x.fr⟩ = strP w (rs.take (i + 1)) ++ List.replicate (m - (i + 1)) Sr.zero) := Lib.hid (by
        have hll : (strP w (rs.take i)).length = i := by unfold strP; rw [List.length_map, List.length_take]; have := HM.out; omega
        rw [List.set_append_right _ _ (by omega), hll, Nat.sub_self, show m - i = (m - (i + 1)) + 1 by omega, List.replicate_succ, List.set_cons_zero, List.take_add_one, hx]
        unfold strP
        simp)
      have lg : g < wr.heap.size := Nat.lt_of_lt_of_le lg0 HB.out.size
      have HA1 := Lib.hid (fun X => HAS.out x.fr X)
      have HI : Hid (i < (strP w (rs.take i) ++ List.replicate (m - i) Sr.zero).length) := Lib.hid (by unfold strP; simp; have := HM.out; omega)
      obtain ⟨za, has⟩ : ∃ a, asP w x.fr = a := ⟨_, rfl⟩
      rw [has] at HTK HA1
      obtain ⟨s0, s1, s2, s3, s4, s5⟩ := za
      obtain ⟨fr, to, ⟨⟨a0, a1, a2⟩, ⟨b0, b1, b2⟩, ⟨c0, c1, c2⟩, ⟨d0, d1, d2⟩⟩⟩ := x
      have q0 : wr.cell? ⟨g, o + i * 14, none⟩ = some (.int .i64 fr) := hcs 0 _ rfl
      have q1 : wr.cell? ⟨g, o + i * 14 + 1, none⟩ = some (.int .i64 to) := hcs 1 _ rfl
      have q2 : wr.cell? ⟨g, o + i * 14 + 2, none⟩ = some (.int .i64 a0) := hcs 2 _ rfl
      have q3 : wr.cell? ⟨g, o + i * 14 + 3, none⟩ = some (.int .i64 a1) := hcs 3 _ rfl
      have q4 : wr.cell? ⟨g, o + i * 14 + 4, none⟩ = some (.int .u32 a2) := hcs 4 _ rfl
      have q5 : wr.cell? ⟨g, o + i * 14 + 5, none⟩ = some (.int .i64 b0) := hcs 5 _ rfl
      have q6 : wr.cell? ⟨g, o + i * 14 + 6, none⟩ = some (.int .i64 b1) := hcs 6 _ rfl
      have q7 : wr.cell? ⟨g, o + i * 14 + 7, none⟩ = some (.int .u32 b2) := hcs 7 _ rfl
      have q8 : wr.cell? ⟨g, o + i * 14 + 8, none⟩ = some (.int .i64 c0) := hcs 8 _ rfl
      have q9 : wr.cell? ⟨g, o + i * 14 + 9, none⟩ = some (.int .i64 c1) := hcs 9 _ rfl
      have q10 : wr.cell? ⟨g, o + i * 14 + 10, none⟩ = some (.int .u32 c2) := hcs 10 _ rfl
      have q11 : wr.cell? ⟨g, o + i * 14 + 11, none⟩ = some (.int .i64 d0) := hcs 11 _ rfl
      have q12 : wr.cell? ⟨g, o + i * 14 + 12, none⟩ = some (.int .i64 d1) := hcs 12 _ rfl
      have q13 : wr.cell? ⟨g, o + i * 14 + 13, none⟩ = some (.int .u32 d2) := hcs 13 _ rfl
      clear hcs hx lg0 has
      unfold Si.val at HA1
      dsimp only at HA1
      go_wp2_with (refine region_held_atC (S := fun X => Hid (Whole X wr.heap.size 81 [.int .i64 fr, .int .i64 to, .int .i64 a0, .int .i64 a1, .int .u32 a2, .int .i64 b0, .int .i64 b1, .int .u32 b2, .int .i64 c0, .int .i64 c1, .int .u32 c2, .int .i64 d0, .int .i64 d1, .int .u32 d2])) (by kernel_rfl) (fun w9 hw9 => ?_))
      have SV : Hid (Whole w9 wr.heap.size 81 [.int .i64 fr, .int .i64 to, .int .i64 a0, .int .i64 a1, .int .u32 a2, .int .i64 b0, .int .i64 b1, .int .u32 b2, .int .i64 c0, .int .i64 c1, .int .u32 c2, .int .i64 d0, .int .i64 d1, .int .u32 d2]) := Lib.hid (by rw [← hw9]; exact (whole_new wr [.int .i64 fr, .int .i64 to, .int .i64 a0, .int .i64 a1, .int .u32 a2, .int .i64 b0, .int .i64 b1, .int .u32 b2, .int .i64 c0, .int .i64 c1, .int .u32 c2, .int .i64 d0, .int .i64 d1, .int .u32 d2] 81 _ rfl).below (below_dn (wr.heap.size + 1) _ 1) (by omega))
      have BQ : Hid (Below wr.heap.size wr w9) := Lib.hid (by rw [← hw9]; exact ((Below.refl _ wr).alloc (Nat.le_refl _) _).trans (below_dn _ _ 1))
      clear hw9 q0 q1 q2 q3 q4 q5 q6 q7 q8 q9 q10 q11 q12 q13 lg
      try simp only [Act.put, List.setIfInBounds_toArray, List.set_cons_succ, List.set_cons_zero]
      refine wpAnyH_takeC (i := 0) (v := .slice (some ⟨W.heap.size, 0, none⟩) m m) (some 18) rfl rfl (by kernel_rfl) (by kernel_rfl) (by kernel_rfl) (fun _ _ _ h => h) (Or.inl ⟨by rfl, ?_⟩) SV ?_
      · intro X hX; go_simp
      try simp only [Act.put, List.setIfInBounds_toArray, List.set_cons_succ, List.set_cons_zero]
      refine wpAnyH_takeC (i := 1) (v := .int .i64 (i : Int)) (some 19) rfl rfl (by kernel_rfl) (by kernel_rfl) (by kernel_rfl) (fun _ _ _ h => h) (Or.inl ⟨by rfl, ?_⟩) SV ?_
      · intro X hX; go_simp
      try simp only [Act.put, List.setIfInBounds_toArray, List.set_cons_succ, List.set_cons_zero]
      refine wpAnyH_takeC (i := 2) (v := .agg #[.int .i64 fr, .int .i64 to, .int .i64 a0, .int .i64 a1, .int .u32 a2, .int .i64 b0, .int .i64 b1, .int .u32 b2, .int .i64 c0, .int .i64 c1, .int .u32 c2, .int .i64 d0, .int .i64 d1, .int .u32 d2]) (some 20) rfl rfl (by kernel_rfl) (by kernel_rfl) (by kernel_rfl) (fun _ _ _ h => h) (Or.inl ⟨by rfl, ?_⟩) SV ?_
      · intro X hX; have kx := hX.out; have o0 := kx.cellAt 0; have o1 := kx.cellAt 1; have o2 := kx.cellAt 2; have o3 := kx.cellAt 3; have o4 := kx.cellAt 4; have o5 := kx.cellAt 5; have o6 := kx.cellAt 6; have o7 := kx.cellAt 7; have o8 := kx.cellAt 8; have o9 := kx.cellAt 9; have o10 := kx.cellAt 10; have o11 := kx.cellAt 11; have o12 := kx.cellAt 12; have o13 := kx.cellAt 13; have lX := kx.lt; simp only [List.getElem?_cons_zero, List.getElem?_cons_succ] at o0 o1 o2 o3 o4 o5 o6 o7 o8 o9 o10 o11 o12 o13; clear kx; go_simp
      try simp only [Act.put, List.setIfInBounds_toArray, List.set_cons_succ, List.set_cons_zero]
      refine wpAnyH_takeC (i := 3) (v := .func (.func fa) #[] #[]) (some 21) rfl rfl (by kernel_rfl) (by kernel_rfl) (by kernel_rfl) (fun _ _ _ h => h) (Or.inl ⟨by rfl, ?_⟩) SV ?_
      · intro X hX; go_simp
      try simp only [Act.put, List.setIfInBounds_toArray, List.set_cons_succ, List.set_cons_zero]
      refine wpAnyH_takeC (i := 4) (v := .pointer (some ⟨wr.heap.size, 0, none⟩)) (some 22) rfl rfl (by kernel_rfl) (by kernel_rfl) (by kernel_rfl) (fun _ _ _ h => h) (Or.inl ⟨by rfl, ?_⟩) SV ?_
      · intro X hX; go_simp
      try simp only [Act.put, List.setIfInBounds_toArray, List.set_cons_succ, List.set_cons_zero]
      refine wpAnyH_takeC (i := 5) (v := .int .i64 fr) (some 23) rfl rfl (by kernel_rfl) (by kernel_rfl) (by kernel_rfl) (fun _ _ _ h => h) (Or.inl ⟨by rfl, ?_⟩) SV ?_
      · intro X hX; have kx := hX.out; have o0 := kx.cellAt 0; have o1 := kx.cellAt 1; have o2 := kx.cellAt 2; have o3 := kx.cellAt 3; have o4 := kx.cellAt 4; have o5 := kx.cellAt 5; have o6 := kx.cellAt 6; have o7 := kx.cellAt 7; have o8 := kx.cellAt 8; have o9 := kx.cellAt 9; have o10 := kx.cellAt 10; have o11 := kx.cellAt 11; have o12 := kx.cellAt 12; have o13 := kx.cellAt 13; have lX := kx.lt; simp only [List.getElem?_cons_zero, List.getElem?_cons_succ] at o0 o1 o2 o3 o4 o5 o6 o7 o8 o9 o10 o11 o12 o13; clear kx; go_simp
      try simp only [Act.put, List.setIfInBounds_toArray, List.set_cons_succ, List.set_cons_zero]
      refine wpAnyH_all (rs := [6]) (by kernel_rfl) (by simp) ?_
      intro ii hii; obtain rfl : ii = 6 := by simpa using hii
      clear hii
      refine wpOp_step rfl (fun K hK => ?_)
      have HAK := Lib.hid (HA1.out w9)
      go_simp
      rw [HEN.out, Oper.upon_enter]
      refine HAK.out.mono ?_
      rintro e w3 ⟨rfl, hb3⟩
      have SX := Lib.hid (SV.out.below hb3 SV.out.lt)
      have BX := Lib.hid (BQ.out.trans (hb3.mono BQ.out.size))
      refine hK _ _ ⟨SX, ?_⟩
      clear hK K hb3 SV HAK HA1 BQ
      have SV := SX
      have BQ := BX
      clear SX BX
      try simp only [Act.put, List.setIfInBounds_toArray, List.set_cons_succ, List.set_cons_zero]
      refine wpAnyH_takeC (i := 7) (v := .agg #[.int .i64 fr, .int .i64 to, .int .i64 a0, .int .i64 a1, .int .u32 a2, .int .i64 b0, .int .i64 b1, .int .u32 b2, .int .i64 c0, .int .i64 c1, .int .u32 c2, .int .i64 d0, .int .i64 d1, .int .u32 d2, .int .i64 s0, .int .i64 s1, .int .u32 s2, .int .i64 s3, .int .i64 s4, .int .i64 s5]) (some 25) rfl rfl (by kernel_rfl) (by kernel_rfl) (by kernel_rfl) (fun _ _ _ h => h) (Or.inl ⟨by rfl, ?_⟩) SV ?_
      · intro X hX; go_simp
      try simp only [Act.put, List.setIfInBounds_toArray, List.set_cons_succ, List.set_cons_zero]
      refine wpAnyH_takeC (i := 8) (v := .pointer (some ⟨W.heap.size, i * 20, none⟩)) (some 26) rfl rfl (by kernel_rfl) (by kernel_rfl) (by kernel_rfl) (fun _ _ _ h => h) (Or.inl ⟨by rfl, ?_⟩) SV ?_
      · intro X hX; go_simp
      try simp only [Act.put, List.setIfInBounds_toArray, List.set_cons_succ, List.set_cons_zero]
      have HL3 := Lib.hid (LsB.below HL.out BQ.out HL.out.lt)
      have HB3 := Lib.hid (HB.out.trans (BQ.out.mono HB.out.size))
      refine wpAnyH_all (rs := [9]) (by kernel_rfl) (by simp) ?_
      intro ii hii; obtain rfl : ii = 9 := by simpa using hii
      clear hii
      refine wpOp_step rfl (fun K hK => ?_)
      refine wp_store_midL rfl 99 (.tmp 26) (.tmp 25) rfl W.heap.size (i * 20) (Sr.cells ⟨⟨fr, to, ⟨⟨a0, a1, a2⟩, ⟨b0, b1, b2⟩, ⟨c0, c1, c2⟩, ⟨d0, d1, d2⟩⟩⟩, ⟨s0, s1, s2, s3, s4, s5⟩⟩).toArray rfl rfl (LsB.there Sr.cells_len HL3.out i HI.out) Try.infoSrN (Sr.one _) ?_
      have HP := Lib.hid (LsB.put Sr.cells_len HL3.out i ⟨⟨fr, to, ⟨⟨a0, a1, a2⟩, ⟨b0, b1, b2⟩, ⟨c0, c1, c2⟩, ⟨d0, d1, d2⟩⟩⟩, ⟨s0, s1, s2, s3, s4, s5⟩⟩ HI.out)
      have HB4 := Lib.hid (below_putL (B := W.heap.size) (G := W.heap.size) (Nat.le_refl _) (Sr.cells ⟨⟨fr, to, ⟨⟨a0, a1, a2⟩, ⟨b0, b1, b2⟩, ⟨c0, c1, c2⟩, ⟨d0, d1, d2⟩⟩⟩, ⟨s0, s1, s2, s3, s4, s5⟩⟩) (i * 20) w3 HB3.out)
      rw [HTK.out] at HP
      have hwn : wr.heap.size ≠ W.heap.size := (by have := HL.out.lt; omega)
      have SX := Lib.hid (whole_putLO (G := W.heap.size) (Sr.cells ⟨⟨fr, to, ⟨⟨a0, a1, a2⟩, ⟨b0, b1, b2⟩, ⟨c0, c1, c2⟩, ⟨d0, d1, d2⟩⟩⟩, ⟨s0, s1, s2, s3, s4, s5⟩⟩) (i * 20) _ w3 SV.out hwn)
      refine hK _ _ ⟨SX, ?_⟩
      clear hK K SV SX
      refine wpAnyH_done (by kernel_rfl) ?_ _
      go_wp2
      go_roundw
      case rel => exact ⟨i + 1, by omega, by go_num, HP, HB4⟩
      case measure => simp [intOf]; omega
    · obtain rfl : i = m := by omega
      have HTE : Hid (strP w (rs.take i) ++ List.replicate (i - i) Sr.zero = strP w rs) := Lib.hid (by rw [List.take_of_length_le (by have := HM.out; omega), Nat.sub_self]; simp)
      go_wp2
      go_ret
      exact ⟨rfl, by rw [← HTE.out]; exact HL.out, HB.out⟩
end Go.Proofs.Ytceippgkmoijdaa
