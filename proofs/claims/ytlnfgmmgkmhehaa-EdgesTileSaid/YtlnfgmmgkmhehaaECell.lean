/- Contracts of the net's own answers: whether a place lies in it (has), its rectangle (cell), and the gaps (standing, lying). Written by mk_ECell.py. -/
import Derived.Test.YtlnfgmmgkmhehaaENet
import Derived.Test.YtlnfgmmgkmhehaaEPl
import Derived.OrdersHeld
import Derived.Laws.ResultCell
namespace Go.Proofs.Ytlnfgmmgkmhehaa
open Go.RowKit Go.Shelf
set_option linter.unusedVariables false
set_option linter.unusedSimpArgs false
attribute [local go_sem] Oper.semAt_some

theorem wpAnyH_takeD {P : Program} {md : Region.Mode} {ops : Array Oper} {Q : Exit → Act → World → Prop} {S : World → Prop} {i : Nat} {oi : Oper} {v : Value} {fuel : Nat} {listed : Array Bool} {a : Act} {w : World} (dst : Option Tmp) (hi : ops[i]? = some oi) (hd : oi.dst = dst)
    (hs : Region.noSelect ops = true) (hf : Region.free md ops listed i = true) (hr : (Region.ready md ops listed).contains i = true)
    (hQ : ∀ c a w, Q (.panic c) (a.put dst v) w → Q (.panic c) a w) (hy : YieldsIf P ops S oi v a) (hS : S w)
    (h : wpAnyH P md ops Q S fuel (listed.setIfInBounds i true) (a.put dst v) w) : wpAnyH P md ops Q S (fuel + 1) listed a w := by
  subst hd
  exact wpAnyH_take hi hs hf hr hQ hy hS h
theorem region_held_atE {P : Program} {ops : Array Oper} {Q : Exit → Act → World → Prop} {S : World → Prop} {id : Nat} {a : Act} {w : World} (hm : P.follows .mixedOrders = true)
    (h : ∀ w2 : World, w.drew = w2 → wpAnyH P .any ops Q S ops.size (Array.replicate ops.size false) a w2) : (Code.region id ops true).wp P Q a w := wp_region_held hm (h _ rfl)
theorem lies_below (fr n all : Int) (w : World) (h0 : 0 ≤ all) (h1 : all ≤ 9223372036854775807) (h2 : fr ≤ 9223372036854775807) (h3 : -9223372036854775808 ≤ fr) :
    Calls Try.prog 27 #[.int .i64 fr, .int .i64 n, .int .i64 all] w fun e w' => e = .returned (.bool (liesB fr n all)) ∧ Below w.heap.size w w' := (lies_any fr n all w h0 h1 h2 h3).mono fun e w' h => ⟨h.1, by rw [← h.2]; exact Below.refl _ _⟩
/-- does a place lie in a net of so many columns and rows? -/
def placeN (c r : Nat) (q : Pz) : Bool := decide (0 < q.w) && (liesB q.c q.w c && (decide (0 < q.h) && liesB q.r q.h r))
set_option maxRecDepth 100000 in
set_option maxHeartbeats 4000000 in
theorem has_0 (px py c r : Nat) (g0 g1 : Int) (q : Pz) (w : World) (hq : q.ok) (hc : c ≤ 10000) (hr : r ≤ 10000) (k1 : ¬ 0 < q.w) :
    Calls Try.prog 12 #[netV px py c r g0 g1, .agg q.cells.toArray] w fun e w' => e = .returned (.bool false) ∧ Below w.heap.size w w' := by
  have HCO := Lib.hid (fun X => cols_any px py c r g0 g1 X hc)
  have HRO := Lib.hid (fun X => rows_any px py c r g0 g1 X hr)
  unfold netV at *
  obtain ⟨pn, pr, pc, ph, pw⟩ := q
  dsimp only [Pz.cells] at *
  have kw : decide (0 < pw) = false := by simp; omega
  generalize floatOfInt .f64 g0 = fx at *
  generalize floatOfInt .f64 g1 = fy at *
  clear hq hc hr
  obtain ⟨gn, hgn⟩ : ∃ gn, w.heap.size = gn := ⟨_, rfl⟩
  have N1 := whole_new w [.slice (some ⟨px, 0, none⟩) (c + 1) (c + 1), .slice (some ⟨py, 0, none⟩) (r + 1) (r + 1), .complex .f64 fx 0, .complex .f64 0 fy] 45 gn hgn.symm
  have N2 := N1.alloc (.cells #[.int .i64 pn, .int .i64 pr, .int .i64 pc, .int .i64 ph, .int .i64 pw] 27)
  have P2 := whole_new (w.alloc (.cells #[.slice (some ⟨px, 0, none⟩) (c + 1) (c + 1), .slice (some ⟨py, 0, none⟩) (r + 1) (r + 1), .complex .f64 fx 0, .complex .f64 0 fy] 45)) [.int .i64 pn, .int .i64 pr, .int .i64 pc, .int .i64 ph, .int .i64 pw] 27 (gn + 1) (by simp [hgn])
  obtain ⟨W0, hW0⟩ : ∃ W0, (w.alloc (.cells #[.slice (some ⟨px, 0, none⟩) (c + 1) (c + 1), .slice (some ⟨py, 0, none⟩) (r + 1) (r + 1), .complex .f64 fx 0, .complex .f64 0 fy] 45)).alloc (.cells #[.int .i64 pn, .int .i64 pr, .int .i64 pc, .int .i64 ph, .int .i64 pw] 27) = W0 := ⟨_, rfl⟩
  have HB0 : Hid (Below w.heap.size w W0) := Lib.hid (by rw [← hW0]; exact ((Below.refl _ w).alloc (Nat.le_refl _) _).alloc (by simp) _)
  have N2' : Whole W0 gn 45 [.slice (some ⟨px, 0, none⟩) (c + 1) (c + 1), .slice (some ⟨py, 0, none⟩) (r + 1) (r + 1), .complex .f64 fx 0, .complex .f64 0 fy] := by rw [← hW0]; exact N2
  have P2' : Whole W0 (gn + 1) 27 [.int .i64 pn, .int .i64 pr, .int .i64 pc, .int .i64 ph, .int .i64 pw] := by rw [← hW0]; exact P2
  have n0 := N2'.cellAt 0
  have n1 := N2'.cellAt 1
  have n2 := N2'.cellAt 2
  have n3 := N2'.cellAt 3
  have p1 := P2'.cellAt 1
  have p2 := P2'.cellAt 2
  have p3 := P2'.cellAt 3
  have p4 := P2'.cellAt 4
  have lgn := N2'.lt
  obtain ⟨gp, hgp⟩ : ∃ gp, gn + 1 = gp := ⟨_, rfl⟩
  have lgp := P2'.lt
  rw [hgp] at p1 p2 p3 p4 lgp
  simp only [List.getElem?_cons_zero, List.getElem?_cons_succ] at n0 n1 n2 n3 p1 p2 p3 p4
  clear N1 N2 P2 N2' P2'
  go_enter Try.func12, Try.ntmps12
  go_wp2
  try rw [hW0]
  try simp only [hgn, hgp]
  clear hW0 hgn hgp
  refine region_held_atE (S := fun X => Hid (Below W0.heap.size W0 X)) (by kernel_rfl) (fun w9 hw9 => ?_)
  have SV : Hid (Below W0.heap.size W0 w9) := Lib.hid (by rw [← hw9]; exact (Below.refl _ _).drew)
  clear hw9
  try simp only [Act.put, List.setIfInBounds_toArray, List.set_cons_succ, List.set_cons_zero]
  refine wpAnyH_takeD (i := 0) (v := .pointer (some ⟨gp, 4, none⟩)) (some 5) rfl rfl (by kernel_rfl) (by kernel_rfl) (by kernel_rfl) (fun _ _ _ h => h) (Or.inl ⟨by rfl, ?_⟩) SV ?_
  · intro X hX; go_simp
  try simp only [Act.put, List.setIfInBounds_toArray, List.set_cons_succ, List.set_cons_zero]
  refine wpAnyH_takeD (i := 1) (v := .int .i64 pw) (some 6) rfl rfl (by kernel_rfl) (by kernel_rfl) (by kernel_rfl) (fun _ _ _ h => h) (Or.inl ⟨by rfl, ?_⟩) SV ?_
  · intro X hX; have o0 := (hX.out.cell (p := ⟨gp, 4, none⟩) lgp).trans p4; have lX := hX.out.size; have lbX : gp < X.heap.size := (by omega); go_simp
  try simp only [Act.put, List.setIfInBounds_toArray, List.set_cons_succ, List.set_cons_zero]
  refine wpAnyH_takeD (i := 2) (v := .bool false) (some 7) rfl rfl (by kernel_rfl) (by kernel_rfl) (by kernel_rfl) (fun _ _ _ h => h) (Or.inl ⟨by rfl, ?_⟩) SV ?_
  · intro X hX; go_simp
  try simp only [Act.put, List.setIfInBounds_toArray, List.set_cons_succ, List.set_cons_zero]
  refine wpAnyH_takeD (i := 3) (v := .bool false) (some 8) rfl rfl (by kernel_rfl) (by kernel_rfl) (by kernel_rfl) (fun _ _ _ h => h) (Or.inl ⟨by rfl, ?_⟩) SV ?_
  · intro X hX; go_simp
  try simp only [Act.put, List.setIfInBounds_toArray, List.set_cons_succ, List.set_cons_zero]
  refine wpAnyH_takeD (i := 4) (v := undef) (some 9) rfl rfl (by kernel_rfl) (by kernel_rfl) (by kernel_rfl) (fun _ _ _ h => h) (Or.inr ⟨by rfl, rfl⟩) SV ?_
  try simp only [Act.put, List.setIfInBounds_toArray, List.set_cons_succ, List.set_cons_zero]
  refine wpAnyH_takeD (i := 5) (v := undef) (some 10) rfl rfl (by kernel_rfl) (by kernel_rfl) (by kernel_rfl) (fun _ _ _ h => h) (Or.inr ⟨by rfl, rfl⟩) SV ?_
  try simp only [Act.put, List.setIfInBounds_toArray, List.set_cons_succ, List.set_cons_zero]
  refine wpAnyH_takeD (i := 6) (v := undef) (some 11) rfl rfl (by kernel_rfl) (by kernel_rfl) (by kernel_rfl) (fun _ _ _ h => h) (Or.inr ⟨by rfl, rfl⟩) SV ?_
  try simp only [Act.put, List.setIfInBounds_toArray, List.set_cons_succ, List.set_cons_zero]
  refine wpAnyH_takeD (i := 7) (v := undef) (some 12) rfl rfl (by kernel_rfl) (by kernel_rfl) (by kernel_rfl) (fun _ _ _ h => h) (Or.inr ⟨by rfl, rfl⟩) SV ?_
  try simp only [Act.put, List.setIfInBounds_toArray, List.set_cons_succ, List.set_cons_zero]
  refine wpAnyH_takeD (i := 8) (v := undef) (some 13) rfl rfl (by kernel_rfl) (by kernel_rfl) (by kernel_rfl) (fun _ _ _ h => h) (Or.inr ⟨by rfl, rfl⟩) SV ?_
  try simp only [Act.put, List.setIfInBounds_toArray, List.set_cons_succ, List.set_cons_zero]
  refine wpAnyH_takeD (i := 9) (v := undef) (some 14) rfl rfl (by kernel_rfl) (by kernel_rfl) (by kernel_rfl) (fun _ _ _ h => h) (Or.inr ⟨by rfl, rfl⟩) SV ?_
  try simp only [Act.put, List.setIfInBounds_toArray, List.set_cons_succ, List.set_cons_zero]
  refine wpAnyH_takeD (i := 10) (v := undef) (some 15) rfl rfl (by kernel_rfl) (by kernel_rfl) (by kernel_rfl) (fun _ _ _ h => h) (Or.inr ⟨by rfl, rfl⟩) SV ?_
  try simp only [Act.put, List.setIfInBounds_toArray, List.set_cons_succ, List.set_cons_zero]
  refine wpAnyH_takeD (i := 11) (v := .bool false) (some 16) rfl rfl (by kernel_rfl) (by kernel_rfl) (by kernel_rfl) (fun _ _ _ h => h) (Or.inl ⟨by rfl, ?_⟩) SV ?_
  · intro X hX; go_simp
  try simp only [Act.put, List.setIfInBounds_toArray, List.set_cons_succ, List.set_cons_zero]
  refine wpAnyH_takeD (i := 12) (v := .bool false) (some 17) rfl rfl (by kernel_rfl) (by kernel_rfl) (by kernel_rfl) (fun _ _ _ h => h) (Or.inl ⟨by rfl, ?_⟩) SV ?_
  · intro X hX; go_simp
  try simp only [Act.put, List.setIfInBounds_toArray, List.set_cons_succ, List.set_cons_zero]
  refine wpAnyH_takeD (i := 13) (v := undef) (some 18) rfl rfl (by kernel_rfl) (by kernel_rfl) (by kernel_rfl) (fun _ _ _ h => h) (Or.inr ⟨by rfl, rfl⟩) SV ?_
  try simp only [Act.put, List.setIfInBounds_toArray, List.set_cons_succ, List.set_cons_zero]
  refine wpAnyH_takeD (i := 14) (v := undef) (some 19) rfl rfl (by kernel_rfl) (by kernel_rfl) (by kernel_rfl) (fun _ _ _ h => h) (Or.inr ⟨by rfl, rfl⟩) SV ?_
  try simp only [Act.put, List.setIfInBounds_toArray, List.set_cons_succ, List.set_cons_zero]
  refine wpAnyH_takeD (i := 15) (v := undef) (some 20) rfl rfl (by kernel_rfl) (by kernel_rfl) (by kernel_rfl) (fun _ _ _ h => h) (Or.inr ⟨by rfl, rfl⟩) SV ?_
  try simp only [Act.put, List.setIfInBounds_toArray, List.set_cons_succ, List.set_cons_zero]
  refine wpAnyH_takeD (i := 16) (v := .bool false) (some 21) rfl rfl (by kernel_rfl) (by kernel_rfl) (by kernel_rfl) (fun _ _ _ h => h) (Or.inl ⟨by rfl, ?_⟩) SV ?_
  · intro X hX; go_simp
  try simp only [Act.put, List.setIfInBounds_toArray, List.set_cons_succ, List.set_cons_zero]
  refine wpAnyH_takeD (i := 17) (v := .bool false) (some 22) rfl rfl (by kernel_rfl) (by kernel_rfl) (by kernel_rfl) (fun _ _ _ h => h) (Or.inl ⟨by rfl, ?_⟩) SV ?_
  · intro X hX; go_simp
  try simp only [Act.put, List.setIfInBounds_toArray, List.set_cons_succ, List.set_cons_zero]
  refine wpAnyH_takeD (i := 18) (v := undef) (some 23) rfl rfl (by kernel_rfl) (by kernel_rfl) (by kernel_rfl) (fun _ _ _ h => h) (Or.inr ⟨by rfl, rfl⟩) SV ?_
  try simp only [Act.put, List.setIfInBounds_toArray, List.set_cons_succ, List.set_cons_zero]
  refine wpAnyH_takeD (i := 19) (v := undef) (some 24) rfl rfl (by kernel_rfl) (by kernel_rfl) (by kernel_rfl) (fun _ _ _ h => h) (Or.inr ⟨by rfl, rfl⟩) SV ?_
  try simp only [Act.put, List.setIfInBounds_toArray, List.set_cons_succ, List.set_cons_zero]
  refine wpAnyH_takeD (i := 20) (v := undef) (some 25) rfl rfl (by kernel_rfl) (by kernel_rfl) (by kernel_rfl) (fun _ _ _ h => h) (Or.inr ⟨by rfl, rfl⟩) SV ?_
  try simp only [Act.put, List.setIfInBounds_toArray, List.set_cons_succ, List.set_cons_zero]
  refine wpAnyH_takeD (i := 21) (v := undef) (some 26) rfl rfl (by kernel_rfl) (by kernel_rfl) (by kernel_rfl) (fun _ _ _ h => h) (Or.inr ⟨by rfl, rfl⟩) SV ?_
  try simp only [Act.put, List.setIfInBounds_toArray, List.set_cons_succ, List.set_cons_zero]
  refine wpAnyH_takeD (i := 22) (v := undef) (some 27) rfl rfl (by kernel_rfl) (by kernel_rfl) (by kernel_rfl) (fun _ _ _ h => h) (Or.inr ⟨by rfl, rfl⟩) SV ?_
  try simp only [Act.put, List.setIfInBounds_toArray, List.set_cons_succ, List.set_cons_zero]
  refine wpAnyH_takeD (i := 23) (v := undef) (some 28) rfl rfl (by kernel_rfl) (by kernel_rfl) (by kernel_rfl) (fun _ _ _ h => h) (Or.inr ⟨by rfl, rfl⟩) SV ?_
  try simp only [Act.put, List.setIfInBounds_toArray, List.set_cons_succ, List.set_cons_zero]
  refine wpAnyH_takeD (i := 24) (v := undef) (some 29) rfl rfl (by kernel_rfl) (by kernel_rfl) (by kernel_rfl) (fun _ _ _ h => h) (Or.inr ⟨by rfl, rfl⟩) SV ?_
  try simp only [Act.put, List.setIfInBounds_toArray, List.set_cons_succ, List.set_cons_zero]
  refine wpAnyH_takeD (i := 25) (v := .bool false) (some 30) rfl rfl (by kernel_rfl) (by kernel_rfl) (by kernel_rfl) (fun _ _ _ h => h) (Or.inl ⟨by rfl, ?_⟩) SV ?_
  · intro X hX; go_simp
  try simp only [Act.put, List.setIfInBounds_toArray, List.set_cons_succ, List.set_cons_zero]
  refine wpAnyH_takeD (i := 26) (v := .bool false) (some 4) rfl rfl (by kernel_rfl) (by kernel_rfl) (by kernel_rfl) (fun _ _ _ h => h) (Or.inl ⟨by rfl, ?_⟩) SV ?_
  · intro X hX; go_simp
  try simp only [Act.put, List.setIfInBounds_toArray, List.set_cons_succ, List.set_cons_zero]
  refine wpAnyH_done (by kernel_rfl) ?_ _
  go_wp2
  go_ret
  exact ⟨rfl, HB0.out.trans (SV.out.mono HB0.out.size)⟩
set_option maxRecDepth 100000 in
set_option maxHeartbeats 4000000 in
theorem has_1 (px py c r : Nat) (g0 g1 : Int) (q : Pz) (w : World) (hq : q.ok) (hc : c ≤ 10000) (hr : r ≤ 10000) (k1 : 0 < q.w) (k2 : liesB q.c q.w c = false) :
    Calls Try.prog 12 #[netV px py c r g0 g1, .agg q.cells.toArray] w fun e w' => e = .returned (.bool false) ∧ Below w.heap.size w w' := by
  have HCO := Lib.hid (fun X => cols_any px py c r g0 g1 X hc)
  have HRO := Lib.hid (fun X => rows_any px py c r g0 g1 X hr)
  have HL1 := Lib.hid (fun X => lies_below q.c q.w c X (by omega) (by omega) hq.2.2.1.2 hq.2.2.1.1)
  rw [k2] at HL1
  unfold netV at *
  obtain ⟨pn, pr, pc, ph, pw⟩ := q
  dsimp only [Pz.cells] at *
  have kw : decide (0 < pw) = true := by simp; omega
  generalize floatOfInt .f64 g0 = fx at *
  generalize floatOfInt .f64 g1 = fy at *
  clear hq hc hr
  obtain ⟨gn, hgn⟩ : ∃ gn, w.heap.size = gn := ⟨_, rfl⟩
  have N1 := whole_new w [.slice (some ⟨px, 0, none⟩) (c + 1) (c + 1), .slice (some ⟨py, 0, none⟩) (r + 1) (r + 1), .complex .f64 fx 0, .complex .f64 0 fy] 45 gn hgn.symm
  have N2 := N1.alloc (.cells #[.int .i64 pn, .int .i64 pr, .int .i64 pc, .int .i64 ph, .int .i64 pw] 27)
  have P2 := whole_new (w.alloc (.cells #[.slice (some ⟨px, 0, none⟩) (c + 1) (c + 1), .slice (some ⟨py, 0, none⟩) (r + 1) (r + 1), .complex .f64 fx 0, .complex .f64 0 fy] 45)) [.int .i64 pn, .int .i64 pr, .int .i64 pc, .int .i64 ph, .int .i64 pw] 27 (gn + 1) (by simp [hgn])
  obtain ⟨W0, hW0⟩ : ∃ W0, (w.alloc (.cells #[.slice (some ⟨px, 0, none⟩) (c + 1) (c + 1), .slice (some ⟨py, 0, none⟩) (r + 1) (r + 1), .complex .f64 fx 0, .complex .f64 0 fy] 45)).alloc (.cells #[.int .i64 pn, .int .i64 pr, .int .i64 pc, .int .i64 ph, .int .i64 pw] 27) = W0 := ⟨_, rfl⟩
  have HB0 : Hid (Below w.heap.size w W0) := Lib.hid (by rw [← hW0]; exact ((Below.refl _ w).alloc (Nat.le_refl _) _).alloc (by simp) _)
  have N2' : Whole W0 gn 45 [.slice (some ⟨px, 0, none⟩) (c + 1) (c + 1), .slice (some ⟨py, 0, none⟩) (r + 1) (r + 1), .complex .f64 fx 0, .complex .f64 0 fy] := by rw [← hW0]; exact N2
  have P2' : Whole W0 (gn + 1) 27 [.int .i64 pn, .int .i64 pr, .int .i64 pc, .int .i64 ph, .int .i64 pw] := by rw [← hW0]; exact P2
  have n0 := N2'.cellAt 0
  have n1 := N2'.cellAt 1
  have n2 := N2'.cellAt 2
  have n3 := N2'.cellAt 3
  have p1 := P2'.cellAt 1
  have p2 := P2'.cellAt 2
  have p3 := P2'.cellAt 3
  have p4 := P2'.cellAt 4
  have lgn := N2'.lt
  obtain ⟨gp, hgp⟩ : ∃ gp, gn + 1 = gp := ⟨_, rfl⟩
  have lgp := P2'.lt
  rw [hgp] at p1 p2 p3 p4 lgp
  simp only [List.getElem?_cons_zero, List.getElem?_cons_succ] at n0 n1 n2 n3 p1 p2 p3 p4
  clear N1 N2 P2 N2' P2'
  go_enter Try.func12, Try.ntmps12
  go_wp2
  try rw [hW0]
  try simp only [hgn, hgp]
  clear hW0 hgn hgp
  refine region_held_atE (S := fun X => Hid (Below W0.heap.size W0 X)) (by kernel_rfl) (fun w9 hw9 => ?_)
  have SV : Hid (Below W0.heap.size W0 w9) := Lib.hid (by rw [← hw9]; exact (Below.refl _ _).drew)
  clear hw9
  try simp only [Act.put, List.setIfInBounds_toArray, List.set_cons_succ, List.set_cons_zero]
  refine wpAnyH_takeD (i := 0) (v := .pointer (some ⟨gp, 4, none⟩)) (some 5) rfl rfl (by kernel_rfl) (by kernel_rfl) (by kernel_rfl) (fun _ _ _ h => h) (Or.inl ⟨by rfl, ?_⟩) SV ?_
  · intro X hX; go_simp
  try simp only [Act.put, List.setIfInBounds_toArray, List.set_cons_succ, List.set_cons_zero]
  refine wpAnyH_takeD (i := 1) (v := .int .i64 pw) (some 6) rfl rfl (by kernel_rfl) (by kernel_rfl) (by kernel_rfl) (fun _ _ _ h => h) (Or.inl ⟨by rfl, ?_⟩) SV ?_
  · intro X hX; have o0 := (hX.out.cell (p := ⟨gp, 4, none⟩) lgp).trans p4; have lX := hX.out.size; have lbX : gp < X.heap.size := (by omega); go_simp
  try simp only [Act.put, List.setIfInBounds_toArray, List.set_cons_succ, List.set_cons_zero]
  refine wpAnyH_takeD (i := 2) (v := .bool true) (some 7) rfl rfl (by kernel_rfl) (by kernel_rfl) (by kernel_rfl) (fun _ _ _ h => h) (Or.inl ⟨by rfl, ?_⟩) SV ?_
  · intro X hX; go_simp
  try simp only [Act.put, List.setIfInBounds_toArray, List.set_cons_succ, List.set_cons_zero]
  refine wpAnyH_takeD (i := 3) (v := .bool true) (some 8) rfl rfl (by kernel_rfl) (by kernel_rfl) (by kernel_rfl) (fun _ _ _ h => h) (Or.inl ⟨by rfl, ?_⟩) SV ?_
  · intro X hX; go_simp
  try simp only [Act.put, List.setIfInBounds_toArray, List.set_cons_succ, List.set_cons_zero]
  refine wpAnyH_takeD (i := 4) (v := .pointer (some ⟨gp, 2, none⟩)) (some 9) rfl rfl (by kernel_rfl) (by kernel_rfl) (by kernel_rfl) (fun _ _ _ h => h) (Or.inl ⟨by rfl, ?_⟩) SV ?_
  · intro X hX; go_simp
  try simp only [Act.put, List.setIfInBounds_toArray, List.set_cons_succ, List.set_cons_zero]
  refine wpAnyH_takeD (i := 5) (v := .int .i64 pc) (some 10) rfl rfl (by kernel_rfl) (by kernel_rfl) (by kernel_rfl) (fun _ _ _ h => h) (Or.inl ⟨by rfl, ?_⟩) SV ?_
  · intro X hX; have o0 := (hX.out.cell (p := ⟨gp, 2, none⟩) lgp).trans p2; have lX := hX.out.size; have lbX : gp < X.heap.size := (by omega); go_simp
  try simp only [Act.put, List.setIfInBounds_toArray, List.set_cons_succ, List.set_cons_zero]
  refine wpAnyH_takeD (i := 6) (v := .pointer (some ⟨gp, 4, none⟩)) (some 11) rfl rfl (by kernel_rfl) (by kernel_rfl) (by kernel_rfl) (fun _ _ _ h => h) (Or.inl ⟨by rfl, ?_⟩) SV ?_
  · intro X hX; go_simp
  try simp only [Act.put, List.setIfInBounds_toArray, List.set_cons_succ, List.set_cons_zero]
  refine wpAnyH_takeD (i := 7) (v := .int .i64 pw) (some 12) rfl rfl (by kernel_rfl) (by kernel_rfl) (by kernel_rfl) (fun _ _ _ h => h) (Or.inl ⟨by rfl, ?_⟩) SV ?_
  · intro X hX; have o0 := (hX.out.cell (p := ⟨gp, 4, none⟩) lgp).trans p4; have lX := hX.out.size; have lbX : gp < X.heap.size := (by omega); go_simp
  try simp only [Act.put, List.setIfInBounds_toArray, List.set_cons_succ, List.set_cons_zero]
  refine wpAnyH_takeD (i := 8) (v := .agg #[.slice (some ⟨px, 0, none⟩) (c + 1) (c + 1), .slice (some ⟨py, 0, none⟩) (r + 1) (r + 1), .complex .f64 fx 0, .complex .f64 0 fy]) (some 13) rfl rfl (by kernel_rfl) (by kernel_rfl) (by kernel_rfl) (fun _ _ _ h => h) (Or.inl ⟨by rfl, ?_⟩) SV ?_
  · intro X hX; have o0 := (hX.out.cell (p := ⟨gn, 0, none⟩) lgn).trans n0; have o1 := (hX.out.cell (p := ⟨gn, 1, none⟩) lgn).trans n1; have o2 := (hX.out.cell (p := ⟨gn, 2, none⟩) lgn).trans n2; have o3 := (hX.out.cell (p := ⟨gn, 3, none⟩) lgn).trans n3; have lX := hX.out.size; have lbX : gn < X.heap.size := (by omega); go_simp
  try simp only [Act.put, List.setIfInBounds_toArray, List.set_cons_succ, List.set_cons_zero]
  refine wpAnyH_all (rs := [9]) (by kernel_rfl) (by simp) ?_
  intro ii hii; obtain rfl : ii = 9 := by simpa using hii
  clear hii
  refine wpOp_step rfl (fun K hK => ?_)
  go_simp
  refine (HCO.out _).mono ?_
  rintro e w1a ⟨rfl, hb1a⟩
  have S1a : Hid (Below W0.heap.size W0 w1a) := Lib.hid (SV.out.trans (hb1a.mono SV.out.size))
  refine hK _ _ ⟨S1a, ?_⟩
  clear hK K hb1a SV
  have SV := S1a
  clear S1a
  try simp only [Act.put, List.setIfInBounds_toArray, List.set_cons_succ, List.set_cons_zero]
  refine wpAnyH_all (rs := [10]) (by kernel_rfl) (by simp) ?_
  intro ii hii; obtain rfl : ii = 10 := by simpa using hii
  clear hii
  refine wpOp_step rfl (fun K hK => ?_)
  go_simp
  refine (HL1.out _).mono ?_
  rintro e w1b ⟨rfl, hb1b⟩
  have S1b : Hid (Below W0.heap.size W0 w1b) := Lib.hid (SV.out.trans (hb1b.mono SV.out.size))
  refine hK _ _ ⟨S1b, ?_⟩
  clear hK K hb1b SV
  have SV := S1b
  clear S1b
  try simp only [Act.put, List.setIfInBounds_toArray, List.set_cons_succ, List.set_cons_zero]
  refine wpAnyH_takeD (i := 11) (v := .bool false) (some 16) rfl rfl (by kernel_rfl) (by kernel_rfl) (by kernel_rfl) (fun _ _ _ h => h) (Or.inl ⟨by rfl, ?_⟩) SV ?_
  · intro X hX; go_simp
  try simp only [Act.put, List.setIfInBounds_toArray, List.set_cons_succ, List.set_cons_zero]
  refine wpAnyH_takeD (i := 12) (v := .bool false) (some 17) rfl rfl (by kernel_rfl) (by kernel_rfl) (by kernel_rfl) (fun _ _ _ h => h) (Or.inl ⟨by rfl, ?_⟩) SV ?_
  · intro X hX; go_simp
  try simp only [Act.put, List.setIfInBounds_toArray, List.set_cons_succ, List.set_cons_zero]
  refine wpAnyH_takeD (i := 13) (v := undef) (some 18) rfl rfl (by kernel_rfl) (by kernel_rfl) (by kernel_rfl) (fun _ _ _ h => h) (Or.inr ⟨by rfl, rfl⟩) SV ?_
  try simp only [Act.put, List.setIfInBounds_toArray, List.set_cons_succ, List.set_cons_zero]
  refine wpAnyH_takeD (i := 14) (v := undef) (some 19) rfl rfl (by kernel_rfl) (by kernel_rfl) (by kernel_rfl) (fun _ _ _ h => h) (Or.inr ⟨by rfl, rfl⟩) SV ?_
  try simp only [Act.put, List.setIfInBounds_toArray, List.set_cons_succ, List.set_cons_zero]
  refine wpAnyH_takeD (i := 15) (v := undef) (some 20) rfl rfl (by kernel_rfl) (by kernel_rfl) (by kernel_rfl) (fun _ _ _ h => h) (Or.inr ⟨by rfl, rfl⟩) SV ?_
  try simp only [Act.put, List.setIfInBounds_toArray, List.set_cons_succ, List.set_cons_zero]
  refine wpAnyH_takeD (i := 16) (v := .bool false) (some 21) rfl rfl (by kernel_rfl) (by kernel_rfl) (by kernel_rfl) (fun _ _ _ h => h) (Or.inl ⟨by rfl, ?_⟩) SV ?_
  · intro X hX; go_simp
  try simp only [Act.put, List.setIfInBounds_toArray, List.set_cons_succ, List.set_cons_zero]
  refine wpAnyH_takeD (i := 17) (v := .bool false) (some 22) rfl rfl (by kernel_rfl) (by kernel_rfl) (by kernel_rfl) (fun _ _ _ h => h) (Or.inl ⟨by rfl, ?_⟩) SV ?_
  · intro X hX; go_simp
  try simp only [Act.put, List.setIfInBounds_toArray, List.set_cons_succ, List.set_cons_zero]
  refine wpAnyH_takeD (i := 18) (v := undef) (some 23) rfl rfl (by kernel_rfl) (by kernel_rfl) (by kernel_rfl) (fun _ _ _ h => h) (Or.inr ⟨by rfl, rfl⟩) SV ?_
  try simp only [Act.put, List.setIfInBounds_toArray, List.set_cons_succ, List.set_cons_zero]
  refine wpAnyH_takeD (i := 19) (v := undef) (some 24) rfl rfl (by kernel_rfl) (by kernel_rfl) (by kernel_rfl) (fun _ _ _ h => h) (Or.inr ⟨by rfl, rfl⟩) SV ?_
  try simp only [Act.put, List.setIfInBounds_toArray, List.set_cons_succ, List.set_cons_zero]
  refine wpAnyH_takeD (i := 20) (v := undef) (some 25) rfl rfl (by kernel_rfl) (by kernel_rfl) (by kernel_rfl) (fun _ _ _ h => h) (Or.inr ⟨by rfl, rfl⟩) SV ?_
  try simp only [Act.put, List.setIfInBounds_toArray, List.set_cons_succ, List.set_cons_zero]
  refine wpAnyH_takeD (i := 21) (v := undef) (some 26) rfl rfl (by kernel_rfl) (by kernel_rfl) (by kernel_rfl) (fun _ _ _ h => h) (Or.inr ⟨by rfl, rfl⟩) SV ?_
  try simp only [Act.put, List.setIfInBounds_toArray, List.set_cons_succ, List.set_cons_zero]
  refine wpAnyH_takeD (i := 22) (v := undef) (some 27) rfl rfl (by kernel_rfl) (by kernel_rfl) (by kernel_rfl) (fun _ _ _ h => h) (Or.inr ⟨by rfl, rfl⟩) SV ?_
  try simp only [Act.put, List.setIfInBounds_toArray, List.set_cons_succ, List.set_cons_zero]
  refine wpAnyH_takeD (i := 23) (v := undef) (some 28) rfl rfl (by kernel_rfl) (by kernel_rfl) (by kernel_rfl) (fun _ _ _ h => h) (Or.inr ⟨by rfl, rfl⟩) SV ?_
  try simp only [Act.put, List.setIfInBounds_toArray, List.set_cons_succ, List.set_cons_zero]
  refine wpAnyH_takeD (i := 24) (v := undef) (some 29) rfl rfl (by kernel_rfl) (by kernel_rfl) (by kernel_rfl) (fun _ _ _ h => h) (Or.inr ⟨by rfl, rfl⟩) SV ?_
  try simp only [Act.put, List.setIfInBounds_toArray, List.set_cons_succ, List.set_cons_zero]
  refine wpAnyH_takeD (i := 25) (v := .bool false) (some 30) rfl rfl (by kernel_rfl) (by kernel_rfl) (by kernel_rfl) (fun _ _ _ h => h) (Or.inl ⟨by rfl, ?_⟩) SV ?_
  · intro X hX; go_simp
  try simp only [Act.put, List.setIfInBounds_toArray, List.set_cons_succ, List.set_cons_zero]
  refine wpAnyH_takeD (i := 26) (v := .bool false) (some 4) rfl rfl (by kernel_rfl) (by kernel_rfl) (by kernel_rfl) (fun _ _ _ h => h) (Or.inl ⟨by rfl, ?_⟩) SV ?_
  · intro X hX; go_simp
  try simp only [Act.put, List.setIfInBounds_toArray, List.set_cons_succ, List.set_cons_zero]
  refine wpAnyH_done (by kernel_rfl) ?_ _
  go_wp2
  go_ret
  exact ⟨rfl, HB0.out.trans (SV.out.mono HB0.out.size)⟩
set_option maxRecDepth 100000 in
set_option maxHeartbeats 4000000 in
theorem has_2 (px py c r : Nat) (g0 g1 : Int) (q : Pz) (w : World) (hq : q.ok) (hc : c ≤ 10000) (hr : r ≤ 10000) (k1 : 0 < q.w) (k2 : liesB q.c q.w c = true) (k3 : ¬ 0 < q.h) :
    Calls Try.prog 12 #[netV px py c r g0 g1, .agg q.cells.toArray] w fun e w' => e = .returned (.bool false) ∧ Below w.heap.size w w' := by
  have HCO := Lib.hid (fun X => cols_any px py c r g0 g1 X hc)
  have HRO := Lib.hid (fun X => rows_any px py c r g0 g1 X hr)
  have HL1 := Lib.hid (fun X => lies_below q.c q.w c X (by omega) (by omega) hq.2.2.1.2 hq.2.2.1.1)
  rw [k2] at HL1
  unfold netV at *
  obtain ⟨pn, pr, pc, ph, pw⟩ := q
  dsimp only [Pz.cells] at *
  have kw : decide (0 < pw) = true := by simp; omega
  have kh : decide (0 < ph) = false := by simp; omega
  generalize floatOfInt .f64 g0 = fx at *
  generalize floatOfInt .f64 g1 = fy at *
  clear hq hc hr
  obtain ⟨gn, hgn⟩ : ∃ gn, w.heap.size = gn := ⟨_, rfl⟩
  have N1 := whole_new w [.slice (some ⟨px, 0, none⟩) (c + 1) (c + 1), .slice (some ⟨py, 0, none⟩) (r + 1) (r + 1), .complex .f64 fx 0, .complex .f64 0 fy] 45 gn hgn.symm
  have N2 := N1.alloc (.cells #[.int .i64 pn, .int .i64 pr, .int .i64 pc, .int .i64 ph, .int .i64 pw] 27)
  have P2 := whole_new (w.alloc (.cells #[.slice (some ⟨px, 0, none⟩) (c + 1) (c + 1), .slice (some ⟨py, 0, none⟩) (r + 1) (r + 1), .complex .f64 fx 0, .complex .f64 0 fy] 45)) [.int .i64 pn, .int .i64 pr, .int .i64 pc, .int .i64 ph, .int .i64 pw] 27 (gn + 1) (by simp [hgn])
  obtain ⟨W0, hW0⟩ : ∃ W0, (w.alloc (.cells #[.slice (some ⟨px, 0, none⟩) (c + 1) (c + 1), .slice (some ⟨py, 0, none⟩) (r + 1) (r + 1), .complex .f64 fx 0, .complex .f64 0 fy] 45)).alloc (.cells #[.int .i64 pn, .int .i64 pr, .int .i64 pc, .int .i64 ph, .int .i64 pw] 27) = W0 := ⟨_, rfl⟩
  have HB0 : Hid (Below w.heap.size w W0) := Lib.hid (by rw [← hW0]; exact ((Below.refl _ w).alloc (Nat.le_refl _) _).alloc (by simp) _)
  have N2' : Whole W0 gn 45 [.slice (some ⟨px, 0, none⟩) (c + 1) (c + 1), .slice (some ⟨py, 0, none⟩) (r + 1) (r + 1), .complex .f64 fx 0, .complex .f64 0 fy] := by rw [← hW0]; exact N2
  have P2' : Whole W0 (gn + 1) 27 [.int .i64 pn, .int .i64 pr, .int .i64 pc, .int .i64 ph, .int .i64 pw] := by rw [← hW0]; exact P2
  have n0 := N2'.cellAt 0
  have n1 := N2'.cellAt 1
  have n2 := N2'.cellAt 2
  have n3 := N2'.cellAt 3
  have p1 := P2'.cellAt 1
  have p2 := P2'.cellAt 2
  have p3 := P2'.cellAt 3
  have p4 := P2'.cellAt 4
  have lgn := N2'.lt
  obtain ⟨gp, hgp⟩ : ∃ gp, gn + 1 = gp := ⟨_, rfl⟩
  have lgp := P2'.lt
  rw [hgp] at p1 p2 p3 p4 lgp
  simp only [List.getElem?_cons_zero, List.getElem?_cons_succ] at n0 n1 n2 n3 p1 p2 p3 p4
  clear N1 N2 P2 N2' P2'
  go_enter Try.func12, Try.ntmps12
  go_wp2
  try rw [hW0]
  try simp only [hgn, hgp]
  clear hW0 hgn hgp
  refine region_held_atE (S := fun X => Hid (Below W0.heap.size W0 X)) (by kernel_rfl) (fun w9 hw9 => ?_)
  have SV : Hid (Below W0.heap.size W0 w9) := Lib.hid (by rw [← hw9]; exact (Below.refl _ _).drew)
  clear hw9
  try simp only [Act.put, List.setIfInBounds_toArray, List.set_cons_succ, List.set_cons_zero]
  refine wpAnyH_takeD (i := 0) (v := .pointer (some ⟨gp, 4, none⟩)) (some 5) rfl rfl (by kernel_rfl) (by kernel_rfl) (by kernel_rfl) (fun _ _ _ h => h) (Or.inl ⟨by rfl, ?_⟩) SV ?_
  · intro X hX; go_simp
  try simp only [Act.put, List.setIfInBounds_toArray, List.set_cons_succ, List.set_cons_zero]
  refine wpAnyH_takeD (i := 1) (v := .int .i64 pw) (some 6) rfl rfl (by kernel_rfl) (by kernel_rfl) (by kernel_rfl) (fun _ _ _ h => h) (Or.inl ⟨by rfl, ?_⟩) SV ?_
  · intro X hX; have o0 := (hX.out.cell (p := ⟨gp, 4, none⟩) lgp).trans p4; have lX := hX.out.size; have lbX : gp < X.heap.size := (by omega); go_simp
  try simp only [Act.put, List.setIfInBounds_toArray, List.set_cons_succ, List.set_cons_zero]
  refine wpAnyH_takeD (i := 2) (v := .bool true) (some 7) rfl rfl (by kernel_rfl) (by kernel_rfl) (by kernel_rfl) (fun _ _ _ h => h) (Or.inl ⟨by rfl, ?_⟩) SV ?_
  · intro X hX; go_simp
  try simp only [Act.put, List.setIfInBounds_toArray, List.set_cons_succ, List.set_cons_zero]
  refine wpAnyH_takeD (i := 3) (v := .bool true) (some 8) rfl rfl (by kernel_rfl) (by kernel_rfl) (by kernel_rfl) (fun _ _ _ h => h) (Or.inl ⟨by rfl, ?_⟩) SV ?_
  · intro X hX; go_simp
  try simp only [Act.put, List.setIfInBounds_toArray, List.set_cons_succ, List.set_cons_zero]
  refine wpAnyH_takeD (i := 4) (v := .pointer (some ⟨gp, 2, none⟩)) (some 9) rfl rfl (by kernel_rfl) (by kernel_rfl) (by kernel_rfl) (fun _ _ _ h => h) (Or.inl ⟨by rfl, ?_⟩) SV ?_
  · intro X hX; go_simp
  try simp only [Act.put, List.setIfInBounds_toArray, List.set_cons_succ, List.set_cons_zero]
  refine wpAnyH_takeD (i := 5) (v := .int .i64 pc) (some 10) rfl rfl (by kernel_rfl) (by kernel_rfl) (by kernel_rfl) (fun _ _ _ h => h) (Or.inl ⟨by rfl, ?_⟩) SV ?_
  · intro X hX; have o0 := (hX.out.cell (p := ⟨gp, 2, none⟩) lgp).trans p2; have lX := hX.out.size; have lbX : gp < X.heap.size := (by omega); go_simp
  try simp only [Act.put, List.setIfInBounds_toArray, List.set_cons_succ, List.set_cons_zero]
  refine wpAnyH_takeD (i := 6) (v := .pointer (some ⟨gp, 4, none⟩)) (some 11) rfl rfl (by kernel_rfl) (by kernel_rfl) (by kernel_rfl) (fun _ _ _ h => h) (Or.inl ⟨by rfl, ?_⟩) SV ?_
  · intro X hX; go_simp
  try simp only [Act.put, List.setIfInBounds_toArray, List.set_cons_succ, List.set_cons_zero]
  refine wpAnyH_takeD (i := 7) (v := .int .i64 pw) (some 12) rfl rfl (by kernel_rfl) (by kernel_rfl) (by kernel_rfl) (fun _ _ _ h => h) (Or.inl ⟨by rfl, ?_⟩) SV ?_
  · intro X hX; have o0 := (hX.out.cell (p := ⟨gp, 4, none⟩) lgp).trans p4; have lX := hX.out.size; have lbX : gp < X.heap.size := (by omega); go_simp
  try simp only [Act.put, List.setIfInBounds_toArray, List.set_cons_succ, List.set_cons_zero]
  refine wpAnyH_takeD (i := 8) (v := .agg #[.slice (some ⟨px, 0, none⟩) (c + 1) (c + 1), .slice (some ⟨py, 0, none⟩) (r + 1) (r + 1), .complex .f64 fx 0, .complex .f64 0 fy]) (some 13) rfl rfl (by kernel_rfl) (by kernel_rfl) (by kernel_rfl) (fun _ _ _ h => h) (Or.inl ⟨by rfl, ?_⟩) SV ?_
  · intro X hX; have o0 := (hX.out.cell (p := ⟨gn, 0, none⟩) lgn).trans n0; have o1 := (hX.out.cell (p := ⟨gn, 1, none⟩) lgn).trans n1; have o2 := (hX.out.cell (p := ⟨gn, 2, none⟩) lgn).trans n2; have o3 := (hX.out.cell (p := ⟨gn, 3, none⟩) lgn).trans n3; have lX := hX.out.size; have lbX : gn < X.heap.size := (by omega); go_simp
  try simp only [Act.put, List.setIfInBounds_toArray, List.set_cons_succ, List.set_cons_zero]
  refine wpAnyH_all (rs := [9]) (by kernel_rfl) (by simp) ?_
  intro ii hii; obtain rfl : ii = 9 := by simpa using hii
  clear hii
  refine wpOp_step rfl (fun K hK => ?_)
  go_simp
  refine (HCO.out _).mono ?_
  rintro e w1a ⟨rfl, hb1a⟩
  have S1a : Hid (Below W0.heap.size W0 w1a) := Lib.hid (SV.out.trans (hb1a.mono SV.out.size))
  refine hK _ _ ⟨S1a, ?_⟩
  clear hK K hb1a SV
  have SV := S1a
  clear S1a
  try simp only [Act.put, List.setIfInBounds_toArray, List.set_cons_succ, List.set_cons_zero]
  refine wpAnyH_all (rs := [10]) (by kernel_rfl) (by simp) ?_
  intro ii hii; obtain rfl : ii = 10 := by simpa using hii
  clear hii
  refine wpOp_step rfl (fun K hK => ?_)
  go_simp
  refine (HL1.out _).mono ?_
  rintro e w1b ⟨rfl, hb1b⟩
  have S1b : Hid (Below W0.heap.size W0 w1b) := Lib.hid (SV.out.trans (hb1b.mono SV.out.size))
  refine hK _ _ ⟨S1b, ?_⟩
  clear hK K hb1b SV
  have SV := S1b
  clear S1b
  try simp only [Act.put, List.setIfInBounds_toArray, List.set_cons_succ, List.set_cons_zero]
  refine wpAnyH_takeD (i := 11) (v := .bool true) (some 16) rfl rfl (by kernel_rfl) (by kernel_rfl) (by kernel_rfl) (fun _ _ _ h => h) (Or.inl ⟨by rfl, ?_⟩) SV ?_
  · intro X hX; go_simp
  try simp only [Act.put, List.setIfInBounds_toArray, List.set_cons_succ, List.set_cons_zero]
  refine wpAnyH_takeD (i := 12) (v := .bool true) (some 17) rfl rfl (by kernel_rfl) (by kernel_rfl) (by kernel_rfl) (fun _ _ _ h => h) (Or.inl ⟨by rfl, ?_⟩) SV ?_
  · intro X hX; go_simp
  try simp only [Act.put, List.setIfInBounds_toArray, List.set_cons_succ, List.set_cons_zero]
  refine wpAnyH_takeD (i := 13) (v := .pointer (some ⟨gp, 3, none⟩)) (some 18) rfl rfl (by kernel_rfl) (by kernel_rfl) (by kernel_rfl) (fun _ _ _ h => h) (Or.inl ⟨by rfl, ?_⟩) SV ?_
  · intro X hX; go_simp
  try simp only [Act.put, List.setIfInBounds_toArray, List.set_cons_succ, List.set_cons_zero]
  refine wpAnyH_takeD (i := 14) (v := .int .i64 ph) (some 19) rfl rfl (by kernel_rfl) (by kernel_rfl) (by kernel_rfl) (fun _ _ _ h => h) (Or.inl ⟨by rfl, ?_⟩) SV ?_
  · intro X hX; have o0 := (hX.out.cell (p := ⟨gp, 3, none⟩) lgp).trans p3; have lX := hX.out.size; have lbX : gp < X.heap.size := (by omega); go_simp
  try simp only [Act.put, List.setIfInBounds_toArray, List.set_cons_succ, List.set_cons_zero]
  refine wpAnyH_takeD (i := 15) (v := .bool false) (some 20) rfl rfl (by kernel_rfl) (by kernel_rfl) (by kernel_rfl) (fun _ _ _ h => h) (Or.inl ⟨by rfl, ?_⟩) SV ?_
  · intro X hX; go_simp
  try simp only [Act.put, List.setIfInBounds_toArray, List.set_cons_succ, List.set_cons_zero]
  refine wpAnyH_takeD (i := 16) (v := .bool false) (some 21) rfl rfl (by kernel_rfl) (by kernel_rfl) (by kernel_rfl) (fun _ _ _ h => h) (Or.inl ⟨by rfl, ?_⟩) SV ?_
  · intro X hX; go_simp
  try simp only [Act.put, List.setIfInBounds_toArray, List.set_cons_succ, List.set_cons_zero]
  refine wpAnyH_takeD (i := 17) (v := .bool false) (some 22) rfl rfl (by kernel_rfl) (by kernel_rfl) (by kernel_rfl) (fun _ _ _ h => h) (Or.inl ⟨by rfl, ?_⟩) SV ?_
  · intro X hX; go_simp
  try simp only [Act.put, List.setIfInBounds_toArray, List.set_cons_succ, List.set_cons_zero]
  refine wpAnyH_takeD (i := 18) (v := undef) (some 23) rfl rfl (by kernel_rfl) (by kernel_rfl) (by kernel_rfl) (fun _ _ _ h => h) (Or.inr ⟨by rfl, rfl⟩) SV ?_
  try simp only [Act.put, List.setIfInBounds_toArray, List.set_cons_succ, List.set_cons_zero]
  refine wpAnyH_takeD (i := 19) (v := undef) (some 24) rfl rfl (by kernel_rfl) (by kernel_rfl) (by kernel_rfl) (fun _ _ _ h => h) (Or.inr ⟨by rfl, rfl⟩) SV ?_
  try simp only [Act.put, List.setIfInBounds_toArray, List.set_cons_succ, List.set_cons_zero]
  refine wpAnyH_takeD (i := 20) (v := undef) (some 25) rfl rfl (by kernel_rfl) (by kernel_rfl) (by kernel_rfl) (fun _ _ _ h => h) (Or.inr ⟨by rfl, rfl⟩) SV ?_
  try simp only [Act.put, List.setIfInBounds_toArray, List.set_cons_succ, List.set_cons_zero]
  refine wpAnyH_takeD (i := 21) (v := undef) (some 26) rfl rfl (by kernel_rfl) (by kernel_rfl) (by kernel_rfl) (fun _ _ _ h => h) (Or.inr ⟨by rfl, rfl⟩) SV ?_
  try simp only [Act.put, List.setIfInBounds_toArray, List.set_cons_succ, List.set_cons_zero]
  refine wpAnyH_takeD (i := 22) (v := undef) (some 27) rfl rfl (by kernel_rfl) (by kernel_rfl) (by kernel_rfl) (fun _ _ _ h => h) (Or.inr ⟨by rfl, rfl⟩) SV ?_
  try simp only [Act.put, List.setIfInBounds_toArray, List.set_cons_succ, List.set_cons_zero]
  refine wpAnyH_takeD (i := 23) (v := undef) (some 28) rfl rfl (by kernel_rfl) (by kernel_rfl) (by kernel_rfl) (fun _ _ _ h => h) (Or.inr ⟨by rfl, rfl⟩) SV ?_
  try simp only [Act.put, List.setIfInBounds_toArray, List.set_cons_succ, List.set_cons_zero]
  refine wpAnyH_takeD (i := 24) (v := undef) (some 29) rfl rfl (by kernel_rfl) (by kernel_rfl) (by kernel_rfl) (fun _ _ _ h => h) (Or.inr ⟨by rfl, rfl⟩) SV ?_
  try simp only [Act.put, List.setIfInBounds_toArray, List.set_cons_succ, List.set_cons_zero]
  refine wpAnyH_takeD (i := 25) (v := .bool false) (some 30) rfl rfl (by kernel_rfl) (by kernel_rfl) (by kernel_rfl) (fun _ _ _ h => h) (Or.inl ⟨by rfl, ?_⟩) SV ?_
  · intro X hX; go_simp
  try simp only [Act.put, List.setIfInBounds_toArray, List.set_cons_succ, List.set_cons_zero]
  refine wpAnyH_takeD (i := 26) (v := .bool false) (some 4) rfl rfl (by kernel_rfl) (by kernel_rfl) (by kernel_rfl) (fun _ _ _ h => h) (Or.inl ⟨by rfl, ?_⟩) SV ?_
  · intro X hX; go_simp
  try simp only [Act.put, List.setIfInBounds_toArray, List.set_cons_succ, List.set_cons_zero]
  refine wpAnyH_done (by kernel_rfl) ?_ _
  go_wp2
  go_ret
  exact ⟨rfl, HB0.out.trans (SV.out.mono HB0.out.size)⟩
set_option maxRecDepth 100000 in
set_option maxHeartbeats 4000000 in
theorem has_3 (px py c r : Nat) (g0 g1 : Int) (q : Pz) (w : World) (hq : q.ok) (hc : c ≤ 10000) (hr : r ≤ 10000) (k1 : 0 < q.w) (k2 : liesB q.c q.w c = true) (k3 : 0 < q.h) :
    Calls Try.prog 12 #[netV px py c r g0 g1, .agg q.cells.toArray] w fun e w' => e = .returned (.bool (liesB q.r q.h r)) ∧ Below w.heap.size w w' := by
  have HCO := Lib.hid (fun X => cols_any px py c r g0 g1 X hc)
  have HRO := Lib.hid (fun X => rows_any px py c r g0 g1 X hr)
  have HL1 := Lib.hid (fun X => lies_below q.c q.w c X (by omega) (by omega) hq.2.2.1.2 hq.2.2.1.1)
  rw [k2] at HL1
  have HL2 := Lib.hid (fun X => lies_below q.r q.h r X (by omega) (by omega) hq.2.1.2 hq.2.1.1)
  unfold netV at *
  obtain ⟨pn, pr, pc, ph, pw⟩ := q
  dsimp only [Pz.cells] at *
  generalize liesB pr ph r = ans at *
  have kw : decide (0 < pw) = true := by simp; omega
  have kh : decide (0 < ph) = true := by simp; omega
  generalize floatOfInt .f64 g0 = fx at *
  generalize floatOfInt .f64 g1 = fy at *
  clear hq hc hr
  obtain ⟨gn, hgn⟩ : ∃ gn, w.heap.size = gn := ⟨_, rfl⟩
  have N1 := whole_new w [.slice (some ⟨px, 0, none⟩) (c + 1) (c + 1), .slice (some ⟨py, 0, none⟩) (r + 1) (r + 1), .complex .f64 fx 0, .complex .f64 0 fy] 45 gn hgn.symm
  have N2 := N1.alloc (.cells #[.int .i64 pn, .int .i64 pr, .int .i64 pc, .int .i64 ph, .int .i64 pw] 27)
  have P2 := whole_new (w.alloc (.cells #[.slice (some ⟨px, 0, none⟩) (c + 1) (c + 1), .slice (some ⟨py, 0, none⟩) (r + 1) (r + 1), .complex .f64 fx 0, .complex .f64 0 fy] 45)) [.int .i64 pn, .int .i64 pr, .int .i64 pc, .int .i64 ph, .int .i64 pw] 27 (gn + 1) (by simp [hgn])
  obtain ⟨W0, hW0⟩ : ∃ W0, (w.alloc (.cells #[.slice (some ⟨px, 0, none⟩) (c + 1) (c + 1), .slice (some ⟨py, 0, none⟩) (r + 1) (r + 1), .complex .f64 fx 0, .complex .f64 0 fy] 45)).alloc (.cells #[.int .i64 pn, .int .i64 pr, .int .i64 pc, .int .i64 ph, .int .i64 pw] 27) = W0 := ⟨_, rfl⟩
  have HB0 : Hid (Below w.heap.size w W0) := Lib.hid (by rw [← hW0]; exact ((Below.refl _ w).alloc (Nat.le_refl _) _).alloc (by simp) _)
  have N2' : Whole W0 gn 45 [.slice (some ⟨px, 0, none⟩) (c + 1) (c + 1), .slice (some ⟨py, 0, none⟩) (r + 1) (r + 1), .complex .f64 fx 0, .complex .f64 0 fy] := by rw [← hW0]; exact N2
  have P2' : Whole W0 (gn + 1) 27 [.int .i64 pn, .int .i64 pr, .int .i64 pc, .int .i64 ph, .int .i64 pw] := by rw [← hW0]; exact P2
  have n0 := N2'.cellAt 0
  have n1 := N2'.cellAt 1
  have n2 := N2'.cellAt 2
  have n3 := N2'.cellAt 3
  have p1 := P2'.cellAt 1
  have p2 := P2'.cellAt 2
  have p3 := P2'.cellAt 3
  have p4 := P2'.cellAt 4
  have lgn := N2'.lt
  obtain ⟨gp, hgp⟩ : ∃ gp, gn + 1 = gp := ⟨_, rfl⟩
  have lgp := P2'.lt
  rw [hgp] at p1 p2 p3 p4 lgp
  simp only [List.getElem?_cons_zero, List.getElem?_cons_succ] at n0 n1 n2 n3 p1 p2 p3 p4
  clear N1 N2 P2 N2' P2'
  go_enter Try.func12, Try.ntmps12
  go_wp2
  try rw [hW0]
  try simp only [hgn, hgp]
  clear hW0 hgn hgp
  refine region_held_atE (S := fun X => Hid (Below W0.heap.size W0 X)) (by kernel_rfl) (fun w9 hw9 => ?_)
  have SV : Hid (Below W0.heap.size W0 w9) := Lib.hid (by rw [← hw9]; exact (Below.refl _ _).drew)
  clear hw9
  try simp only [Act.put, List.setIfInBounds_toArray, List.set_cons_succ, List.set_cons_zero]
  refine wpAnyH_takeD (i := 0) (v := .pointer (some ⟨gp, 4, none⟩)) (some 5) rfl rfl (by kernel_rfl) (by kernel_rfl) (by kernel_rfl) (fun _ _ _ h => h) (Or.inl ⟨by rfl, ?_⟩) SV ?_
  · intro X hX; go_simp
  try simp only [Act.put, List.setIfInBounds_toArray, List.set_cons_succ, List.set_cons_zero]
  refine wpAnyH_takeD (i := 1) (v := .int .i64 pw) (some 6) rfl rfl (by kernel_rfl) (by kernel_rfl) (by kernel_rfl) (fun _ _ _ h => h) (Or.inl ⟨by rfl, ?_⟩) SV ?_
  · intro X hX; have o0 := (hX.out.cell (p := ⟨gp, 4, none⟩) lgp).trans p4; have lX := hX.out.size; have lbX : gp < X.heap.size := (by omega); go_simp
  try simp only [Act.put, List.setIfInBounds_toArray, List.set_cons_succ, List.set_cons_zero]
  refine wpAnyH_takeD (i := 2) (v := .bool true) (some 7) rfl rfl (by kernel_rfl) (by kernel_rfl) (by kernel_rfl) (fun _ _ _ h => h) (Or.inl ⟨by rfl, ?_⟩) SV ?_
  · intro X hX; go_simp
  try simp only [Act.put, List.setIfInBounds_toArray, List.set_cons_succ, List.set_cons_zero]
  refine wpAnyH_takeD (i := 3) (v := .bool true) (some 8) rfl rfl (by kernel_rfl) (by kernel_rfl) (by kernel_rfl) (fun _ _ _ h => h) (Or.inl ⟨by rfl, ?_⟩) SV ?_
  · intro X hX; go_simp
  try simp only [Act.put, List.setIfInBounds_toArray, List.set_cons_succ, List.set_cons_zero]
  refine wpAnyH_takeD (i := 4) (v := .pointer (some ⟨gp, 2, none⟩)) (some 9) rfl rfl (by kernel_rfl) (by kernel_rfl) (by kernel_rfl) (fun _ _ _ h => h) (Or.inl ⟨by rfl, ?_⟩) SV ?_
  · intro X hX; go_simp
  try simp only [Act.put, List.setIfInBounds_toArray, List.set_cons_succ, List.set_cons_zero]
  refine wpAnyH_takeD (i := 5) (v := .int .i64 pc) (some 10) rfl rfl (by kernel_rfl) (by kernel_rfl) (by kernel_rfl) (fun _ _ _ h => h) (Or.inl ⟨by rfl, ?_⟩) SV ?_
  · intro X hX; have o0 := (hX.out.cell (p := ⟨gp, 2, none⟩) lgp).trans p2; have lX := hX.out.size; have lbX : gp < X.heap.size := (by omega); go_simp
  try simp only [Act.put, List.setIfInBounds_toArray, List.set_cons_succ, List.set_cons_zero]
  refine wpAnyH_takeD (i := 6) (v := .pointer (some ⟨gp, 4, none⟩)) (some 11) rfl rfl (by kernel_rfl) (by kernel_rfl) (by kernel_rfl) (fun _ _ _ h => h) (Or.inl ⟨by rfl, ?_⟩) SV ?_
  · intro X hX; go_simp
  try simp only [Act.put, List.setIfInBounds_toArray, List.set_cons_succ, List.set_cons_zero]
  refine wpAnyH_takeD (i := 7) (v := .int .i64 pw) (some 12) rfl rfl (by kernel_rfl) (by kernel_rfl) (by kernel_rfl) (fun _ _ _ h => h) (Or.inl ⟨by rfl, ?_⟩) SV ?_
  · intro X hX; have o0 := (hX.out.cell (p := ⟨gp, 4, none⟩) lgp).trans p4; have lX := hX.out.size; have lbX : gp < X.heap.size := (by omega); go_simp
  try simp only [Act.put, List.setIfInBounds_toArray, List.set_cons_succ, List.set_cons_zero]
  refine wpAnyH_takeD (i := 8) (v := .agg #[.slice (some ⟨px, 0, none⟩) (c + 1) (c + 1), .slice (some ⟨py, 0, none⟩) (r + 1) (r + 1), .complex .f64 fx 0, .complex .f64 0 fy]) (some 13) rfl rfl (by kernel_rfl) (by kernel_rfl) (by kernel_rfl) (fun _ _ _ h => h) (Or.inl ⟨by rfl, ?_⟩) SV ?_
  · intro X hX; have o0 := (hX.out.cell (p := ⟨gn, 0, none⟩) lgn).trans n0; have o1 := (hX.out.cell (p := ⟨gn, 1, none⟩) lgn).trans n1; have o2 := (hX.out.cell (p := ⟨gn, 2, none⟩) lgn).trans n2; have o3 := (hX.out.cell (p := ⟨gn, 3, none⟩) lgn).trans n3; have lX := hX.out.size; have lbX : gn < X.heap.size := (by omega); go_simp
  try simp only [Act.put, List.setIfInBounds_toArray, List.set_cons_succ, List.set_cons_zero]
  refine wpAnyH_all (rs := [9]) (by kernel_rfl) (by simp) ?_
  intro ii hii; obtain rfl : ii = 9 := by simpa using hii
  clear hii
  refine wpOp_step rfl (fun K hK => ?_)
  go_simp
  refine (HCO.out _).mono ?_
  rintro e w1a ⟨rfl, hb1a⟩
  have S1a : Hid (Below W0.heap.size W0 w1a) := Lib.hid (SV.out.trans (hb1a.mono SV.out.size))
  refine hK _ _ ⟨S1a, ?_⟩
  clear hK K hb1a SV
  have SV := S1a
  clear S1a
  try simp only [Act.put, List.setIfInBounds_toArray, List.set_cons_succ, List.set_cons_zero]
  refine wpAnyH_all (rs := [10]) (by kernel_rfl) (by simp) ?_
  intro ii hii; obtain rfl : ii = 10 := by simpa using hii
  clear hii
  refine wpOp_step rfl (fun K hK => ?_)
  go_simp
  refine (HL1.out _).mono ?_
  rintro e w1b ⟨rfl, hb1b⟩
  have S1b : Hid (Below W0.heap.size W0 w1b) := Lib.hid (SV.out.trans (hb1b.mono SV.out.size))
  refine hK _ _ ⟨S1b, ?_⟩
  clear hK K hb1b SV
  have SV := S1b
  clear S1b
  try simp only [Act.put, List.setIfInBounds_toArray, List.set_cons_succ, List.set_cons_zero]
  refine wpAnyH_takeD (i := 11) (v := .bool true) (some 16) rfl rfl (by kernel_rfl) (by kernel_rfl) (by kernel_rfl) (fun _ _ _ h => h) (Or.inl ⟨by rfl, ?_⟩) SV ?_
  · intro X hX; go_simp
  try simp only [Act.put, List.setIfInBounds_toArray, List.set_cons_succ, List.set_cons_zero]
  refine wpAnyH_takeD (i := 12) (v := .bool true) (some 17) rfl rfl (by kernel_rfl) (by kernel_rfl) (by kernel_rfl) (fun _ _ _ h => h) (Or.inl ⟨by rfl, ?_⟩) SV ?_
  · intro X hX; go_simp
  try simp only [Act.put, List.setIfInBounds_toArray, List.set_cons_succ, List.set_cons_zero]
  refine wpAnyH_takeD (i := 13) (v := .pointer (some ⟨gp, 3, none⟩)) (some 18) rfl rfl (by kernel_rfl) (by kernel_rfl) (by kernel_rfl) (fun _ _ _ h => h) (Or.inl ⟨by rfl, ?_⟩) SV ?_
  · intro X hX; go_simp
  try simp only [Act.put, List.setIfInBounds_toArray, List.set_cons_succ, List.set_cons_zero]
  refine wpAnyH_takeD (i := 14) (v := .int .i64 ph) (some 19) rfl rfl (by kernel_rfl) (by kernel_rfl) (by kernel_rfl) (fun _ _ _ h => h) (Or.inl ⟨by rfl, ?_⟩) SV ?_
  · intro X hX; have o0 := (hX.out.cell (p := ⟨gp, 3, none⟩) lgp).trans p3; have lX := hX.out.size; have lbX : gp < X.heap.size := (by omega); go_simp
  try simp only [Act.put, List.setIfInBounds_toArray, List.set_cons_succ, List.set_cons_zero]
  refine wpAnyH_takeD (i := 15) (v := .bool true) (some 20) rfl rfl (by kernel_rfl) (by kernel_rfl) (by kernel_rfl) (fun _ _ _ h => h) (Or.inl ⟨by rfl, ?_⟩) SV ?_
  · intro X hX; go_simp
  try simp only [Act.put, List.setIfInBounds_toArray, List.set_cons_succ, List.set_cons_zero]
  refine wpAnyH_takeD (i := 16) (v := .bool true) (some 21) rfl rfl (by kernel_rfl) (by kernel_rfl) (by kernel_rfl) (fun _ _ _ h => h) (Or.inl ⟨by rfl, ?_⟩) SV ?_
  · intro X hX; go_simp
  try simp only [Act.put, List.setIfInBounds_toArray, List.set_cons_succ, List.set_cons_zero]
  refine wpAnyH_takeD (i := 17) (v := .bool true) (some 22) rfl rfl (by kernel_rfl) (by kernel_rfl) (by kernel_rfl) (fun _ _ _ h => h) (Or.inl ⟨by rfl, ?_⟩) SV ?_
  · intro X hX; go_simp
  try simp only [Act.put, List.setIfInBounds_toArray, List.set_cons_succ, List.set_cons_zero]
  refine wpAnyH_takeD (i := 18) (v := .pointer (some ⟨gp, 1, none⟩)) (some 23) rfl rfl (by kernel_rfl) (by kernel_rfl) (by kernel_rfl) (fun _ _ _ h => h) (Or.inl ⟨by rfl, ?_⟩) SV ?_
  · intro X hX; go_simp
  try simp only [Act.put, List.setIfInBounds_toArray, List.set_cons_succ, List.set_cons_zero]
  refine wpAnyH_takeD (i := 19) (v := .int .i64 pr) (some 24) rfl rfl (by kernel_rfl) (by kernel_rfl) (by kernel_rfl) (fun _ _ _ h => h) (Or.inl ⟨by rfl, ?_⟩) SV ?_
  · intro X hX; have o0 := (hX.out.cell (p := ⟨gp, 1, none⟩) lgp).trans p1; have lX := hX.out.size; have lbX : gp < X.heap.size := (by omega); go_simp
  try simp only [Act.put, List.setIfInBounds_toArray, List.set_cons_succ, List.set_cons_zero]
  refine wpAnyH_takeD (i := 20) (v := .pointer (some ⟨gp, 3, none⟩)) (some 25) rfl rfl (by kernel_rfl) (by kernel_rfl) (by kernel_rfl) (fun _ _ _ h => h) (Or.inl ⟨by rfl, ?_⟩) SV ?_
  · intro X hX; go_simp
  try simp only [Act.put, List.setIfInBounds_toArray, List.set_cons_succ, List.set_cons_zero]
  refine wpAnyH_takeD (i := 21) (v := .int .i64 ph) (some 26) rfl rfl (by kernel_rfl) (by kernel_rfl) (by kernel_rfl) (fun _ _ _ h => h) (Or.inl ⟨by rfl, ?_⟩) SV ?_
  · intro X hX; have o0 := (hX.out.cell (p := ⟨gp, 3, none⟩) lgp).trans p3; have lX := hX.out.size; have lbX : gp < X.heap.size := (by omega); go_simp
  try simp only [Act.put, List.setIfInBounds_toArray, List.set_cons_succ, List.set_cons_zero]
  refine wpAnyH_takeD (i := 22) (v := .agg #[.slice (some ⟨px, 0, none⟩) (c + 1) (c + 1), .slice (some ⟨py, 0, none⟩) (r + 1) (r + 1), .complex .f64 fx 0, .complex .f64 0 fy]) (some 27) rfl rfl (by kernel_rfl) (by kernel_rfl) (by kernel_rfl) (fun _ _ _ h => h) (Or.inl ⟨by rfl, ?_⟩) SV ?_
  · intro X hX; have o0 := (hX.out.cell (p := ⟨gn, 0, none⟩) lgn).trans n0; have o1 := (hX.out.cell (p := ⟨gn, 1, none⟩) lgn).trans n1; have o2 := (hX.out.cell (p := ⟨gn, 2, none⟩) lgn).trans n2; have o3 := (hX.out.cell (p := ⟨gn, 3, none⟩) lgn).trans n3; have lX := hX.out.size; have lbX : gn < X.heap.size := (by omega); go_simp
  try simp only [Act.put, List.setIfInBounds_toArray, List.set_cons_succ, List.set_cons_zero]
  refine wpAnyH_all (rs := [23]) (by kernel_rfl) (by simp) ?_
  intro ii hii; obtain rfl : ii = 23 := by simpa using hii
  clear hii
  refine wpOp_step rfl (fun K hK => ?_)
  go_simp
  refine (HRO.out _).mono ?_
  rintro e w1c ⟨rfl, hb1c⟩
  have S1c : Hid (Below W0.heap.size W0 w1c) := Lib.hid (SV.out.trans (hb1c.mono SV.out.size))
  refine hK _ _ ⟨S1c, ?_⟩
  clear hK K hb1c SV
  have SV := S1c
  clear S1c
  try simp only [Act.put, List.setIfInBounds_toArray, List.set_cons_succ, List.set_cons_zero]
  refine wpAnyH_all (rs := [24]) (by kernel_rfl) (by simp) ?_
  intro ii hii; obtain rfl : ii = 24 := by simpa using hii
  clear hii
  refine wpOp_step rfl (fun K hK => ?_)
  go_simp
  refine (HL2.out _).mono ?_
  rintro e w1d ⟨rfl, hb1d⟩
  have S1d : Hid (Below W0.heap.size W0 w1d) := Lib.hid (SV.out.trans (hb1d.mono SV.out.size))
  refine hK _ _ ⟨S1d, ?_⟩
  clear hK K hb1d SV
  have SV := S1d
  clear S1d
  try simp only [Act.put, List.setIfInBounds_toArray, List.set_cons_succ, List.set_cons_zero]
  refine wpAnyH_takeD (i := 25) (v := .bool ans) (some 30) rfl rfl (by kernel_rfl) (by kernel_rfl) (by kernel_rfl) (fun _ _ _ h => h) (Or.inl ⟨by rfl, ?_⟩) SV ?_
  · intro X hX; go_simp
  try simp only [Act.put, List.setIfInBounds_toArray, List.set_cons_succ, List.set_cons_zero]
  refine wpAnyH_takeD (i := 26) (v := .bool ans) (some 4) rfl rfl (by kernel_rfl) (by kernel_rfl) (by kernel_rfl) (fun _ _ _ h => h) (Or.inl ⟨by rfl, ?_⟩) SV ?_
  · intro X hX; go_simp
  try simp only [Act.put, List.setIfInBounds_toArray, List.set_cons_succ, List.set_cons_zero]
  refine wpAnyH_done (by kernel_rfl) ?_ _
  go_wp2
  go_ret
  exact ⟨rfl, HB0.out.trans (SV.out.mono HB0.out.size)⟩
theorem has_any (px py c r : Nat) (g0 g1 : Int) (q : Pz) (w : World) (hq : q.ok) (hc : c ≤ 10000) (hr : r ≤ 10000) :
    Calls Try.prog 12 #[netV px py c r g0 g1, .agg q.cells.toArray] w fun e w' => e = .returned (.bool (placeN c r q)) ∧ Below w.heap.size w w' := by
  unfold placeN
  by_cases k1 : 0 < q.w
  · cases k2 : liesB q.c q.w c with
    | false => simpa [k1] using has_1 px py c r g0 g1 q w hq hc hr k1 k2
    | true =>
      by_cases k3 : 0 < q.h
      · simpa [k1, k3] using has_3 px py c r g0 g1 q w hq hc hr k1 k2 k3
      · simpa [k1, k3] using has_2 px py c r g0 g1 q w hq hc hr k1 k2 k3
  · simpa [k1] using has_0 px py c r g0 g1 q w hq hc hr k1
end Go.Proofs.Ytlnfgmmgkmhehaa
