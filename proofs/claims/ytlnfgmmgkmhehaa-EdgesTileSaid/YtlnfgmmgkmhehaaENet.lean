/- Contracts of the small functions of a net (edges.net): how many columns and rows it has, where they start, the rectangle between two places. -/
import Derived.Test.YtlnfgmmgkmhehaaERef
import Derived.Test.YtlnfgmmgkmhehaaFl
import Derived.Test.YtlnfgmmgkmhehaaQRRect
namespace Go.Proofs.Ytlnfgmmgkmhehaa
open Go.RowKit Go.Shelf
set_option linter.unusedVariables false
attribute [local go_sem] Oper.semAt_some

/-- the value of a net -/
def netV (px py c r : Nat) (g0 g1 : Int) : Value := .agg #[.slice (some ⟨px, 0, none⟩) (c + 1) (c + 1), .slice (some ⟨py, 0, none⟩) (r + 1) (r + 1), .complex .f64 (floatOfInt .f64 g0) 0, .complex .f64 0 (floatOfInt .f64 g1)]
/-- the starts of a net in memory -/
structure NetAt (B : Nat) (W : World) (px py : Nat) (cs rs : List Int) (g0 g1 : Int) : Prop where
  bx : B ≤ px
  wx : Whole W px 2 ((begsW g0 cs (cs.length + 1)).map (Value.int .i64))
  wy : Whole W py 2 ((begsW g1 rs (rs.length + 1)).map (Value.int .i64))
  by_ : B ≤ py
theorem NetAt.below {B : Nat} {W Y : World} {px py : Nat} {cs rs : List Int} {g0 g1 : Int} (h : NetAt B W px py cs rs g0 g1) (hb : Below W.heap.size W Y) : NetAt B Y px py cs rs g0 g1 :=
  ⟨h.bx, h.wx.below hb h.wx.lt, h.wy.below hb h.wy.lt, h.by_⟩
theorem NetAt.atX {B : Nat} {W : World} {px py : Nat} {cs rs : List Int} {g0 g1 : Int} (h : NetAt B W px py cs rs g0 g1) {k : Nat} (hk : k ≤ cs.length) : W.cell? ⟨px, k, none⟩ = some (.int .i64 (begW g0 cs k)) := by
  rw [h.wx.cellAt k, List.getElem?_map, begsW_get (by omega)]; rfl
theorem NetAt.atY {B : Nat} {W : World} {px py : Nat} {cs rs : List Int} {g0 g1 : Int} (h : NetAt B W px py cs rs g0 g1) {k : Nat} (hk : k ≤ rs.length) : W.cell? ⟨py, k, none⟩ = some (.int .i64 (begW g1 rs k)) := by
  rw [h.wy.cellAt k, List.getElem?_map, begsW_get (by omega)]; rfl
theorem cols_any (px py c r : Nat) (g0 g1 : Int) (w : World) (hc : c ≤ 10000) : Calls Try.prog 14 #[netV px py c r g0 g1] w fun e w' => e = .returned (.int .i64 (c : Int)) ∧ Below w.heap.size w w' := by
  unfold netV
  go_enter Try.func14, Try.ntmps14
  go_wp2
  go_ret
  exact ⟨by first | rfl | (simp; done) | (simp; omega), (Below.refl _ _).alloc (Nat.le_refl _) _⟩
theorem rows_any (px py c r : Nat) (g0 g1 : Int) (w : World) (hc : r ≤ 10000) : Calls Try.prog 15 #[netV px py c r g0 g1] w fun e w' => e = .returned (.int .i64 (r : Int)) ∧ Below w.heap.size w w' := by
  unfold netV
  go_enter Try.func15, Try.ntmps15
  go_wp2
  go_ret
  exact ⟨by first | rfl | (simp; done) | (simp; omega), (Below.refl _ _).alloc (Nat.le_refl _) _⟩
set_option maxHeartbeats 1000000 in
theorem start_any {B : Nat} (px py c r : Nat) (cs rs : List Int) (g0 g1 : Int) (i j : Nat) (w : World) (hN : NetAt B w px py cs rs g0 g1) (hc : cs.length = c) (hr : rs.length = r) (h1 : i ≤ c) (h2 : j ≤ r) (hc2 : c ≤ 10000) (hr2 : r ≤ 10000) :
    Calls Try.prog 28 #[netV px py c r g0 g1, .int .i64 (i : Int), .int .i64 (j : Int)] w fun e w' => e = .returned (.complex .f64 (floatOfInt .f64 (begW g0 cs i)) (floatOfInt .f64 (begW g1 rs j))) ∧ Below w.heap.size w w' := by
  have cx := hN.atX (k := i) (by omega)
  have cy := hN.atY (k := j) (by omega)
  have lx := hN.wx.lt
  have ly := hN.wy.lt
  clear hN hc hr
  unfold netV
  generalize begW g0 cs i = x at *
  generalize begW g1 rs j = y at *
  go_enter Try.func28, Try.ntmps28
  go_wp2
  go_quiet (fail)
  go_wp2
  go_ret
  exact ⟨by first | rfl | (simp; done) | (simp; omega), ((Below.refl _ _).alloc (Nat.le_refl _) _).trans (below_dn _ _ _)⟩
set_option maxHeartbeats 2000000 in
/-- the rectangle between two places -/
theorem between_any (a b c d : Int) (w : World) (ha : 0 ≤ a ∧ a ≤ 50000000000000) (hb : 0 ≤ b ∧ b ≤ 50000000000000) (hc : 0 ≤ c - a ∧ c ≤ 50000000000000) (hd : 0 ≤ d - b ∧ d ≤ 50000000000000) :
    Calls Try.prog 29 #[.complex .f64 (floatOfInt .f64 a) (floatOfInt .f64 b), .complex .f64 (floatOfInt .f64 c) (floatOfInt .f64 d)] w fun e w' => e = .returned (RR.R.val ⟨a, b, c - a, d - b⟩) ∧ Below w.heap.size w w' := by
  have hsub : ∀ X, (binOp .sub 43 (.complex .f64 (floatOfInt .f64 c) (floatOfInt .f64 d)) (.complex .f64 (floatOfInt .f64 a) (floatOfInt .f64 b))).run Try.prog X = .ok (.complex .f64 (floatOfInt .f64 (c - a)) (floatOfInt .f64 (d - b))) X := fun X =>
    run_complex_sum X .sub (.inr rfl) _ _ _ _ _ _ _ _ (csub_FZ c d a b (by omega) (by omega) (by omega) (by omega))
  have hcv : ∀ (n : Int) X, 0 ≤ n → n ≤ 50000000000000 → (convert 62 2 (.float .f64 (floatOfInt .f64 n))).run Try.prog X = .ok (.int .i64 n) X := fun n X h1 h2 =>
    run_convert_float_int X _ _ _ _ _ n (by rfl) Try.underlying2 (int_FZ n (by omega))
  have k1 := fun X => hcv (c - a) X (by omega) (by omega)
  have k2 := fun X => hcv (d - b) X (by omega) (by omega)
  have k3 := fun X => hcv a X (by omega) (by omega)
  have k4 := fun X => hcv b X (by omega) (by omega)
  have HM := Lib.hid (fun X => by
    have := RR.move_any 0 0 (c - a) (d - b) a b X
    have e : RR.moveR ⟨0, 0, c - a, d - b⟩ a b = (⟨a, b, c - a, d - b⟩, 0) := by
      have h1 : RR.rightB ⟨0, 0, c - a, d - b⟩ = true := (RR.rightB_iff _).2 (by dsimp only; omega)
      have h2 : RR.moveB a b = true := (RR.moveB_iff _ _).2 (by omega)
      have h3 : RR.rightB ⟨0 + a, 0 + b, c - a, d - b⟩ = true := (RR.rightB_iff _).2 (by dsimp only; omega)
      unfold RR.moveR
      rw [h1, h2]
      simp only [Bool.and_self, if_true, RR.rightR]
      rw [h3]; simp
    rw [e] at this
    exact this)
  clear hcv
  generalize c - a = u at *
  generalize d - b = v at *
  generalize floatOfInt .f64 a = fa at *
  generalize floatOfInt .f64 b = fb at *
  generalize floatOfInt .f64 c = fc at *
  generalize floatOfInt .f64 d = fd at *
  generalize floatOfInt .f64 u = fu at *
  generalize floatOfInt .f64 v = fv at *
  clear ha hb hc hd
  go_enter Try.func29, Try.ntmps29
  go_wp2_with fail
  refine (HM.out _).mono ?_
  rintro e w1 ⟨rfl, hb1⟩
  simp only [RR.retR]
  have kr := (whole_new w [.int .i64 0, .int .i64 0, .int .i64 0, .int .i64 0] 38 _ rfl).below hb1 (by simp)
  have y0 := kr.free 0
  have y1 := kr.free 1
  have y2 := kr.free 2
  have y3 := kr.free 3
  have z0 := kr.cellAt 0
  have z1 := kr.cellAt 1
  have z2 := kr.cellAt 2
  have z3 := kr.cellAt 3
  have yl := kr.lt
  have HKR := Lib.hid kr
  have HB := Lib.hid (((Below.refl _ w).alloc (Nat.le_refl _) _).trans (hb1.mono (by simp)))
  clear hb1 kr
  go_wp2
  refine bodyPost_ret (v := .agg #[.int .i64 a, .int .i64 b, .int .i64 u, .int .i64 v]) (by simp [results, Try.results29, go_sem, z0, z1, z2, z3, y1, y2, y3, yl]) rfl ⟨rfl, ?_⟩
  exact ((((HB.out.setCell (p := ⟨w.heap.size, 0, none⟩) (Nat.le_refl _) _).setCell (p := ⟨w.heap.size, 1, none⟩) (Nat.le_refl _) _).setCell (p := ⟨w.heap.size, 2, none⟩) (Nat.le_refl _) _).setCell (p := ⟨w.heap.size, 3, none⟩) (Nat.le_refl _) _).alloc (by simp; omega) _
end Go.Proofs.Ytlnfgmmgkmhehaa
