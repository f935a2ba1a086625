/- Contract of spread.right: whether bands, needs and the gap are right. -/
/- A list of needs that grows by append. -/
import Derived.Test.YtmljndggblfeiaaMul
import Derived.Test.YtmljndggblfeiaaSpOverF
import Derived.Test.YtmljndggblfeiaaKBand
import Derived.Test.YtmljndggblfeiaaKRB
import Derived.Test.YtmljndggblfeiaaKRight
import Derived.Test.YtmljndggblfeiaaKLaw
import Derived.Maps.AppendAt
import Derived.Laws.OwnMore
namespace Go.Proofs.Ytmljndggblfeiaa
open Go.RowKit Go.Shelf
set_option linter.unusedVariables false
set_option linter.unusedSimpArgs false
attribute [local go_sem] Oper.semAt_some

theorem zeros_flatS (m : Nat) : (List.replicate m (⟨0, 0⟩ : Sz)).flatMap Sz.cells = List.replicate (m * 2) (.int .i64 0) := by
  induction m with
  | zero => rfl
  | succ m ih =>
    rw [List.replicate_succ, List.flatMap_cons, ih, Nat.succ_mul, Nat.add_comm (m * 2) 2]
    rw [show 2 + m * 2 = m * 2 + 1 + 1 by omega]
    rfl
theorem made_sizes (m : Nat) : madeCells #[.int .i64 0, .int .i64 0] (m * 2) = ((List.replicate m (⟨0, 0⟩ : Sz)).flatMap Sz.cells).toArray := by
  rw [zeros_flatS]
  apply Array.ext_getElem?
  intro i
  simp only [madeCells, Array.getElem?_map, List.getElem?_toArray, List.getElem?_replicate, Array.getElem?_range, List.size_toArray, List.length_cons, List.length_nil]
  by_cases h : i < m * 2
  · simp only [h, if_true, Option.map_some, Option.some.injEq]
    have e : ∀ j, j < 2 → (#[.int .i64 0, .int .i64 0] : Array Value)[j]! = .int .i64 0 := by
      intro j hj
      rcases (show j = 0 ∨ j = 1 by omega) with rfl | rfl <;> rfl
    exact e _ (Nat.mod_lt _ (by omega))
  · simp [h]
theorem Try.infoSzS : (Try.prog.info? 35).map (fun i => (i.zero, i.size, i.bytes)) = some (some (.agg #[.int .i64 0, .int .i64 0]), 2, 16) := by kernel_rfl
theorem make_sizes (m : Nat) (hm : m ≤ 10000) (w : World) : (Instr.makeSlice 65 (.int .i64 (m : Int)) (.int .i64 (m : Int))).run Try.prog w = .ok (.slice (some ⟨w.heap.size, 0, none⟩) m m) (w.alloc (.cells ((List.replicate m (⟨0, 0⟩ : Sz)).flatMap Sz.cells).toArray 35)) := by
  cases hi : Try.prog.info? 35 with
  | none => have := Try.infoSzS; rw [hi] at this; cases this
  | some i =>
    have h := Try.infoSzS
    rw [hi] at h
    simp only [Option.map_some, Option.some.injEq, Prod.mk.injEq] at h
    obtain ⟨hz, h1, h2⟩ := h
    have hr := run_make (P := Try.prog) w 65 35 i _ Try.underlying65 hi hz .i64 .i64 m m (by omega) (by omega) (by rw [h2]; omega) (by omega)
    rw [hr, h1]
    simp only [Int.toNat_natCast]
    rw [← made_sizes]
    rfl
set_option maxRecDepth 100000 in
set_option maxHeartbeats 2000000 in
theorem rightS_any (p q : Option Addr) (m c m' c' : Nat) (bs : List Ba) (ns : List Ne) (gap : Int) (W : World) (hb : RowsK Ba.cells 4 W (.slice p m c) bs) (hn : RowsK Ne.cells 9 W (.slice q m' c') ns) :
    Calls Try.prog 15 #[.slice p m c, .slice q m' c', .int .i64 gap] W fun e X => e = .returned (.bool (rightP bs ns gap)) ∧ Below W.heap.size W X := by
  have hbl := hb.len
  have hnl := hn.len
  by_cases h1 : bs.length ≤ 100
  rotate_left
  · have HE : Hid (rightP bs ns gap = false) := Lib.hid (by simp [rightP, h1])
    have hz : ¬ ((m : Int) ≤ 100) := by omega
    have hz' : decide ((m : Int) ≤ 100) = false := decide_eq_false hz
    clear hb hn hbl hnl h1
    go_enter Try.func15, Try.ntmps15
    go_wp2
    go_ret
    exact ⟨by rw [HE.out]; rfl, Below.refl _ _⟩
  have hz : (m : Int) ≤ 100 := by omega
  have hz' : decide ((m : Int) ≤ 100) = true := decide_eq_true hz
  by_cases h2 : ns.length ≤ 1000
  rotate_left
  · have HE : Hid (rightP bs ns gap = false) := Lib.hid (by simp [rightP, h2])
    have hy : ¬ ((m' : Int) ≤ 1000) := by omega
    have hy' : decide ((m' : Int) ≤ 1000) = false := decide_eq_false hy
    clear hb hn hbl hnl h1 h2
    go_enter Try.func15, Try.ntmps15
    go_wp2
    go_ret
    exact ⟨by rw [HE.out]; rfl, Below.refl _ _⟩
  have hy : (m' : Int) ≤ 1000 := by omega
  have hy' : decide ((m' : Int) ≤ 1000) = true := decide_eq_true hy
  have HE : Hid (rightP bs ns gap = ((!([gap].any (outB 0 1073741824))) && (decide (bs.length ≤ 10000) && bs.all baB) && rightK (List.replicate m ⟨0, 0⟩) ns)) := Lib.hid (by
    unfold rightP
    rw [within_one, hbl]
    have e1 : decide (m ≤ 100) = true := by simp; omega
    have e2 : decide (ns.length ≤ 1000) = true := by simp; omega
    have e3 : decide (m ≤ 10000) = true := by simp; omega
    rw [e1, e2, e3]
    simp [Bool.and_assoc])
  have HWI := Lib.hid (fun X sv (hI : Ints X sv [gap]) => within_anyS 0 1073741824 sv [gap] X hI)
  have HRB := Lib.hid (fun X (hX : Below W.heap.size W X) => rightBands_any (.slice p m c) bs X (hb.below hX))
  have HKR := Lib.hid (fun X (hX : Below W.heap.size W X) p0 (hz : RowsK Sz.cells 2 X (.slice p0 m m) (List.replicate m ⟨0, 0⟩)) => kright_any p0 q m m m' c' (List.replicate m ⟨0, 0⟩) ns X hz (hn.below hX))
  generalize (!([gap].any (outB 0 1073741824))) = b1 at HE HWI
  generalize (decide (bs.length ≤ 10000) && bs.all baB) = b2 at HE HRB
  generalize rightK (List.replicate m ⟨0, 0⟩) ns = b3 at HE HKR
  have hmk := make_sizes m (by omega)
  have HM : Hid (m ≤ 100) := Lib.hid (by omega)
  clear hb hn hbl hnl h1 h2
  go_enter Try.func15, Try.ntmps15
  go_wp2_with fail
  refine (HWI.out _ _ ?_).mono ?_
  · exact Ints.whole (zs := [gap]) (whole_new W [.int .i64 gap] 2 _ rfl) rfl (by omega)
  rintro e w1 ⟨rfl, hb1⟩
  have B1 := Lib.hid (((Below.refl _ W).alloc (Nat.le_refl _) _).trans (hb1.mono (by simp)))
  clear hb1 HWI
  cases b1 with
  | false =>
    go_wp2
    go_ret
    exact ⟨by rw [HE.out]; rfl, B1.out⟩
  | true =>
    go_wp2_with fail
    refine (HRB.out _ B1.out).mono ?_
    rintro e w2 ⟨rfl, hb2⟩
    have B2 := Lib.hid (B1.out.trans (hb2.mono B1.out.size))
    clear hb2 HRB B1
    cases b2 with
    | false =>
      go_wp2
      go_ret
      exact ⟨by rw [HE.out]; rfl, B2.out⟩
    | true =>
      obtain ⟨zc, hzc⟩ : ∃ zc, ((List.replicate m (⟨0, 0⟩ : Sz)).flatMap Sz.cells).toArray = zc := ⟨_, rfl⟩
      rw [hzc] at hmk
      have HZC := Lib.hid hzc
      clear hzc
      have B3 := Lib.hid (B2.out.alloc B2.out.size (.cells zc 35))
      have RZ : Hid (RowsK Sz.cells 2 (w2.alloc (.cells zc 35)) (.slice (some ⟨w2.heap.size, 0, none⟩) m m) (List.replicate m ⟨0, 0⟩)) := Lib.hid (by
        rw [← HZC.out]
        exact RowsK.whole (zs := List.replicate m (⟨0, 0⟩ : Sz)) Sz.cells_len (whole_new w2 ((List.replicate m (⟨0, 0⟩ : Sz)).flatMap Sz.cells) 35 _ rfl) (m := m) List.length_replicate m (by have := HM.out; omega))
      go_wp2_with fail
      refine (HKR.out _ B3.out _ RZ.out).mono ?_
      rintro e w3 ⟨rfl, hb3⟩
      have B4 := Lib.hid (B3.out.trans (hb3.mono B3.out.size))
      clear hb3 HKR RZ B3 B2
      go_wp2
      go_ret
      exact ⟨by rw [HE.out]; simp, B4.out⟩
end Go.Proofs.Ytmljndggblfeiaa

namespace Go.Proofs.Ytmljndggblfeiaa
open Go.RowKit Go.Shelf Go.Maps
set_option linter.unusedVariables false
set_option linter.unusedSimpArgs false

theorem Try.infoNe : (Try.prog.info? 37).map (fun i => (i.zero, i.size, i.bytes)) = some (some (.agg #[.int .i64 0, .int .i64 0, .int .i64 0, .int .i64 0, .int .i64 0, .int .i64 0, .int .i64 0, .int .i64 0, .int .i64 0]), 9, 72) := by kernel_rfl
theorem infoNe4 : ∃ i : TypeInfo, Try.prog.info? 37 = some i ∧ i.zero = some (.agg #[.int .i64 0, .int .i64 0, .int .i64 0, .int .i64 0, .int .i64 0, .int .i64 0, .int .i64 0, .int .i64 0, .int .i64 0]) ∧ i.size = 9 ∧ i.bytes = 72 := by
  cases hi : Try.prog.info? 37 with
  | none => have := Try.infoNe; rw [hi] at this; cases this
  | some i =>
    have h := Try.infoNe
    rw [hi] at h
    simp only [Option.map_some, Option.some.injEq, Prod.mk.injEq] at h
    exact ⟨i, rfl, h.1, h.2.1, h.2.2⟩
theorem own_belowK {X Y : World} {base e sz n : Nat} {v : Value} {xs : List Value} (h : X.ownsRow base e sz v n xs) (hb : Below X.heap.size X Y) : Y.ownsRow base e sz v n xs := by
  refine ⟨h.1, h.2.imp id ?_⟩
  rintro ⟨g, cap, cur, e, h1, h2, h3⟩
  exact ⟨g, cap, cur, e, h1, (hb.block g (Array.getElem?_eq_some_iff.1 h2).1).trans h2, h3⟩
theorem own_sliceK {W : World} {base e size n : Nat} {v : Value} {xs : List Value} (h : W.ownsRow base e size v n xs) : ∃ p k c, v = .slice p k c := by
  rcases h.2 with ⟨rfl, _⟩ | ⟨g, cap, cur, rfl, _⟩
  · exact ⟨none, 0, 0, rfl⟩
  · exact ⟨_, _, _, rfl⟩
theorem own_ltK {W : World} {base e size n : Nat} {v : Value} {xs : List Value} (h : W.ownsRow base e size v n xs) (g : Nat) (hg : v.ownBlock = some g) : base ≤ g := by
  rcases h.2 with ⟨rfl, _⟩ | ⟨g', cap, cur, rfl, hb, _⟩
  · cases hg
  · simp [Value.ownBlock] at hg; omega
/-- a list of needs that grows: its memory is its own -/
def GK (B : World) (v : Value) (ys : List Ne) (X : World) : Prop := X.ownsRow B.heap.size 37 9 v ys.length (ys.flatMap Ne.cells) ∧ Below B.heap.size B X
theorem GK.nil (B : World) : GK B (.slice none 0 0) [] B := ⟨⟨rfl, .inl ⟨rfl, rfl⟩⟩, Below.refl _ _⟩
theorem GK.below {B X Y : World} {v : Value} {ys : List Ne} (h : GK B v ys X) (hb : Below X.heap.size X Y) : GK B v ys Y := ⟨own_belowK h.1 hb, h.2.trans (hb.mono h.2.size)⟩
theorem GK.step {B X Y : World} {v v' : Value} {ys zs : List Ne} {o : Obj} (h : GK B v ys X) (ho : Y.ownsRow B.heap.size 37 9 v' (ys.length + zs.length) (ys.flatMap Ne.cells ++ zs.flatMap Ne.cells)) (hg : (X.alloc o).grownBy Y v.ownBlock) : GK B v' (ys ++ zs) Y :=
  ⟨by rw [List.length_append, List.flatMap_append]; exact ho, (h.2.alloc h.2.size o).grown hg (by have := h.2.size; simp; omega) (fun g e => own_ltK h.1 g e)⟩
theorem GK.rows {B X : World} {v : Value} {ys : List Ne} (h : GK B v ys X) (hm : ys.length ≤ 9223372036854775807) : RowsK Ne.cells 9 X v ys := by
  refine ⟨hm, ?_⟩
  rcases h.1.2 with ⟨rfl, h0⟩ | ⟨g, cap, cur, rfl, hb, hg, hnc, hcm, hcs, htk⟩
  · exact .inl ⟨none, 0, rfl, List.length_eq_zero_iff.1 h0⟩
  · refine .inr ⟨g, 0, cap, rfl, (Array.getElem?_eq_some_iff.1 hg).1, fun j hj i v hv => ?_⟩
    have hi : i < 9 := (List.getElem?_eq_some_iff.1 hv).1
    have hf := flat_getK Ne.cells 9 Ne.cells_len ys j i hi hj
    rw [← htk, List.getElem?_take_of_lt (by have := Nat.mul_le_mul_right 9 (show j + 1 ≤ ys.length by omega); omega)] at hf
    rw [show 0 + j * 9 + i = j * 9 + i by omega]
    simp [World.cell?, hg]
    rw [← hv, ← hf]; simp
theorem lay_newK (w : World) (xs : List Value) (t g : Nat) (hg : g = w.heap.size) : ∀ j u, xs[j]? = some u → (w.alloc (.cells xs.toArray t)).cell? ((⟨g, 0, none⟩ : Addr).add j) = some u := by
  intro j u hu
  have := (whole_new w xs t g hg).cellAt j
  rw [add_plainK, Nat.zero_add, this, hu]
end Go.Proofs.Ytmljndggblfeiaa
