/- Sides of borders: contracts of contest.rightLine, contest.Right, contest.allRight, contest.Half. -/
/- Slices of structs as lists (as KMem), for the seats that have CSide. -/
import Derived.Test.YtceippgkmoijdaaCBase
import Derived.Test.YtceippgkmoijdaaShelf
import Derived.BigRegion
import Derived.RegionTactic
import Derived.Lib.SmallJoins
import Derived.ProofKit
import Derived.OpenShut
import Derived.Deep.Slices
namespace Go.Proofs.Ytceippgkmoijdaa
open Go.RowKit Go.Shelf
set_option linter.unusedVariables false
set_option linter.unusedSimpArgs false

/-- a side -/
structure Si where
  st : Int
  wd : Int
  co : Int
  bb : Int
  ro : Int
  cl : Int
  deriving DecidableEq, Inhabited
def Si.cells (s : Si) : List Value := [.int .i64 s.st, .int .i64 s.wd, .int .u32 s.co, .int .i64 s.bb, .int .i64 s.ro, .int .i64 s.cl]
def Si.val (s : Si) : Value := .agg #[.int .i64 s.st, .int .i64 s.wd, .int .u32 s.co, .int .i64 s.bb, .int .i64 s.ro, .int .i64 s.cl]
theorem Si.val_eq (s : Si) : s.val = .agg s.cells.toArray := rfl
/-- how wide a border of that style may be -/
def mostW (st : Int) : Int := if st = 0 then 0 else if st = 1 then 0 else 1073741824
def lineB (st wd : Int) : Bool := !([st].any (outB 0 9)) && !([wd].any (outB 0 (mostW st)))
/-- is a side right? -/
def rightS (s : Si) : Bool := lineB s.st s.wd && (!([s.bb].any (outB 0 5)) && !([s.ro, s.cl].any (outB 0 1000000)))
theorem rightS_iff (s : Si) : rightS s = true ↔ (0 ≤ s.st ∧ s.st ≤ 9) ∧ (0 ≤ s.wd ∧ s.wd ≤ mostW s.st) ∧ (0 ≤ s.bb ∧ s.bb ≤ 5) ∧ (0 ≤ s.ro ∧ s.ro ≤ 1000000) ∧ (0 ≤ s.cl ∧ s.cl ≤ 1000000) := by
  simp [rightS, lineB, outB]; omega
theorem rightS_width {s : Si} (h : rightS s = true) : 0 ≤ s.wd ∧ s.wd ≤ 1073741824 := by
  have := (rightS_iff s).1 h
  have hm : mostW s.st ≤ 1073741824 := by unfold mostW; split <;> (try split) <;> omega
  omega

set_option maxHeartbeats 1000000 in
theorem line_any (st wd co : Int) (W : World) :
    Calls Try.prog 79 #[.agg #[.int .i64 st, .int .i64 wd, .int .u32 co]] W fun e W' => e = .returned (.bool (lineB st wd)) ∧ Below W.heap.size W W' := by
  obtain ⟨mo, hmo⟩ : ∃ mo, mostW st = mo := ⟨_, rfl⟩
  have hcase : (st = 0 ∧ mo = 0) ∨ (st = 1 ∧ mo = 0) ∨ ((st != 0) = true ∧ (st != 1) = true ∧ mo = 1073741824) := by
    rw [← hmo]; unfold mostW; simp; omega
  cases h1 : [st].any (outB 0 9) with
  | true =>
    have hb : Hid (lineB st wd = false) := Lib.hid (by simp only [lineB, h1]; rfl)
    have HW := Lib.hid (fun sv X hI => h1 ▸ within_any_k 0 9 sv [st] X hI)
    clear h1
    clear hmo
    rcases hcase with ⟨rfl, rfl⟩ | ⟨rfl, rfl⟩ | ⟨h2, h3, rfl⟩
    all_goals
      go_enter Try.func79, Try.ntmps79
      go_wp2_with fail
      refine (HW.out _ _ (Ints.whole (t := 3) (whole_new _ _ _ _ (by simp)) rfl (by simp))).mono ?_
      rintro e w' ⟨rfl, hb1⟩
      have HB := Lib.hid hb1
      clear hb1
      go_wp2
      go_ret
      exact ⟨by rw [hb.out] <;> first | rfl | (simp; done), ((((Below.refl _ _).alloc (Nat.le_refl _) _).alloc (by simp) _).trans (HB.out.mono (by simp <;> omega)))⟩
  | false =>
    have hb : Hid (lineB st wd = !([wd].any (outB 0 (mostW st)))) := Lib.hid (by simp only [lineB, h1]; rfl)
    have HW := Lib.hid (fun sv X hI => h1 ▸ within_any_k 0 9 sv [st] X hI)
    have HV := Lib.hid (fun sv X hI => within_any 0 mo sv [wd] X hI)
    rw [hmo] at hb
    obtain ⟨q, hq⟩ : ∃ q, [wd].any (outB 0 mo) = q := ⟨_, rfl⟩
    rw [hq] at hb
    replace HV := Lib.hid (fun sv X hI => hq ▸ HV.out sv X hI)
    clear h1 hmo hq
    rcases hcase with ⟨rfl, rfl⟩ | ⟨rfl, rfl⟩ | ⟨h2, h3, rfl⟩
    all_goals
      go_enter Try.func79, Try.ntmps79
      go_wp2_with fail
      refine (HW.out _ _ (Ints.whole (t := 3) (whole_new _ _ _ _ (by simp)) rfl (by simp))).mono ?_
      rintro e w1 ⟨rfl, hb1⟩
      have kr := Whole.below (g := W.heap.size) (t := 27) (xs := _) ((whole_new W _ _ _ rfl).alloc _) hb1 (by simp <;> omega)
      have c1 := kr.cellAt 1
      have l1 := kr.lt
      have HB := Lib.hid ((((Below.refl _ _).alloc (Nat.le_refl _) _).alloc (by simp) _).trans (hb1.mono (by simp <;> omega)))
      clear hb1 kr
      go_wp2_with fail
      refine (HV.out _ _ (Ints.whole (t := 2) (whole_new _ _ _ _ (by simp)) rfl (by simp))).mono ?_
      rintro e w2 ⟨rfl, hb2⟩
      have HB2 := Lib.hid hb2
      clear hb2
      go_wp2
      go_ret
      exact ⟨by rw [hb.out] <;> first | rfl | (simp; done), HB.out.trans (((Below.refl _ _).alloc HB.out.size _).trans (HB2.out.mono (by have := HB.out.size; simp <;> omega)))⟩

set_option maxHeartbeats 1000000 in
theorem right_any (s : Si) (W : World) :
    Calls Try.prog 67 #[s.val] W fun e W' => e = .returned (.bool (rightS s)) ∧ Below W.heap.size W W' := by
  obtain ⟨st, wd, co, bb, ro, cl⟩ := s
  unfold Si.val
  dsimp only
  have HL := Lib.hid (fun X => line_any st wd co X)
  cases h1 : lineB st wd with
  | false =>
    have hb : Hid (rightS ⟨st, wd, co, bb, ro, cl⟩ = false) := Lib.hid (by simp only [rightS, h1]; rfl)
    rw [h1] at HL
    clear h1
    go_enter Try.func67, Try.ntmps67
    go_wp2_with fail
    refine (HL.out _).mono ?_
    rintro e w1 ⟨rfl, hb1⟩
    have HB := Lib.hid hb1
    clear hb1
    go_wp2
    go_ret
    exact ⟨by rw [hb.out] <;> first | rfl | (simp; done), ((Below.refl _ _).alloc (Nat.le_refl _) _).trans (HB.out.mono (by simp <;> omega))⟩
  | true =>
    rw [h1] at HL
    cases h2 : [bb].any (outB 0 5) with
    | true =>
      have hb : Hid (rightS ⟨st, wd, co, bb, ro, cl⟩ = false) := Lib.hid (by simp only [rightS, h1, h2]; rfl)
      have HV := Lib.hid (fun sv X hI => h2 ▸ within_any_k 0 5 sv [bb] X hI)
      clear h1 h2
      go_enter Try.func67, Try.ntmps67
      go_wp2_with fail
      refine (HL.out _).mono ?_
      rintro e w1 ⟨rfl, hb1⟩
      have kr := Whole.below (g := W.heap.size) (t := 54) (xs := _) (whole_new W _ _ _ rfl) hb1 (by simp <;> omega)
      have c3 := kr.cellAt 3
      have l1 := kr.lt
      have HB := Lib.hid (((Below.refl _ _).alloc (Nat.le_refl _) _).trans (hb1.mono (by simp <;> omega)))
      clear hb1 kr
      go_wp2_with fail
      refine (HV.out _ _ (Ints.whole (t := 3) (whole_new _ _ _ _ (by simp)) rfl (by simp))).mono ?_
      rintro e w2 ⟨rfl, hb2⟩
      have HB2 := Lib.hid hb2
      clear hb2
      go_wp2
      go_ret
      exact ⟨by rw [hb.out] <;> first | rfl | (simp; done), HB.out.trans (((Below.refl _ _).alloc HB.out.size _).trans (HB2.out.mono (by have := HB.out.size; simp <;> omega)))⟩
    | false =>
      have hb : Hid (rightS ⟨st, wd, co, bb, ro, cl⟩ = !([ro, cl].any (outB 0 1000000))) := Lib.hid (by simp only [rightS, h1, h2]; rfl)
      have HV := Lib.hid (fun sv X hI => h2 ▸ within_any_k 0 5 sv [bb] X hI)
      obtain ⟨q, hq⟩ : ∃ q, [ro, cl].any (outB 0 1000000) = q := ⟨_, rfl⟩
      have HR := Lib.hid (fun sv X hI => hq ▸ within_any_k 0 1000000 sv [ro, cl] X hI)
      rw [hq] at hb
      clear h1 h2 hq
      go_enter Try.func67, Try.ntmps67
      go_wp2_with fail
      refine (HL.out _).mono ?_
      rintro e w1 ⟨rfl, hb1⟩
      have kr := Whole.below (g := W.heap.size) (t := 54) (xs := _) (whole_new W _ _ _ rfl) hb1 (by simp <;> omega)
      have c3 := kr.cellAt 3
      have l1 := kr.lt
      have HB := Lib.hid (((Below.refl _ _).alloc (Nat.le_refl _) _).trans (hb1.mono (by simp <;> omega)))
      clear hb1
      go_wp2_with fail
      refine (HV.out _ _ (Ints.whole (t := 3) (whole_new _ _ _ _ (by simp)) rfl (by simp))).mono ?_
      rintro e w2 ⟨rfl, hb2⟩
      replace kr := (kr.alloc _).below hb2 (by simp <;> omega)
      clear c3 l1
      have c4 := kr.cellAt 4
      have c5 := kr.cellAt 5
      have l1 := kr.lt
      have HB2 := Lib.hid (HB.out.trans (((Below.refl _ _).alloc HB.out.size _).trans (hb2.mono (by have := HB.out.size; simp <;> omega))))
      clear hb2 kr HB
      go_wp2_with fail
      refine (HR.out _ _ (Ints.whole (t := 3) (whole_new _ _ _ _ (by simp)) rfl (by simp))).mono ?_
      rintro e w3 ⟨rfl, hb3⟩
      have HB3 := Lib.hid hb3
      clear hb3
      go_wp2
      go_ret
      exact ⟨by rw [hb.out] <;> first | rfl | (simp; done), HB2.out.trans (((Below.refl _ _).alloc HB2.out.size _).trans (HB3.out.mono (by have := HB2.out.size; simp <;> omega)))⟩

/-- a slice of sides: its cells -/
def Sides (W : World) (sv : Value) (zs : List Si) : Prop :=
  zs.length ≤ 9223372036854775807 ∧ ((∃ (a : Option Addr) (cap : Nat), sv = .slice a 0 cap ∧ zs = []) ∨ ∃ b off cap, sv = .slice (some ⟨b, off, none⟩) zs.length cap ∧ b < W.heap.size ∧ ∀ j, j < zs.length → ∀ i v, (zs[j]!).cells[i]? = some v → W.cell? ⟨b, off + j * 6 + i, none⟩ = some v)
theorem Sides.below {W W' : World} {sv : Value} {zs : List Si} (h : Sides W sv zs) (hb : Below W.heap.size W W') : Sides W' sv zs := by
  obtain ⟨hm, ⟨a, cap, rfl, rfl⟩ | ⟨b, off, cap, rfl, hlt, hc⟩⟩ := h
  · exact ⟨hm, .inl ⟨a, cap, rfl, rfl⟩⟩
  · exact ⟨hm, .inr ⟨b, off, cap, rfl, by have := hb.size; omega, fun j hj i v hv => (hb.cell (p := ⟨b, off + j * 6 + i, none⟩) hlt).trans (hc j hj i v hv)⟩⟩
theorem flat_get (l : List Si) (j i : Nat) (hi : i < 6) (hj : j < l.length) : (l.flatMap Si.cells)[j * 6 + i]? = (l[j]!).cells[i]? := by
  induction l generalizing j with
  | nil => simp at hj
  | cons a l ih =>
    cases j with
    | zero =>
      rw [List.flatMap_cons, List.getElem?_append_left (by simp [Si.cells]; omega)]; simp
    | succ j =>
      rw [List.flatMap_cons, List.getElem?_append_right (by simp [Si.cells]; omega)]
      rw [show (j + 1) * 6 + i - a.cells.length = j * 6 + i by simp [Si.cells]; omega, ih j (by simpa using hj)]; simp
theorem Sides.whole {W : World} {g t n : Nat} {zs : List Si} (h : Whole W g t (zs.flatMap Si.cells)) (hn : zs.length = n) (hm : n ≤ 9223372036854775807) : Sides W (.slice (some ⟨g, 0, none⟩) n n) zs := by
  refine ⟨by omega, .inr ⟨g, 0, n, by rw [hn], h.lt, fun j hj i v hv => ?_⟩⟩
  rw [h.cellAt]
  have hi : i < 6 := by
    have := (List.getElem?_eq_some_iff.1 hv).1; simpa [Si.cells] using this
  rw [show 0 + j * 6 + i = j * 6 + i by omega, flat_get zs j i hi hj]; exact hv
set_option maxHeartbeats 400000 in
theorem wrong_any (s : Si) (W : World) :
    Calls Try.prog 96 #[s.val] W fun e W' => e = .returned (.bool (!rightS s)) ∧ Below W.heap.size W W' := by
  have HR := Lib.hid (fun X => right_any s X)
  obtain ⟨b, hb⟩ : ∃ b, rightS s = b := ⟨_, rfl⟩
  rw [hb] at HR ⊢
  clear hb
  unfold Si.val at *
  go_enter Try.func96, Try.ntmps96
  go_wp2_with fail
  refine (HR.out _).mono ?_
  rintro e w' ⟨rfl, hb1⟩
  have HB := Lib.hid hb1
  clear hb1
  go_wp2
  go_ret
  exact ⟨by first | rfl | (simp; done), ((Below.refl _ _).alloc (Nat.le_refl _) _).trans (HB.out.mono (by simp))⟩
theorem any_not (p : Si → Bool) (zs : List Si) : (zs.any fun r => !p r) = !(zs.all p) := by
  induction zs with
  | nil => rfl
  | cons a l ih => rw [List.any_cons, List.all_cons, ih]; cases p a <;> rfl
set_option maxHeartbeats 400000 in
theorem allRight_any (sv : Value) (zs : List Si) (W : World) (hI : Sides W sv zs) :
    Calls Try.prog 84 #[sv] W fun e W' => e = .returned (.bool (zs.all rightS)) ∧ Below W.heap.size W W' := by
  have eg : ∀ args w, (callFunc 96 args).run Try.prog w = .ok (.enter 96 args) w := enters_of Try.func96 (by kernel_rfl) rfl
  have hcall : Calls Try.prog 95 #[sv, .func (.func 96) #[] #[]] W fun e W' => e = .returned (.bool (zs.any fun r => !rightS r)) ∧ Below W.heap.size W W' := by
    obtain ⟨hm, ⟨a, cap, rfl, rfl⟩ | ⟨b, off, cap, rfl, hlt, hc⟩⟩ := hI
    · have hN : Calls Try.prog 104 #[.slice a 0 cap, .func (.func 96) #[] #[]] W (IdxPost false W) := by
        go_enter Try.func104, Try.ntmps104
        go_wp2
        refine wp_loop_rounds 1 ?_
        rw [rounds_succ]
        go_wp2
        go_ret
        exact ⟨-1, rfl, rfl, rfl⟩
      have HC := Lib.hid hN
      clear hN
      go_enter Try.func95, Try.ntmps95
      go_wp2_with fail
      refine HC.out.mono ?_
      rintro e w' ⟨i, rfl, hi, rfl⟩
      have HI := Lib.hid hi
      clear hi
      go_wp2
      go_ret
      refine ⟨?_, Below.refl _ _⟩
      have := HI.out
      first | (rw [this]; rfl) | (simp [this]; done) | (simp; simpa using this)
    · have h := AnyQ.slices_ContainsFunc Try.containsS 6 Try.isAgg54 Try.sizeOf54 Si.cells (fun _ => rfl) (fun r => !rightS r) 96 #[] eg b off zs.length cap zs W (fun X r hX => (wrong_any r X).mono fun _ _ ⟨he, hb⟩ => ⟨he, hX.trans (hb.mono hX.size)⟩) (Nat.le_refl _) hm hlt hc
      rw [List.take_length] at h
      exact h
  rw [any_not] at hcall
  obtain ⟨b, hb⟩ : ∃ b, zs.all rightS = b := ⟨_, rfl⟩
  rw [hb] at hcall ⊢
  have HC := Lib.hid hcall
  clear hcall hb
  go_enter Try.func84, Try.ntmps84
  go_wp2_with fail
  refine HC.out.mono ?_
  rintro e w' ⟨rfl, hb1⟩
  have HB := Lib.hid hb1
  clear hb1
  go_wp2
  go_ret
  exact ⟨by cases b <;> rfl, HB.out⟩

/-- half of a border -/
def halfI (w : Int) (first : Bool) : Int := if first then max w 0 - max w 0 / 2 else max w 0 / 2
set_option maxHeartbeats 400000 in
theorem half_any (w : Int) (f : Bool) (h1 : -9223372036854775808 ≤ w) (h2 : w ≤ 9223372036854775807) (W : World) :
    Calls Try.prog 21 #[.int .i64 w, .bool f] W fun e W' => e = .returned (.int .i64 (halfI w f)) ∧ W = W' := by
  by_cases hw : w < 0
  · have hm : Hid (max w 0 = 0) := Lib.hid (by omega)
    cases f
    all_goals
      go_enter Try.func21, Try.ntmps21
      go_wp2
      go_ret
      exact ⟨by simp [halfI, hm.out], rfl⟩
  · have hm : Hid (max w 0 = w) := Lib.hid (by omega)
    cases f
    all_goals
      go_enter Try.func21, Try.ntmps21
      go_wp2
      go_ret
      exact ⟨by simp [halfI, hm.out], rfl⟩
end Go.Proofs.Ytceippgkmoijdaa

namespace Go.Proofs.Ytceippgkmoijdaa
open Go.ChangeShapes Go.WideShapes Go.ChangeAt Go.RowKit Go.Joins Go.Shelf
set_option linter.unusedVariables false
set_option linter.unusedSimpArgs false

theorem add_plainK (b off j : Nat) : (⟨b, off, none⟩ : Addr).add j = ⟨b, off + j, none⟩ := by simp [Addr.add]
/-- a slice of structs: its cells -/
def RowsK {α : Type} [Inhabited α] (cells : α → List Value) (n : Nat) (W : World) (sv : Value) (zs : List α) : Prop :=
  zs.length ≤ 9223372036854775807 ∧ ((∃ (a : Option Addr) (cap : Nat), sv = .slice a 0 cap ∧ zs = []) ∨ ∃ b off cap, sv = .slice (some ⟨b, off, none⟩) zs.length cap ∧ b < W.heap.size ∧ ∀ j, j < zs.length → ∀ i v, (cells (zs[j]!))[i]? = some v → W.cell? ⟨b, off + j * n + i, none⟩ = some v)
theorem RowsK.below {α : Type} [Inhabited α] {cells : α → List Value} {n : Nat} {W W' : World} {sv : Value} {zs : List α} (h : RowsK cells n W sv zs) (hb : Below W.heap.size W W') : RowsK cells n W' sv zs := by
  obtain ⟨hm, ⟨a, cap, rfl, rfl⟩ | ⟨b, off, cap, rfl, hlt, hc⟩⟩ := h
  · exact ⟨hm, .inl ⟨a, cap, rfl, rfl⟩⟩
  · exact ⟨hm, .inr ⟨b, off, cap, rfl, by have := hb.size; omega, fun j hj i v hv => (hb.cell (p := ⟨b, off + j * n + i, none⟩) hlt).trans (hc j hj i v hv)⟩⟩
theorem RowsK.at {α : Type} [Inhabited α] {cells : α → List Value} {n : Nat} {W : World} {p : Option Addr} {m c : Nat} {zs : List α} (h : RowsK cells n W (.slice p m c) zs) (k : Nat) (s : α) (hs : zs[k]? = some s) :
    ∃ b off, p = some ⟨b, off, none⟩ ∧ b < W.heap.size ∧ ∀ i v, (cells s)[i]? = some v → W.cell? ⟨b, off + k * n + i, none⟩ = some v := by
  obtain ⟨hm, ⟨a, cap, e, rfl⟩ | ⟨b, off, cap, e, hlt, hc⟩⟩ := h
  · simp at hs
  · injection e with e1 e2 e3
    have hk := (List.getElem?_eq_some_iff.1 hs).1
    refine ⟨b, off, e1, hlt, fun i v hv => hc k hk i v ?_⟩
    have : zs[k]! = s := by simp [List.getElem!_eq_getElem?_getD, hs]
    rw [this]; exact hv
theorem RowsK.len {α : Type} [Inhabited α] {cells : α → List Value} {n : Nat} {W : World} {p : Option Addr} {m c : Nat} {zs : List α} (h : RowsK cells n W (.slice p m c) zs) : zs.length = m := by
  obtain ⟨hm, ⟨a, cap, e, rfl⟩ | ⟨b, off, cap, e, hlt, hc⟩⟩ := h
  · injection e with e1 e2 e3; subst e2; rfl
  · injection e with e1 e2 e3; exact e2.symm
theorem RowsK.slice {α : Type} [Inhabited α] {cells : α → List Value} {n : Nat} {W : World} {sv : Value} {zs : List α} (h : RowsK cells n W sv zs) : ∃ p c, sv = .slice p zs.length c := by
  obtain ⟨hm, ⟨a, cap, e, rfl⟩ | ⟨b, off, cap, e, hlt, hc⟩⟩ := h
  · exact ⟨a, cap, e⟩
  · exact ⟨_, cap, e⟩
theorem RowsK.none {α : Type} [Inhabited α] {cells : α → List Value} {n : Nat} {W : World} {a : Option Addr} {c : Nat} : RowsK cells n W (.slice a 0 c) ([] : List α) := ⟨by simp, .inl ⟨a, c, rfl, rfl⟩⟩
theorem flat_getK {α : Type} [Inhabited α] (cells : α → List Value) (n : Nat) (hn : ∀ a, (cells a).length = n) (l : List α) (j i : Nat) (hi : i < n) (hj : j < l.length) : (l.flatMap cells)[j * n + i]? = (cells (l[j]!))[i]? := by
  induction l generalizing j with
  | nil => simp at hj
  | cons a l ih =>
    cases j with
    | zero =>
      rw [List.flatMap_cons, List.getElem?_append_left (by rw [hn]; omega)]; simp
    | succ j =>
      rw [List.flatMap_cons, List.getElem?_append_right (by rw [hn, Nat.succ_mul]; omega)]
      rw [show (j + 1) * n + i - (cells a).length = j * n + i by rw [hn, Nat.succ_mul]; omega, ih j (by simpa using hj)]; simp
theorem RowsK.whole {α : Type} [Inhabited α] {cells : α → List Value} {n : Nat} (hn : ∀ a, (cells a).length = n) {W : World} {g t m : Nat} {zs : List α} (h : Whole W g t (zs.flatMap cells)) (hz : zs.length = m) (c : Nat) (hm : m ≤ 9223372036854775807) : RowsK cells n W (.slice (some ⟨g, 0, Option.none⟩) m c) zs := by
  refine ⟨by omega, .inr ⟨g, 0, c, by rw [hz], h.lt, fun j hj i v hv => ?_⟩⟩
  rw [h.cellAt]
  have hi : i < n := by
    have := (List.getElem?_eq_some_iff.1 hv).1; rwa [hn] at this
  rw [show 0 + j * n + i = j * n + i by omega, flat_getK cells n hn zs j i hi hj]; exact hv
/-- a slice of structs that is an argument -/
def RowArg {α : Type} [Inhabited α] (cells : α → List Value) (wf : α → Prop) (n : Nat) (W : World) (a : Option Addr) (len cap : Nat) (zs : List α) : Prop :=
  (∀ s ∈ zs, wf s) ∧ ((a = none ∧ len = 0 ∧ cap = 0 ∧ zs = []) ∨ ∃ x, a = some x ∧ len ≤ cap ∧ cap ≤ maxLen ∧ zs.length = len ∧ ∀ j, j < len → ∀ i v, (cells (zs[j]!))[i]? = some v → W.cell? (x.add (j * n + i)) = some v)
theorem open_rowsK {α : Type} [Inhabited α] {H : Type} {enc : TypeId × Value → H} {w : World} {base : Nat} {spare : Nat → Bool} {held : Bool} {cells : α → List Value} {wf : α → Prop} {n T E : Nat} (hT : Try.prog.underlying T = some (.slice E)) (hE : Try.prog.cellsOf E = n) (hn : ∀ a, (cells a).length = n)
    (one : ∀ {fuel : Nat} {cs : List Value} {x : DataW H × List MemPlace}, DataW.trod enc Try.prog w base spare held fuel E cs = some x → ∃ q : α, cs = cells q ∧ wf q)
    {a : Option Addr} {len cap fuel : Nat} {y : DataW H × List MemPlace} (h : DataW.trod enc Try.prog w base spare held fuel T [.slice a len cap] = some y) : ∃ zs, RowArg cells wf n w a len cap zs := by
  rcases Go.Deep.open_slice hT h with ⟨hcs, _⟩ | ⟨x, l, c, m, nn, D, Pl, hcs, _, hl, hm, hmm, _, hx⟩
  · simp at hcs
    obtain ⟨rfl, rfl, rfl⟩ := hcs
    exact ⟨[], by simp, .inl ⟨rfl, rfl, rfl, rfl⟩⟩
  · simp at hcs
    obtain ⟨rfl, rfl, rfl⟩ := hcs
    have hlm : len ≤ m := by rw [hmm]; split <;> omega
    rw [hE] at hx
    have each : ∀ i, i < len → ∃ q : α, wf q ∧ ∀ k v, (cells q)[k]? = some v → w.cell? (x.add (i * n + k)) = some v := by
      intro i hi
      obtain ⟨cs, h1, h2⟩ := hx i (by omega)
      obtain ⟨q, rfl, hw⟩ := one h2
      obtain ⟨_, _, hc⟩ := World.cells?_some h1
      refine ⟨q, hw, fun k v hv => ?_⟩
      have hk : k < n := by have := (List.getElem?_eq_some_iff.1 hv).1; rwa [hn] at this
      have := hc k hk
      rw [hv] at this
      rw [Go.Deep.add_add] at this
      exact this
    obtain ⟨q, hq⟩ := Go.Deep.choose_lt each
    refine ⟨(List.range len).map q, ?_, .inr ⟨x, rfl, hl, hm, by simp, fun j hj k v hv => ?_⟩⟩
    · intro s hs
      simp at hs
      obtain ⟨i, hi, rfl⟩ := hs
      exact (hq i hi).1
    · refine (hq j hj).2 k v ?_
      have e : ((List.range len).map q)[j]! = q j := by simp [hj]
      rw [e] at hv; exact hv
/-- an argument, cut to its first so many -/
theorem RowArg.take {α : Type} [Inhabited α] {cells : α → List Value} {wf : α → Prop} {n : Nat} (hn : ∀ a, (cells a).length = n) (h0 : 0 < n) {W : World} {a : Option Addr} {len cap : Nat} {zs : List α} (h : RowArg cells wf n W a len cap zs) (k : Nat) :
    RowsK cells n W (.slice a (min len k) cap) (zs.take k) ∧ (zs.take k).length = min len k ∧ len ≤ cap ∧ cap ≤ 9223372036854775807 ∧ (∀ s ∈ zs.take k, wf s) ∧ ((a = none ∧ len = 0 ∧ cap = 0) ∨ ∃ g off m, a = some ⟨g, off, m⟩) := by
  have hw : ∀ s ∈ zs.take k, wf s := fun s hs => h.1 s (List.mem_of_mem_take hs)
  rcases h.2 with ⟨rfl, rfl, rfl, rfl⟩ | ⟨x, rfl, hl, hm, hz, hc⟩
  · exact ⟨by rw [Nat.zero_min, List.take_nil]; exact RowsK.none, by simp, by simp, by simp, hw, .inl ⟨rfl, rfl, rfl⟩⟩
  · unfold maxLen at hm
    obtain ⟨g, off, m⟩ := x
    have ht : (zs.take k).length = min len k := by rw [List.length_take, hz, Nat.min_comm]
    refine ⟨?_, ht, hl, by omega, hw, .inr ⟨g, off, m, rfl⟩⟩
    refine ⟨by omega, ?_⟩
    by_cases h1 : min len k = 0
    · rw [h1] at ht ⊢
      exact .inl ⟨_, _, rfl, List.length_eq_zero_iff.1 ht⟩
    · right
      obtain ⟨v0, hv0⟩ : ∃ v, (cells (zs[0]!))[0]? = some v := ⟨_, List.getElem?_eq_getElem (by rw [hn]; exact h0)⟩
      have c0 := hc 0 (by omega) 0 v0 hv0
      have hs : m = none := by simpa [Addr.add] using World.cell?_spot c0
      subst hs
      refine ⟨g, off, cap, by rw [ht], ?_, fun j hj i v hv => ?_⟩
      · simpa [Addr.add] using cell_lt c0
      · have hj' : j < len := by omega
        have hjk : j < k := by omega
        have e : (zs.take k)[j]! = zs[j]! := by simp [List.getElem!_eq_getElem?_getD, List.getElem?_take, hjk]
        rw [e] at hv
        have := hc j hj' i v hv
        rw [add_plainK] at this
        rw [show off + j * n + i = off + (j * n + i) by omega]
        exact this
end Go.Proofs.Ytceippgkmoijdaa
