/- Sides of borders: contracts of contest.rightLine, contest.Right, contest.allRight, contest.Half. -/
import Derived.Test.YtmcgieameodkbaaCBase
import Derived.Test.YtmcgieameodkbaaShelf
import Derived.BigRegion
import Derived.RegionTactic
namespace Go.Proofs.Ytmcgieameodkbaa
open Go.RowKit Go.Shelf
set_option linter.unusedVariables false
set_option linter.unusedSimpArgs false

/-- a side -/
structure Si where
  st : Int
  wd : Int
  co : Int
  bb : Int
  ro : Int
  cl : Int
  deriving DecidableEq, Inhabited
def Si.cells (s : Si) : List Value := [.int .i64 s.st, .int .i64 s.wd, .int .u32 s.co, .int .i64 s.bb, .int .i64 s.ro, .int .i64 s.cl]
def Si.val (s : Si) : Value := .agg #[.int .i64 s.st, .int .i64 s.wd, .int .u32 s.co, .int .i64 s.bb, .int .i64 s.ro, .int .i64 s.cl]
theorem Si.val_eq (s : Si) : s.val = .agg s.cells.toArray := rfl
/-- how wide a border of that style may be -/
def mostW (st : Int) : Int := if st = 0 then 0 else if st = 1 then 0 else 1073741824
def lineB (st wd : Int) : Bool := !([st].any (outB 0 9)) && !([wd].any (outB 0 (mostW st)))
/-- is a side right? -/
def rightS (s : Si) : Bool := lineB s.st s.wd && (!([s.bb].any (outB 0 5)) && !([s.ro, s.cl].any (outB 0 1000000)))
theorem rightS_iff (s : Si) : rightS s = true ↔ (0 ≤ s.st ∧ s.st ≤ 9) ∧ (0 ≤ s.wd ∧ s.wd ≤ mostW s.st) ∧ (0 ≤ s.bb ∧ s.bb ≤ 5) ∧ (0 ≤ s.ro ∧ s.ro ≤ 1000000) ∧ (0 ≤ s.cl ∧ s.cl ≤ 1000000) := by
  simp [rightS, lineB, outB]; omega
theorem rightS_width {s : Si} (h : rightS s = true) : 0 ≤ s.wd ∧ s.wd ≤ 1073741824 := by
  have := (rightS_iff s).1 h
  have hm : mostW s.st ≤ 1073741824 := by unfold mostW; split <;> (try split) <;> omega
  omega

set_option maxHeartbeats 1000000 in
theorem line_any (st wd co : Int) (W : World) :
    Calls Try.prog 27 #[.agg #[.int .i64 st, .int .i64 wd, .int .u32 co]] W fun e W' => e = .returned (.bool (lineB st wd)) ∧ Below W.heap.size W W' := by
  obtain ⟨mo, hmo⟩ : ∃ mo, mostW st = mo := ⟨_, rfl⟩
  have hcase : (st = 0 ∧ mo = 0) ∨ (st = 1 ∧ mo = 0) ∨ ((st != 0) = true ∧ (st != 1) = true ∧ mo = 1073741824) := by
    rw [← hmo]; unfold mostW; simp; omega
  cases h1 : [st].any (outB 0 9) with
  | true =>
    have hb : Hid (lineB st wd = false) := Lib.hid (by simp only [lineB, h1]; rfl)
    have HW := Lib.hid (fun sv X hI => h1 ▸ within_any_k 0 9 sv [st] X hI)
    clear h1
    clear hmo
    rcases hcase with ⟨rfl, rfl⟩ | ⟨rfl, rfl⟩ | ⟨h2, h3, rfl⟩
    all_goals
      go_enter Try.func27, Try.ntmps27
      go_wp2_with fail
      refine (HW.out _ _ (Ints.whole (t := 3) (whole_new _ _ _ _ (by simp)) rfl (by simp))).mono ?_
      rintro e w' ⟨rfl, hb1⟩
      have HB := Lib.hid hb1
      clear hb1
      go_wp2
      go_ret
      exact ⟨by rw [hb.out] <;> first | rfl | (simp; done), ((((Below.refl _ _).alloc (Nat.le_refl _) _).alloc (by simp) _).trans (HB.out.mono (by simp <;> omega)))⟩
  | false =>
    have hb : Hid (lineB st wd = !([wd].any (outB 0 (mostW st)))) := Lib.hid (by simp only [lineB, h1]; rfl)
    have HW := Lib.hid (fun sv X hI => h1 ▸ within_any_k 0 9 sv [st] X hI)
    have HV := Lib.hid (fun sv X hI => within_any 0 mo sv [wd] X hI)
    rw [hmo] at hb
    obtain ⟨q, hq⟩ : ∃ q, [wd].any (outB 0 mo) = q := ⟨_, rfl⟩
    rw [hq] at hb
    replace HV := Lib.hid (fun sv X hI => hq ▸ HV.out sv X hI)
    clear h1 hmo hq
    rcases hcase with ⟨rfl, rfl⟩ | ⟨rfl, rfl⟩ | ⟨h2, h3, rfl⟩
    all_goals
      go_enter Try.func27, Try.ntmps27
      go_wp2_with fail
      refine (HW.out _ _ (Ints.whole (t := 3) (whole_new _ _ _ _ (by simp)) rfl (by simp))).mono ?_
      rintro e w1 ⟨rfl, hb1⟩
      have kr := Whole.below (g := W.heap.size) (t := 24) (xs := _) ((whole_new W _ _ _ rfl).alloc _) hb1 (by simp <;> omega)
      have c1 := kr.cellAt 1
      have l1 := kr.lt
      have HB := Lib.hid ((((Below.refl _ _).alloc (Nat.le_refl _) _).alloc (by simp) _).trans (hb1.mono (by simp <;> omega)))
      clear hb1 kr
      go_wp2_with fail
      refine (HV.out _ _ (Ints.whole (t := 2) (whole_new _ _ _ _ (by simp)) rfl (by simp))).mono ?_
      rintro e w2 ⟨rfl, hb2⟩
      have HB2 := Lib.hid hb2
      clear hb2
      go_wp2
      go_ret
      exact ⟨by rw [hb.out] <;> first | rfl | (simp; done), HB.out.trans (((Below.refl _ _).alloc HB.out.size _).trans (HB2.out.mono (by have := HB.out.size; simp <;> omega)))⟩

set_option maxHeartbeats 1000000 in
theorem right_any (s : Si) (W : World) :
    Calls Try.prog 14 #[s.val] W fun e W' => e = .returned (.bool (rightS s)) ∧ Below W.heap.size W W' := by
  obtain ⟨st, wd, co, bb, ro, cl⟩ := s
  unfold Si.val
  dsimp only
  have HL := Lib.hid (fun X => line_any st wd co X)
  cases h1 : lineB st wd with
  | false =>
    have hb : Hid (rightS ⟨st, wd, co, bb, ro, cl⟩ = false) := Lib.hid (by simp only [rightS, h1]; rfl)
    rw [h1] at HL
    clear h1
    go_enter Try.func14, Try.ntmps14
    go_wp2_with fail
    refine (HL.out _).mono ?_
    rintro e w1 ⟨rfl, hb1⟩
    have HB := Lib.hid hb1
    clear hb1
    go_wp2
    go_ret
    exact ⟨by rw [hb.out] <;> first | rfl | (simp; done), ((Below.refl _ _).alloc (Nat.le_refl _) _).trans (HB.out.mono (by simp <;> omega))⟩
  | true =>
    rw [h1] at HL
    cases h2 : [bb].any (outB 0 5) with
    | true =>
      have hb : Hid (rightS ⟨st, wd, co, bb, ro, cl⟩ = false) := Lib.hid (by simp only [rightS, h1, h2]; rfl)
      have HV := Lib.hid (fun sv X hI => h2 ▸ within_any_k 0 5 sv [bb] X hI)
      clear h1 h2
      go_enter Try.func14, Try.ntmps14
      go_wp2_with fail
      refine (HL.out _).mono ?_
      rintro e w1 ⟨rfl, hb1⟩
      have kr := Whole.below (g := W.heap.size) (t := 26) (xs := _) (whole_new W _ _ _ rfl) hb1 (by simp <;> omega)
      have c3 := kr.cellAt 3
      have l1 := kr.lt
      have HB := Lib.hid (((Below.refl _ _).alloc (Nat.le_refl _) _).trans (hb1.mono (by simp <;> omega)))
      clear hb1 kr
      go_wp2_with fail
      refine (HV.out _ _ (Ints.whole (t := 3) (whole_new _ _ _ _ (by simp)) rfl (by simp))).mono ?_
      rintro e w2 ⟨rfl, hb2⟩
      have HB2 := Lib.hid hb2
      clear hb2
      go_wp2
      go_ret
      exact ⟨by rw [hb.out] <;> first | rfl | (simp; done), HB.out.trans (((Below.refl _ _).alloc HB.out.size _).trans (HB2.out.mono (by have := HB.out.size; simp <;> omega)))⟩
    | false =>
      have hb : Hid (rightS ⟨st, wd, co, bb, ro, cl⟩ = !([ro, cl].any (outB 0 1000000))) := Lib.hid (by simp only [rightS, h1, h2]; rfl)
      have HV := Lib.hid (fun sv X hI => h2 ▸ within_any_k 0 5 sv [bb] X hI)
      obtain ⟨q, hq⟩ : ∃ q, [ro, cl].any (outB 0 1000000) = q := ⟨_, rfl⟩
      have HR := Lib.hid (fun sv X hI => hq ▸ within_any_k 0 1000000 sv [ro, cl] X hI)
      rw [hq] at hb
      clear h1 h2 hq
      go_enter Try.func14, Try.ntmps14
      go_wp2_with fail
      refine (HL.out _).mono ?_
      rintro e w1 ⟨rfl, hb1⟩
      have kr := Whole.below (g := W.heap.size) (t := 26) (xs := _) (whole_new W _ _ _ rfl) hb1 (by simp <;> omega)
      have c3 := kr.cellAt 3
      have l1 := kr.lt
      have HB := Lib.hid (((Below.refl _ _).alloc (Nat.le_refl _) _).trans (hb1.mono (by simp <;> omega)))
      clear hb1
      go_wp2_with fail
      refine (HV.out _ _ (Ints.whole (t := 3) (whole_new _ _ _ _ (by simp)) rfl (by simp))).mono ?_
      rintro e w2 ⟨rfl, hb2⟩
      replace kr := (kr.alloc _).below hb2 (by simp <;> omega)
      clear c3 l1
      have c4 := kr.cellAt 4
      have c5 := kr.cellAt 5
      have l1 := kr.lt
      have HB2 := Lib.hid (HB.out.trans (((Below.refl _ _).alloc HB.out.size _).trans (hb2.mono (by have := HB.out.size; simp <;> omega))))
      clear hb2 kr HB
      go_wp2_with fail
      refine (HR.out _ _ (Ints.whole (t := 3) (whole_new _ _ _ _ (by simp)) rfl (by simp))).mono ?_
      rintro e w3 ⟨rfl, hb3⟩
      have HB3 := Lib.hid hb3
      clear hb3
      go_wp2
      go_ret
      exact ⟨by rw [hb.out] <;> first | rfl | (simp; done), HB2.out.trans (((Below.refl _ _).alloc HB2.out.size _).trans (HB3.out.mono (by have := HB2.out.size; simp <;> omega)))⟩

/-- a slice of sides: its cells -/
def Sides (W : World) (sv : Value) (zs : List Si) : Prop :=
  zs.length ≤ 9223372036854775807 ∧ ((∃ (a : Option Addr) (cap : Nat), sv = .slice a 0 cap ∧ zs = []) ∨ ∃ b off cap, sv = .slice (some ⟨b, off, none⟩) zs.length cap ∧ b < W.heap.size ∧ ∀ j, j < zs.length → ∀ i v, (zs[j]!).cells[i]? = some v → W.cell? ⟨b, off + j * 6 + i, none⟩ = some v)
theorem Sides.below {W W' : World} {sv : Value} {zs : List Si} (h : Sides W sv zs) (hb : Below W.heap.size W W') : Sides W' sv zs := by
  obtain ⟨hm, ⟨a, cap, rfl, rfl⟩ | ⟨b, off, cap, rfl, hlt, hc⟩⟩ := h
  · exact ⟨hm, .inl ⟨a, cap, rfl, rfl⟩⟩
  · exact ⟨hm, .inr ⟨b, off, cap, rfl, by have := hb.size; omega, fun j hj i v hv => (hb.cell (p := ⟨b, off + j * 6 + i, none⟩) hlt).trans (hc j hj i v hv)⟩⟩
theorem flat_get (l : List Si) (j i : Nat) (hi : i < 6) (hj : j < l.length) : (l.flatMap Si.cells)[j * 6 + i]? = (l[j]!).cells[i]? := by
  induction l generalizing j with
  | nil => simp at hj
  | cons a l ih =>
    cases j with
    | zero =>
      rw [List.flatMap_cons, List.getElem?_append_left (by simp [Si.cells]; omega)]; simp
    | succ j =>
      rw [List.flatMap_cons, List.getElem?_append_right (by simp [Si.cells]; omega)]
      rw [show (j + 1) * 6 + i - a.cells.length = j * 6 + i by simp [Si.cells]; omega, ih j (by simpa using hj)]; simp
theorem Sides.whole {W : World} {g t n : Nat} {zs : List Si} (h : Whole W g t (zs.flatMap Si.cells)) (hn : zs.length = n) (hm : n ≤ 9223372036854775807) : Sides W (.slice (some ⟨g, 0, none⟩) n n) zs := by
  refine ⟨by omega, .inr ⟨g, 0, n, by rw [hn], h.lt, fun j hj i v hv => ?_⟩⟩
  rw [h.cellAt]
  have hi : i < 6 := by
    have := (List.getElem?_eq_some_iff.1 hv).1; simpa [Si.cells] using this
  rw [show 0 + j * 6 + i = j * 6 + i by omega, flat_get zs j i hi hj]; exact hv
set_option maxHeartbeats 400000 in
theorem wrong_any (s : Si) (W : World) :
    Calls Try.prog 33 #[s.val] W fun e W' => e = .returned (.bool (!rightS s)) ∧ Below W.heap.size W W' := by
  have HR := Lib.hid (fun X => right_any s X)
  obtain ⟨b, hb⟩ : ∃ b, rightS s = b := ⟨_, rfl⟩
  rw [hb] at HR ⊢
  clear hb
  unfold Si.val at *
  go_enter Try.func33, Try.ntmps33
  go_wp2_with fail
  refine (HR.out _).mono ?_
  rintro e w' ⟨rfl, hb1⟩
  have HB := Lib.hid hb1
  clear hb1
  go_wp2
  go_ret
  exact ⟨by first | rfl | (simp; done), ((Below.refl _ _).alloc (Nat.le_refl _) _).trans (HB.out.mono (by simp))⟩
theorem any_not (p : Si → Bool) (zs : List Si) : (zs.any fun r => !p r) = !(zs.all p) := by
  induction zs with
  | nil => rfl
  | cons a l ih => rw [List.any_cons, List.all_cons, ih]; cases p a <;> rfl
set_option maxHeartbeats 400000 in
theorem allRight_any (sv : Value) (zs : List Si) (W : World) (hI : Sides W sv zs) :
    Calls Try.prog 25 #[sv] W fun e W' => e = .returned (.bool (zs.all rightS)) ∧ Below W.heap.size W W' := by
  have eg : ∀ args w, (callFunc 33 args).run Try.prog w = .ok (.enter 33 args) w := enters_of Try.func33 (by kernel_rfl) rfl
  have hcall : Calls Try.prog 32 #[sv, .func (.func 33) #[] #[]] W fun e W' => e = .returned (.bool (zs.any fun r => !rightS r)) ∧ Below W.heap.size W W' := by
    obtain ⟨hm, ⟨a, cap, rfl, rfl⟩ | ⟨b, off, cap, rfl, hlt, hc⟩⟩ := hI
    · have hN : Calls Try.prog 43 #[.slice a 0 cap, .func (.func 33) #[] #[]] W (IdxPost false W) := by
        go_enter Try.func43, Try.ntmps43
        go_wp2
        refine wp_loop_rounds 1 ?_
        rw [rounds_succ]
        go_wp2
        go_ret
        exact ⟨-1, rfl, rfl, rfl⟩
      have HC := Lib.hid hN
      clear hN
      go_enter Try.func32, Try.ntmps32
      go_wp2_with fail
      refine HC.out.mono ?_
      rintro e w' ⟨i, rfl, hi, rfl⟩
      have HI := Lib.hid hi
      clear hi
      go_wp2
      go_ret
      refine ⟨?_, Below.refl _ _⟩
      have := HI.out
      first | (rw [this]; rfl) | (simp [this]; done) | (simp; simpa using this)
    · have h := AnyQ.slices_ContainsFunc Try.containsS 6 Try.isAgg26 Try.sizeOf26 Si.cells (fun _ => rfl) (fun r => !rightS r) 33 #[] eg b off zs.length cap zs W (fun X r hX => (wrong_any r X).mono fun _ _ ⟨he, hb⟩ => ⟨he, hX.trans (hb.mono hX.size)⟩) (Nat.le_refl _) hm hlt hc
      rw [List.take_length] at h
      exact h
  rw [any_not] at hcall
  obtain ⟨b, hb⟩ : ∃ b, zs.all rightS = b := ⟨_, rfl⟩
  rw [hb] at hcall ⊢
  have HC := Lib.hid hcall
  clear hcall hb
  go_enter Try.func25, Try.ntmps25
  go_wp2_with fail
  refine HC.out.mono ?_
  rintro e w' ⟨rfl, hb1⟩
  have HB := Lib.hid hb1
  clear hb1
  go_wp2
  go_ret
  exact ⟨by cases b <;> rfl, HB.out⟩

/-- half of a border -/
def halfI (w : Int) (first : Bool) : Int := if first then max w 0 - max w 0 / 2 else max w 0 / 2
set_option maxHeartbeats 400000 in
theorem half_any (w : Int) (f : Bool) (h1 : -9223372036854775808 ≤ w) (h2 : w ≤ 9223372036854775807) (W : World) :
    Calls Try.prog 22 #[.int .i64 w, .bool f] W fun e W' => e = .returned (.int .i64 (halfI w f)) ∧ W = W' := by
  by_cases hw : w < 0
  · have hm : Hid (max w 0 = 0) := Lib.hid (by omega)
    cases f
    all_goals
      go_enter Try.func22, Try.ntmps22
      go_wp2
      go_ret
      exact ⟨by simp [halfI, hm.out], rfl⟩
  · have hm : Hid (max w 0 = w) := Lib.hid (by omega)
    cases f
    all_goals
      go_enter Try.func22, Try.ntmps22
      go_wp2
      go_ret
      exact ⟨by simp [halfI, hm.out], rfl⟩
end Go.Proofs.Ytmcgieameodkbaa
