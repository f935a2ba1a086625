/- Contracts of rect.allRight, rect.checked, rect.Move, rect.Inset, and of the document's own Right, none, Move, Inset. -/
import Derived.Test.YtjdnhpbifblneaaRBase
import Derived.Test.YtjdnhpbifblneaaShelf
import Derived.BigRegion
import Derived.RegionTactic
namespace Go.Proofs.Ytjdnhpbifblneaa
open Go.RowKit Go.Shelf
set_option linter.unusedVariables false
set_option linter.unusedSimpArgs false

/-- a slice of rectangles: its cells -/
def Rects (W : World) (sv : Value) (zs : List R) : Prop :=
  zs.length ≤ 9223372036854775807 ∧ ((∃ (a : Option Addr) (cap : Nat), sv = .slice a 0 cap ∧ zs = []) ∨ ∃ b off cap, sv = .slice (some ⟨b, off, none⟩) zs.length cap ∧ b < W.heap.size ∧ ∀ j, j < zs.length → ∀ i v, (zs[j]!).cells[i]? = some v → W.cell? ⟨b, off + j * 4 + i, none⟩ = some v)
theorem Rects.below {W W' : World} {sv : Value} {zs : List R} (h : Rects W sv zs) (hb : Below W.heap.size W W') : Rects W' sv zs := by
  obtain ⟨hm, ⟨a, cap, rfl, rfl⟩ | ⟨b, off, cap, rfl, hlt, hc⟩⟩ := h
  · exact ⟨hm, .inl ⟨a, cap, rfl, rfl⟩⟩
  · exact ⟨hm, .inr ⟨b, off, cap, rfl, by have := hb.size; omega, fun j hj i v hv => (hb.cell (p := ⟨b, off + j * 4 + i, none⟩) hlt).trans (hc j hj i v hv)⟩⟩
theorem Rects.whole {W : World} {g t n : Nat} {zs : List R} (h : Whole W g t (zs.flatMap R.cells)) (hn : zs.length = n) (hm : n ≤ 9223372036854775807) : Rects W (.slice (some ⟨g, 0, none⟩) n n) zs := by
  refine ⟨by omega, .inr ⟨g, 0, n, by rw [hn], h.lt, fun j hj i v hv => ?_⟩⟩
  rw [h.cellAt]
  have hi : i < 4 := by
    have := (List.getElem?_eq_some_iff.1 hv).1; simpa [R.cells] using this
  have key : ∀ (l : List R) (j : Nat), j < l.length → (l.flatMap R.cells)[j * 4 + i]? = (l[j]!).cells[i]? := by
    intro l
    induction l with
    | nil => intro j hj; simp at hj
    | cons a l ih =>
      intro j hj
      cases j with
      | zero =>
        rw [List.flatMap_cons, List.getElem?_append_left (by simp [R.cells]; omega)]; simp
      | succ j =>
        rw [List.flatMap_cons, List.getElem?_append_right (by simp [R.cells]; omega)]
        rw [show (j + 1) * 4 + i - a.cells.length = j * 4 + i by simp [R.cells]; omega, ih j (by simpa using hj)]; simp
  rw [show 0 + j * 4 + i = j * 4 + i by omega, key zs j hj]; exact hv

set_option maxHeartbeats 400000 in
theorem wrong_any (x y w h : Int) (W : World) :
    Calls Try.prog 25 #[.agg #[.int .i64 x, .int .i64 y, .int .i64 w, .int .i64 h]] W fun e W' => e = .returned (.bool (!rightB ⟨x, y, w, h⟩)) ∧ Below W.heap.size W W' := by
  go_enter Try.func25, Try.ntmps25
  go_wp2_with fail
  refine (right_any _ _ _ _ _).mono ?_
  rintro e w' ⟨rfl, hb1⟩
  have HB := Lib.hid hb1
  clear hb1
  obtain ⟨b, hb⟩ : ∃ b, rightB ⟨x, y, w, h⟩ = b := ⟨_, rfl⟩
  have hb' := Lib.hid hb
  rw [hb]; clear hb
  go_wp2
  go_ret
  exact ⟨by rw [hb'.out]; first | rfl | (simp; done), ((Below.refl _ _).alloc (Nat.le_refl _) _).trans (HB.out.mono (by simp))⟩
theorem any_not (p : R → Bool) (zs : List R) : (zs.any fun r => !p r) = !(zs.all p) := by
  induction zs with
  | nil => rfl
  | cons a l ih => rw [List.any_cons, List.all_cons, ih]; cases p a <;> rfl
set_option maxHeartbeats 400000 in
theorem allRight_any (sv : Value) (zs : List R) (W : World) (hI : Rects W sv zs) :
    Calls Try.prog 12 #[sv] W fun e W' => e = .returned (.bool (zs.all rightB)) ∧ Below W.heap.size W W' := by
  have eg : ∀ args w, (callFunc 25 args).run Try.prog w = .ok (.enter 25 args) w := enters_of Try.func25 (by kernel_rfl) rfl
  have hcall : Calls Try.prog 24 #[sv, .func (.func 25) #[] #[]] W fun e W' => e = .returned (.bool (zs.any fun r => !rightB r)) ∧ Below W.heap.size W W' := by
    obtain ⟨hm, ⟨a, cap, rfl, rfl⟩ | ⟨b, off, cap, rfl, hlt, hc⟩⟩ := hI
    · have hN : Calls Try.prog 37 #[.slice a 0 cap, .func (.func 25) #[] #[]] W (IdxPost false W) := by
        go_enter Try.func37, Try.ntmps37
        go_wp2
        refine wp_loop_rounds 1 ?_
        rw [rounds_succ]
        go_wp2
        go_ret
        exact ⟨-1, rfl, rfl, rfl⟩
      have HC := Lib.hid hN
      clear hN
      go_enter Try.func24, Try.ntmps24
      go_wp2_with fail
      refine HC.out.mono ?_
      rintro e w' ⟨i, rfl, hi, rfl⟩
      have HI := Lib.hid hi
      clear hi
      go_wp2
      go_ret
      refine ⟨?_, Below.refl _ _⟩
      have := HI.out
      first | (rw [this]; rfl) | (simp [this]; done) | (simp; simpa using this)
    · have h := AnyQ.slices_ContainsFunc Try.containsR 4 Try.isAgg23 Try.sizeOf23 R.cells (fun _ => rfl) (fun r => !rightB r) 25 #[] eg b off zs.length cap zs W (fun X r hX => (wrong_any r.x r.y r.w r.h X).mono fun _ _ ⟨he, hb⟩ => ⟨he, hX.trans (hb.mono hX.size)⟩) (Nat.le_refl _) hm hlt hc
      rw [List.take_length] at h
      exact h
  rw [any_not] at hcall
  obtain ⟨b, hb⟩ : ∃ b, zs.all rightB = b := ⟨_, rfl⟩
  rw [hb] at hcall ⊢
  have HC := Lib.hid hcall
  clear hcall hb
  go_enter Try.func12, Try.ntmps12
  go_wp2_with fail
  refine HC.out.mono ?_
  rintro e w' ⟨rfl, hb1⟩
  have HB := Lib.hid hb1
  clear hb1
  go_wp2
  go_ret
  exact ⟨by cases b <;> rfl, HB.out⟩

set_option maxHeartbeats 400000 in
theorem refRight_any (x y w h : Int) (W : World) :
    Calls Try.prog 16 #[.agg #[.int .i64 x, .int .i64 y, .int .i64 w, .int .i64 h]] W fun e W' => e = .returned (.bool (rightB ⟨x, y, w, h⟩)) ∧ Below W.heap.size W W' := by
  have hiff := rightB_iff ⟨x, y, w, h⟩
  dsimp only at hiff
  have hall : ((-1152921504606846976 ≤ x ∧ x ≤ 1152921504606846975 ∧ -1152921504606846976 ≤ y ∧ y ≤ 1152921504606846975 ∧ 0 ≤ w ∧ w ≤ 1152921504606846975 ∧ 0 ≤ h ∧ h ≤ 1152921504606846975) ∧ Hid (rightB ⟨x, y, w, h⟩ = true)) ∨
      (Hid (rightB ⟨x, y, w, h⟩ = false) ∧ (x < -1152921504606846976 ∨ (-1152921504606846976 ≤ x ∧ 1152921504606846975 < x) ∨ (-1152921504606846976 ≤ x ∧ x ≤ 1152921504606846975 ∧ y < -1152921504606846976) ∨ (-1152921504606846976 ≤ x ∧ x ≤ 1152921504606846975 ∧ -1152921504606846976 ≤ y ∧ 1152921504606846975 < y) ∨
        (-1152921504606846976 ≤ x ∧ x ≤ 1152921504606846975 ∧ -1152921504606846976 ≤ y ∧ y ≤ 1152921504606846975 ∧ w < 0) ∨ (-1152921504606846976 ≤ x ∧ x ≤ 1152921504606846975 ∧ -1152921504606846976 ≤ y ∧ y ≤ 1152921504606846975 ∧ 0 ≤ w ∧ 1152921504606846975 < w) ∨
        (-1152921504606846976 ≤ x ∧ x ≤ 1152921504606846975 ∧ -1152921504606846976 ≤ y ∧ y ≤ 1152921504606846975 ∧ 0 ≤ w ∧ w ≤ 1152921504606846975 ∧ h < 0) ∨ (-1152921504606846976 ≤ x ∧ x ≤ 1152921504606846975 ∧ -1152921504606846976 ≤ y ∧ y ≤ 1152921504606846975 ∧ 0 ≤ w ∧ w ≤ 1152921504606846975 ∧ 0 ≤ h ∧ 1152921504606846975 < h))) := by
    by_cases hr : rightB ⟨x, y, w, h⟩ = true
    · exact .inl ⟨by have := hiff.1 hr; omega, Lib.hid hr⟩
    · refine .inr ⟨Lib.hid (by simpa using hr), ?_⟩
      have hn : ¬ _ := fun k => hr (hiff.2 k)
      omega
  clear hiff
  rcases hall with ⟨⟨c1, c2, c3, c4, c5, c6, c7, c8⟩, HB⟩ | ⟨HB, c | ⟨c1, c⟩ | ⟨c1, c2, c⟩ | ⟨c1, c2, c3, c⟩ | ⟨c1, c2, c3, c4, c⟩ | ⟨c1, c2, c3, c4, c5, c⟩ | ⟨c1, c2, c3, c4, c5, c6, c⟩ | ⟨c1, c2, c3, c4, c5, c6, c7, c⟩⟩
  all_goals
    go_enter Try.func16, Try.ntmps16
    go_wp2
    go_ret
    exact ⟨by rw [HB.out]; first | rfl | (simp; done) | (simp; omega), (Below.refl _ _).alloc (Nat.le_refl _) _⟩
def rightR (r : R) : R × Int := if rightB r then (r, 0) else (⟨0, 0, 0, 0⟩, 20)
def retR (p : R × Int) : Ending := .returned (.tuple #[.agg #[.int .i64 p.1.x, .int .i64 p.1.y, .int .i64 p.1.w, .int .i64 p.1.h], .int .i64 p.2])
def moveB (x y : Int) : Bool := !([x, y].any (outB (-2305843009213693952) 2305843009213693952))
theorem moveB_iff (x y : Int) : moveB x y = true ↔ (-2305843009213693952 ≤ x ∧ x ≤ 2305843009213693952) ∧ (-2305843009213693952 ≤ y ∧ y ≤ 2305843009213693952) := by simp [moveB, outB]
def moveR (r : R) (x y : Int) : R × Int := if rightB r && moveB x y then rightR ⟨r.x + x, r.y + y, r.w, r.h⟩ else (⟨0, 0, 0, 0⟩, 20)
end Go.Proofs.Ytjdnhpbifblneaa
