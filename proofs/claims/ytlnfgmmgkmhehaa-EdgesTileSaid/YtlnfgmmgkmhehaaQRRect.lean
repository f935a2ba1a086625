/- Contracts of rect.allRight, rect.checked, rect.Move, rect.Inset, and of the document's own Right, none, Move, Inset. -/
import Derived.Test.YtlnfgmmgkmhehaaQRBase
import Derived.BigRegion
import Derived.RegionTactic
namespace Go.Proofs.Ytlnfgmmgkmhehaa.RR
open Go.RowKit Go.Shelf
set_option linter.unusedVariables false
set_option linter.unusedSimpArgs false

/-- a slice of rectangles: its cells -/
def Rects (W : World) (sv : Value) (zs : List R) : Prop :=
  zs.length ≤ 9223372036854775807 ∧ ((∃ (a : Option Addr) (cap : Nat), sv = .slice a 0 cap ∧ zs = []) ∨ ∃ b off cap, sv = .slice (some ⟨b, off, none⟩) zs.length cap ∧ b < W.heap.size ∧ ∀ j, j < zs.length → ∀ i v, (zs[j]!).cells[i]? = some v → W.cell? ⟨b, off + j * 4 + i, none⟩ = some v)
theorem Rects.below {W W' : World} {sv : Value} {zs : List R} (h : Rects W sv zs) (hb : Below W.heap.size W W') : Rects W' sv zs := by
  obtain ⟨hm, ⟨a, cap, rfl, rfl⟩ | ⟨b, off, cap, rfl, hlt, hc⟩⟩ := h
  · exact ⟨hm, .inl ⟨a, cap, rfl, rfl⟩⟩
  · exact ⟨hm, .inr ⟨b, off, cap, rfl, by have := hb.size; omega, fun j hj i v hv => (hb.cell (p := ⟨b, off + j * 4 + i, none⟩) hlt).trans (hc j hj i v hv)⟩⟩
theorem Rects.whole {W : World} {g t n : Nat} {zs : List R} (h : Whole W g t (zs.flatMap R.cells)) (hn : zs.length = n) (hm : n ≤ 9223372036854775807) : Rects W (.slice (some ⟨g, 0, none⟩) n n) zs := by
  refine ⟨by omega, .inr ⟨g, 0, n, by rw [hn], h.lt, fun j hj i v hv => ?_⟩⟩
  rw [h.cellAt]
  have hi : i < 4 := by
    have := (List.getElem?_eq_some_iff.1 hv).1; simpa [R.cells] using this
  have key : ∀ (l : List R) (j : Nat), j < l.length → (l.flatMap R.cells)[j * 4 + i]? = (l[j]!).cells[i]? := by
    intro l
    induction l with
    | nil => intro j hj; simp at hj
    | cons a l ih =>
      intro j hj
      cases j with
      | zero =>
        rw [List.flatMap_cons, List.getElem?_append_left (by simp [R.cells]; omega)]; simp
      | succ j =>
        rw [List.flatMap_cons, List.getElem?_append_right (by simp [R.cells]; omega)]
        rw [show (j + 1) * 4 + i - a.cells.length = j * 4 + i by simp [R.cells]; omega, ih j (by simpa using hj)]; simp
  rw [show 0 + j * 4 + i = j * 4 + i by omega, key zs j hj]; exact hv

theorem any_not (p : R → Bool) (zs : List R) : (zs.any fun r => !p r) = !(zs.all p) := by
  induction zs with
  | nil => rfl
  | cons a l ih => rw [List.any_cons, List.all_cons, ih]; cases p a <;> rfl
set_option maxHeartbeats 400000 in
theorem refRight_any (x y w h : Int) (W : World) :
    Calls Try.prog 20 #[.agg #[.int .i64 x, .int .i64 y, .int .i64 w, .int .i64 h]] W fun e W' => e = .returned (.bool (rightB ⟨x, y, w, h⟩)) ∧ Below W.heap.size W W' := by
  have hiff := rightB_iff ⟨x, y, w, h⟩
  dsimp only at hiff
  have hall : ((-1152921504606846976 ≤ x ∧ x ≤ 1152921504606846975 ∧ -1152921504606846976 ≤ y ∧ y ≤ 1152921504606846975 ∧ 0 ≤ w ∧ w ≤ 1152921504606846975 ∧ 0 ≤ h ∧ h ≤ 1152921504606846975) ∧ Hid (rightB ⟨x, y, w, h⟩ = true)) ∨
      (Hid (rightB ⟨x, y, w, h⟩ = false) ∧ (x < -1152921504606846976 ∨ (-1152921504606846976 ≤ x ∧ 1152921504606846975 < x) ∨ (-1152921504606846976 ≤ x ∧ x ≤ 1152921504606846975 ∧ y < -1152921504606846976) ∨ (-1152921504606846976 ≤ x ∧ x ≤ 1152921504606846975 ∧ -1152921504606846976 ≤ y ∧ 1152921504606846975 < y) ∨
        (-1152921504606846976 ≤ x ∧ x ≤ 1152921504606846975 ∧ -1152921504606846976 ≤ y ∧ y ≤ 1152921504606846975 ∧ w < 0) ∨ (-1152921504606846976 ≤ x ∧ x ≤ 1152921504606846975 ∧ -1152921504606846976 ≤ y ∧ y ≤ 1152921504606846975 ∧ 0 ≤ w ∧ 1152921504606846975 < w) ∨
        (-1152921504606846976 ≤ x ∧ x ≤ 1152921504606846975 ∧ -1152921504606846976 ≤ y ∧ y ≤ 1152921504606846975 ∧ 0 ≤ w ∧ w ≤ 1152921504606846975 ∧ h < 0) ∨ (-1152921504606846976 ≤ x ∧ x ≤ 1152921504606846975 ∧ -1152921504606846976 ≤ y ∧ y ≤ 1152921504606846975 ∧ 0 ≤ w ∧ w ≤ 1152921504606846975 ∧ 0 ≤ h ∧ 1152921504606846975 < h))) := by
    by_cases hr : rightB ⟨x, y, w, h⟩ = true
    · exact .inl ⟨by have := hiff.1 hr; omega, Lib.hid hr⟩
    · refine .inr ⟨Lib.hid (by simpa using hr), ?_⟩
      have hn : ¬ _ := fun k => hr (hiff.2 k)
      omega
  clear hiff
  rcases hall with ⟨⟨c1, c2, c3, c4, c5, c6, c7, c8⟩, HB⟩ | ⟨HB, c | ⟨c1, c⟩ | ⟨c1, c2, c⟩ | ⟨c1, c2, c3, c⟩ | ⟨c1, c2, c3, c4, c⟩ | ⟨c1, c2, c3, c4, c5, c⟩ | ⟨c1, c2, c3, c4, c5, c6, c⟩ | ⟨c1, c2, c3, c4, c5, c6, c7, c⟩⟩
  all_goals
    go_enter Try.func20, Try.ntmps20
    go_wp2
    go_ret
    exact ⟨by rw [HB.out]; first | rfl | (simp; done) | (simp; omega), (Below.refl _ _).alloc (Nat.le_refl _) _⟩
def rightR (r : R) : R × Int := if rightB r then (r, 0) else (⟨0, 0, 0, 0⟩, 20)
def retR (p : R × Int) : Ending := .returned (.tuple #[.agg #[.int .i64 p.1.x, .int .i64 p.1.y, .int .i64 p.1.w, .int .i64 p.1.h], .int .i64 p.2])
set_option maxHeartbeats 400000 in
theorem checked_any (x y w h : Int) (W : World) :
    Calls Try.prog 40 #[.agg #[.int .i64 x, .int .i64 y, .int .i64 w, .int .i64 h]] W fun e W' => e = retR (rightR ⟨x, y, w, h⟩) ∧ Below W.heap.size W W' := by
  cases hr : rightB ⟨x, y, w, h⟩ with
  | true =>
    have hv : Hid (rightR ⟨x, y, w, h⟩ = (⟨x, y, w, h⟩, 0)) := by apply Lib.hid; unfold rightR; rw [hr]; rfl
    have HR := Lib.hid (fun X => hr ▸ right_any x y w h X)
    clear hr
    go_enter Try.func40, Try.ntmps40
    go_wp2_with fail
    refine (HR.out _).mono ?_
    rintro e w1 ⟨rfl, hb1⟩
    obtain ⟨hc, hf⟩ := bcell hb1
    have hs := hb1.size
    simp only [World.size_alloc] at hs
    have HB := Lib.hid hb1
    clear hb1
    go_wp2
    refine bodyPost_ret (v := .tuple #[.agg #[.int .i64 x, .int .i64 y, .int .i64 w, .int .i64 h], .int .i64 0]) (by simp [results, Try.results40, go_sem, hc, hf, hs]) rfl ⟨(congrArg retR hv.out).symm, ?_⟩
    repeat (refine Below.setCell ?_ (by simp <;> omega) _)
    exact (((Below.refl _ _).alloc (Nat.le_refl _) _).alloc (by simp) _).trans (HB.out.mono (by simp <;> omega))
  | false =>
    have hv : Hid (rightR ⟨x, y, w, h⟩ = (⟨0, 0, 0, 0⟩, 20)) := by apply Lib.hid; unfold rightR; rw [hr]; rfl
    have HR := Lib.hid (fun X => hr ▸ right_any x y w h X)
    clear hr
    go_enter Try.func40, Try.ntmps40
    go_wp2_with fail
    refine (HR.out _).mono ?_
    rintro e w1 ⟨rfl, hb1⟩
    obtain ⟨hc, hf⟩ := bcell hb1
    have hs := hb1.size
    simp only [World.size_alloc] at hs
    have HB := Lib.hid hb1
    clear hb1
    go_wp2
    refine bodyPost_ret (v := .tuple #[.agg #[.int .i64 0, .int .i64 0, .int .i64 0, .int .i64 0], .int .i64 20]) (by simp [results, Try.results40, go_sem, hc, hf, hs]) rfl ⟨(congrArg retR hv.out).symm, ?_⟩
    repeat (refine Below.setCell ?_ (by simp <;> omega) _)
    exact (((Below.refl _ _).alloc (Nat.le_refl _) _).alloc (by simp) _).trans (HB.out.mono (by simp <;> omega))

def moveB (x y : Int) : Bool := !([x, y].any (outB (-2305843009213693952) 2305843009213693952))
theorem moveB_iff (x y : Int) : moveB x y = true ↔ (-2305843009213693952 ≤ x ∧ x ≤ 2305843009213693952) ∧ (-2305843009213693952 ≤ y ∧ y ≤ 2305843009213693952) := by simp [moveB, outB]
def moveR (r : R) (x y : Int) : R × Int := if rightB r && moveB x y then rightR ⟨r.x + x, r.y + y, r.w, r.h⟩ else (⟨0, 0, 0, 0⟩, 20)
set_option maxHeartbeats 800000 in
theorem move_any (x y w h a b : Int) (W : World) :
    Calls Try.prog 34 #[.agg #[.int .i64 x, .int .i64 y, .int .i64 w, .int .i64 h], .int .i64 a, .int .i64 b] W fun e W' => e = retR (moveR ⟨x, y, w, h⟩ a b) ∧ Below W.heap.size W W' := by
  cases hr : rightB ⟨x, y, w, h⟩ with
  | false =>
    have hv : Hid (moveR ⟨x, y, w, h⟩ a b = (⟨0, 0, 0, 0⟩, 20)) := by apply Lib.hid; unfold moveR; rw [hr]; rfl
    have HR := Lib.hid (fun X => hr ▸ right_any x y w h X)
    clear hr
    go_enter Try.func34, Try.ntmps34
    go_wp2_with fail
    refine (HR.out _).mono ?_
    rintro e w1 ⟨rfl, hb1⟩
    obtain ⟨hc, hf⟩ := bcell hb1
    have hs := hb1.size
    simp only [World.size_alloc] at hs
    have HB := Lib.hid hb1
    clear hb1
    go_wp2
    refine bodyPost_ret (v := .tuple #[.agg #[.int .i64 0, .int .i64 0, .int .i64 0, .int .i64 0], .int .i64 20]) (by simp [results, Try.results34, go_sem, hc, hf, hs]) rfl ⟨(congrArg retR hv.out).symm, ?_⟩
    repeat (refine Below.setCell ?_ (by simp <;> omega) _)
    exact (((Below.refl _ _).alloc (Nat.le_refl _) _).alloc (by simp) _).trans (HB.out.mono (by simp <;> omega))
  | true =>
    have hR := (rightB_iff _).1 hr
    dsimp only at hR
    obtain ⟨⟨x1, x2⟩, ⟨y1, y2⟩, ⟨w1, w2⟩, h1, h2⟩ := hR
    cases hm : moveB a b with
    | false =>
      have hv : Hid (moveR ⟨x, y, w, h⟩ a b = (⟨0, 0, 0, 0⟩, 20)) := by apply Lib.hid; unfold moveR; rw [hr, hm]; rfl
      have HR := Lib.hid (fun X => hr ▸ right_any x y w h X)
      have hw := fun sv X hI => within_any (-2305843009213693952) 2305843009213693952 sv [a, b] X hI
      rw [show (!List.any [a, b] (outB (-2305843009213693952) 2305843009213693952)) = false from hm] at hw
      have HW := Lib.hid hw
      clear hr hm hw
      go_enter Try.func34, Try.ntmps34
      go_wp2_with fail
      refine (HR.out _).mono ?_
      rintro e w1 ⟨rfl, hb1⟩
      have kr := Whole.below (g := W.heap.size + 1) (t := 38) (xs := [.int .i64 0, .int .i64 0, .int .i64 0, .int .i64 0]) (whole_new (W.alloc _) _ _ _ (by simp)) hb1 (by simp <;> omega)
      have hs := hb1.size
      simp only [World.size_alloc] at hs
      have HB := Lib.hid hb1
      clear hb1
      go_wp2_with fail
      refine (HW.out _ _ (Ints.whole (t := 2) (whole_new _ _ _ _ (by simp)) rfl (by simp))).mono ?_
      rintro e w2 ⟨rfl, hb2⟩
      replace kr := (kr.alloc _).below hb2 (by simp <;> omega)
      have cr := kr.cellAt
      have fr := kr.free
      have hs2 := hb2.size
      simp only [World.size_alloc] at hs2
      have HB2 := Lib.hid hb2
      clear hb2
      go_wp2
      refine bodyPost_ret (v := .tuple #[.agg #[.int .i64 0, .int .i64 0, .int .i64 0, .int .i64 0], .int .i64 20]) (by simp [results, Try.results34, go_sem, cr, fr]) rfl ⟨(congrArg retR hv.out).symm, ?_⟩
      repeat (refine Below.setCell ?_ (by simp <;> omega) _)
      exact ((((Below.refl _ _).alloc (Nat.le_refl _) _).alloc (by simp) _).trans (HB.out.mono (by simp <;> omega))).trans ((((Below.refl _ _).alloc (Nat.le_refl _) _).mono (by omega)).trans (HB2.out.mono (by simp <;> omega)))
    | true =>
      have hM := (moveB_iff _ _).1 hm
      obtain ⟨⟨a1, a2⟩, b1, b2⟩ := hM
      have hv : Hid (moveR ⟨x, y, w, h⟩ a b = rightR ⟨x + a, y + b, w, h⟩) := by apply Lib.hid; unfold moveR; rw [hr, hm]; rfl
      have HR := Lib.hid (fun X => hr ▸ right_any x y w h X)
      have hw := fun sv X hI => within_any (-2305843009213693952) 2305843009213693952 sv [a, b] X hI
      rw [show (!List.any [a, b] (outB (-2305843009213693952) 2305843009213693952)) = true from hm] at hw
      have HW := Lib.hid hw
      obtain ⟨⟨⟨rx, ry, rw', rh⟩, rc⟩, hp⟩ : ∃ p, rightR ⟨x + a, y + b, w, h⟩ = p := ⟨_, rfl⟩
      have HC := Lib.hid (fun X => hp ▸ checked_any (x + a) (y + b) w h X)
      rw [hp] at hv
      clear hr hm hw hp
      go_enter Try.func34, Try.ntmps34
      go_wp2_with fail
      refine (HR.out _).mono ?_
      rintro e w1 ⟨rfl, hb1⟩
      have kb := Whole.below (g := W.heap.size) (t := 38) (xs := [.int .i64 x, .int .i64 y, .int .i64 w, .int .i64 h]) (Whole.alloc (whole_new W _ _ _ rfl) _) hb1 (by simp <;> omega)
      have kr := Whole.below (g := W.heap.size + 1) (t := 38) (xs := [.int .i64 0, .int .i64 0, .int .i64 0, .int .i64 0]) (whole_new (W.alloc _) _ _ _ (by simp)) hb1 (by simp <;> omega)
      have hs := hb1.size
      simp only [World.size_alloc] at hs
      have HB := Lib.hid hb1
      clear hb1
      go_wp2_with fail
      refine (HW.out _ _ (Ints.whole (t := 2) (whole_new _ _ _ _ (by simp)) rfl (by simp))).mono ?_
      rintro e w2 ⟨rfl, hb2⟩
      replace kr := (kr.alloc _).below hb2 (by simp <;> omega)
      replace kb := (kb.alloc _).below hb2 (by simp <;> omega)
      have cb := kb.cellAt
      have fb := kb.free
      have hs2 := hb2.size
      simp only [World.size_alloc] at hs2
      have HB2 := Lib.hid hb2
      clear hb2
      go_wp2_with fail
      refine (HC.out _).mono ?_
      unfold retR
      rintro e w3 ⟨rfl, hb3⟩
      replace kr := ((kr.other _ _ (by simp)).other _ _ (by simp)).below hb3 (by simp <;> omega)
      have cr := kr.cellAt
      have fr := kr.free
      have hs3 := hb3.size
      simp only [World.size_setCell] at hs3
      have HB3 := Lib.hid hb3
      clear hb3
      dsimp only
      go_wp2
      refine bodyPost_ret (v := .tuple #[.agg #[.int .i64 rx, .int .i64 ry, .int .i64 rw', .int .i64 rh], .int .i64 rc]) (by simp [results, Try.results34, go_sem, cr, fr]) rfl ⟨(congrArg retR hv.out).symm, ?_⟩
      repeat (refine Below.setCell ?_ (by simp <;> omega) _)
      refine Below.trans ?_ (HB3.out.mono (by simp <;> omega))
      repeat (refine Below.setCell ?_ (by simp <;> omega) _)
      exact ((((Below.refl _ _).alloc (Nat.le_refl _) _).alloc (by simp) _).trans (HB.out.mono (by simp <;> omega))).trans ((((Below.refl _ _).alloc (Nat.le_refl _) _).mono (by omega)).trans (HB2.out.mono (by simp <;> omega)))
end Go.Proofs.Ytlnfgmmgkmhehaa.RR
