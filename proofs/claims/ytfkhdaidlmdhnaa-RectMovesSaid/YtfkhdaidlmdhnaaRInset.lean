/- Contract of rect.Inset. -/
import Derived.Test.YtfkhdaidlmdhnaaRRect
import Derived.Deep.QuietTactic
namespace Go.Proofs.Ytfkhdaidlmdhnaa
open Go.RowKit Go.Shelf Go.Lib
set_option linter.unusedVariables false
set_option linter.unusedSimpArgs false

def insetB (a b c d : Int) : Bool := !([a, b, c, d].any (outB 0 1152921504606846975))
theorem insetB_iff (a b c d : Int) : insetB a b c d = true ↔ (0 ≤ a ∧ a ≤ 1152921504606846975) ∧ (0 ≤ b ∧ b ≤ 1152921504606846975) ∧ (0 ≤ c ∧ c ≤ 1152921504606846975) ∧ (0 ≤ d ∧ d ≤ 1152921504606846975) := by
  simp [insetB, outB]
def insetR (r : R) (a b c d : Int) : R × Int :=
  if rightB r && insetB a b c d then rightR ⟨r.x + d, r.y + a, max 0 (r.w - d - b), max 0 (r.h - a - c)⟩ else (⟨0, 0, 0, 0⟩, 20)
set_option maxRecDepth 100000 in
set_option maxHeartbeats 1600000 in
theorem inset_any (x y w h a b c d : Int) (W : World) :
    Calls Try.prog 21 #[.agg #[.int .i64 x, .int .i64 y, .int .i64 w, .int .i64 h], .agg #[.int .i64 a, .int .i64 b, .int .i64 c, .int .i64 d]] W fun e W' => e = retR (insetR ⟨x, y, w, h⟩ a b c d) ∧ Below W.heap.size W W' := by
  cases hr : rightB ⟨x, y, w, h⟩ with
  | false =>
    have hv : Hid (insetR ⟨x, y, w, h⟩ a b c d = (⟨0, 0, 0, 0⟩, 20)) := by apply Lib.hid; unfold insetR; rw [hr]; rfl
    have HR := Lib.hid (fun X => hr ▸ right_any x y w h X)
    clear hr
    go_enter Try.func21, Try.ntmps21
    go_wp2_with fail
    refine (HR.out _).mono ?_
    rintro e w1 ⟨rfl, hb1⟩
    have kr := Whole.below (g := W.heap.size + 1 + 1) (t := 23) (xs := [.int .i64 0, .int .i64 0, .int .i64 0, .int .i64 0]) (whole_new ((W.alloc _).alloc _) _ _ _ (by simp)) hb1 (by simp <;> omega)
    have cr := kr.cellAt
    have fr := kr.free
    have hs := hb1.size
    simp only [World.size_alloc] at hs
    have HB := Lib.hid (((((Below.refl W.heap.size W).alloc (Nat.le_refl _) _).alloc (by simp) _).alloc (by simp <;> omega) _).trans (hb1.mono (by simp <;> omega)))
    clear hb1 kr
    go_wp2
    refine bodyPost_ret (v := .tuple #[.agg #[.int .i64 0, .int .i64 0, .int .i64 0, .int .i64 0], .int .i64 20]) (by simp [results, Try.results21, go_sem, cr, fr]) rfl ⟨(congrArg retR hv.out).symm, ?_⟩
    repeat (refine Below.setCell ?_ (by simp <;> omega) _)
    exact HB.out
  | true =>
    have hR := (rightB_iff _).1 hr
    dsimp only at hR
    obtain ⟨⟨x1, x2⟩, ⟨y1, y2⟩, ⟨w1, w2⟩, h1, h2⟩ := hR
    cases hm : insetB a b c d with
    | false =>
      have hv : Hid (insetR ⟨x, y, w, h⟩ a b c d = (⟨0, 0, 0, 0⟩, 20)) := by apply Lib.hid; unfold insetR; rw [hr, hm]; rfl
      have HR := Lib.hid (fun X => hr ▸ right_any x y w h X)
      have hw := fun sv X hI => within_any 0 1152921504606846975 sv [a, b, c, d] X hI
      rw [show (!List.any [a, b, c, d] (outB 0 1152921504606846975)) = false from hm] at hw
      have HW := Lib.hid hw
      clear hr hm hw
      go_enter Try.func21, Try.ntmps21
      go_wp2_with fail
      refine (HR.out _).mono ?_
      rintro e u1 ⟨rfl, hb1⟩
      have kr := Whole.below (g := W.heap.size + 1 + 1) (t := 23) (xs := [.int .i64 0, .int .i64 0, .int .i64 0, .int .i64 0]) (whole_new ((W.alloc _).alloc _) _ _ _ (by simp)) hb1 (by simp <;> omega)
      have ky := Whole.below (g := W.heap.size + 1) (t := 35) (xs := [.int .i64 a, .int .i64 b, .int .i64 c, .int .i64 d]) ((whole_new (W.alloc _) _ _ _ (by simp)).alloc _) hb1 (by simp <;> omega)
      have HB := Lib.hid (((((Below.refl W.heap.size W).alloc (Nat.le_refl _) _).alloc (by simp) _).alloc (by simp <;> omega) _).trans (hb1.mono (by simp <;> omega)))
      have hs := HB.out.size
      have ly := ky.lt
      clear hb1
      have KY := Lib.hid ky
      go_wp2_with fail
      refine (HW.out _ _ (Ints.whole (t := 35) KY.out rfl (by simp))).mono ?_
      rintro e u2 ⟨rfl, hb2⟩
      replace kr := kr.below hb2 kr.lt
      have cr := kr.cellAt
      have fr := kr.free
      have HB2 := Lib.hid (HB.out.trans (hb2.mono hs))
      clear hb2 kr ky KY
      go_wp2
      refine bodyPost_ret (v := .tuple #[.agg #[.int .i64 0, .int .i64 0, .int .i64 0, .int .i64 0], .int .i64 20]) (by simp [results, Try.results21, go_sem, cr, fr]) rfl ⟨(congrArg retR hv.out).symm, ?_⟩
      repeat (refine Below.setCell ?_ (by simp <;> omega) _)
      exact HB2.out
    | true =>
      have hM := (insetB_iff _ _ _ _).1 hm
      obtain ⟨⟨a1, a2⟩, ⟨b1, b2⟩, ⟨c1, c2⟩, d1, d2⟩ := hM
      have hv : Hid (insetR ⟨x, y, w, h⟩ a b c d = rightR ⟨x + d, y + a, max 0 (w - d - b), max 0 (h - a - c)⟩) := by apply Lib.hid; unfold insetR; rw [hr, hm]; rfl
      have HR := Lib.hid (fun X => hr ▸ right_any x y w h X)
      have hw := fun sv X hI => within_any 0 1152921504606846975 sv [a, b, c, d] X hI
      rw [show (!List.any [a, b, c, d] (outB 0 1152921504606846975)) = true from hm] at hw
      have HW := Lib.hid hw
      obtain ⟨⟨⟨rx, ry, rw', rh⟩, rc⟩, hp⟩ : ∃ p, rightR ⟨x + d, y + a, max 0 (w - d - b), max 0 (h - a - c)⟩ = p := ⟨_, rfl⟩
      have HC := Lib.hid (fun X => hp ▸ checked_any (x + d) (y + a) (max 0 (w - d - b)) (max 0 (h - a - c)) X)
      rw [hp] at hv
      clear hr hm hw hp
      go_enter Try.func21, Try.ntmps21
      go_wp2_with fail
      refine (HR.out _).mono ?_
      rintro e u1 ⟨rfl, hb1⟩
      have kr := Whole.below (g := W.heap.size + 1 + 1) (t := 23) (xs := [.int .i64 0, .int .i64 0, .int .i64 0, .int .i64 0]) (whole_new ((W.alloc _).alloc _) _ _ _ (by simp)) hb1 (by simp <;> omega)
      have ky := Whole.below (g := W.heap.size + 1) (t := 35) (xs := [.int .i64 a, .int .i64 b, .int .i64 c, .int .i64 d]) ((whole_new (W.alloc _) _ _ _ (by simp)).alloc _) hb1 (by simp <;> omega)
      have kb := Whole.below (g := W.heap.size) (t := 23) (xs := [.int .i64 x, .int .i64 y, .int .i64 w, .int .i64 h]) (((whole_new W _ _ _ rfl).alloc _).alloc _) hb1 (by simp <;> omega)
      have HB := Lib.hid (((((Below.refl W.heap.size W).alloc (Nat.le_refl _) _).alloc (by simp) _).alloc (by simp <;> omega) _).trans (hb1.mono (by simp <;> omega)))
      have hs := HB.out.size
      have ly := ky.lt
      clear hb1
      have KY := Lib.hid ky
      go_wp2_with fail
      refine (HW.out _ _ (Ints.whole (t := 35) KY.out rfl (by simp))).mono ?_
      rintro e u2 ⟨rfl, hb2⟩
      replace kr := kr.below hb2 kr.lt
      replace ky := ky.below hb2 ky.lt
      replace kb := kb.below hb2 kb.lt
      have cr := kr.cellAt
      have fr := kr.free
      have p0 : u2.cell? ⟨W.heap.size, 0, none⟩ = some (.int .i64 x) := kb.cellAt 0
      have p1 : u2.cell? ⟨W.heap.size, 1, none⟩ = some (.int .i64 y) := kb.cellAt 1
      have p2 : u2.cell? ⟨W.heap.size, 2, none⟩ = some (.int .i64 w) := kb.cellAt 2
      have p3 : u2.cell? ⟨W.heap.size, 3, none⟩ = some (.int .i64 h) := kb.cellAt 3
      have q0 : u2.cell? ⟨W.heap.size + 1, 0, none⟩ = some (.int .i64 a) := ky.cellAt 0
      have q1 : u2.cell? ⟨W.heap.size + 1, 1, none⟩ = some (.int .i64 b) := ky.cellAt 1
      have q2 : u2.cell? ⟨W.heap.size + 1, 2, none⟩ = some (.int .i64 c) := ky.cellAt 2
      have q3 : u2.cell? ⟨W.heap.size + 1, 3, none⟩ = some (.int .i64 d) := ky.cellAt 3
      have HB2 := Lib.hid (HB.out.trans (hb2.mono hs))
      have KR := Lib.hid kr
      have hs2 := HB2.out.size
      clear hb2 kr ky kb KY HB hs HR HW
      go_wp2
      go_quiet (fail)
      rename_i nq
      go_wp2_with fail
      refine (HC.out _).mono ?_
      unfold retR
      rintro e u3 ⟨rfl, hb3⟩
      have KR1 : Hid (Whole (u2.drewN nq) (W.heap.size + 1 + 1) 23 [.int .i64 0, .int .i64 0, .int .i64 0, .int .i64 0]) := Lib.hid KR.out
      have KR2 := Lib.hid (KR1.out.below hb3 KR1.out.lt)
      have HB3 := Lib.hid ((HB2.out.trans (below_dn _ _ _)).trans (hb3.mono (by simp <;> omega)))
      have cr := KR2.out.cellAt
      have fr := KR2.out.free
      clear hb3 p0 p1 p2 p3 q0 q1 q2 q3 HC a1 a2 b1 b2 c1 c2 d1 d2 x1 x2 y1 y2 w1 w2 h1 h2
      dsimp only
      go_wp2
      refine bodyPost_ret (v := .tuple #[.agg #[.int .i64 rx, .int .i64 ry, .int .i64 rw', .int .i64 rh], .int .i64 rc]) (by simp [results, Try.results21, go_sem, cr, fr]) rfl ⟨(congrArg retR hv.out).symm, ?_⟩
      repeat (refine Below.setCell ?_ (by simp <;> omega) _)
      exact HB3.out
end Go.Proofs.Ytfkhdaidlmdhnaa
