/- Contract of rect.Meet. -/
import Derived.Test.YtjdnhpbifblneaaRRect
import Derived.BigQuiet
import Derived.Deep.QuietTactic
namespace Go.Proofs.Ytjdnhpbifblneaa
open Go.RowKit Go.Shelf
set_option linter.unusedVariables false
set_option linter.unusedSimpArgs false

theorem flat2 (a b : R) : ([a, b]).flatMap R.cells = [.int .i64 a.x, .int .i64 a.y, .int .i64 a.w, .int .i64 a.h, .int .i64 b.x, .int .i64 b.y, .int .i64 b.w, .int .i64 b.h] := rfl
/-- where two rectangles meet -/
def meetP (a b : R) : R :=
  if min (a.x + a.w) (b.x + b.w) - max a.x b.x ≤ 0 ∨ min (a.y + a.h) (b.y + b.h) - max a.y b.y ≤ 0 then ⟨0, 0, 0, 0⟩
  else ⟨max a.x b.x, max a.y b.y, min (a.x + a.w) (b.x + b.w) - max a.x b.x, min (a.y + a.h) (b.y + b.h) - max a.y b.y⟩
def meetR (a b : R) : R × Int := if rightB a && rightB b then (meetP a b, 0) else (⟨0, 0, 0, 0⟩, 20)
set_option maxHeartbeats 800000 in
theorem meet_bad (x y w h x' y' w' h' : Int) (W : World) (hb : (rightB ⟨x, y, w, h⟩ && rightB ⟨x', y', w', h'⟩) = false) :
    Calls Try.prog 9 #[.agg #[.int .i64 x, .int .i64 y, .int .i64 w, .int .i64 h], .agg #[.int .i64 x', .int .i64 y', .int .i64 w', .int .i64 h']] W fun e W' => e = retR (meetR ⟨x, y, w, h⟩ ⟨x', y', w', h'⟩) ∧ Below W.heap.size W W' := by
  have hv : Hid (meetR ⟨x, y, w, h⟩ ⟨x', y', w', h'⟩ = (⟨0, 0, 0, 0⟩, 20)) := by apply Lib.hid; unfold meetR; rw [hb]; rfl
  have ha : ([(⟨x, y, w, h⟩ : R), ⟨x', y', w', h'⟩].all rightB) = false := by simpa [List.all_cons] using hb
  have HA := Lib.hid (fun sv X hX => ha ▸ allRight_any sv _ X hX)
  clear ha hb
  go_enter Try.func9, Try.ntmps9
  go_wp2_with fail
  refine (HA.out _ _ (Rects.whole (t := 23) (g := W.heap.size + 1 + 1 + 1) (n := 2) (whole_new _ [.int .i64 x, .int .i64 y, .int .i64 w, .int .i64 h, .int .i64 x', .int .i64 y', .int .i64 w', .int .i64 h'] _ _ (by simp)) rfl (by omega))).mono ?_
  rintro e w1 ⟨rfl, hb1⟩
  have kr := Whole.below (g := W.heap.size + 1 + 1) (t := 23) (xs := [.int .i64 0, .int .i64 0, .int .i64 0, .int .i64 0]) ((whole_new ((W.alloc _).alloc _) _ _ _ (by simp)).alloc _) hb1 (by simp <;> omega)
  have cr := kr.cellAt
  have fr := kr.free
  have HB := Lib.hid (((((Below.refl W.heap.size W).alloc (Nat.le_refl _) (.cells #[.int .i64 x, .int .i64 y, .int .i64 w, .int .i64 h] 23)).alloc (by simp) (.cells #[.int .i64 x', .int .i64 y', .int .i64 w', .int .i64 h'] 23)).alloc (by simp <;> omega) (.cells #[.int .i64 0, .int .i64 0, .int .i64 0, .int .i64 0] 23)).alloc (by simp <;> omega) (.cells #[.int .i64 x, .int .i64 y, .int .i64 w, .int .i64 h, .int .i64 x', .int .i64 y', .int .i64 w', .int .i64 h'] 23) |>.trans (hb1.mono (by simp <;> omega)))
  clear hb1 kr
  go_wp2
  refine bodyPost_ret (v := .tuple #[.agg #[.int .i64 0, .int .i64 0, .int .i64 0, .int .i64 0], .int .i64 20]) (by simp [results, Try.results9, go_sem, cr, fr]) rfl ⟨(congrArg retR hv.out).symm, ?_⟩
  repeat (refine Below.setCell ?_ (by simp <;> omega) _)
  exact HB.out
set_option maxRecDepth 100000 in
set_option maxHeartbeats 1600000 in
theorem meet_good (x y w h x' y' w' h' : Int) (W : World) (ha : rightB ⟨x, y, w, h⟩ = true) (hb : rightB ⟨x', y', w', h'⟩ = true) :
    Calls Try.prog 9 #[.agg #[.int .i64 x, .int .i64 y, .int .i64 w, .int .i64 h], .agg #[.int .i64 x', .int .i64 y', .int .i64 w', .int .i64 h']] W fun e W' => e = retR (meetR ⟨x, y, w, h⟩ ⟨x', y', w', h'⟩) ∧ Below W.heap.size W W' := by
  have hv : Hid (meetR ⟨x, y, w, h⟩ ⟨x', y', w', h'⟩ = (meetP ⟨x, y, w, h⟩ ⟨x', y', w', h'⟩, 0)) := by apply Lib.hid; unfold meetR; rw [ha, hb]; rfl
  have hall : ([(⟨x, y, w, h⟩ : R), ⟨x', y', w', h'⟩].all rightB) = true := by simp [List.all_cons, ha, hb]
  have HA := Lib.hid (fun sv X hX => hall ▸ allRight_any sv _ X hX)
  have h1 := (rightB_iff _).1 ha
  have h2 := (rightB_iff _).1 hb
  dsimp only at h1 h2
  obtain ⟨⟨a1, a2⟩, ⟨a3, a4⟩, ⟨a5, a6⟩, a7, a8⟩ := h1
  obtain ⟨⟨b1, b2⟩, ⟨b3, b4⟩, ⟨b5, b6⟩, b7, b8⟩ := h2
  clear ha hb hall
  go_enter Try.func9, Try.ntmps9
  go_wp2_with fail
  refine (HA.out _ _ (Rects.whole (t := 23) (g := W.heap.size + 1 + 1 + 1) (n := 2) (whole_new _ [.int .i64 x, .int .i64 y, .int .i64 w, .int .i64 h, .int .i64 x', .int .i64 y', .int .i64 w', .int .i64 h'] _ _ (by simp)) rfl (by omega))).mono ?_
  rintro e w1 ⟨rfl, hb1⟩
  have kr := Whole.below (g := W.heap.size + 1 + 1) (t := 23) (xs := [.int .i64 0, .int .i64 0, .int .i64 0, .int .i64 0]) ((whole_new ((W.alloc _).alloc _) _ _ _ (by simp)).alloc _) hb1 (by simp <;> omega)
  have ka := Whole.below (g := W.heap.size) (t := 23) (xs := [.int .i64 x, .int .i64 y, .int .i64 w, .int .i64 h]) ((((whole_new W _ _ _ rfl).alloc _).alloc _).alloc _) hb1 (by simp <;> omega)
  have kb := Whole.below (g := W.heap.size + 1) (t := 23) (xs := [.int .i64 x', .int .i64 y', .int .i64 w', .int .i64 h']) (((whole_new (W.alloc _) _ _ _ (by simp)).alloc _).alloc _) hb1 (by simp <;> omega)
  have cr := kr.cellAt
  have fr := kr.free
  have p0 : w1.cell? ⟨W.heap.size, 0, none⟩ = some (.int .i64 x) := ka.cellAt 0
  have p1 : w1.cell? ⟨W.heap.size, 1, none⟩ = some (.int .i64 y) := ka.cellAt 1
  have p2 : w1.cell? ⟨W.heap.size, 2, none⟩ = some (.int .i64 w) := ka.cellAt 2
  have p3 : w1.cell? ⟨W.heap.size, 3, none⟩ = some (.int .i64 h) := ka.cellAt 3
  have q0 : w1.cell? ⟨W.heap.size + 1, 0, none⟩ = some (.int .i64 x') := kb.cellAt 0
  have q1 : w1.cell? ⟨W.heap.size + 1, 1, none⟩ = some (.int .i64 y') := kb.cellAt 1
  have q2 : w1.cell? ⟨W.heap.size + 1, 2, none⟩ = some (.int .i64 w') := kb.cellAt 2
  have q3 : w1.cell? ⟨W.heap.size + 1, 3, none⟩ = some (.int .i64 h') := kb.cellAt 3
  have HB := Lib.hid (((((Below.refl W.heap.size W).alloc (Nat.le_refl _) (.cells #[.int .i64 x, .int .i64 y, .int .i64 w, .int .i64 h] 23)).alloc (by simp) (.cells #[.int .i64 x', .int .i64 y', .int .i64 w', .int .i64 h'] 23)).alloc (by simp <;> omega) (.cells #[.int .i64 0, .int .i64 0, .int .i64 0, .int .i64 0] 23)).alloc (by simp <;> omega) (.cells #[.int .i64 x, .int .i64 y, .int .i64 w, .int .i64 h, .int .i64 x', .int .i64 y', .int .i64 w', .int .i64 h'] 23) |>.trans (hb1.mono (by simp <;> omega)))
  clear hb1 kr ka kb
  go_wp2
  go_quiet (fail)
  go_wp2
  go_quiet (fail)
  have hm : Hid (meetP ⟨x, y, w, h⟩ ⟨x', y', w', h'⟩ = if min (x + w) (x' + w') - max x x' ≤ 0 ∨ min (y + h) (y' + h') - max y y' ≤ 0 then ⟨0, 0, 0, 0⟩ else ⟨max x x', max y y', min (x + w) (x' + w') - max x x', min (y + h) (y' + h') - max y y'⟩) := Lib.hid rfl
  generalize min (x + w) (x' + w') - max x x' = mw at *
  generalize min (y + h) (y' + h') - max y y' = mh at *
  generalize max x x' = mx at *
  generalize max y y' = my at *
  by_cases hw : mw ≤ 0
  · have hv' : Hid (meetR ⟨x, y, w, h⟩ ⟨x', y', w', h'⟩ = (⟨0, 0, 0, 0⟩, 0)) := by apply Lib.hid; rw [hv.out, hm.out, if_pos (.inl hw)]
    clear hv hm p0 p1 p2 p3 q0 q1 q2 q3
    go_wp2
    refine bodyPost_ret (v := .tuple #[.agg #[.int .i64 0, .int .i64 0, .int .i64 0, .int .i64 0], .int .i64 0]) (by simp [results, Try.results9, go_sem, cr, fr]) rfl ⟨(congrArg retR hv'.out).symm, ?_⟩
    repeat (refine Below.setCell ?_ (by simp <;> omega) _)
    first | exact HB.out.trans (below_dn _ _ _) | exact (HB.out.trans (below_dn _ _ _)).trans (below_dn _ _ _)
  · by_cases hh : mh ≤ 0
    · have hv' : Hid (meetR ⟨x, y, w, h⟩ ⟨x', y', w', h'⟩ = (⟨0, 0, 0, 0⟩, 0)) := by apply Lib.hid; rw [hv.out, hm.out, if_pos (.inr hh)]
      clear hv hm p0 p1 p2 p3 q0 q1 q2 q3
      go_wp2
      refine bodyPost_ret (v := .tuple #[.agg #[.int .i64 0, .int .i64 0, .int .i64 0, .int .i64 0], .int .i64 0]) (by simp [results, Try.results9, go_sem, cr, fr]) rfl ⟨(congrArg retR hv'.out).symm, ?_⟩
      repeat (refine Below.setCell ?_ (by simp <;> omega) _)
      first | exact HB.out.trans (below_dn _ _ _) | exact (HB.out.trans (below_dn _ _ _)).trans (below_dn _ _ _)
    · have hv' : Hid (meetR ⟨x, y, w, h⟩ ⟨x', y', w', h'⟩ = (⟨mx, my, mw, mh⟩, 0)) := by apply Lib.hid; rw [hv.out, hm.out, if_neg (by omega)]
      clear hv hm p0 p1 p2 p3 q0 q1 q2 q3
      go_wp2
      refine bodyPost_ret (v := .tuple #[.agg #[.int .i64 mx, .int .i64 my, .int .i64 mw, .int .i64 mh], .int .i64 0]) (by simp [results, Try.results9, go_sem, cr, fr]) rfl ⟨(congrArg retR hv'.out).symm, ?_⟩
      repeat (refine Below.setCell ?_ (by simp <;> omega) _)
      first | exact HB.out.trans (below_dn _ _ _) | exact (HB.out.trans (below_dn _ _ _)).trans (below_dn _ _ _)
theorem meet_any (a b : R) (W : World) : Calls Try.prog 9 #[a.val, b.val] W fun e W' => e = retR (meetR a b) ∧ Below W.heap.size W W' := by
  obtain ⟨x, y, w, h⟩ := a
  obtain ⟨x', y', w', h'⟩ := b
  cases hb : (rightB ⟨x, y, w, h⟩ && rightB ⟨x', y', w', h'⟩) with
  | false => exact meet_bad x y w h x' y' w' h' W hb
  | true => rw [Bool.and_eq_true] at hb; exact meet_good x y w h x' y' w' h' W hb.1 hb.2
end Go.Proofs.Ytjdnhpbifblneaa
