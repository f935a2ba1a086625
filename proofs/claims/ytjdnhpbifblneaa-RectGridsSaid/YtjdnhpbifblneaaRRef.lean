/- Contracts of the document's own answers for layer 2: Meet. -/
import Derived.Test.YtjdnhpbifblneaaRMeet
namespace Go.Proofs.Ytjdnhpbifblneaa
open Go.RowKit Go.Shelf
set_option linter.unusedVariables false
set_option linter.unusedSimpArgs false

set_option maxRecDepth 100000 in
set_option maxHeartbeats 1600000 in
theorem refMeet_bad1 (x y w h x' y' w' h' : Int) (W : World) (ha : rightB ⟨x, y, w, h⟩ = false) (b : Bool) (hb : rightB ⟨x', y', w', h'⟩ = b) :
    Calls Try.prog 18 #[.agg #[.int .i64 x, .int .i64 y, .int .i64 w, .int .i64 h], .agg #[.int .i64 x', .int .i64 y', .int .i64 w', .int .i64 h']] W fun e W' => e = retR (meetR ⟨x, y, w, h⟩ ⟨x', y', w', h'⟩) ∧ Below W.heap.size W W' := by
  have hv : Hid (meetR ⟨x, y, w, h⟩ ⟨x', y', w', h'⟩ = (⟨0, 0, 0, 0⟩, 20)) := by apply Lib.hid; unfold meetR; rw [ha]; rfl
  have RA := Lib.hid (fun X => ha ▸ refRight_any x y w h X)
  have RB := Lib.hid (fun X => hb ▸ refRight_any x' y' w' h' X)
  clear ha hb
  go_enter Try.func18, Try.ntmps18
  go_wp2_with fail
  refine (RA.out _).mono ?_
  rintro e w1 ⟨rfl, hb1⟩
  have ka := Whole.below (g := W.heap.size) (t := 23) (xs := [.int .i64 x, .int .i64 y, .int .i64 w, .int .i64 h]) (((whole_new W _ _ _ rfl).alloc _).alloc _) hb1 (by simp <;> omega)
  have kb := Whole.below (g := W.heap.size + 1) (t := 23) (xs := [.int .i64 x', .int .i64 y', .int .i64 w', .int .i64 h']) ((whole_new (W.alloc _) _ _ _ (by simp)).alloc _) hb1 (by simp <;> omega)
  have kr := Whole.below (g := W.heap.size + 1 + 1) (t := 23) (xs := [.int .i64 0, .int .i64 0, .int .i64 0, .int .i64 0]) (whole_new ((W.alloc _).alloc _) _ _ _ (by simp)) hb1 (by simp <;> omega)
  have HB := Lib.hid ((((Below.refl W.heap.size W).alloc (Nat.le_refl _) (.cells #[.int .i64 x, .int .i64 y, .int .i64 w, .int .i64 h] 23)).alloc (by simp) (.cells #[.int .i64 x', .int .i64 y', .int .i64 w', .int .i64 h'] 23)).alloc (by simp <;> omega) (.cells #[.int .i64 0, .int .i64 0, .int .i64 0, .int .i64 0] 23) |>.trans (hb1.mono (by simp <;> omega)))
  have hs := HB.out.size
  clear hb1
  have kbc0 : w1.cell? ⟨W.heap.size + 1, 0, none⟩ = some (.int .i64 x') := kb.cellAt 0
  have kbc1 : w1.cell? ⟨W.heap.size + 1, 1, none⟩ = some (.int .i64 y') := kb.cellAt 1
  have kbc2 : w1.cell? ⟨W.heap.size + 1, 2, none⟩ = some (.int .i64 w') := kb.cellAt 2
  have kbc3 : w1.cell? ⟨W.heap.size + 1, 3, none⟩ = some (.int .i64 h') := kb.cellAt 3
  go_wp2_with fail
  refine (RB.out _).mono ?_
  rintro e w2 ⟨rfl, hb2⟩
  replace ka := ka.below hb2 ka.lt
  replace kb := kb.below hb2 kb.lt
  replace kr := kr.below hb2 kr.lt
  have HB2 := Lib.hid (HB.out.trans (hb2.mono hs))
  have cr := kr.cellAt
  have fr := kr.free
  clear hb2 HB kbc0 kbc1 kbc2 kbc3
  clear ka kb kr
  go_wp2
  refine bodyPost_ret (v := .tuple #[.agg #[.int .i64 0, .int .i64 0, .int .i64 0, .int .i64 0], .int .i64 20]) (by simp [results, Try.results18, go_sem, cr, fr]) rfl ⟨(congrArg retR hv.out).symm, ?_⟩
  repeat (refine Below.setCell ?_ (by simp <;> omega) _)
  exact HB2.out
set_option maxRecDepth 100000 in
set_option maxHeartbeats 1600000 in
theorem refMeet_bad2 (x y w h x' y' w' h' : Int) (W : World) (ha : rightB ⟨x, y, w, h⟩ = true) (hb : rightB ⟨x', y', w', h'⟩ = false) :
    Calls Try.prog 18 #[.agg #[.int .i64 x, .int .i64 y, .int .i64 w, .int .i64 h], .agg #[.int .i64 x', .int .i64 y', .int .i64 w', .int .i64 h']] W fun e W' => e = retR (meetR ⟨x, y, w, h⟩ ⟨x', y', w', h'⟩) ∧ Below W.heap.size W W' := by
  have hv : Hid (meetR ⟨x, y, w, h⟩ ⟨x', y', w', h'⟩ = (⟨0, 0, 0, 0⟩, 20)) := by apply Lib.hid; unfold meetR; rw [ha, hb]; rfl
  have RA := Lib.hid (fun X => ha ▸ refRight_any x y w h X)
  have RB := Lib.hid (fun X => hb ▸ refRight_any x' y' w' h' X)
  clear ha hb
  go_enter Try.func18, Try.ntmps18
  go_wp2_with fail
  refine (RA.out _).mono ?_
  rintro e w1 ⟨rfl, hb1⟩
  have ka := Whole.below (g := W.heap.size) (t := 23) (xs := [.int .i64 x, .int .i64 y, .int .i64 w, .int .i64 h]) (((whole_new W _ _ _ rfl).alloc _).alloc _) hb1 (by simp <;> omega)
  have kb := Whole.below (g := W.heap.size + 1) (t := 23) (xs := [.int .i64 x', .int .i64 y', .int .i64 w', .int .i64 h']) ((whole_new (W.alloc _) _ _ _ (by simp)).alloc _) hb1 (by simp <;> omega)
  have kr := Whole.below (g := W.heap.size + 1 + 1) (t := 23) (xs := [.int .i64 0, .int .i64 0, .int .i64 0, .int .i64 0]) (whole_new ((W.alloc _).alloc _) _ _ _ (by simp)) hb1 (by simp <;> omega)
  have HB := Lib.hid ((((Below.refl W.heap.size W).alloc (Nat.le_refl _) (.cells #[.int .i64 x, .int .i64 y, .int .i64 w, .int .i64 h] 23)).alloc (by simp) (.cells #[.int .i64 x', .int .i64 y', .int .i64 w', .int .i64 h'] 23)).alloc (by simp <;> omega) (.cells #[.int .i64 0, .int .i64 0, .int .i64 0, .int .i64 0] 23) |>.trans (hb1.mono (by simp <;> omega)))
  have hs := HB.out.size
  clear hb1
  have kbc0 : w1.cell? ⟨W.heap.size + 1, 0, none⟩ = some (.int .i64 x') := kb.cellAt 0
  have kbc1 : w1.cell? ⟨W.heap.size + 1, 1, none⟩ = some (.int .i64 y') := kb.cellAt 1
  have kbc2 : w1.cell? ⟨W.heap.size + 1, 2, none⟩ = some (.int .i64 w') := kb.cellAt 2
  have kbc3 : w1.cell? ⟨W.heap.size + 1, 3, none⟩ = some (.int .i64 h') := kb.cellAt 3
  go_wp2_with fail
  refine (RB.out _).mono ?_
  rintro e w2 ⟨rfl, hb2⟩
  replace ka := ka.below hb2 ka.lt
  replace kb := kb.below hb2 kb.lt
  replace kr := kr.below hb2 kr.lt
  have HB2 := Lib.hid (HB.out.trans (hb2.mono hs))
  have cr := kr.cellAt
  have fr := kr.free
  clear hb2 HB kbc0 kbc1 kbc2 kbc3
  clear ka kb kr
  go_wp2
  refine bodyPost_ret (v := .tuple #[.agg #[.int .i64 0, .int .i64 0, .int .i64 0, .int .i64 0], .int .i64 20]) (by simp [results, Try.results18, go_sem, cr, fr]) rfl ⟨(congrArg retR hv.out).symm, ?_⟩
  repeat (refine Below.setCell ?_ (by simp <;> omega) _)
  exact HB2.out
set_option maxRecDepth 100000 in
set_option maxHeartbeats 1600000 in
theorem refMeet_good (x y w h x' y' w' h' : Int) (W : World) (ha : rightB ⟨x, y, w, h⟩ = true) (hb : rightB ⟨x', y', w', h'⟩ = true) :
    Calls Try.prog 18 #[.agg #[.int .i64 x, .int .i64 y, .int .i64 w, .int .i64 h], .agg #[.int .i64 x', .int .i64 y', .int .i64 w', .int .i64 h']] W fun e W' => e = retR (meetR ⟨x, y, w, h⟩ ⟨x', y', w', h'⟩) ∧ Below W.heap.size W W' := by
  have hv : Hid (meetR ⟨x, y, w, h⟩ ⟨x', y', w', h'⟩ = (meetP ⟨x, y, w, h⟩ ⟨x', y', w', h'⟩, 0)) := by apply Lib.hid; unfold meetR; rw [ha, hb]; rfl
  have RA := Lib.hid (fun X => ha ▸ refRight_any x y w h X)
  have RB := Lib.hid (fun X => hb ▸ refRight_any x' y' w' h' X)
  have h1 := (rightB_iff _).1 ha
  have h2 := (rightB_iff _).1 hb
  dsimp only at h1 h2
  obtain ⟨⟨a1, a2⟩, ⟨a3, a4⟩, ⟨a5, a6⟩, a7, a8⟩ := h1
  obtain ⟨⟨b1, b2⟩, ⟨b3, b4⟩, ⟨b5, b6⟩, b7, b8⟩ := h2
  clear ha hb
  go_enter Try.func18, Try.ntmps18
  go_wp2_with fail
  refine (RA.out _).mono ?_
  rintro e w1 ⟨rfl, hb1⟩
  have ka := Whole.below (g := W.heap.size) (t := 23) (xs := [.int .i64 x, .int .i64 y, .int .i64 w, .int .i64 h]) (((whole_new W _ _ _ rfl).alloc _).alloc _) hb1 (by simp <;> omega)
  have kb := Whole.below (g := W.heap.size + 1) (t := 23) (xs := [.int .i64 x', .int .i64 y', .int .i64 w', .int .i64 h']) ((whole_new (W.alloc _) _ _ _ (by simp)).alloc _) hb1 (by simp <;> omega)
  have kr := Whole.below (g := W.heap.size + 1 + 1) (t := 23) (xs := [.int .i64 0, .int .i64 0, .int .i64 0, .int .i64 0]) (whole_new ((W.alloc _).alloc _) _ _ _ (by simp)) hb1 (by simp <;> omega)
  have HB := Lib.hid ((((Below.refl W.heap.size W).alloc (Nat.le_refl _) (.cells #[.int .i64 x, .int .i64 y, .int .i64 w, .int .i64 h] 23)).alloc (by simp) (.cells #[.int .i64 x', .int .i64 y', .int .i64 w', .int .i64 h'] 23)).alloc (by simp <;> omega) (.cells #[.int .i64 0, .int .i64 0, .int .i64 0, .int .i64 0] 23) |>.trans (hb1.mono (by simp <;> omega)))
  have hs := HB.out.size
  clear hb1
  have kbc0 : w1.cell? ⟨W.heap.size + 1, 0, none⟩ = some (.int .i64 x') := kb.cellAt 0
  have kbc1 : w1.cell? ⟨W.heap.size + 1, 1, none⟩ = some (.int .i64 y') := kb.cellAt 1
  have kbc2 : w1.cell? ⟨W.heap.size + 1, 2, none⟩ = some (.int .i64 w') := kb.cellAt 2
  have kbc3 : w1.cell? ⟨W.heap.size + 1, 3, none⟩ = some (.int .i64 h') := kb.cellAt 3
  go_wp2_with fail
  refine (RB.out _).mono ?_
  rintro e w2 ⟨rfl, hb2⟩
  replace ka := ka.below hb2 ka.lt
  replace kb := kb.below hb2 kb.lt
  replace kr := kr.below hb2 kr.lt
  have HB2 := Lib.hid (HB.out.trans (hb2.mono hs))
  have cr := kr.cellAt
  have fr := kr.free
  clear hb2 HB kbc0 kbc1 kbc2 kbc3
  have p0 : w2.cell? ⟨W.heap.size, 0, none⟩ = some (.int .i64 x) := ka.cellAt 0
  have p1 : w2.cell? ⟨W.heap.size, 1, none⟩ = some (.int .i64 y) := ka.cellAt 1
  have p2 : w2.cell? ⟨W.heap.size, 2, none⟩ = some (.int .i64 w) := ka.cellAt 2
  have p3 : w2.cell? ⟨W.heap.size, 3, none⟩ = some (.int .i64 h) := ka.cellAt 3
  have q0 : w2.cell? ⟨W.heap.size + 1, 0, none⟩ = some (.int .i64 x') := kb.cellAt 0
  have q1 : w2.cell? ⟨W.heap.size + 1, 1, none⟩ = some (.int .i64 y') := kb.cellAt 1
  have q2 : w2.cell? ⟨W.heap.size + 1, 2, none⟩ = some (.int .i64 w') := kb.cellAt 2
  have q3 : w2.cell? ⟨W.heap.size + 1, 3, none⟩ = some (.int .i64 h') := kb.cellAt 3
  have hm : Hid (meetP ⟨x, y, w, h⟩ ⟨x', y', w', h'⟩ = if min (x + w) (x' + w') - max x x' ≤ 0 ∨ min (y + h) (y' + h') - max y y' ≤ 0 then ⟨0, 0, 0, 0⟩ else ⟨max x x', max y y', min (x + w) (x' + w') - max x x', min (y + h) (y' + h') - max y y'⟩) := Lib.hid rfl
  clear ka kb kr
  by_cases hw : min (x + w) (x' + w') - max x x' ≤ 0
  · have hv' : Hid (meetR ⟨x, y, w, h⟩ ⟨x', y', w', h'⟩ = (⟨0, 0, 0, 0⟩, 0)) := by apply Lib.hid; rw [hv.out, hm.out, if_pos (.inl hw)]
    clear hv hm
    go_wp2
    refine bodyPost_ret (v := .tuple #[.agg #[.int .i64 0, .int .i64 0, .int .i64 0, .int .i64 0], .int .i64 0]) (by simp [results, Try.results18, go_sem, cr, fr]) rfl ⟨(congrArg retR hv'.out).symm, ?_⟩
    repeat (refine Below.setCell ?_ (by simp <;> omega) _)
    exact HB2.out
  · by_cases hh : min (y + h) (y' + h') - max y y' ≤ 0
    · have hv' : Hid (meetR ⟨x, y, w, h⟩ ⟨x', y', w', h'⟩ = (⟨0, 0, 0, 0⟩, 0)) := by apply Lib.hid; rw [hv.out, hm.out, if_pos (.inr hh)]
      clear hv hm
      go_wp2
      refine bodyPost_ret (v := .tuple #[.agg #[.int .i64 0, .int .i64 0, .int .i64 0, .int .i64 0], .int .i64 0]) (by simp [results, Try.results18, go_sem, cr, fr]) rfl ⟨(congrArg retR hv'.out).symm, ?_⟩
      repeat (refine Below.setCell ?_ (by simp <;> omega) _)
      exact HB2.out
    · have hv' : Hid (meetR ⟨x, y, w, h⟩ ⟨x', y', w', h'⟩ = (⟨max x x', max y y', min (x + w) (x' + w') - max x x', min (y + h) (y' + h') - max y y'⟩, 0)) := by apply Lib.hid; rw [hv.out, hm.out, if_neg (by omega)]
      clear hv hm
      go_wp2
      refine bodyPost_ret (v := .tuple #[.agg #[.int .i64 (max x x'), .int .i64 (max y y'), .int .i64 (min (x + w) (x' + w') - max x x'), .int .i64 (min (y + h) (y' + h') - max y y')], .int .i64 0]) (by simp [results, Try.results18, go_sem, cr, fr]) rfl ⟨(congrArg retR hv'.out).symm, ?_⟩
      repeat (refine Below.setCell ?_ (by simp <;> omega) _)
      exact HB2.out
theorem refMeet_any (a b : R) (W : World) : Calls Try.prog 18 #[a.val, b.val] W fun e W' => e = retR (meetR a b) ∧ Below W.heap.size W W' := by
  obtain ⟨x, y, w, h⟩ := a
  obtain ⟨x', y', w', h'⟩ := b
  cases ha : rightB ⟨x, y, w, h⟩ with
  | false => exact refMeet_bad1 x y w h x' y' w' h' W ha _ rfl
  | true =>
    cases hb : rightB ⟨x', y', w', h'⟩ with
    | false => exact refMeet_bad2 x y w h x' y' w' h' W ha hb
    | true => exact refMeet_good x y w h x' y' w' h' W ha hb
end Go.Proofs.Ytjdnhpbifblneaa
