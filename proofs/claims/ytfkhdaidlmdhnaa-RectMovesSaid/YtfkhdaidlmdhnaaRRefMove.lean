/- Contract of the document's Move and Inset. -/
import Derived.Test.YtfkhdaidlmdhnaaRInset
namespace Go.Proofs.Ytfkhdaidlmdhnaa
open Go.RowKit Go.Shelf Go.Lib
set_option linter.unusedVariables false
set_option linter.unusedSimpArgs false

set_option maxRecDepth 100000 in
set_option maxHeartbeats 1600000 in
theorem refMove_any (x y w h a b : Int) (W : World) :
    Calls Try.prog 20 #[.agg #[.int .i64 x, .int .i64 y, .int .i64 w, .int .i64 h], .int .i64 a, .int .i64 b] W fun e W' => e = retR (moveR ⟨x, y, w, h⟩ a b) ∧ Below W.heap.size W W' := by
  cases hr : rightB ⟨x, y, w, h⟩ with
  | false =>
    have hv : Hid (moveR ⟨x, y, w, h⟩ a b = (⟨0, 0, 0, 0⟩, 20)) := by apply Lib.hid; unfold moveR; rw [hr]; rfl
    have HR := Lib.hid (fun X => hr ▸ refRight_any x y w h X)
    clear hr
    go_enter Try.func20, Try.ntmps20
    go_wp2_with fail
    refine (HR.out _).mono ?_
    rintro e u1 ⟨rfl, hb1⟩
    have kr := Whole.below (g := W.heap.size + 1) (t := 23) (xs := [.int .i64 0, .int .i64 0, .int .i64 0, .int .i64 0]) (whole_new (W.alloc _) _ _ _ (by simp)) hb1 (by simp <;> omega)
    have kb := Whole.below (g := W.heap.size) (t := 23) (xs := [.int .i64 x, .int .i64 y, .int .i64 w, .int .i64 h]) ((whole_new W _ _ _ rfl).alloc _) hb1 (by simp <;> omega)
    have cr := kr.cellAt
    have fr := kr.free
    have HB := Lib.hid ((((Below.refl W.heap.size W).alloc (Nat.le_refl _) _).alloc (by simp) _).trans (hb1.mono (by simp <;> omega)))
    have hs := HB.out.size
    have KR := Lib.hid kr
    have lr := kr.lt
    have cb := kb.cellAt
    have fb := kb.free
    have lb := kb.lt
    have KB := Lib.hid kb
    clear hb1 kr kb
    clear KR KB
    go_wp2
    refine bodyPost_ret (v := .tuple #[.agg #[.int .i64 0, .int .i64 0, .int .i64 0, .int .i64 0], .int .i64 20]) (by simp [results, Try.results20, go_sem, cr, fr]) rfl ⟨(congrArg retR hv.out).symm, ?_⟩
    repeat (refine Below.setCell ?_ (by simp <;> omega) _)
    exact HB.out
  | true =>
    have hR := (rightB_iff _).1 hr
    dsimp only at hR
    obtain ⟨⟨x1, x2⟩, ⟨y1, y2⟩, ⟨w1, w2⟩, h1, h2⟩ := hR
    cases hm : moveB a b with
    | false =>
      have hv : Hid (moveR ⟨x, y, w, h⟩ a b = (⟨0, 0, 0, 0⟩, 20)) := by apply Lib.hid; unfold moveR; rw [hr, hm]; rfl
      have HR := Lib.hid (fun X => hr ▸ refRight_any x y w h X)
      have hc : (2305843009213693952 < a) ∨ (a ≤ 2305843009213693952 ∧ a < -2305843009213693952) ∨ (a ≤ 2305843009213693952 ∧ -2305843009213693952 ≤ a ∧ 2305843009213693952 < b) ∨ (a ≤ 2305843009213693952 ∧ -2305843009213693952 ≤ a ∧ b ≤ 2305843009213693952 ∧ b < -2305843009213693952) := by
        have hn : ¬ _ := fun k => absurd ((moveB_iff a b).2 k) (by rw [hm]; decide)
        omega
      clear hr hm x1 x2 y1 y2 w1 w2 h1 h2
      rcases hc with c1 | ⟨c1, c2⟩ | ⟨c1, c2, c3⟩ | ⟨c1, c2, c3, c4⟩
      all_goals
        go_enter Try.func20, Try.ntmps20
        go_wp2_with fail
        refine (HR.out _).mono ?_
        rintro e u1 ⟨rfl, hb1⟩
        have kr := Whole.below (g := W.heap.size + 1) (t := 23) (xs := [.int .i64 0, .int .i64 0, .int .i64 0, .int .i64 0]) (whole_new (W.alloc _) _ _ _ (by simp)) hb1 (by simp <;> omega)
        have kb := Whole.below (g := W.heap.size) (t := 23) (xs := [.int .i64 x, .int .i64 y, .int .i64 w, .int .i64 h]) ((whole_new W _ _ _ rfl).alloc _) hb1 (by simp <;> omega)
        have cr := kr.cellAt
        have fr := kr.free
        have HB := Lib.hid ((((Below.refl W.heap.size W).alloc (Nat.le_refl _) _).alloc (by simp) _).trans (hb1.mono (by simp <;> omega)))
        have hs := HB.out.size
        have KR := Lib.hid kr
        have lr := kr.lt
        have cb := kb.cellAt
        have fb := kb.free
        have lb := kb.lt
        have KB := Lib.hid kb
        clear hb1 kr kb
        clear KR KB
        go_wp2
        refine bodyPost_ret (v := .tuple #[.agg #[.int .i64 0, .int .i64 0, .int .i64 0, .int .i64 0], .int .i64 20]) (by simp [results, Try.results20, go_sem, cr, fr]) rfl ⟨(congrArg retR hv.out).symm, ?_⟩
        repeat (refine Below.setCell ?_ (by simp <;> omega) _)
        exact HB.out
    | true =>
      have hM := (moveB_iff _ _).1 hm
      obtain ⟨⟨a1, a2⟩, b1, b2⟩ := hM
      have hv0 : Hid (moveR ⟨x, y, w, h⟩ a b = rightR ⟨x + a, y + b, w, h⟩) := by apply Lib.hid; unfold moveR; rw [hr, hm]; rfl
      have HR := Lib.hid (fun X => hr ▸ refRight_any x y w h X)
      cases hq : rightB ⟨x + a, y + b, w, h⟩ with
      | false =>
        have hv : Hid (moveR ⟨x, y, w, h⟩ a b = (⟨0, 0, 0, 0⟩, 20)) := by apply Lib.hid; rw [hv0.out]; unfold rightR; rw [hq]; rfl
        have HQ := Lib.hid (fun X => hq ▸ refRight_any (x + a) (y + b) w h X)
        clear hr hm hq hv0
        go_enter Try.func20, Try.ntmps20
        go_wp2_with fail
        refine (HR.out _).mono ?_
        rintro e u1 ⟨rfl, hb1⟩
        have kr := Whole.below (g := W.heap.size + 1) (t := 23) (xs := [.int .i64 0, .int .i64 0, .int .i64 0, .int .i64 0]) (whole_new (W.alloc _) _ _ _ (by simp)) hb1 (by simp <;> omega)
        have kb := Whole.below (g := W.heap.size) (t := 23) (xs := [.int .i64 x, .int .i64 y, .int .i64 w, .int .i64 h]) ((whole_new W _ _ _ rfl).alloc _) hb1 (by simp <;> omega)
        have cr := kr.cellAt
        have fr := kr.free
        have HB := Lib.hid ((((Below.refl W.heap.size W).alloc (Nat.le_refl _) _).alloc (by simp) _).trans (hb1.mono (by simp <;> omega)))
        have hs := HB.out.size
        have KR := Lib.hid kr
        have lr := kr.lt
        have cb := kb.cellAt
        have fb := kb.free
        have lb := kb.lt
        have KB := Lib.hid kb
        clear hb1 kr kb
        go_wp2_with fail
        refine (HQ.out _).mono ?_
        rintro e u2 ⟨rfl, hb2⟩
        have HBS : Below W.heap.size W ((u1.setCell ⟨W.heap.size, 0, none⟩ (.int .i64 (x + a))).setCell ⟨W.heap.size, 1, none⟩ (.int .i64 (y + b))) := (HB.out.setCell (Nat.le_refl _) _).setCell (Nat.le_refl _) _
        have kr := (((KR.out).other _ _ (by simp)).other _ _ (by simp)).below hb2 (by simp <;> omega)
        replace cr := kr.cellAt
        replace fr := kr.free
        have HB2 := Lib.hid (HBS.trans (hb2.mono (by simp <;> omega)))
        clear hb2 KB KR kr
        go_wp2
        refine bodyPost_ret (v := .tuple #[.agg #[.int .i64 0, .int .i64 0, .int .i64 0, .int .i64 0], .int .i64 20]) (by simp [results, Try.results20, go_sem, cr, fr]) rfl ⟨(congrArg retR hv.out).symm, ?_⟩
        repeat (refine Below.setCell ?_ (by simp <;> omega) _)
        exact HB2.out
      | true =>
        have hv : Hid (moveR ⟨x, y, w, h⟩ a b = (⟨x + a, y + b, w, h⟩, 0)) := by apply Lib.hid; rw [hv0.out]; unfold rightR; rw [hq]; rfl
        have HQ := Lib.hid (fun X => hq ▸ refRight_any (x + a) (y + b) w h X)
        clear hr hm hq hv0
        go_enter Try.func20, Try.ntmps20
        go_wp2_with fail
        refine (HR.out _).mono ?_
        rintro e u1 ⟨rfl, hb1⟩
        have kr := Whole.below (g := W.heap.size + 1) (t := 23) (xs := [.int .i64 0, .int .i64 0, .int .i64 0, .int .i64 0]) (whole_new (W.alloc _) _ _ _ (by simp)) hb1 (by simp <;> omega)
        have kb := Whole.below (g := W.heap.size) (t := 23) (xs := [.int .i64 x, .int .i64 y, .int .i64 w, .int .i64 h]) ((whole_new W _ _ _ rfl).alloc _) hb1 (by simp <;> omega)
        have cr := kr.cellAt
        have fr := kr.free
        have HB := Lib.hid ((((Below.refl W.heap.size W).alloc (Nat.le_refl _) _).alloc (by simp) _).trans (hb1.mono (by simp <;> omega)))
        have hs := HB.out.size
        have KR := Lib.hid kr
        have lr := kr.lt
        have cb := kb.cellAt
        have fb := kb.free
        have lb := kb.lt
        have KB := Lib.hid kb
        clear hb1 kr kb
        go_wp2_with fail
        refine (HQ.out _).mono ?_
        rintro e u2 ⟨rfl, hb2⟩
        have HBS : Below W.heap.size W ((u1.setCell ⟨W.heap.size, 0, none⟩ (.int .i64 (x + a))).setCell ⟨W.heap.size, 1, none⟩ (.int .i64 (y + b))) := (HB.out.setCell (Nat.le_refl _) _).setCell (Nat.le_refl _) _
        have kr := (((KR.out).other _ _ (by simp)).other _ _ (by simp)).below hb2 (by simp <;> omega)
        replace cr := kr.cellAt
        replace fr := kr.free
        have kb := ((KB.out.set 0 (.int .i64 (x + a))).set 1 (.int .i64 (y + b))).below hb2 (by simp <;> omega)
        replace cb := kb.cellAt
        replace fb := kb.free
        have HB2 := Lib.hid (HBS.trans (hb2.mono (by simp <;> omega)))
        clear hb2 KB KR kr kb
        go_wp2
        refine bodyPost_ret (v := .tuple #[.agg #[.int .i64 (x + a), .int .i64 (y + b), .int .i64 w, .int .i64 h], .int .i64 0]) (by simp [results, Try.results20, go_sem, cr, fr]) rfl ⟨(congrArg retR hv.out).symm, ?_⟩
        repeat (refine Below.setCell ?_ (by simp <;> omega) _)
        exact HB2.out
end Go.Proofs.Ytfkhdaidlmdhnaa
