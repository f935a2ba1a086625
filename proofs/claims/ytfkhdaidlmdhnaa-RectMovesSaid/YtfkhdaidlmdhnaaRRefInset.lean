/- Contract of the document's Inset. -/
import Derived.Test.YtfkhdaidlmdhnaaRRefMove
namespace Go.Proofs.Ytfkhdaidlmdhnaa
open Go.RowKit Go.Shelf Go.Lib
set_option linter.unusedVariables false
set_option linter.unusedSimpArgs false

set_option maxRecDepth 100000 in
set_option maxHeartbeats 1600000 in
theorem refInset_bad0 (x y w h a b c d : Int) (W : World) (hv : Hid (insetR ⟨x, y, w, h⟩ a b c d = (⟨0, 0, 0, 0⟩, 20)))  (hk : a < 0 ∨ (0 ≤ a ∧ 1152921504606846975 < a)) :
    Calls Try.prog 22 #[.agg #[.int .i64 x, .int .i64 y, .int .i64 w, .int .i64 h], .agg #[.int .i64 a, .int .i64 b, .int .i64 c, .int .i64 d]] W fun e W' => e = retR (insetR ⟨x, y, w, h⟩ a b c d) ∧ Below W.heap.size W W' := by
  rcases hk with k1 | ⟨k1, k2⟩
  all_goals
    go_enter Try.func22, Try.ntmps22
    have kr := whole_new ((W.alloc (.cells #[.int .i64 x, .int .i64 y, .int .i64 w, .int .i64 h] 23)).alloc (.cells #[.int .i64 a, .int .i64 b, .int .i64 c, .int .i64 d] 35)) [.int .i64 0, .int .i64 0, .int .i64 0, .int .i64 0] 23 (W.heap.size + 1 + 1) (by simp)
    have ky := (whole_new (W.alloc (.cells #[.int .i64 x, .int .i64 y, .int .i64 w, .int .i64 h] 23)) [.int .i64 a, .int .i64 b, .int .i64 c, .int .i64 d] 35 (W.heap.size + 1) (by simp)).alloc (.cells #[.int .i64 0, .int .i64 0, .int .i64 0, .int .i64 0] 23)
    have kb := ((whole_new W [.int .i64 x, .int .i64 y, .int .i64 w, .int .i64 h] 23 W.heap.size rfl).alloc (.cells #[.int .i64 a, .int .i64 b, .int .i64 c, .int .i64 d] 35)).alloc (.cells #[.int .i64 0, .int .i64 0, .int .i64 0, .int .i64 0] 23)
    have HB0 := (((Below.refl W.heap.size W).alloc (Nat.le_refl _) (.cells #[.int .i64 x, .int .i64 y, .int .i64 w, .int .i64 h] 23)).alloc (by simp) (.cells #[.int .i64 a, .int .i64 b, .int .i64 c, .int .i64 d] 35)).alloc (by simp <;> omega) (.cells #[.int .i64 0, .int .i64 0, .int .i64 0, .int .i64 0] 23)
    go_wp2
    generalize hW0 : ((W.alloc (.cells #[.int .i64 x, .int .i64 y, .int .i64 w, .int .i64 h] 23)).alloc (.cells #[.int .i64 a, .int .i64 b, .int .i64 c, .int .i64 d] 35)).alloc (.cells #[.int .i64 0, .int .i64 0, .int .i64 0, .int .i64 0] 23) = W0 at *
    clear hW0
    have q0 : W0.cell? ⟨W.heap.size + 1, 0, none⟩ = some (.int .i64 a) := ky.cellAt 0
    have q1 : W0.cell? ⟨W.heap.size + 1, 1, none⟩ = some (.int .i64 b) := ky.cellAt 1
    have q2 : W0.cell? ⟨W.heap.size + 1, 2, none⟩ = some (.int .i64 c) := ky.cellAt 2
    have q3 : W0.cell? ⟨W.heap.size + 1, 3, none⟩ = some (.int .i64 d) := ky.cellAt 3
    have p0 : W0.cell? ⟨W.heap.size, 0, none⟩ = some (.int .i64 x) := kb.cellAt 0
    have p1 : W0.cell? ⟨W.heap.size, 1, none⟩ = some (.int .i64 y) := kb.cellAt 1
    have p2 : W0.cell? ⟨W.heap.size, 2, none⟩ = some (.int .i64 w) := kb.cellAt 2
    have p3 : W0.cell? ⟨W.heap.size, 3, none⟩ = some (.int .i64 h) := kb.cellAt 3
    have cr := kr.cellAt
    have fr := kr.free
    have HB := Lib.hid HB0
    have KR := Lib.hid kr
    have KY := Lib.hid ky
    have KB := Lib.hid kb
    clear HB0 kr ky kb
    refine wp_loop_rounds 1 ?_
    rw [rounds_succ]
    go_wp2
    refine bodyPost_ret (v := .tuple #[.agg #[.int .i64 0, .int .i64 0, .int .i64 0, .int .i64 0], .int .i64 20]) (by simp [results, Try.results22, go_sem, cr, fr]) rfl ⟨(congrArg retR hv.out).symm, ?_⟩
    repeat (first | refine Below.setCell ?_ (by simp <;> omega) _ | refine Below.alloc ?_ (by simp <;> omega) _)
    exact HB.out
set_option maxRecDepth 100000 in
set_option maxHeartbeats 1600000 in
theorem refInset_bad1 (x y w h a b c d : Int) (W : World) (hv : Hid (insetR ⟨x, y, w, h⟩ a b c d = (⟨0, 0, 0, 0⟩, 20))) (g0 : 0 ≤ a) (l0 : a ≤ 1152921504606846975) (hk : b < 0 ∨ (0 ≤ b ∧ 1152921504606846975 < b)) :
    Calls Try.prog 22 #[.agg #[.int .i64 x, .int .i64 y, .int .i64 w, .int .i64 h], .agg #[.int .i64 a, .int .i64 b, .int .i64 c, .int .i64 d]] W fun e W' => e = retR (insetR ⟨x, y, w, h⟩ a b c d) ∧ Below W.heap.size W W' := by
  rcases hk with k1 | ⟨k1, k2⟩
  all_goals
    go_enter Try.func22, Try.ntmps22
    have kr := whole_new ((W.alloc (.cells #[.int .i64 x, .int .i64 y, .int .i64 w, .int .i64 h] 23)).alloc (.cells #[.int .i64 a, .int .i64 b, .int .i64 c, .int .i64 d] 35)) [.int .i64 0, .int .i64 0, .int .i64 0, .int .i64 0] 23 (W.heap.size + 1 + 1) (by simp)
    have ky := (whole_new (W.alloc (.cells #[.int .i64 x, .int .i64 y, .int .i64 w, .int .i64 h] 23)) [.int .i64 a, .int .i64 b, .int .i64 c, .int .i64 d] 35 (W.heap.size + 1) (by simp)).alloc (.cells #[.int .i64 0, .int .i64 0, .int .i64 0, .int .i64 0] 23)
    have kb := ((whole_new W [.int .i64 x, .int .i64 y, .int .i64 w, .int .i64 h] 23 W.heap.size rfl).alloc (.cells #[.int .i64 a, .int .i64 b, .int .i64 c, .int .i64 d] 35)).alloc (.cells #[.int .i64 0, .int .i64 0, .int .i64 0, .int .i64 0] 23)
    have HB0 := (((Below.refl W.heap.size W).alloc (Nat.le_refl _) (.cells #[.int .i64 x, .int .i64 y, .int .i64 w, .int .i64 h] 23)).alloc (by simp) (.cells #[.int .i64 a, .int .i64 b, .int .i64 c, .int .i64 d] 35)).alloc (by simp <;> omega) (.cells #[.int .i64 0, .int .i64 0, .int .i64 0, .int .i64 0] 23)
    go_wp2
    generalize hW0 : ((W.alloc (.cells #[.int .i64 x, .int .i64 y, .int .i64 w, .int .i64 h] 23)).alloc (.cells #[.int .i64 a, .int .i64 b, .int .i64 c, .int .i64 d] 35)).alloc (.cells #[.int .i64 0, .int .i64 0, .int .i64 0, .int .i64 0] 23) = W0 at *
    clear hW0
    have q0 : W0.cell? ⟨W.heap.size + 1, 0, none⟩ = some (.int .i64 a) := ky.cellAt 0
    have q1 : W0.cell? ⟨W.heap.size + 1, 1, none⟩ = some (.int .i64 b) := ky.cellAt 1
    have q2 : W0.cell? ⟨W.heap.size + 1, 2, none⟩ = some (.int .i64 c) := ky.cellAt 2
    have q3 : W0.cell? ⟨W.heap.size + 1, 3, none⟩ = some (.int .i64 d) := ky.cellAt 3
    have p0 : W0.cell? ⟨W.heap.size, 0, none⟩ = some (.int .i64 x) := kb.cellAt 0
    have p1 : W0.cell? ⟨W.heap.size, 1, none⟩ = some (.int .i64 y) := kb.cellAt 1
    have p2 : W0.cell? ⟨W.heap.size, 2, none⟩ = some (.int .i64 w) := kb.cellAt 2
    have p3 : W0.cell? ⟨W.heap.size, 3, none⟩ = some (.int .i64 h) := kb.cellAt 3
    have cr := kr.cellAt
    have fr := kr.free
    have HB := Lib.hid HB0
    have KR := Lib.hid kr
    have KY := Lib.hid ky
    have KB := Lib.hid kb
    clear HB0 kr ky kb
    refine wp_loop_rounds 2 ?_
    rw [rounds_succ]
    go_wp2
    rw [rounds_succ]
    go_wp2
    refine bodyPost_ret (v := .tuple #[.agg #[.int .i64 0, .int .i64 0, .int .i64 0, .int .i64 0], .int .i64 20]) (by simp [results, Try.results22, go_sem, cr, fr]) rfl ⟨(congrArg retR hv.out).symm, ?_⟩
    repeat (first | refine Below.setCell ?_ (by simp <;> omega) _ | refine Below.alloc ?_ (by simp <;> omega) _)
    exact HB.out
set_option maxRecDepth 100000 in
set_option maxHeartbeats 1600000 in
theorem refInset_bad2 (x y w h a b c d : Int) (W : World) (hv : Hid (insetR ⟨x, y, w, h⟩ a b c d = (⟨0, 0, 0, 0⟩, 20))) (g0 : 0 ≤ a) (l0 : a ≤ 1152921504606846975) (g1 : 0 ≤ b) (l1 : b ≤ 1152921504606846975) (hk : c < 0 ∨ (0 ≤ c ∧ 1152921504606846975 < c)) :
    Calls Try.prog 22 #[.agg #[.int .i64 x, .int .i64 y, .int .i64 w, .int .i64 h], .agg #[.int .i64 a, .int .i64 b, .int .i64 c, .int .i64 d]] W fun e W' => e = retR (insetR ⟨x, y, w, h⟩ a b c d) ∧ Below W.heap.size W W' := by
  rcases hk with k1 | ⟨k1, k2⟩
  all_goals
    go_enter Try.func22, Try.ntmps22
    have kr := whole_new ((W.alloc (.cells #[.int .i64 x, .int .i64 y, .int .i64 w, .int .i64 h] 23)).alloc (.cells #[.int .i64 a, .int .i64 b, .int .i64 c, .int .i64 d] 35)) [.int .i64 0, .int .i64 0, .int .i64 0, .int .i64 0] 23 (W.heap.size + 1 + 1) (by simp)
    have ky := (whole_new (W.alloc (.cells #[.int .i64 x, .int .i64 y, .int .i64 w, .int .i64 h] 23)) [.int .i64 a, .int .i64 b, .int .i64 c, .int .i64 d] 35 (W.heap.size + 1) (by simp)).alloc (.cells #[.int .i64 0, .int .i64 0, .int .i64 0, .int .i64 0] 23)
    have kb := ((whole_new W [.int .i64 x, .int .i64 y, .int .i64 w, .int .i64 h] 23 W.heap.size rfl).alloc (.cells #[.int .i64 a, .int .i64 b, .int .i64 c, .int .i64 d] 35)).alloc (.cells #[.int .i64 0, .int .i64 0, .int .i64 0, .int .i64 0] 23)
    have HB0 := (((Below.refl W.heap.size W).alloc (Nat.le_refl _) (.cells #[.int .i64 x, .int .i64 y, .int .i64 w, .int .i64 h] 23)).alloc (by simp) (.cells #[.int .i64 a, .int .i64 b, .int .i64 c, .int .i64 d] 35)).alloc (by simp <;> omega) (.cells #[.int .i64 0, .int .i64 0, .int .i64 0, .int .i64 0] 23)
    go_wp2
    generalize hW0 : ((W.alloc (.cells #[.int .i64 x, .int .i64 y, .int .i64 w, .int .i64 h] 23)).alloc (.cells #[.int .i64 a, .int .i64 b, .int .i64 c, .int .i64 d] 35)).alloc (.cells #[.int .i64 0, .int .i64 0, .int .i64 0, .int .i64 0] 23) = W0 at *
    clear hW0
    have q0 : W0.cell? ⟨W.heap.size + 1, 0, none⟩ = some (.int .i64 a) := ky.cellAt 0
    have q1 : W0.cell? ⟨W.heap.size + 1, 1, none⟩ = some (.int .i64 b) := ky.cellAt 1
    have q2 : W0.cell? ⟨W.heap.size + 1, 2, none⟩ = some (.int .i64 c) := ky.cellAt 2
    have q3 : W0.cell? ⟨W.heap.size + 1, 3, none⟩ = some (.int .i64 d) := ky.cellAt 3
    have p0 : W0.cell? ⟨W.heap.size, 0, none⟩ = some (.int .i64 x) := kb.cellAt 0
    have p1 : W0.cell? ⟨W.heap.size, 1, none⟩ = some (.int .i64 y) := kb.cellAt 1
    have p2 : W0.cell? ⟨W.heap.size, 2, none⟩ = some (.int .i64 w) := kb.cellAt 2
    have p3 : W0.cell? ⟨W.heap.size, 3, none⟩ = some (.int .i64 h) := kb.cellAt 3
    have cr := kr.cellAt
    have fr := kr.free
    have HB := Lib.hid HB0
    have KR := Lib.hid kr
    have KY := Lib.hid ky
    have KB := Lib.hid kb
    clear HB0 kr ky kb
    refine wp_loop_rounds 3 ?_
    rw [rounds_succ]
    go_wp2
    rw [rounds_succ]
    go_wp2
    rw [rounds_succ]
    go_wp2
    refine bodyPost_ret (v := .tuple #[.agg #[.int .i64 0, .int .i64 0, .int .i64 0, .int .i64 0], .int .i64 20]) (by simp [results, Try.results22, go_sem, cr, fr]) rfl ⟨(congrArg retR hv.out).symm, ?_⟩
    repeat (first | refine Below.setCell ?_ (by simp <;> omega) _ | refine Below.alloc ?_ (by simp <;> omega) _)
    exact HB.out
set_option maxRecDepth 100000 in
set_option maxHeartbeats 1600000 in
theorem refInset_bad3 (x y w h a b c d : Int) (W : World) (hv : Hid (insetR ⟨x, y, w, h⟩ a b c d = (⟨0, 0, 0, 0⟩, 20))) (g0 : 0 ≤ a) (l0 : a ≤ 1152921504606846975) (g1 : 0 ≤ b) (l1 : b ≤ 1152921504606846975) (g2 : 0 ≤ c) (l2 : c ≤ 1152921504606846975) (hk : d < 0 ∨ (0 ≤ d ∧ 1152921504606846975 < d)) :
    Calls Try.prog 22 #[.agg #[.int .i64 x, .int .i64 y, .int .i64 w, .int .i64 h], .agg #[.int .i64 a, .int .i64 b, .int .i64 c, .int .i64 d]] W fun e W' => e = retR (insetR ⟨x, y, w, h⟩ a b c d) ∧ Below W.heap.size W W' := by
  rcases hk with k1 | ⟨k1, k2⟩
  all_goals
    go_enter Try.func22, Try.ntmps22
    have kr := whole_new ((W.alloc (.cells #[.int .i64 x, .int .i64 y, .int .i64 w, .int .i64 h] 23)).alloc (.cells #[.int .i64 a, .int .i64 b, .int .i64 c, .int .i64 d] 35)) [.int .i64 0, .int .i64 0, .int .i64 0, .int .i64 0] 23 (W.heap.size + 1 + 1) (by simp)
    have ky := (whole_new (W.alloc (.cells #[.int .i64 x, .int .i64 y, .int .i64 w, .int .i64 h] 23)) [.int .i64 a, .int .i64 b, .int .i64 c, .int .i64 d] 35 (W.heap.size + 1) (by simp)).alloc (.cells #[.int .i64 0, .int .i64 0, .int .i64 0, .int .i64 0] 23)
    have kb := ((whole_new W [.int .i64 x, .int .i64 y, .int .i64 w, .int .i64 h] 23 W.heap.size rfl).alloc (.cells #[.int .i64 a, .int .i64 b, .int .i64 c, .int .i64 d] 35)).alloc (.cells #[.int .i64 0, .int .i64 0, .int .i64 0, .int .i64 0] 23)
    have HB0 := (((Below.refl W.heap.size W).alloc (Nat.le_refl _) (.cells #[.int .i64 x, .int .i64 y, .int .i64 w, .int .i64 h] 23)).alloc (by simp) (.cells #[.int .i64 a, .int .i64 b, .int .i64 c, .int .i64 d] 35)).alloc (by simp <;> omega) (.cells #[.int .i64 0, .int .i64 0, .int .i64 0, .int .i64 0] 23)
    go_wp2
    generalize hW0 : ((W.alloc (.cells #[.int .i64 x, .int .i64 y, .int .i64 w, .int .i64 h] 23)).alloc (.cells #[.int .i64 a, .int .i64 b, .int .i64 c, .int .i64 d] 35)).alloc (.cells #[.int .i64 0, .int .i64 0, .int .i64 0, .int .i64 0] 23) = W0 at *
    clear hW0
    have q0 : W0.cell? ⟨W.heap.size + 1, 0, none⟩ = some (.int .i64 a) := ky.cellAt 0
    have q1 : W0.cell? ⟨W.heap.size + 1, 1, none⟩ = some (.int .i64 b) := ky.cellAt 1
    have q2 : W0.cell? ⟨W.heap.size + 1, 2, none⟩ = some (.int .i64 c) := ky.cellAt 2
    have q3 : W0.cell? ⟨W.heap.size + 1, 3, none⟩ = some (.int .i64 d) := ky.cellAt 3
    have p0 : W0.cell? ⟨W.heap.size, 0, none⟩ = some (.int .i64 x) := kb.cellAt 0
    have p1 : W0.cell? ⟨W.heap.size, 1, none⟩ = some (.int .i64 y) := kb.cellAt 1
    have p2 : W0.cell? ⟨W.heap.size, 2, none⟩ = some (.int .i64 w) := kb.cellAt 2
    have p3 : W0.cell? ⟨W.heap.size, 3, none⟩ = some (.int .i64 h) := kb.cellAt 3
    have cr := kr.cellAt
    have fr := kr.free
    have HB := Lib.hid HB0
    have KR := Lib.hid kr
    have KY := Lib.hid ky
    have KB := Lib.hid kb
    clear HB0 kr ky kb
    refine wp_loop_rounds 4 ?_
    rw [rounds_succ]
    go_wp2
    rw [rounds_succ]
    go_wp2
    rw [rounds_succ]
    go_wp2
    rw [rounds_succ]
    go_wp2
    refine bodyPost_ret (v := .tuple #[.agg #[.int .i64 0, .int .i64 0, .int .i64 0, .int .i64 0], .int .i64 20]) (by simp [results, Try.results22, go_sem, cr, fr]) rfl ⟨(congrArg retR hv.out).symm, ?_⟩
    repeat (first | refine Below.setCell ?_ (by simp <;> omega) _ | refine Below.alloc ?_ (by simp <;> omega) _)
    exact HB.out
set_option maxRecDepth 100000 in
set_option maxHeartbeats 1600000 in
theorem refInset_out (x y w h a b c d : Int) (W : World) (hv : Hid (insetR ⟨x, y, w, h⟩ a b c d = (⟨0, 0, 0, 0⟩, 20))) (g0 : 0 ≤ a) (l0 : a ≤ 1152921504606846975) (g1 : 0 ≤ b) (l1 : b ≤ 1152921504606846975) (g2 : 0 ≤ c) (l2 : c ≤ 1152921504606846975) (g3 : 0 ≤ d) (l3 : d ≤ 1152921504606846975) (hm : moveR ⟨x, y, w, h⟩ d a = (⟨0, 0, 0, 0⟩, 20)) :
    Calls Try.prog 22 #[.agg #[.int .i64 x, .int .i64 y, .int .i64 w, .int .i64 h], .agg #[.int .i64 a, .int .i64 b, .int .i64 c, .int .i64 d]] W fun e W' => e = retR (insetR ⟨x, y, w, h⟩ a b c d) ∧ Below W.heap.size W W' := by
  have M := Lib.hid (fun X => hm ▸ refMove_any x y w h d a X)
  unfold retR at M
  dsimp only at M
  clear hm
  go_enter Try.func22, Try.ntmps22
  have kr := whole_new ((W.alloc (.cells #[.int .i64 x, .int .i64 y, .int .i64 w, .int .i64 h] 23)).alloc (.cells #[.int .i64 a, .int .i64 b, .int .i64 c, .int .i64 d] 35)) [.int .i64 0, .int .i64 0, .int .i64 0, .int .i64 0] 23 (W.heap.size + 1 + 1) (by simp)
  have ky := (whole_new (W.alloc (.cells #[.int .i64 x, .int .i64 y, .int .i64 w, .int .i64 h] 23)) [.int .i64 a, .int .i64 b, .int .i64 c, .int .i64 d] 35 (W.heap.size + 1) (by simp)).alloc (.cells #[.int .i64 0, .int .i64 0, .int .i64 0, .int .i64 0] 23)
  have kb := ((whole_new W [.int .i64 x, .int .i64 y, .int .i64 w, .int .i64 h] 23 W.heap.size rfl).alloc (.cells #[.int .i64 a, .int .i64 b, .int .i64 c, .int .i64 d] 35)).alloc (.cells #[.int .i64 0, .int .i64 0, .int .i64 0, .int .i64 0] 23)
  have HB0 := (((Below.refl W.heap.size W).alloc (Nat.le_refl _) (.cells #[.int .i64 x, .int .i64 y, .int .i64 w, .int .i64 h] 23)).alloc (by simp) (.cells #[.int .i64 a, .int .i64 b, .int .i64 c, .int .i64 d] 35)).alloc (by simp <;> omega) (.cells #[.int .i64 0, .int .i64 0, .int .i64 0, .int .i64 0] 23)
  go_wp2
  generalize hW0 : ((W.alloc (.cells #[.int .i64 x, .int .i64 y, .int .i64 w, .int .i64 h] 23)).alloc (.cells #[.int .i64 a, .int .i64 b, .int .i64 c, .int .i64 d] 35)).alloc (.cells #[.int .i64 0, .int .i64 0, .int .i64 0, .int .i64 0] 23) = W0 at *
  clear hW0
  have q0 : W0.cell? ⟨W.heap.size + 1, 0, none⟩ = some (.int .i64 a) := ky.cellAt 0
  have q1 : W0.cell? ⟨W.heap.size + 1, 1, none⟩ = some (.int .i64 b) := ky.cellAt 1
  have q2 : W0.cell? ⟨W.heap.size + 1, 2, none⟩ = some (.int .i64 c) := ky.cellAt 2
  have q3 : W0.cell? ⟨W.heap.size + 1, 3, none⟩ = some (.int .i64 d) := ky.cellAt 3
  have p0 : W0.cell? ⟨W.heap.size, 0, none⟩ = some (.int .i64 x) := kb.cellAt 0
  have p1 : W0.cell? ⟨W.heap.size, 1, none⟩ = some (.int .i64 y) := kb.cellAt 1
  have p2 : W0.cell? ⟨W.heap.size, 2, none⟩ = some (.int .i64 w) := kb.cellAt 2
  have p3 : W0.cell? ⟨W.heap.size, 3, none⟩ = some (.int .i64 h) := kb.cellAt 3
  have cr := kr.cellAt
  have fr := kr.free
  have HB := Lib.hid HB0
  have KR := Lib.hid kr
  have KY := Lib.hid ky
  have KB := Lib.hid kb
  clear HB0 kr ky kb
  refine wp_loop_rounds 5 ?_
  rw [rounds_succ]
  go_wp2
  rw [rounds_succ]
  go_wp2
  rw [rounds_succ]
  go_wp2
  rw [rounds_succ]
  go_wp2
  rw [rounds_succ]
  go_wp2_with fail
  refine (M.out _).mono ?_
  rintro e u1 ⟨rfl, hb1⟩
  have kr := KR.out.below hb1 KR.out.lt
  have ky := KY.out.below hb1 KY.out.lt
  have kb := KB.out.below hb1 KB.out.lt
  have HB1 := Lib.hid (HB.out.trans (hb1.mono HB.out.size))
  have hs1 := HB1.out.size
  replace cr := kr.cellAt
  replace fr := kr.free
  have lr := kr.lt
  have ly := ky.lt
  have lb := kb.lt
  replace q0 : u1.cell? ⟨W.heap.size + 1, 0, none⟩ = some (.int .i64 a) := ky.cellAt 0
  replace q1 : u1.cell? ⟨W.heap.size + 1, 1, none⟩ = some (.int .i64 b) := ky.cellAt 1
  replace q2 : u1.cell? ⟨W.heap.size + 1, 2, none⟩ = some (.int .i64 c) := ky.cellAt 2
  replace q3 : u1.cell? ⟨W.heap.size + 1, 3, none⟩ = some (.int .i64 d) := ky.cellAt 3
  replace p0 : u1.cell? ⟨W.heap.size, 0, none⟩ = some (.int .i64 x) := kb.cellAt 0
  replace p1 : u1.cell? ⟨W.heap.size, 1, none⟩ = some (.int .i64 y) := kb.cellAt 1
  replace p2 : u1.cell? ⟨W.heap.size, 2, none⟩ = some (.int .i64 w) := kb.cellAt 2
  replace p3 : u1.cell? ⟨W.heap.size, 3, none⟩ = some (.int .i64 h) := kb.cellAt 3
  clear hb1 kr ky kb HB KR KY KB M
  go_wp2
  refine bodyPost_ret (v := .tuple #[.agg #[.int .i64 0, .int .i64 0, .int .i64 0, .int .i64 0], .int .i64 20]) (by simp [results, Try.results22, go_sem, cr, fr, lr]) rfl ⟨(congrArg retR hv.out).symm, ?_⟩
  repeat (first | refine Below.setCell ?_ (by simp <;> omega) _ | refine Below.alloc ?_ (by simp <;> omega) _)
  exact HB1.out
set_option maxRecDepth 100000 in
set_option maxHeartbeats 1600000 in
theorem refInset_in (x y w h a b c d : Int) (W : World) (hv : Hid (insetR ⟨x, y, w, h⟩ a b c d = (⟨x + d, y + a, max 0 (w - b - d), max 0 (h - a - c)⟩, 0))) (g0 : 0 ≤ a) (l0 : a ≤ 1152921504606846975) (g1 : 0 ≤ b) (l1 : b ≤ 1152921504606846975) (g2 : 0 ≤ c) (l2 : c ≤ 1152921504606846975) (g3 : 0 ≤ d) (l3 : d ≤ 1152921504606846975) (hw0 : 0 ≤ w) (hw1 : w ≤ 1152921504606846975) (hh0 : 0 ≤ h) (hh1 : h ≤ 1152921504606846975) (hm : moveR ⟨x, y, w, h⟩ d a = (⟨x + d, y + a, w, h⟩, 0)) :
    Calls Try.prog 22 #[.agg #[.int .i64 x, .int .i64 y, .int .i64 w, .int .i64 h], .agg #[.int .i64 a, .int .i64 b, .int .i64 c, .int .i64 d]] W fun e W' => e = retR (insetR ⟨x, y, w, h⟩ a b c d) ∧ Below W.heap.size W W' := by
  have M := Lib.hid (fun X => hm ▸ refMove_any x y w h d a X)
  unfold retR at M
  dsimp only at M
  clear hm
  go_enter Try.func22, Try.ntmps22
  have kr := whole_new ((W.alloc (.cells #[.int .i64 x, .int .i64 y, .int .i64 w, .int .i64 h] 23)).alloc (.cells #[.int .i64 a, .int .i64 b, .int .i64 c, .int .i64 d] 35)) [.int .i64 0, .int .i64 0, .int .i64 0, .int .i64 0] 23 (W.heap.size + 1 + 1) (by simp)
  have ky := (whole_new (W.alloc (.cells #[.int .i64 x, .int .i64 y, .int .i64 w, .int .i64 h] 23)) [.int .i64 a, .int .i64 b, .int .i64 c, .int .i64 d] 35 (W.heap.size + 1) (by simp)).alloc (.cells #[.int .i64 0, .int .i64 0, .int .i64 0, .int .i64 0] 23)
  have kb := ((whole_new W [.int .i64 x, .int .i64 y, .int .i64 w, .int .i64 h] 23 W.heap.size rfl).alloc (.cells #[.int .i64 a, .int .i64 b, .int .i64 c, .int .i64 d] 35)).alloc (.cells #[.int .i64 0, .int .i64 0, .int .i64 0, .int .i64 0] 23)
  have HB0 := (((Below.refl W.heap.size W).alloc (Nat.le_refl _) (.cells #[.int .i64 x, .int .i64 y, .int .i64 w, .int .i64 h] 23)).alloc (by simp) (.cells #[.int .i64 a, .int .i64 b, .int .i64 c, .int .i64 d] 35)).alloc (by simp <;> omega) (.cells #[.int .i64 0, .int .i64 0, .int .i64 0, .int .i64 0] 23)
  go_wp2
  generalize hW0 : ((W.alloc (.cells #[.int .i64 x, .int .i64 y, .int .i64 w, .int .i64 h] 23)).alloc (.cells #[.int .i64 a, .int .i64 b, .int .i64 c, .int .i64 d] 35)).alloc (.cells #[.int .i64 0, .int .i64 0, .int .i64 0, .int .i64 0] 23) = W0 at *
  clear hW0
  have q0 : W0.cell? ⟨W.heap.size + 1, 0, none⟩ = some (.int .i64 a) := ky.cellAt 0
  have q1 : W0.cell? ⟨W.heap.size + 1, 1, none⟩ = some (.int .i64 b) := ky.cellAt 1
  have q2 : W0.cell? ⟨W.heap.size + 1, 2, none⟩ = some (.int .i64 c) := ky.cellAt 2
  have q3 : W0.cell? ⟨W.heap.size + 1, 3, none⟩ = some (.int .i64 d) := ky.cellAt 3
  have p0 : W0.cell? ⟨W.heap.size, 0, none⟩ = some (.int .i64 x) := kb.cellAt 0
  have p1 : W0.cell? ⟨W.heap.size, 1, none⟩ = some (.int .i64 y) := kb.cellAt 1
  have p2 : W0.cell? ⟨W.heap.size, 2, none⟩ = some (.int .i64 w) := kb.cellAt 2
  have p3 : W0.cell? ⟨W.heap.size, 3, none⟩ = some (.int .i64 h) := kb.cellAt 3
  have cr := kr.cellAt
  have fr := kr.free
  have HB := Lib.hid HB0
  have KR := Lib.hid kr
  have KY := Lib.hid ky
  have KB := Lib.hid kb
  clear HB0 kr ky kb
  refine wp_loop_rounds 5 ?_
  rw [rounds_succ]
  go_wp2
  rw [rounds_succ]
  go_wp2
  rw [rounds_succ]
  go_wp2
  rw [rounds_succ]
  go_wp2
  rw [rounds_succ]
  go_wp2_with fail
  refine (M.out _).mono ?_
  rintro e u1 ⟨rfl, hb1⟩
  have kr := KR.out.below hb1 KR.out.lt
  have ky := KY.out.below hb1 KY.out.lt
  have kb := KB.out.below hb1 KB.out.lt
  have HB1 := Lib.hid (HB.out.trans (hb1.mono HB.out.size))
  have hs1 := HB1.out.size
  replace cr := kr.cellAt
  replace fr := kr.free
  have lr := kr.lt
  have ly := ky.lt
  have lb := kb.lt
  replace q0 : u1.cell? ⟨W.heap.size + 1, 0, none⟩ = some (.int .i64 a) := ky.cellAt 0
  replace q1 : u1.cell? ⟨W.heap.size + 1, 1, none⟩ = some (.int .i64 b) := ky.cellAt 1
  replace q2 : u1.cell? ⟨W.heap.size + 1, 2, none⟩ = some (.int .i64 c) := ky.cellAt 2
  replace q3 : u1.cell? ⟨W.heap.size + 1, 3, none⟩ = some (.int .i64 d) := ky.cellAt 3
  replace p0 : u1.cell? ⟨W.heap.size, 0, none⟩ = some (.int .i64 x) := kb.cellAt 0
  replace p1 : u1.cell? ⟨W.heap.size, 1, none⟩ = some (.int .i64 y) := kb.cellAt 1
  replace p2 : u1.cell? ⟨W.heap.size, 2, none⟩ = some (.int .i64 w) := kb.cellAt 2
  replace p3 : u1.cell? ⟨W.heap.size, 3, none⟩ = some (.int .i64 h) := kb.cellAt 3
  clear hb1 kr ky kb HB KR KY KB M
  go_wp2
  trace_state
  refine bodyPost_ret (v := .tuple #[.agg #[.int .i64 (x + d), .int .i64 (y + a), .int .i64 (max 0 (w - b - d)), .int .i64 (max 0 (h - a - c))], .int .i64 0]) (by simp [results, Try.results22, go_sem, cr, fr, lr]) rfl ⟨(congrArg retR hv.out).symm, ?_⟩
  repeat (first | refine Below.setCell ?_ (by simp <;> omega) _ | refine Below.alloc ?_ (by simp <;> omega) _)
  exact HB1.out
theorem refInset_any (x y w h a b c d : Int) (W : World) :
    Calls Try.prog 22 #[.agg #[.int .i64 x, .int .i64 y, .int .i64 w, .int .i64 h], .agg #[.int .i64 a, .int .i64 b, .int .i64 c, .int .i64 d]] W fun e W' => e = retR (insetR ⟨x, y, w, h⟩ a b c d) ∧ Below W.heap.size W W' := by
  cases hi : insetB a b c d with
  | false =>
    have hv : Hid (insetR ⟨x, y, w, h⟩ a b c d = (⟨0, 0, 0, 0⟩, 20)) := by apply Lib.hid; unfold insetR; rw [hi]; simp
    have hn : ¬ _ := fun k => absurd ((insetB_iff a b c d).2 k) (by rw [hi]; decide)
    by_cases ha : 0 ≤ a ∧ a ≤ 1152921504606846975
    · by_cases hb : 0 ≤ b ∧ b ≤ 1152921504606846975
      · by_cases hc : 0 ≤ c ∧ c ≤ 1152921504606846975
        · exact refInset_bad3 x y w h a b c d W hv ha.1 ha.2 hb.1 hb.2 hc.1 hc.2 (by omega)
        · exact refInset_bad2 x y w h a b c d W hv ha.1 ha.2 hb.1 hb.2 (by omega)
      · exact refInset_bad1 x y w h a b c d W hv ha.1 ha.2 (by omega)
    · exact refInset_bad0 x y w h a b c d W hv (by omega)
  | true =>
    obtain ⟨⟨a1, a2⟩, ⟨b1, b2⟩, ⟨c1, c2⟩, d1, d2⟩ := (insetB_iff _ _ _ _).1 hi
    have hmv : moveB d a = true := (moveB_iff _ _).2 (by omega)
    cases hr : rightB ⟨x, y, w, h⟩ with
    | false =>
      have hv : Hid (insetR ⟨x, y, w, h⟩ a b c d = (⟨0, 0, 0, 0⟩, 20)) := by apply Lib.hid; unfold insetR; rw [hr]; simp
      exact refInset_out x y w h a b c d W hv a1 a2 b1 b2 c1 c2 d1 d2 (by unfold moveR; rw [hr]; simp)
    | true =>
      have hR := (rightB_iff _).1 hr
      dsimp only at hR
      have hi0 : insetR ⟨x, y, w, h⟩ a b c d = rightR ⟨x + d, y + a, max 0 (w - d - b), max 0 (h - a - c)⟩ := by unfold insetR; rw [hr, hi]; rfl
      have hm0 : moveR ⟨x, y, w, h⟩ d a = rightR ⟨x + d, y + a, w, h⟩ := by unfold moveR; rw [hr, hmv]; rfl
      have heq : rightB ⟨x + d, y + a, max 0 (w - d - b), max 0 (h - a - c)⟩ = rightB ⟨x + d, y + a, w, h⟩ := by
        rw [Bool.eq_iff_iff, rightB_iff, rightB_iff]; dsimp only; omega
      cases hq : rightB ⟨x + d, y + a, w, h⟩ with
      | false =>
        rw [hq] at heq
        have hv : Hid (insetR ⟨x, y, w, h⟩ a b c d = (⟨0, 0, 0, 0⟩, 20)) := by apply Lib.hid; rw [hi0]; unfold rightR; rw [heq]; rfl
        exact refInset_out x y w h a b c d W hv a1 a2 b1 b2 c1 c2 d1 d2 (by rw [hm0]; unfold rightR; rw [hq]; rfl)
      | true =>
        rw [hq] at heq
        have hv : Hid (insetR ⟨x, y, w, h⟩ a b c d = (⟨x + d, y + a, max 0 (w - b - d), max 0 (h - a - c)⟩, 0)) := by
          apply Lib.hid; rw [hi0, show w - b - d = w - d - b by omega]; unfold rightR; rw [heq]; rfl
        exact refInset_in x y w h a b c d W hv a1 a2 b1 b2 c1 c2 d1 d2 hR.2.2.1.1 hR.2.2.1.2 hR.2.2.2.1 hR.2.2.2.2 (by rw [hm0]; unfold rightR; rw [hq]; rfl)
end Go.Proofs.Ytfkhdaidlmdhnaa
