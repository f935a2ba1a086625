/- Contract of rect.join, and of the document's at. -/
import Derived.Test.YtjdnhpbifblneaaRMeet
import Derived.Test.YtjdnhpbifblneaaRDoc
import Derived.Laws.StructEq
namespace Go.Proofs.Ytjdnhpbifblneaa
open Go.RowKit Go.Shelf Go.Lib
set_option linter.unusedVariables false
set_option linter.unusedSimpArgs false

def joinR (a b : R) : R := if a = ⟨0, 0, 0, 0⟩ then b else ⟨min a.x b.x, min a.y b.y, max (a.x + a.w) (b.x + b.w) - min a.x b.x, max (a.y + a.h) (b.y + b.h) - min a.y b.y⟩
set_option maxHeartbeats 1600000 in
theorem join_none (x y w h : Int) (W : World) :
    Calls Try.prog 22 #[.agg #[.int .i64 0, .int .i64 0, .int .i64 0, .int .i64 0], .agg #[.int .i64 x, .int .i64 y, .int .i64 w, .int .i64 h]] W fun e W' => e = .returned (.agg #[.int .i64 x, .int .i64 y, .int .i64 w, .int .i64 h]) ∧ Below W.heap.size W W' := by
  go_enter Try.func22, Try.ntmps22
  go_wp2
  refine bodyPost_ret (v := .agg #[.int .i64 x, .int .i64 y, .int .i64 w, .int .i64 h]) (by simp [results, Try.results22, go_sem]) rfl ⟨rfl, ?_⟩
  repeat (first | refine Below.setCell ?_ (by simp <;> omega) _ | refine Below.alloc ?_ (by simp <;> omega) _)
  exact Below.refl _ _
set_option maxRecDepth 100000 in
set_option maxHeartbeats 3200000 in
theorem join_some (x y w h x' y' w' h' : Int) (W : World) (ha : rightB ⟨x, y, w, h⟩ = true) (hb : rightB ⟨x', y', w', h'⟩ = true) (hn : (⟨x, y, w, h⟩ : R) ≠ ⟨0, 0, 0, 0⟩) :
    Calls Try.prog 22 #[.agg #[.int .i64 x, .int .i64 y, .int .i64 w, .int .i64 h], .agg #[.int .i64 x', .int .i64 y', .int .i64 w', .int .i64 h']] W fun e W' => e = .returned (joinR ⟨x, y, w, h⟩ ⟨x', y', w', h'⟩).val ∧ Below W.heap.size W W' := by
  have hv : Hid ((joinR ⟨x, y, w, h⟩ ⟨x', y', w', h'⟩).val = .agg #[.int .i64 (min x x'), .int .i64 (min y y'), .int .i64 (max (x + w) (x' + w') - min x x'), .int .i64 (max (y + h) (y' + h') - min y y')]) := by
    apply Lib.hid; unfold joinR; rw [if_neg hn]; rfl
  have h1 := (rightB_iff _).1 ha
  have h2 := (rightB_iff _).1 hb
  dsimp only at h1 h2
  obtain ⟨⟨a1, a2⟩, ⟨a3, a4⟩, ⟨a5, a6⟩, a7, a8⟩ := h1
  obtain ⟨⟨b1, b2⟩, ⟨b3, b4⟩, ⟨b5, b6⟩, b7, b8⟩ := h2
  have hc : ((x == 0) = false) ∨ (x = 0 ∧ (y == 0) = false) ∨ (x = 0 ∧ y = 0 ∧ (w == 0) = false) ∨ (x = 0 ∧ y = 0 ∧ w = 0 ∧ (h == 0) = false) := by
    simp only [beq_eq_false_iff_ne]
    rw [Ne, R.mk.injEq] at hn
    omega
  clear ha hb hn
  rcases hc with c1 | ⟨rfl, c2⟩ | ⟨rfl, rfl, c3⟩ | ⟨rfl, rfl, rfl, c4⟩
  all_goals
    go_enter Try.func22, Try.ntmps22
    go_wp2
    go_quiet (fail)
    go_wp2
    go_quiet (fail)
    go_wp2
    try simp only [Int.zero_add] at hv
    refine bodyPost_ret (v := _) ?g rfl ⟨congrArg Ending.returned hv.out.symm, ?_⟩
    case g => simp [results, Try.results22, go_sem]
    repeat (first | exact Below.refl _ _ | refine Below.setCell ?_ (by simp <;> omega) _ | refine Below.alloc ?_ (by simp <;> omega) _ | refine Below.trans ?_ (below_dn _ _ _))
set_option maxHeartbeats 3200000 in
theorem at_any (x y w h a b : Int) (W : World) (hr : rightB ⟨x, y, w, h⟩ = true) :
    Calls Try.prog 19 #[.agg #[.int .i64 x, .int .i64 y, .int .i64 w, .int .i64 h], .int .i64 a, .int .i64 b] W fun e W' => e = .returned (.bool (hasB ⟨x, y, w, h⟩ a b)) ∧ Below W.heap.size W W' := by
  have h1 := (rightB_iff _).1 hr
  dsimp only at h1
  obtain ⟨⟨a1, a2⟩, ⟨a3, a4⟩, ⟨a5, a6⟩, a7, a8⟩ := h1
  have hc : (Hid (hasB ⟨x, y, w, h⟩ a b = true) ∧ x ≤ a ∧ a < x + w ∧ y ≤ b ∧ b < y + h) ∨ (Hid (hasB ⟨x, y, w, h⟩ a b = false) ∧ (a < x ∨ (x ≤ a ∧ x + w ≤ a) ∨ (x ≤ a ∧ a < x + w ∧ b < y) ∨ (x ≤ a ∧ a < x + w ∧ y ≤ b ∧ y + h ≤ b))) := by
    unfold hasB
    by_cases k : x ≤ a ∧ a < x + w ∧ y ≤ b ∧ b < y + h
    · exact .inl ⟨Lib.hid (by simpa using k), k⟩
    · exact .inr ⟨Lib.hid (by simp; omega), by omega⟩
  clear hr
  rcases hc with ⟨HB, c1, c2, c3, c4⟩ | ⟨HB, c1 | ⟨c1, c2⟩ | ⟨c1, c2, c3⟩ | ⟨c1, c2, c3, c4⟩⟩
  all_goals
    go_enter Try.func19, Try.ntmps19
    go_wp2
    go_ret
    exact ⟨by rw [HB.out]; first | rfl | (simp; done) | (simp; omega), (Below.refl _ _).alloc (Nat.le_refl _) _⟩
end Go.Proofs.Ytjdnhpbifblneaa
