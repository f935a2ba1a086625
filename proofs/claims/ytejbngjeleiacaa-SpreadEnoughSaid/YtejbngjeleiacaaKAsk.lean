/- Contracts of columns.asked, settled, ofOneColumn, and of Right's closure. -/
import Derived.Test.YtejbngjeleiacaaKNeed
import Derived.Laws.ResultCell
namespace Go.Proofs.Ytejbngjeleiacaa
open Go.RowKit Go.Shelf
set_option linter.unusedVariables false
set_option linter.unusedSimpArgs false

theorem results_baK {fn : Func} {W : World} {g n : Nat} {x y u v : Value} {tmps : Array Value} (hf : fn.results = #[.cell n 43]) (ht : tmps.getD n undef = .pointer (some ⟨g, 0, none⟩)) (h : Whole W g 43 [x, y, u, v]) :
    (results fn tmps).run Try.prog W = .ok (.agg #[x, y, u, v]) W :=
  results_cell_row hf tmps W g 43 #[x, y, u, v] (0, 0) _ ht h Try.underlying43 rfl (by kernel_rfl)
set_option maxHeartbeats 1000000 in
theorem asked_any (b : Ba) (w : Sz) (W : World) :
    Calls Try.prog 35 #[b.val, w.val] W fun e W' => e = .returned (askB b w).val ∧ Below W.heap.size W W' := by
  obtain ⟨mn, mx, sh, wt⟩ := b
  obtain ⟨k, n⟩ := w
  have hcase : (k = 2 ∧ Hid (askB ⟨mn, mx, sh, wt⟩ ⟨k, n⟩ = ⟨mn, mx, max sh n, wt⟩)) ∨ (k = 1 ∧ Hid (askB ⟨mn, mx, sh, wt⟩ ⟨k, n⟩ = ⟨mn, mx, sh, max wt n⟩)) ∨ ((k == 1) = false ∧ (k == 2) = false ∧ Hid (askB ⟨mn, mx, sh, wt⟩ ⟨k, n⟩ = ⟨mn, mx, sh, wt⟩)) := by
    by_cases h2 : k = 2
    · exact .inl ⟨h2, Lib.hid (by simp [askB, h2])⟩
    · by_cases h1 : k = 1
      · exact .inr (.inl ⟨h1, Lib.hid (by simp [askB, h1])⟩)
      · exact .inr (.inr ⟨by simpa using h1, by simpa using h2, Lib.hid (by simp [askB, h1, h2])⟩)
  obtain ⟨o, ho⟩ : ∃ o, askB ⟨mn, mx, sh, wt⟩ ⟨k, n⟩ = o := ⟨_, rfl⟩
  rw [ho] at hcase ⊢
  clear ho
  unfold Ba.val Sz.val
  dsimp only
  rcases hcase with ⟨rfl, HO⟩ | ⟨rfl, HO⟩ | ⟨h1, h2, HO⟩
  · go_enter Try.func35, Try.ntmps35
    go_wp2
    refine bodyPost_ret (results_baK (g := W.heap.size + 1 + 1) rfl rfl (whole_new _ [_, _, _, _] 43 _ (by simp))) rfl ⟨by rw [HO.out], ?_⟩
    repeat (first | exact Below.refl _ _ | refine Below.alloc ?_ (by simp <;> omega) _)
  · go_enter Try.func35, Try.ntmps35
    go_wp2
    refine bodyPost_ret (results_baK (g := W.heap.size + 1 + 1) rfl rfl (whole_new _ [_, _, _, _] 43 _ (by simp))) rfl ⟨by rw [HO.out], ?_⟩
    repeat (first | exact Below.refl _ _ | refine Below.alloc ?_ (by simp <;> omega) _)
  · go_enter Try.func35, Try.ntmps35
    go_wp2
    refine bodyPost_ret (results_baK (g := W.heap.size + 1 + 1) rfl rfl (whole_new _ [_, _, _, _] 43 _ (by simp))) rfl ⟨by rw [HO.out], ?_⟩
    repeat (first | exact Below.refl _ _ | refine Below.alloc ?_ (by simp <;> omega) _)
set_option maxHeartbeats 1000000 in
theorem settled_any (b : Ba) (W : World) :
    Calls Try.prog 38 #[b.val] W fun e W' => e = .returned (setB b).val ∧ Below W.heap.size W W' := by
  obtain ⟨mn, mx, sh, wt⟩ := b
  have hcase : (0 ≤ sh ∧ Hid (setB ⟨mn, mx, sh, wt⟩ = ⟨mn, mx, sh, -1⟩)) ∨ (¬ 0 ≤ sh ∧ 0 ≤ wt ∧ Hid (setB ⟨mn, mx, sh, wt⟩ = ⟨mn, max wt mn, sh, wt⟩)) ∨ (¬ 0 ≤ sh ∧ ¬ 0 ≤ wt ∧ Hid (setB ⟨mn, mx, sh, wt⟩ = ⟨mn, mx, sh, wt⟩)) := by
    by_cases h2 : 0 ≤ sh
    · exact .inl ⟨h2, Lib.hid (by simp [setB, h2])⟩
    · by_cases h1 : 0 ≤ wt
      · exact .inr (.inl ⟨h2, h1, Lib.hid (by simp [setB, h1, h2])⟩)
      · exact .inr (.inr ⟨h2, h1, Lib.hid (by simp [setB, h1, h2])⟩)
  obtain ⟨o, ho⟩ : ∃ o, setB ⟨mn, mx, sh, wt⟩ = o := ⟨_, rfl⟩
  rw [ho] at hcase ⊢
  clear ho
  unfold Ba.val
  dsimp only
  rcases hcase with ⟨h1, HO⟩ | ⟨h1, h2, HO⟩ | ⟨h1, h2, HO⟩
  · go_enter Try.func38, Try.ntmps38
    go_wp2
    refine bodyPost_ret (results_baK (g := W.heap.size + 1) rfl rfl (whole_new _ [_, _, _, _] 43 _ (by simp))) rfl ⟨by rw [HO.out], ?_⟩
    repeat (first | exact Below.refl _ _ | refine Below.alloc ?_ (by simp <;> omega) _)
  · go_enter Try.func38, Try.ntmps38
    go_wp2
    refine bodyPost_ret (results_baK (g := W.heap.size + 1) rfl rfl (whole_new _ [_, _, _, _] 43 _ (by simp))) rfl ⟨by rw [HO.out], ?_⟩
    repeat (first | exact Below.refl _ _ | refine Below.alloc ?_ (by simp <;> omega) _)
  · go_enter Try.func38, Try.ntmps38
    go_wp2
    refine bodyPost_ret (results_baK (g := W.heap.size + 1) rfl rfl (whole_new _ [_, _, _, _] 43 _ (by simp))) rfl ⟨by rw [HO.out], ?_⟩
    repeat (first | exact Below.refl _ _ | refine Below.alloc ?_ (by simp <;> omega) _)
theorem one_any (s : Ne) (W : World) :
    Calls Try.prog 37 #[s.val] W fun e W' => e = .returned (.bool (decide (s.cs = 1))) ∧ Below W.heap.size W W' := by
  obtain ⟨nd, ro, co, rs, cs, mn, mx, ⟨wk, wn⟩⟩ := s
  unfold Ne.val
  dsimp only
  go_enter Try.func37, Try.ntmps37
  go_wp2
  go_ret
  exact ⟨by first | rfl | (simp; done) | (by_cases h : cs = 1 <;> simp [h]), (Below.refl _ _).alloc (Nat.le_refl _) _⟩
set_option maxHeartbeats 400000 in
theorem wrong_any (m : Nat) (hm : m ≤ 10000) (g : Nat) (p : Option Addr) (c : Nat) (s : Ne) (W : World) (hg : W.cell? ⟨g, 0, none⟩ = some (.slice p m c)) :
    Calls Try.prog 58 #[s.val, .pointer (some ⟨g, 0, none⟩)] W fun e W' => e = .returned (.bool (!neB m s)) ∧ Below W.heap.size W W' := by
  have HN := Lib.hid (fun X => need_any m hm s X)
  obtain ⟨b, hb⟩ : ∃ b, neB m s = b := ⟨_, rfl⟩
  rw [hb] at HN ⊢
  clear hb
  obtain ⟨nd, ro, co, rs, cs, mn, mx, ⟨wk, wn⟩⟩ := s
  unfold Ne.val at *
  dsimp only at *
  have lg := cell_lt hg
  go_enter Try.func58, Try.ntmps58
  go_wp2_with fail
  refine (HN.out _).mono ?_
  rintro e w' ⟨rfl, hb1⟩
  have HB := Lib.hid hb1
  clear hb1
  go_wp2
  go_ret
  exact ⟨by first | rfl | (simp; done), ((Below.refl _ _).alloc (Nat.le_refl _) _).trans (HB.out.mono (by simp))⟩
theorem chosen_any (f : Nat) (bd : Array Value) (p : Option Addr) (m c : Nat) (w : World) : Calls Try.prog 36 #[.func (.func f) #[] bd, .slice p m c] w fun e w' => e = .returned (.func (.func 60) #[] #[.pointer (some ⟨w.heap.size + 1, 0, none⟩), .pointer (some ⟨w.heap.size, 0, none⟩)]) ∧
      w' = (w.alloc (.cells #[.func (.func f) #[] bd] 72)).alloc (.cells #[.slice p m c] 23) := by
  go_enter Try.func36, Try.ntmps36
  go_wp2
  go_ret
  exact ⟨rfl, rfl⟩
end Go.Proofs.Ytejbngjeleiacaa
