/- The law's own check of a known grid is true. -/
import Derived.Test.YtcgnldcdcbnofaaGSame
namespace Go.Proofs.Ytcgnldcdcbnofaa
open Go.RowKit Go.Shelf
set_option linter.unusedVariables false
attribute [local go_sem] Oper.semAt_some

def sh7 : List (List Sp) := [[⟨0, 1, 2⟩, ⟨1, 2, 1⟩], [⟨2, 1, 1⟩]]
def sh7P : List Pl := [⟨0, 0, 0, 2, 1⟩, ⟨1, 0, 1, 1, 2⟩, ⟨2, 1, 1, 1, 1⟩]
def sh7S : LS := ⟨[2, 2, 1], sh7P, ⟨2, 1, 1, 1, 1⟩⟩
theorem sh7_lay : layP sh7 [2, 2] = some sh7S := by rfl
theorem sh7_right : RightQ sh7 [2, 2] := by
  refine ⟨by decide, rfl, fun i e h => ?_, fun x h => ?_⟩
  · match i, h with
    | 0, h => simp at h; subst h; rfl
    | 1, h => simp at h; subst h; rfl
    | k + 2, h => simp at h
  · simp [cellsF, sh7] at h
    rcases h with rfl | rfl | rfl <;> rfl
def sh7W (w : World) : World := (((w.alloc (.cells #[.int .i64 0, .int .i64 1, .int .i64 2, .int .i64 1, .int .i64 2, .int .i64 1] 48)).alloc (.cells #[.int .i64 2, .int .i64 1, .int .i64 1] 48)).alloc (.cells #[.slice (some ⟨w.heap.size, 0, none⟩) 2 2, .slice (some ⟨w.heap.size + 1, 0, none⟩) 1 1] 49)).alloc (.cells #[.int .i64 2, .int .i64 2] 3)
/-- cells of a row lie in a block -/
theorem row_whole {X : World} {B g t c : Nat} {xs : List Sp} (h : Whole X g t (xs.flatMap Sp.cells)) (hl : xs.length ≤ 9223372036854775807) (hB : g < B) : RowIn B X (.slice (some ⟨g, 0, none⟩) xs.length c) xs :=
  ⟨hl, .inr ⟨g, 0, c, rfl, hB, fun j x hx => by
    have key : ∀ (L : List Sp) (i : Nat) (x : Sp) (j : Nat) (u : Value), L[i]? = some x → x.cells[j]? = some u → (L.flatMap Sp.cells)[i * 3 + j]? = some u := by
      intro L
      induction L with
      | nil => intro i x j u h; simp at h
      | cons y L ih =>
        intro i x j u h hu
        have hl : y.cells.length = 3 := rfl
        match i, h with
        | 0, h =>
          simp at h; subst h
          rw [List.flatMap_cons, Nat.zero_mul, Nat.zero_add, List.getElem?_append_left (List.getElem?_eq_some_iff.1 hu).1]; exact hu
        | i + 1, h =>
          rw [List.flatMap_cons, List.getElem?_append_right (by rw [hl]; omega), hl, show (i + 1) * 3 + j - 3 = i * 3 + j by omega]
          exact ih i x j u (by simpa using h) hu
    rw [Nat.zero_add]
    exact ⟨by rw [h.cellAt]; exact key xs j x 0 _ hx rfl, by rw [h.cellAt]; exact key xs j x 1 _ hx rfl, by rw [h.cellAt]; exact key xs j x 2 _ hx rfl⟩⟩⟩
theorem rows_whole {X : World} {B g t c : Nat} {hv : Nat → Value} {rows : List (List Sp)} (h : ∀ i, i < rows.length → X.cell? ⟨g, i, none⟩ = some (hv i)) (hl : rows.length ≤ 9223372036854775807) (hB : g < B) (hr : ∀ i row, rows[i]? = some row → RowIn B X (hv i) row) :
    RowsIn B X (.slice (some ⟨g, 0, none⟩) rows.length c) hv rows :=
  ⟨hl, .inr ⟨g, 0, c, rfl, hB, fun i row hrow => ⟨by rw [Nat.zero_add]; exact h i (List.getElem?_eq_some_iff.1 hrow).1, hr i row hrow⟩⟩⟩
theorem rows_none (B : Nat) (X : World) (a : Option Addr) (c : Nat) (hv : Nat → Value) : RowsIn B X (.slice a 0 c) hv [] := ⟨by simp, .inl ⟨a, c, rfl, rfl⟩⟩
theorem sh7_below (w : World) : Below w.heap.size w (sh7W w) := ((((Below.refl _ w).alloc (Nat.le_refl _) _).alloc (by simp) _).alloc (by simp; omega) _).alloc (by simp; omega) _
theorem sh7_size (w : World) : (sh7W w).heap.size = w.heap.size + 4 := by unfold sh7W; simp
def sh7H (w : World) (i : Nat) : Value := if i = 0 then .slice (some ⟨w.heap.size, 0, none⟩) 2 2 else .slice (some ⟨w.heap.size + 1, 0, none⟩) 1 1
theorem sh7_mem (w : World) : RowsIn (sh7W w).heap.size (sh7W w) (.slice (some ⟨w.heap.size + 2, 0, none⟩) 2 2) (sh7H w) sh7 ∧ Ints (sh7W w) (.slice (some ⟨w.heap.size + 3, 0, none⟩) 2 2) [2, 2] := by
  have k1 : Whole (sh7W w) w.heap.size 48 [.int .i64 0, .int .i64 1, .int .i64 2, .int .i64 1, .int .i64 2, .int .i64 1] := (((whole_new w _ 48 _ rfl).alloc _).alloc _).alloc _
  have k2 : Whole (sh7W w) (w.heap.size + 1) 48 [.int .i64 2, .int .i64 1, .int .i64 1] := ((whole_new (w.alloc (.cells #[.int .i64 0, .int .i64 1, .int .i64 2, .int .i64 1, .int .i64 2, .int .i64 1] 48)) [.int .i64 2, .int .i64 1, .int .i64 1] 48 _ (by simp)).alloc _).alloc _
  have k3 : Whole (sh7W w) (w.heap.size + 2) 49 [.slice (some ⟨w.heap.size, 0, none⟩) 2 2, .slice (some ⟨w.heap.size + 1, 0, none⟩) 1 1] := (whole_new ((w.alloc (.cells #[.int .i64 0, .int .i64 1, .int .i64 2, .int .i64 1, .int .i64 2, .int .i64 1] 48)).alloc (.cells #[.int .i64 2, .int .i64 1, .int .i64 1] 48)) [.slice (some ⟨w.heap.size, 0, none⟩) 2 2, .slice (some ⟨w.heap.size + 1, 0, none⟩) 1 1] 49 _ (by simp)).alloc _
  have k4 : Whole (sh7W w) (w.heap.size + 3) 3 [.int .i64 2, .int .i64 2] := whole_new (((w.alloc (.cells #[.int .i64 0, .int .i64 1, .int .i64 2, .int .i64 1, .int .i64 2, .int .i64 1] 48)).alloc (.cells #[.int .i64 2, .int .i64 1, .int .i64 1] 48)).alloc (.cells #[.slice (some ⟨w.heap.size, 0, none⟩) 2 2, .slice (some ⟨w.heap.size + 1, 0, none⟩) 1 1] 49)) [.int .i64 2, .int .i64 2] 3 _ (by simp)
  have hs := sh7_size w
  refine ⟨rows_whole (t := 49) (rows := sh7) (fun i hi => ?_) (by decide) (by omega) (fun i row hr => ?_), Ints.whole k4 rfl (by simp)⟩
  · match i, hi with
    | 0, _ => exact k3.cellAt 0
    | 1, _ => exact k3.cellAt 1
    | k + 2, h => exact absurd h (by show ¬ (k + 2 < 2); omega)
  · match i, hr with
    | 0, hr => simp [sh7] at hr; subst hr; exact row_whole (xs := [⟨0, 1, 2⟩, ⟨1, 2, 1⟩]) k1 (by decide) (by omega)
    | 1, hr => simp [sh7] at hr; subst hr; exact row_whole (xs := [⟨2, 1, 1⟩]) k2 (by decide) (by omega)
    | k + 2, hr => simp [sh7] at hr
set_option maxRecDepth 100000 in
set_option maxHeartbeats 2000000 in
theorem shown7_any (w : World) : Calls Try.prog 5 #[] w fun e W' => e = .returned (.bool true) ∧ Below w.heap.size w W' := by
  obtain ⟨m1, m2⟩ := sh7_mem w
  have H1 := Lib.hid (lay_good _ _ _ _ _ (sh7W w) m1 m2 (by decide) sh7_right _ sh7_lay)
  have H2 := Lib.hid (fun (X : World) (ev : Value) (hE : Ints X ev [1]) => lay_wrong (.slice none 0 0) ev (fun _ => .slice none 0 0) [] [1] X (rows_none _ _ _ _ _) hE (by decide) (fun h => by have := h.len; simp at this))
  have HB := Lib.hid (sh7_below w)
  clear m1 m2
  go_enter Try.func5, Try.ntmps5
  go_wp2_with fail
  refine H1.out.mono ?_
  clear H1
  rintro e w1 ⟨v1, rfl, ho1, hb1⟩
  have HL1 := Lib.hid (ho1.places (by decide))
  have HB1 := Lib.hid (HB.out.trans (hb1.mono HB.out.size))
  obtain ⟨q1, c1, rfl⟩ := HL1.out.form
  dsimp only [sh7S, sh7P, List.length_map, List.length_cons, List.length_nil] at HL1 ⊢
  clear ho1 hb1 HB
  go_wp2_with (go_at_call 15; refine (H2.out _ _ (Ints.whole (t := 3) (whole_new w1 [.int .i64 1] 3 _ rfl) rfl (by simp))).mono ?_; clear H2; rintro e w2 ⟨rfl, hb2⟩; have B2 := Lib.hid (((Below.refl _ w1).alloc (Nat.le_refl _) (.cells #[.int .i64 1] 3)).trans (hb2.mono (by simp))); clear hb2)
  have hb4 : Below w2.heap.size w2 (w2.alloc (.cells #[.int .i64 0, .int .i64 0, .int .i64 0, .int .i64 2, .int .i64 1, .int .i64 1, .int .i64 0, .int .i64 1, .int .i64 1, .int .i64 2, .int .i64 2, .int .i64 1, .int .i64 1, .int .i64 1, .int .i64 1] 52)) := (Below.refl _ w2).alloc (Nat.le_refl _) _
  have HSM : Hid (Calls Try.prog 16 #[.slice q1 3 c1, .slice (some ⟨w2.heap.size, 0, none⟩) 3 3] (w2.alloc (.cells #[.int .i64 0, .int .i64 0, .int .i64 0, .int .i64 2, .int .i64 1, .int .i64 1, .int .i64 0, .int .i64 1, .int .i64 1, .int .i64 2, .int .i64 2, .int .i64 1, .int .i64 1, .int .i64 1, .int .i64 1] 52)) fun e W' => e = .returned (.bool true) ∧ Below w2.heap.size w2 W') := Lib.hid (by
    refine (gsame_any _ _ (sh7P.map Pl.z) (sh7P.map Pl.z) _ ((HL1.out.below B2.out).below hb4) (places_whole (t := 52) (L := sh7P.map Pl.z) (whole_new w2 [.int .i64 0, .int .i64 0, .int .i64 0, .int .i64 2, .int .i64 1, .int .i64 1, .int .i64 0, .int .i64 1, .int .i64 1, .int .i64 2, .int .i64 2, .int .i64 1, .int .i64 1, .int .i64 1, .int .i64 1] 52 _ rfl) (by decide))).mono ?_
    rintro e w' ⟨rfl, hb⟩
    exact ⟨by simp, hb4.trans (hb.mono hb4.size)⟩)
  clear hb4 HL1
  go_wp2_with (go_at_call 16; refine HSM.out.mono ?_; clear HSM; rintro e w4 ⟨rfl, hb4⟩; have HB4 := Lib.hid (HB1.out.trans ((B2.out.trans (hb4.mono B2.out.size)).mono HB1.out.size)); clear hb4)
  go_ret
  exact ⟨rfl, HB4.out⟩
end Go.Proofs.Ytcgnldcdcbnofaa
