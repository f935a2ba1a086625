/- rect.Around for every list; the plain part of what hangs not on order. -/
import Derived.Test.YtailpknjiklpbaaRAround
import Derived.Test.YtailpknjiklpbaaRShown
namespace Go.Proofs.Ytailpknjiklpbaa
open Go.RowKit Go.Shelf
set_option linter.unusedVariables false
set_option linter.unusedSimpArgs false

theorem lift_vals (zs : List R) (h : zs.all rightB = true) : ∃ rs : List RR, vals rs = zs := by
  rw [List.all_eq_true] at h
  refine ⟨zs.attach.map fun z => ⟨z.1, h z.1 z.2⟩, ?_⟩
  unfold vals
  rw [List.map_map]
  exact List.attach_map_subtype_val zs
theorem around_any (sv : Value) (zs : List R) (w : World) (hI : Rects w sv zs) : Calls Try.prog 6 #[sv] w fun e W' => e = retR (aroundR zs) ∧ Below w.heap.size w W' := by
  cases hz : zs.all rightB with
  | true =>
    obtain ⟨rs, rfl⟩ := lift_vals zs hz
    exact around_good sv rs w hI
  | false =>
    have h := around_bad sv zs w hI hz
    have e : aroundR zs = (⟨0, 0, 0, 0⟩, 20) := by unfold aroundR; rw [if_neg (by simp [hz])]
    rw [e]; exact h
/-- what is around two, met with the first -/
theorem orders_last (a b : R) (h : (aroundR [a, b]).2 = 0) : (meetR (aroundR [a, b]).1 a).2 = 0 ∧ (a.w = 0 ∨ a.h = 0 ∨ (meetR (aroundR [a, b]).1 a).1 = a) := by
  unfold aroundR at h ⊢
  cases hz : [a, b].all rightB with
  | false => simp [hz] at h
  | true =>
    rw [hz] at h
    simp only [if_true] at h ⊢
    unfold rightR at h ⊢
    cases hr : rightB (hullR [a, b]) with
    | false => simp [hr] at h
    | true =>
      simp only [List.all_cons, List.all_nil, Bool.and_true, Bool.and_eq_true] at hz
      simp only [if_true]
      unfold meetR
      rw [hr, hz.1]
      refine ⟨rfl, ?_⟩
      cases he : emptyB a with
      | true =>
        unfold emptyB at he
        simp at he
        rcases he with he | he
        · exact .inl he
        · exact .inr (.inl he)
      | false => exact .inr (.inr (hull_first a b hz.1 hz.2 he))
/-- two rectangles right behind each other -/
theorem rects_two {W : World} {g t : Nat} {a b c d x y u v : Int} (h : Whole W g t [.int .i64 a, .int .i64 b, .int .i64 c, .int .i64 d, .int .i64 x, .int .i64 y, .int .i64 u, .int .i64 v]) : Rects W (.slice (some ⟨g, 0, none⟩) 2 2) [⟨a, b, c, d⟩, ⟨x, y, u, v⟩] :=
  Rects.whole (n := 2) (zs := [⟨a, b, c, d⟩, ⟨x, y, u, v⟩]) h rfl (by omega)
end Go.Proofs.Ytailpknjiklpbaa
