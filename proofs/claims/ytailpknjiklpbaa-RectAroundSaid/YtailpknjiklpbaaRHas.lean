/- Contract of the document's none and has. -/
import Derived.Test.YtailpknjiklpbaaRJoin
namespace Go.Proofs.Ytailpknjiklpbaa
open Go.RowKit Go.Shelf Go.Lib
set_option linter.unusedVariables false
set_option linter.unusedSimpArgs false

theorem none_any (x y w h : Int) (W : World) :
    Calls Try.prog 16 #[.agg #[.int .i64 x, .int .i64 y, .int .i64 w, .int .i64 h]] W fun e W' => e = .returned (.bool (emptyB ⟨x, y, w, h⟩)) ∧ Below W.heap.size W W' := by
  by_cases hw : w = 0
  · subst hw
    go_enter Try.func16, Try.ntmps16
    go_wp2
    go_ret
    exact ⟨rfl, (Below.refl _ _).alloc (Nat.le_refl _) _⟩
  · have hw' : (w == 0) = false := by simpa using hw
    have hv : Hid (emptyB ⟨x, y, w, h⟩ = (h == 0)) := by apply Lib.hid; unfold emptyB; dsimp only; rw [hw']; rfl
    clear hw
    go_enter Try.func16, Try.ntmps16
    go_wp2
    go_ret
    exact ⟨by rw [hv.out] <;> rfl, (Below.refl _ _).alloc (Nat.le_refl _) _⟩
theorem any_hit (p : R → Bool) (zs : List R) (k : Nat) (q : R) (h : zs[k]? = some q) (hp : p q = true) : zs.any p = true := by
  rw [List.any_eq_true]; exact ⟨q, List.mem_of_getElem? h, hp⟩
theorem any_step (p : R → Bool) (zs : List R) (k : Nat) (q : R) (h : zs[k]? = some q) (hp : p q = false) (ht : (zs.take k).any p = false) : (zs.take (k + 1)).any p = false := by
  rw [List.take_add_one, h, List.any_append, ht]; simp [hp]
end Go.Proofs.Ytailpknjiklpbaa
