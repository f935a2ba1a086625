/- Contracts of the bounds of styles (style.within, over lengths and over small numbers). -/
import Derived.Test.YtlnfgmmgkmhehaaRows
import Derived.Test.YtlnfgmmgkmhehaaMem
import Derived.WalkKit
import Derived.WalkSpells
import Derived.Lib.Hide
import Derived.LoopTactic
import Derived.BigQuiet
import Derived.Deep.QuietTactic
import Derived.Deep.LoopGhost
import Derived.Shelf.Abstract
import Derived.Shelf.RegionOpen
namespace Go.Proofs.Ytlnfgmmgkmhehaa
open Go.RowKit Go.Shelf
set_option linter.unusedVariables false

/-- is a number out of bounds? -/
def outB (lo hi n : Int) : Bool := decide (n < lo) || decide (hi < n)
theorem outB_false {lo hi n : Int} (h : outB lo hi n = false) : lo ≤ n ∧ n ≤ hi := by simp [outB] at h; omega
theorem outB_in {lo hi n : Int} (h1 : lo ≤ n) (h2 : n ≤ hi) : outB lo hi n = false := by simp [outB]; omega
theorem outB_lo {lo hi n : Int} (h1 : n < lo) : outB lo hi n = true := by simp [outB]; omega
theorem outB_hi {lo hi n : Int} (h1 : hi < n) : outB lo hi n = true := by simp [outB]; omega

/-- a slice of numbers: its cells -/
def Ints (W : World) (sv : Value) (zs : List Int) : Prop :=
  zs.length ≤ 9223372036854775807 ∧ ((∃ (a : Option Addr) (cap : Nat), sv = .slice a 0 cap ∧ zs = []) ∨ ∃ b off cap, sv = .slice (some ⟨b, off, none⟩) zs.length cap ∧ ∀ j, j < zs.length → W.cell? ⟨b, off + j, none⟩ = some (.int .i64 (zs[j]?.getD 0)))

theorem Ints.below {W W' : World} {sv : Value} {zs : List Int} (h : Ints W sv zs) (hb : Below W.heap.size W W') : Ints W' sv zs := by
  obtain ⟨hm, ⟨a, cap, rfl, rfl⟩ | ⟨b, off, cap, rfl, hc⟩⟩ := h
  · exact ⟨hm, .inl ⟨a, cap, rfl, rfl⟩⟩
  · exact ⟨hm, .inr ⟨b, off, cap, rfl, fun j hj => (hb.cell (p := ⟨b, off + j, none⟩) (cell_lt (hc j hj))).trans (hc j hj)⟩⟩
theorem Ints.whole {W : World} {g t n : Nat} {zs : List Int} (h : Whole W g t (zs.map (Value.int .i64))) (hn : zs.length = n) (hm : n ≤ 9223372036854775807) : Ints W (.slice (some ⟨g, 0, none⟩) n n) zs :=
  ⟨by omega, .inr ⟨g, 0, n, by rw [hn], fun j hj => by rw [Nat.zero_add, h.cellAt]; simp [hj]⟩⟩

theorem any_take_hit {α : Type} (p : α → Bool) (zs : List α) (k : Nat) (x : α) (h : k < zs.length) (hx : zs[k]? = some x) (hp : p x = true) : zs.any p = true := by
  rw [List.any_eq_true]; exact ⟨x, List.mem_iff_getElem?.2 ⟨k, hx⟩, hp⟩
theorem any_take_step {α : Type} (p : α → Bool) (zs : List α) (k : Nat) (x : α) (h : k < zs.length) (hx : zs[k]? = some x) (hp : p x = false) (ht : (zs.take k).any p = false) : (zs.take (k + 1)).any p = false := by
  rw [List.take_add_one, hx, List.any_append, ht]; simp [hp]

/-- what slices.IndexFunc hands back: 0 or more where there is one -/
def IdxPost (b : Bool) (w : World) (e : Ending) (w' : World) : Prop := ∃ i : Int, e = .returned (.int .i64 i) ∧ decide (0 ≤ i) = b ∧ w = w'
set_option maxHeartbeats 400000 in
theorem idx_ints_none (a : Option Addr) (cap : Nat) (fv : Value) (w : World) :
    Calls Try.prog 41 #[.slice a 0 cap, fv] w (IdxPost false w) := by
  go_enter Try.func41, Try.ntmps41
  go_wp2
  refine wp_loop_rounds 1 ?_
  rw [rounds_succ]
  go_wp2
  go_ret
  exact ⟨-1, rfl, rfl, rfl⟩
theorem within_one (lo hi n : Int) : (!([n].any (outB lo hi))) = (decide (lo ≤ n) && decide (n ≤ hi)) := by
  rw [Bool.eq_iff_iff]; simp [outB]
theorem within_two (lo hi m n : Int) : (!([m, n].any (outB lo hi))) = ((decide (lo ≤ m) && decide (m ≤ hi)) && (decide (lo ≤ n) && decide (n ≤ hi))) := by
  rw [Bool.eq_iff_iff]; simp [outB]
end Go.Proofs.Ytlnfgmmgkmhehaa
