/- Blocks of memory: a block that lies whole; what stays below a block's number. Nothing of the program. -/
/- Plain facts on saturated whole numbers: nothing of the program. -/
/- Contracts of the arithmetic of layer 1 (fixed) and of the document's own answers: saturated sums, differences, bounds. -/
import Derived.Test.YtpbkboandiigfaaRows
import Derived.WalkKit
import Derived.Below
import Derived.Deep.Draws
import Derived.RangeFuncBox
import Derived.Laws.NewBlocks
import Derived.Laws.AppendOwn
import Derived.Lib.Hide
import Derived.WalkSpells
import Derived.WalkLawsBesides
namespace Go.Proofs.Ytpbkboandiigfaa
open Go.RowKit
set_option linter.unusedVariables false

theorem below_dn (B : Nat) (w : World) (n : Nat) : Below B w (w.drewN n) := ⟨rfl, rfl, rfl, Nat.le_refl _, fun _ _ => rfl⟩
theorem bcell {W w1 : World} {B : Nat} (hb : Below B W w1) : (∀ b o, b < B → w1.cell? ⟨b, o, none⟩ = W.cell? ⟨b, o, none⟩) ∧ (∀ b o, b < B → w1.frozen? ⟨b, o, none⟩ = W.frozen? ⟨b, o, none⟩) :=
  ⟨fun b o h => hb.cell (p := ⟨b, o, none⟩) h, fun b o h => hb.frozen (p := ⟨b, o, none⟩) h⟩
theorem cell_lt {W : World} {a : Addr} {v : Value} (h : W.cell? a = some v) : a.block < W.heap.size := by
  unfold World.cell? at h
  cases hb : W.heap[a.block]? with
  | none => simp [hb] at h
  | some o => exact (Array.getElem?_eq_some_iff.1 hb).1
/-- a block of cells lies whole -/
def Whole (W : World) (g t : Nat) (xs : List Value) : Prop := W.heap[g]? = some (.cells xs.toArray t (0, 0))
theorem Whole.lt {W : World} {g t : Nat} {xs : List Value} (h : Whole W g t xs) : g < W.heap.size := (Array.getElem?_eq_some_iff.1 h).1
theorem Whole.alloc {W : World} {g t : Nat} {xs : List Value} (h : Whole W g t xs) (o : Obj) : Whole (W.alloc o) g t xs := (Below.heap_alloc W o g h.lt).trans h
theorem Whole.below {W W' : World} {g t B : Nat} {xs : List Value} (h : Whole W g t xs) (hb : Below B W W') (hg : g < B) : Whole W' g t xs := (hb.block g hg).trans h
theorem Whole.set {W : World} {g t : Nat} {xs : List Value} (h : Whole W g t xs) (j : Nat) (v : Value) : Whole (W.setCell ⟨g, j, none⟩ v) g t (xs.set j v) := by
  have := heap_setCell_same W g j xs.toArray t v h
  unfold Whole; rw [this]; simp
theorem Whole.other {W : World} {g t : Nat} {xs : List Value} (h : Whole W g t xs) (a : Addr) (v : Value) (hne : g ≠ a.block) : Whole (W.setCell a v) g t xs := (Below.heap_setCell W a v g hne).trans h
theorem Whole.cellAt {W : World} {g t : Nat} {xs : List Value} (h : Whole W g t xs) (j : Nat) : W.cell? ⟨g, j, none⟩ = xs[j]? := by
  simp [World.cell?, show W.heap[g]? = _ from h]
theorem Whole.free {W : World} {g t : Nat} {xs : List Value} (h : Whole W g t xs) (j : Nat) : W.frozen? ⟨g, j, none⟩ = false := by
  simp [World.frozen?, show W.heap[g]? = _ from h]
theorem whole_new (W : World) (xs : List Value) (t g : Nat) (h : g = W.heap.size) : Whole (W.alloc (.cells xs.toArray t)) g t xs := by
  subst h; exact World.alloc_heap_new _ _
end Go.Proofs.Ytpbkboandiigfaa

namespace Go.Proofs.Ytpbkboandiigfaa
open Go.RowKit

/-- the bounds, behind names -/
def Top : Int := 9223372036854775807
def Low : Int := -9223372036854775808
/-- a whole number, saturated -/
def sat (x : Int) : Int := if 9223372036854775807 < x then 9223372036854775807 else if x < -9223372036854775808 then -9223372036854775808 else x
theorem sat_lo (x : Int) : -9223372036854775808 ≤ sat x := by unfold sat; split <;> (try split) <;> omega
theorem sat_hi (x : Int) : sat x ≤ 9223372036854775807 := by unfold sat; split <;> (try split) <;> omega
theorem sat_over {x : Int} (h : 9223372036854775807 < x) : sat x = 9223372036854775807 := by unfold sat; rw [if_pos h]
theorem sat_under {x : Int} (h : x < -9223372036854775808) : sat x = -9223372036854775808 := by unfold sat; rw [if_neg (by omega), if_pos h]
theorem sat_in {x : Int} (h : -9223372036854775808 ≤ x) (h' : x ≤ 9223372036854775807) : sat x = x := by unfold sat; rw [if_neg (by omega), if_neg (by omega)]
theorem ret_int {k : IntKind} {a b : Int} (h : a = b) : Ending.returned (.int k a) = .returned (.int k b) := by rw [h]
end Go.Proofs.Ytpbkboandiigfaa

namespace Go.Proofs.Ytpbkboandiigfaa
open Go.RowKit

set_option maxHeartbeats 400000 in
theorem plus_any (a b : Int) (w : World) (a1 : -9223372036854775808 ≤ a) (a2 : a ≤ 9223372036854775807) (b1 : -9223372036854775808 ≤ b) (b2 : b ≤ 9223372036854775807) :
    Calls Try.prog 72 #[.int .i64 a, .int .i64 b] w fun e w' => e = .returned (.int .i64 (sat (a + b))) ∧ w = w' := by
  go_enter Try.func72, Try.ntmps72
  go_wp2
  all_goals (go_ret; exact ⟨ret_int (by unfold sat; split <;> (try split) <;> omega), rfl⟩)
set_option maxHeartbeats 400000 in
theorem refSum_any (a b : Int) (w : World) (a1 : -9223372036854775808 ≤ a) (a2 : a ≤ 9223372036854775807) (b1 : -9223372036854775808 ≤ b) (b2 : b ≤ 9223372036854775807) :
    Calls Try.prog 35 #[.int .i64 a, .int .i64 b] w fun e w' => e = .returned (.int .i64 (sat (a + b))) ∧ w = w' := by
  go_enter Try.func35, Try.ntmps35
  go_wp2
  all_goals (go_ret; exact ⟨ret_int (by unfold sat; split <;> (try split) <;> omega), rfl⟩)
set_option maxHeartbeats 400000 in
theorem sub_any (a b : Int) (w : World) (a1 : -9223372036854775808 ≤ a) (a2 : a ≤ 9223372036854775807) (b1 : -9223372036854775808 ≤ b) (b2 : b ≤ 9223372036854775807) :
    Calls Try.prog 43 #[.int .i64 a, .int .i64 b] w fun e w' => e = .returned (.int .i64 (sat (a - b))) ∧ w = w' := by
  go_enter Try.func43, Try.ntmps43
  go_wp2
  all_goals (go_ret; exact ⟨ret_int (by unfold sat; split <;> (try split) <;> omega), rfl⟩)
set_option maxHeartbeats 400000 in
theorem refSub_any (a b : Int) (w : World) (a1 : -9223372036854775808 ≤ a) (a2 : a ≤ 9223372036854775807) (b1 : -9223372036854775808 ≤ b) (b2 : b ≤ 9223372036854775807) :
    Calls Try.prog 37 #[.int .i64 a, .int .i64 b] w fun e w' => e = .returned (.int .i64 (sat (a - b))) ∧ w = w' := by
  go_enter Try.func37, Try.ntmps37
  go_wp2
  all_goals (go_ret; exact ⟨ret_int (by unfold sat; split <;> (try split) <;> omega), rfl⟩)
theorem wrap_mag (a : Int) (a1 : -9223372036854775808 ≤ a) (h : a < 0) : IntKind.u64.wrap (-IntKind.u64.wrap a) = (a.natAbs : Int) := by
  simp [IntKind.wrap, IntKind.bits, IntKind.signed]; omega
set_option maxHeartbeats 400000 in
theorem magnitude_any (a : Int) (w : World) (a1 : -9223372036854775808 ≤ a) (a2 : a ≤ 9223372036854775807) :
    Calls Try.prog 62 #[.int .i64 a] w fun e w' => e = .returned (.int .u64 (a.natAbs : Int)) ∧ w = w' := by
  go_enter Try.func62, Try.ntmps62
  go_wp2
  · go_ret
    exact ⟨ret_int (wrap_mag a a1 (by omega)), rfl⟩
  · go_ret
    exact ⟨ret_int (by omega), rfl⟩
set_option maxHeartbeats 400000 in
theorem size_any (a : Int) (w : World) (a1 : -9223372036854775808 ≤ a) (a2 : a ≤ 9223372036854775807) :
    Calls Try.prog 63 #[.int .i64 a] w fun e w' => e = .returned (.int .u64 (a.natAbs : Int)) ∧ w = w' := by
  go_enter Try.func63, Try.ntmps63
  go_wp2
  · go_ret
    exact ⟨ret_int (wrap_mag a a1 (by omega)), rfl⟩
  · go_ret
    exact ⟨ret_int (by omega), rfl⟩

end Go.Proofs.Ytpbkboandiigfaa
