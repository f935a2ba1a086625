/- Contracts of the order of remainders (fixed.greatestFirst's closure) and of the library's stable sort of at most nineteen numbers. -/
import Derived.Test.YtpbkboandiigfaaDivide
import Derived.Shelf.SlSortCmp.Insertion
namespace Go.Proofs.Ytpbkboandiigfaa
open Go.RowKit Go.Shelf
set_option linter.unusedVariables false

def insRen : Go.Shelf.Ren := ⟨fun | 20 => 92 | n => n, fun | 0 => 0 | 3 => 3 | 4 => 4 | 22 => 54 | 24 => 3 | 25 => 60 | n => n, fun | n => n⟩
theorem insLays : Go.Proofs.SlLaysF.n20 Try.prog insRen := {
  mixed := by kernel_rfl
  f20 := ⟨Try.f92.name, by kernel_rfl, Try.func92.trans (congrArg some (by kernel_rfl))⟩
  t0 := Try.underlying0
  a0 := Try.isAgg0
  z0 := Try.sizeOf0
  v0 := Try.zeroValue0
  t3 := Try.underlying3
  a3 := Try.isAgg3
  z3 := Try.sizeOf3
  v3 := Try.zeroValue3
  t4 := Try.underlying4
  a4 := Try.isAgg4
  z4 := Try.sizeOf4
  v4 := Try.zeroValue4
  t22 := Try.underlying54
  a22 := Try.isAgg54
  z22 := Try.sizeOf54
  v22 := Try.zeroValue54
  a24 := Try.isAgg3
  z24 := Try.sizeOf3
  t25 := Try.underlying60
  a25 := Try.isAgg60
  z25 := Try.sizeOf60
  v25 := Try.zeroValue60 }

/-- which of two comes first -/
def cmpZ (x y : Int) : Int := if x < y then -1 else if y < x then 1 else 0
set_option maxHeartbeats 400000 in
theorem compare_any (x y : Int) (w : World) : Calls Try.prog 82 #[.int .u64 x, .int .u64 y] w fun e w' => e = .returned (.int .i64 (cmpZ x y)) ∧ w = w' := by
  have hx : (x != x) = false := by simp
  have hy : (y != y) = false := by simp
  by_cases h1 : x < y
  · have hc := Lib.hid (show cmpZ x y = -1 from by unfold cmpZ; rw [if_pos h1])
    go_enter Try.func82, Try.ntmps82
    go_wp2
    go_ret
    exact ⟨by rw [hc.out]; simp, rfl⟩
  · by_cases h2 : y < x
    · have hc := Lib.hid (show cmpZ x y = 1 from by unfold cmpZ; rw [if_neg h1, if_pos h2])
      go_enter Try.func82, Try.ntmps82
      go_wp2
      go_ret
      exact ⟨by rw [hc.out]; simp, rfl⟩
    · have hc := Lib.hid (show cmpZ x y = 0 from by unfold cmpZ; rw [if_neg h1, if_neg h2])
      go_enter Try.func82, Try.ntmps82
      go_wp2
      go_ret
      exact ⟨by rw [hc.out]; simp, rfl⟩

set_option maxHeartbeats 1000000 in
theorem greater_any (i j : Nat) (p C n cap : Nat) (x y : Int) (w : World) (hi : i < n) (hj : j < n) (hn : n ≤ 10000) (hp : w.cell? ⟨p, 0, none⟩ = some (.slice (some ⟨C, 0, none⟩) n cap))
    (hx : w.cell? ⟨C, i, none⟩ = some (.int .u64 x)) (hy : w.cell? ⟨C, j, none⟩ = some (.int .u64 y)) :
    Calls Try.prog 81 #[.int .i64 i, .int .i64 j, .pointer (some ⟨p, 0, none⟩)] w fun e w' => e = .returned (.int .i64 (cmpZ y x)) ∧ ∃ q, w' = w.drewN q := by
  have hi' : (i : Int) < n := by omega
  have hj' : (j : Int) < n := by omega
  go_enter Try.func81, Try.ntmps81
  go_wp2
  go_quiet ((go_at_call 82; exact Calls.quiet_of ((compare_any _ _ _).mono fun e w' h => ⟨h.1, 0, h.2.symm⟩)))
  go_wp2
  go_ret
  exact ⟨rfl, _, rfl⟩

open Go.Sort Go.Lib
theorem oneFin (n : Nat) : OneCell (fun x : Fin n => Value.int .i64 (x.val : Int)) := fun _ => rfl
set_option maxHeartbeats 1000000 in
theorem stable_small (m p blk cap : Nat) (hm : m + 1 ≤ 19) (cf : Fin (m + 1) → Fin (m + 1) → Int) (d : Array (Fin (m + 1))) (hd : d.size = m + 1) (w : World)
    (hcmp : CmpReads Try.prog 81 #[.pointer (some ⟨p, 0, none⟩)] (fun x : Fin (m + 1) => Value.int .i64 (x.val : Int)) cf blk 0 d.size w) (hH : Holds (fun x : Fin (m + 1) => Value.int .i64 (x.val : Int)) w blk 0 d) :
    Calls Try.prog 80 #[.slice (some ⟨blk, 0, none⟩) d.size cap, .func (.func 81) #[] #[.pointer (some ⟨p, 0, none⟩)]] w fun e w' => e = .returned (.tuple #[]) ∧ ∃ q, w' = (putRow (fun x : Fin (m + 1) => Value.int .i64 (x.val : Int)) w blk 0 (insertionSort (ltOf cf) d 0 d.size)).drewN q := by
  have eg : ∀ args w, (callFunc 81 args).run Try.prog w = .ok (.enter 81 args) w := enters_of Try.func81 (by kernel_rfl) rfl
  have hcon := Lib.hid (Any.insertionSortCmpFunc_one insLays _ (oneFin _) cf 81 #[.pointer (some ⟨p, 0, none⟩)] blk 0 cap 0 d.size d w eg hcmp hH (Nat.zero_le _) (Nat.le_refl _) (by omega))
  have hs : d.size ≤ 19 := by omega
  clear hcmp hH eg hd
  go_enter Try.func80, Try.ntmps80
  go_wp2_with (first | go_in)
  go_loop [7, 8] (fun a b => a = .int .i64 0 ∧ b = .int .i64 20) (fun _ _ => 0)
  case atStart => exact ⟨rfl, rfl⟩
  case round =>
    obtain ⟨rfl, rfl⟩ := hrel
    go_wp2_with (go_at_call 92; refine hcon.out.mono ?_; rintro e w' ⟨rfl, q, rfl⟩)
    go_loop [6] (fun b => b = .int .i64 20) (fun _ => 0)
    case atStart => exact rfl
    case round =>
      obtain rfl := hrel
      go_wp2
      go_end0
      go_wp2
      go_end0
      exact ⟨rfl, q, rfl⟩
end Go.Proofs.Ytpbkboandiigfaa
