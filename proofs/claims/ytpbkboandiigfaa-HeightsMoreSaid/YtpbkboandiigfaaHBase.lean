/- Contracts of bounds (columns.within, over lengths and over small numbers). -/
/- Contracts of bounds (heights.within, over lengths and over small numbers). Written by mk_HBase.py. -/
import Derived.Test.YtpbkboandiigfaaRows
import Derived.Test.YtpbkboandiigfaaArith
import Derived.WalkKit
import Derived.WalkSpells
import Derived.Lib.Hide
import Derived.LoopTactic
import Derived.BigQuiet
import Derived.Deep.QuietTactic
import Derived.Deep.LoopGhost
import Derived.Shelf.Abstract
import Derived.Shelf.RegionOpen
namespace Go.Proofs.Ytpbkboandiigfaa
open Go.RowKit Go.Shelf
set_option linter.unusedVariables false

/-- is a number out of bounds? -/
def outB (lo hi n : Int) : Bool := decide (n < lo) || decide (hi < n)
theorem outB_false {lo hi n : Int} (h : outB lo hi n = false) : lo ≤ n ∧ n ≤ hi := by simp [outB] at h; omega
theorem outB_in {lo hi n : Int} (h1 : lo ≤ n) (h2 : n ≤ hi) : outB lo hi n = false := by simp [outB]; omega
theorem outB_lo {lo hi n : Int} (h1 : n < lo) : outB lo hi n = true := by simp [outB]; omega
theorem outB_hi {lo hi n : Int} (h1 : hi < n) : outB lo hi n = true := by simp [outB]; omega

/-- a slice of numbers: its cells -/
def Ints (W : World) (sv : Value) (zs : List Int) : Prop :=
  zs.length ≤ 9223372036854775807 ∧ ((∃ (a : Option Addr) (cap : Nat), sv = .slice a 0 cap ∧ zs = []) ∨ ∃ b off cap, sv = .slice (some ⟨b, off, none⟩) zs.length cap ∧ ∀ j, j < zs.length → W.cell? ⟨b, off + j, none⟩ = some (.int .i64 (zs[j]?.getD 0)))

theorem Ints.below {W W' : World} {sv : Value} {zs : List Int} (h : Ints W sv zs) (hb : Below W.heap.size W W') : Ints W' sv zs := by
  obtain ⟨hm, ⟨a, cap, rfl, rfl⟩ | ⟨b, off, cap, rfl, hc⟩⟩ := h
  · exact ⟨hm, .inl ⟨a, cap, rfl, rfl⟩⟩
  · exact ⟨hm, .inr ⟨b, off, cap, rfl, fun j hj => (hb.cell (p := ⟨b, off + j, none⟩) (cell_lt (hc j hj))).trans (hc j hj)⟩⟩
theorem Ints.whole {W : World} {g t n : Nat} {zs : List Int} (h : Whole W g t (zs.map (Value.int .i64))) (hn : zs.length = n) (hm : n ≤ 9223372036854775807) : Ints W (.slice (some ⟨g, 0, none⟩) n n) zs :=
  ⟨by omega, .inr ⟨g, 0, n, by rw [hn], fun j hj => by rw [Nat.zero_add, h.cellAt]; simp [hj]⟩⟩

theorem any_take_hit {α : Type} (p : α → Bool) (zs : List α) (k : Nat) (x : α) (h : k < zs.length) (hx : zs[k]? = some x) (hp : p x = true) : zs.any p = true := by
  rw [List.any_eq_true]; exact ⟨x, List.mem_iff_getElem?.2 ⟨k, hx⟩, hp⟩
theorem any_take_step {α : Type} (p : α → Bool) (zs : List α) (k : Nat) (x : α) (h : k < zs.length) (hx : zs[k]? = some x) (hp : p x = false) (ht : (zs.take k).any p = false) : (zs.take (k + 1)).any p = false := by
  rw [List.take_add_one, hx, List.any_append, ht]; simp [hp]

/-- what slices.IndexFunc hands back: 0 or more where there is one -/
def IdxPost (b : Bool) (w : World) (e : Ending) (w' : World) : Prop := ∃ i : Int, e = .returned (.int .i64 i) ∧ decide (0 ≤ i) = b ∧ w = w'
set_option maxHeartbeats 400000 in
theorem idx_ints_none (a : Option Addr) (cap : Nat) (fv : Value) (w : World) :
    Calls Try.prog 67 #[.slice a 0 cap, fv] w (IdxPost false w) := by
  go_enter Try.func67, Try.ntmps67
  go_wp2
  refine wp_loop_rounds 1 ?_
  rw [rounds_succ]
  go_wp2
  go_ret
  exact ⟨-1, rfl, rfl, rfl⟩
set_option maxHeartbeats 400000 in
theorem idx_ints_none_k (a : Option Addr) (cap : Nat) (fv : Value) (w : World) :
    Calls Try.prog 77 #[.slice a 0 cap, fv] w (IdxPost false w) := by
  go_enter Try.func77, Try.ntmps77
  go_wp2
  refine wp_loop_rounds 1 ?_
  rw [rounds_succ]
  go_wp2
  go_ret
  exact ⟨-1, rfl, rfl, rfl⟩
theorem within_one (lo hi n : Int) : (!([n].any (outB lo hi))) = (decide (lo ≤ n) && decide (n ≤ hi)) := by
  rw [Bool.eq_iff_iff]; simp [outB]
theorem within_two (lo hi m n : Int) : (!([m, n].any (outB lo hi))) = ((decide (lo ≤ m) && decide (m ≤ hi)) && (decide (lo ≤ n) && decide (n ≤ hi))) := by
  rw [Bool.eq_iff_iff]; simp [outB]
end Go.Proofs.Ytpbkboandiigfaa

namespace Go.Proofs.Ytpbkboandiigfaa
open Go.RowKit Go.Shelf
set_option linter.unusedVariables false
set_option linter.unusedSimpArgs false

set_option maxHeartbeats 400000 in
theorem out_anyH (n lo hi : Int) (a1 a2 : Addr) (w : World) (h1 : w.cell? a1 = some (.int .i64 lo)) (h2 : w.cell? a2 = some (.int .i64 hi)) :
    Calls Try.prog 49 #[.int .i64 n, .pointer (some a1), .pointer (some a2)] w fun e w' => e = .returned (.bool (outB lo hi n)) ∧ w = w' := by
  by_cases hl : n < lo
  · have hb := Lib.hid (outB_lo (hi := hi) hl)
    go_enter Try.func49, Try.ntmps49
    go_wp2
    go_ret
    exact ⟨by rw [hb.out]; first | rfl | (simp; done) | (simp; omega), rfl⟩
  · by_cases hh : hi < n
    · have hb := Lib.hid (outB_hi (lo := lo) hh)
      go_enter Try.func49, Try.ntmps49
      go_wp2
      go_ret
      exact ⟨by rw [hb.out]; first | rfl | (simp; done) | (simp; omega), rfl⟩
    · have hb := Lib.hid (outB_in (lo := lo) (hi := hi) (n := n) (by omega) (by omega))
      go_enter Try.func49, Try.ntmps49
      go_wp2
      go_ret
      exact ⟨by rw [hb.out]; first | rfl | (simp; done) | (simp; omega), rfl⟩

set_option maxHeartbeats 400000 in
theorem idx_intsH (b off cap : Nat) (zs : List Int) (lo hi : Int) (a1 a2 : Addr) (w : World) (hm : zs.length ≤ 9223372036854775807) (h1 : w.cell? a1 = some (.int .i64 lo)) (h2 : w.cell? a2 = some (.int .i64 hi))
    (hc : ∀ j, j < zs.length → w.cell? ⟨b, off + j, none⟩ = some (.int .i64 (zs[j]?.getD 0))) :
    Calls Try.prog 67 #[.slice (some ⟨b, off, none⟩) zs.length cap, .func (.func 49) #[] #[.pointer (some a1), .pointer (some a2)]] w (IdxPost (zs.any (outB lo hi)) w) := by
  have eg : ∀ args w, (callFunc 49 args).run Try.prog w = .ok (.enter 49 args) w := enters_of Try.func49 (by kernel_rfl) rfl
  have hout := fun n X => out_anyH n lo hi a1 a2 X
  go_enter Try.func67, Try.ntmps67
  go_wp2
  go_loopg [5, 8] zs.length (fun gg _ s8 wr => ∃ kk : Nat, kk ≤ zs.length ∧ zs.length - kk ≤ gg ∧ s8 = .int .i64 kk ∧ w = wr ∧ Hid ((zs.take kk).any (outB lo hi) = false))
  case atStart => exact ⟨0, Nat.zero_le _, by omega, rfl, rfl, by simp [Lib.hid]⟩
  case round =>
    obtain ⟨kk, hkk, hg, rfl, rfl, A⟩ := hrel
    by_cases hlt : kk < zs.length
    · have hcell := hc kk hlt
      have hx : zs[kk]? = some (zs[kk]?.getD 0) := by simp [hlt]
      obtain ⟨y, hy⟩ : ∃ y, zs[kk]?.getD 0 = y := ⟨_, rfl⟩
      rw [hy] at hcell hx
      have HX := Lib.hid hx
      have HC := Lib.hid (hout y w h1 h2)
      clear hy hc hx hout
      cases hq : outB lo hi y with
      | true =>
        have R := Lib.hid (any_take_hit _ zs kk y hlt HX.out hq)
        have HC' := Lib.hid (hq ▸ HC.out)
        clear HC hq
        go_wp2_with (go_at_fn 49; refine HC'.out.mono ?_; rintro e w' ⟨rfl, rfl⟩)
        go_ret
        exact ⟨(kk : Int), rfl, by rw [R.out]; simp, rfl⟩
      | false =>
        have R := Lib.hid (any_take_step _ zs kk y hlt HX.out hq A.out)
        have HC' := Lib.hid (hq ▸ HC.out)
        clear HC hq
        go_wp2_with (go_at_fn 49; refine HC'.out.mono ?_; rintro e w' ⟨rfl, rfl⟩)
        go_roundg (zs.length - (kk + 1))
        case measure => omega
        case rel => exact ⟨kk + 1, by omega, by omega, by go_num, rfl, R⟩
    · have R := Lib.hid (show zs.any (outB lo hi) = false by have := A.out; rwa [List.take_of_length_le (by omega)] at this)
      go_wp2
      go_ret
      exact ⟨-1, rfl, by rw [R.out]; rfl, rfl⟩
set_option maxHeartbeats 400000 in
theorem contains_intsH (sv : Value) (zs : List Int) (lo hi : Int) (a1 a2 : Addr) (w : World) (hI : Ints w sv zs) (h1 : w.cell? a1 = some (.int .i64 lo)) (h2 : w.cell? a2 = some (.int .i64 hi)) :
    Calls Try.prog 48 #[sv, .func (.func 49) #[] #[.pointer (some a1), .pointer (some a2)]] w fun e w' => e = .returned (.bool (zs.any (outB lo hi))) ∧ w = w' := by
  have hcall : Calls Try.prog 67 #[sv, .func (.func 49) #[] #[.pointer (some a1), .pointer (some a2)]] w (IdxPost (zs.any (outB lo hi)) w) := by
    obtain ⟨hm, ⟨a, cap, rfl, rfl⟩ | ⟨b, off, cap, rfl, hc⟩⟩ := hI
    · exact idx_ints_none _ _ _ _
    · exact idx_intsH b off cap zs lo hi a1 a2 w hm h1 h2 hc
  have HC := Lib.hid hcall
  clear hcall h1 h2 hI
  go_enter Try.func48, Try.ntmps48
  go_wp2_with fail
  refine HC.out.mono ?_
  rintro e w' ⟨i, rfl, hi, rfl⟩
  have HI := Lib.hid hi
  clear hi
  go_wp2
  go_ret
  exact ⟨by rw [← HI.out]; first | rfl | (simp; done), rfl⟩
set_option maxHeartbeats 400000 in
theorem within_anyH (lo hi : Int) (sv : Value) (zs : List Int) (w : World) (hI : Ints w sv zs) :
    Calls Try.prog 29 #[.int .i64 lo, .int .i64 hi, sv] w fun e w' => e = .returned (.bool (!zs.any (outB lo hi))) ∧ Below w.heap.size w w' := by
  have hI' : Hid (Ints ((w.alloc (.cells #[.int .i64 lo] 2)).alloc (.cells #[.int .i64 hi] 2)) sv zs) := by
    have := hI.below (((Below.refl w.heap.size w).alloc (Nat.le_refl _) (.cells #[.int .i64 lo] 2)).alloc (by simp) (.cells #[.int .i64 hi] 2))
    exact Lib.hid this
  clear hI
  go_enter Try.func29, Try.ntmps29
  go_wp2_with fail
  refine (contains_intsH sv zs lo hi _ _ _ hI'.out ?_ ?_).mono ?_
  · simp
  · simp
  rintro e w' ⟨rfl, rfl⟩
  go_wp2
  go_ret
  exact ⟨rfl, ((Below.refl _ _).alloc (Nat.le_refl _) _).alloc (by simp) _⟩

set_option maxHeartbeats 400000 in
theorem out_any_kH (n lo hi : Int) (a1 a2 : Addr) (w : World) (h1 : w.cell? a1 = some (.int .i64 lo)) (h2 : w.cell? a2 = some (.int .i64 hi)) :
    Calls Try.prog 66 #[.int .i64 n, .pointer (some a1), .pointer (some a2)] w fun e w' => e = .returned (.bool (outB lo hi n)) ∧ w = w' := by
  by_cases hl : n < lo
  · have hb := Lib.hid (outB_lo (hi := hi) hl)
    go_enter Try.func66, Try.ntmps66
    go_wp2
    go_ret
    exact ⟨by rw [hb.out]; first | rfl | (simp; done) | (simp; omega), rfl⟩
  · by_cases hh : hi < n
    · have hb := Lib.hid (outB_hi (lo := lo) hh)
      go_enter Try.func66, Try.ntmps66
      go_wp2
      go_ret
      exact ⟨by rw [hb.out]; first | rfl | (simp; done) | (simp; omega), rfl⟩
    · have hb := Lib.hid (outB_in (lo := lo) (hi := hi) (n := n) (by omega) (by omega))
      go_enter Try.func66, Try.ntmps66
      go_wp2
      go_ret
      exact ⟨by rw [hb.out]; first | rfl | (simp; done) | (simp; omega), rfl⟩

set_option maxHeartbeats 400000 in
theorem idx_ints_kH (b off cap : Nat) (zs : List Int) (lo hi : Int) (a1 a2 : Addr) (w : World) (hm : zs.length ≤ 9223372036854775807) (h1 : w.cell? a1 = some (.int .i64 lo)) (h2 : w.cell? a2 = some (.int .i64 hi))
    (hc : ∀ j, j < zs.length → w.cell? ⟨b, off + j, none⟩ = some (.int .i64 (zs[j]?.getD 0))) :
    Calls Try.prog 77 #[.slice (some ⟨b, off, none⟩) zs.length cap, .func (.func 66) #[] #[.pointer (some a1), .pointer (some a2)]] w (IdxPost (zs.any (outB lo hi)) w) := by
  have eg : ∀ args w, (callFunc 66 args).run Try.prog w = .ok (.enter 66 args) w := enters_of Try.func66 (by kernel_rfl) rfl
  have hout := fun n X => out_any_kH n lo hi a1 a2 X
  go_enter Try.func77, Try.ntmps77
  go_wp2
  go_loopg [5, 8] zs.length (fun gg _ s8 wr => ∃ kk : Nat, kk ≤ zs.length ∧ zs.length - kk ≤ gg ∧ s8 = .int .i64 kk ∧ w = wr ∧ Hid ((zs.take kk).any (outB lo hi) = false))
  case atStart => exact ⟨0, Nat.zero_le _, by omega, rfl, rfl, by simp [Lib.hid]⟩
  case round =>
    obtain ⟨kk, hkk, hg, rfl, rfl, A⟩ := hrel
    by_cases hlt : kk < zs.length
    · have hcell := hc kk hlt
      have hx : zs[kk]? = some (zs[kk]?.getD 0) := by simp [hlt]
      obtain ⟨y, hy⟩ : ∃ y, zs[kk]?.getD 0 = y := ⟨_, rfl⟩
      rw [hy] at hcell hx
      have HX := Lib.hid hx
      have HC := Lib.hid (hout y w h1 h2)
      clear hy hc hx hout
      cases hq : outB lo hi y with
      | true =>
        have R := Lib.hid (any_take_hit _ zs kk y hlt HX.out hq)
        have HC' := Lib.hid (hq ▸ HC.out)
        clear HC hq
        go_wp2_with (go_at_fn 66; refine HC'.out.mono ?_; rintro e w' ⟨rfl, rfl⟩)
        go_ret
        exact ⟨(kk : Int), rfl, by rw [R.out]; simp, rfl⟩
      | false =>
        have R := Lib.hid (any_take_step _ zs kk y hlt HX.out hq A.out)
        have HC' := Lib.hid (hq ▸ HC.out)
        clear HC hq
        go_wp2_with (go_at_fn 66; refine HC'.out.mono ?_; rintro e w' ⟨rfl, rfl⟩)
        go_roundg (zs.length - (kk + 1))
        case measure => omega
        case rel => exact ⟨kk + 1, by omega, by omega, by go_num, rfl, R⟩
    · have R := Lib.hid (show zs.any (outB lo hi) = false by have := A.out; rwa [List.take_of_length_le (by omega)] at this)
      go_wp2
      go_ret
      exact ⟨-1, rfl, by rw [R.out]; rfl, rfl⟩
set_option maxHeartbeats 400000 in
theorem contains_ints_kH (sv : Value) (zs : List Int) (lo hi : Int) (a1 a2 : Addr) (w : World) (hI : Ints w sv zs) (h1 : w.cell? a1 = some (.int .i64 lo)) (h2 : w.cell? a2 = some (.int .i64 hi)) :
    Calls Try.prog 65 #[sv, .func (.func 66) #[] #[.pointer (some a1), .pointer (some a2)]] w fun e w' => e = .returned (.bool (zs.any (outB lo hi))) ∧ w = w' := by
  have hcall : Calls Try.prog 77 #[sv, .func (.func 66) #[] #[.pointer (some a1), .pointer (some a2)]] w (IdxPost (zs.any (outB lo hi)) w) := by
    obtain ⟨hm, ⟨a, cap, rfl, rfl⟩ | ⟨b, off, cap, rfl, hc⟩⟩ := hI
    · exact idx_ints_none_k _ _ _ _
    · exact idx_ints_kH b off cap zs lo hi a1 a2 w hm h1 h2 hc
  have HC := Lib.hid hcall
  clear hcall h1 h2 hI
  go_enter Try.func65, Try.ntmps65
  go_wp2_with fail
  refine HC.out.mono ?_
  rintro e w' ⟨i, rfl, hi, rfl⟩
  have HI := Lib.hid hi
  clear hi
  go_wp2
  go_ret
  exact ⟨by rw [← HI.out]; first | rfl | (simp; done), rfl⟩
set_option maxHeartbeats 400000 in
theorem within_any_kH (lo hi : Int) (sv : Value) (zs : List Int) (w : World) (hI : Ints w sv zs) :
    Calls Try.prog 47 #[.int .i64 lo, .int .i64 hi, sv] w fun e w' => e = .returned (.bool (!zs.any (outB lo hi))) ∧ Below w.heap.size w w' := by
  have hI' : Hid (Ints ((w.alloc (.cells #[.int .i64 lo] 3)).alloc (.cells #[.int .i64 hi] 3)) sv zs) := by
    have := hI.below (((Below.refl w.heap.size w).alloc (Nat.le_refl _) (.cells #[.int .i64 lo] 3)).alloc (by simp) (.cells #[.int .i64 hi] 3))
    exact Lib.hid this
  clear hI
  go_enter Try.func47, Try.ntmps47
  go_wp2_with fail
  refine (contains_ints_kH sv zs lo hi _ _ _ hI'.out ?_ ?_).mono ?_
  · simp
  · simp
  rintro e w' ⟨rfl, rfl⟩
  go_wp2
  go_ret
  exact ⟨rfl, ((Below.refl _ _).alloc (Nat.le_refl _) _).alloc (by simp) _⟩
end Go.Proofs.Ytpbkboandiigfaa
