/- Contracts of edges.within and edges.Right. Written by mk_HBase.py. -/
import Derived.Test.YtpbkboandiigfaaHBase
namespace Go.Proofs.Ytpbkboandiigfaa
open Go.RowKit Go.Shelf
set_option linter.unusedVariables false
set_option linter.unusedSimpArgs false


set_option maxHeartbeats 400000 in
theorem eout_any (n lo hi : Int) (a1 a2 : Addr) (w : World) (h1 : w.cell? a1 = some (.int .i64 lo)) (h2 : w.cell? a2 = some (.int .i64 hi)) :
    Calls Try.prog 64 #[.int .i64 n, .pointer (some a1), .pointer (some a2)] w fun e w' => e = .returned (.bool (outB lo hi n)) ∧ w = w' := by
  by_cases hl : n < lo
  · have hb := Lib.hid (outB_lo (hi := hi) hl)
    go_enter Try.func64, Try.ntmps64
    go_wp2
    go_ret
    exact ⟨by rw [hb.out]; first | rfl | (simp; done) | (simp; omega), rfl⟩
  · by_cases hh : hi < n
    · have hb := Lib.hid (outB_hi (lo := lo) hh)
      go_enter Try.func64, Try.ntmps64
      go_wp2
      go_ret
      exact ⟨by rw [hb.out]; first | rfl | (simp; done) | (simp; omega), rfl⟩
    · have hb := Lib.hid (outB_in (lo := lo) (hi := hi) (n := n) (by omega) (by omega))
      go_enter Try.func64, Try.ntmps64
      go_wp2
      go_ret
      exact ⟨by rw [hb.out]; first | rfl | (simp; done) | (simp; omega), rfl⟩
set_option maxHeartbeats 400000 in
theorem eidx_ints (b off cap : Nat) (zs : List Int) (lo hi : Int) (a1 a2 : Addr) (w : World) (hm : zs.length ≤ 9223372036854775807) (h1 : w.cell? a1 = some (.int .i64 lo)) (h2 : w.cell? a2 = some (.int .i64 hi))
    (hc : ∀ j, j < zs.length → w.cell? ⟨b, off + j, none⟩ = some (.int .i64 (zs[j]?.getD 0))) :
    Calls Try.prog 67 #[.slice (some ⟨b, off, none⟩) zs.length cap, .func (.func 64) #[] #[.pointer (some a1), .pointer (some a2)]] w (IdxPost (zs.any (outB lo hi)) w) := by
  have eg : ∀ args w, (callFunc 64 args).run Try.prog w = .ok (.enter 64 args) w := enters_of Try.func64 (by kernel_rfl) rfl
  have hout := fun n X => eout_any n lo hi a1 a2 X
  go_enter Try.func67, Try.ntmps67
  go_wp2
  go_loopg [5, 8] zs.length (fun gg _ s8 wr => ∃ kk : Nat, kk ≤ zs.length ∧ zs.length - kk ≤ gg ∧ s8 = .int .i64 kk ∧ w = wr ∧ Hid ((zs.take kk).any (outB lo hi) = false))
  case atStart => exact ⟨0, Nat.zero_le _, by omega, rfl, rfl, by simp [Lib.hid]⟩
  case round =>
    obtain ⟨kk, hkk, hg, rfl, rfl, A⟩ := hrel
    by_cases hlt : kk < zs.length
    · have hcell := hc kk hlt
      have hx : zs[kk]? = some (zs[kk]?.getD 0) := by simp [hlt]
      obtain ⟨y, hy⟩ : ∃ y, zs[kk]?.getD 0 = y := ⟨_, rfl⟩
      rw [hy] at hcell hx
      have HX := Lib.hid hx
      have HC := Lib.hid (hout y w h1 h2)
      clear hy hc hx hout
      cases hq : outB lo hi y with
      | true =>
        have R := Lib.hid (any_take_hit _ zs kk y hlt HX.out hq)
        have HC' := Lib.hid (hq ▸ HC.out)
        clear HC hq
        go_wp2_with (go_at_fn 64; refine HC'.out.mono ?_; rintro e w' ⟨rfl, rfl⟩)
        go_ret
        exact ⟨(kk : Int), rfl, by rw [R.out]; simp, rfl⟩
      | false =>
        have R := Lib.hid (any_take_step _ zs kk y hlt HX.out hq A.out)
        have HC' := Lib.hid (hq ▸ HC.out)
        clear HC hq
        go_wp2_with (go_at_fn 64; refine HC'.out.mono ?_; rintro e w' ⟨rfl, rfl⟩)
        go_roundg (zs.length - (kk + 1))
        case measure => omega
        case rel => exact ⟨kk + 1, by omega, by omega, by go_num, rfl, R⟩
    · have R := Lib.hid (show zs.any (outB lo hi) = false by have := A.out; rwa [List.take_of_length_le (by omega)] at this)
      go_wp2
      go_ret
      exact ⟨-1, rfl, by rw [R.out]; rfl, rfl⟩
set_option maxHeartbeats 400000 in
theorem econtains_ints (sv : Value) (zs : List Int) (lo hi : Int) (a1 a2 : Addr) (w : World) (hI : Ints w sv zs) (h1 : w.cell? a1 = some (.int .i64 lo)) (h2 : w.cell? a2 = some (.int .i64 hi)) :
    Calls Try.prog 48 #[sv, .func (.func 64) #[] #[.pointer (some a1), .pointer (some a2)]] w fun e w' => e = .returned (.bool (zs.any (outB lo hi))) ∧ w = w' := by
  have hcall : Calls Try.prog 67 #[sv, .func (.func 64) #[] #[.pointer (some a1), .pointer (some a2)]] w (IdxPost (zs.any (outB lo hi)) w) := by
    obtain ⟨hm, ⟨a, cap, rfl, rfl⟩ | ⟨b, off, cap, rfl, hc⟩⟩ := hI
    · exact idx_ints_none _ _ _ _
    · exact eidx_ints b off cap zs lo hi a1 a2 w hm h1 h2 hc
  have HC := Lib.hid hcall
  clear hcall h1 h2 hI
  go_enter Try.func48, Try.ntmps48
  go_wp2_with fail
  refine HC.out.mono ?_
  rintro e w' ⟨i, rfl, hi, rfl⟩
  have HI := Lib.hid hi
  clear hi
  go_wp2
  go_ret
  exact ⟨by rw [← HI.out]; first | rfl | (simp; done), rfl⟩
set_option maxHeartbeats 400000 in
theorem ewithin_any (lo hi : Int) (sv : Value) (zs : List Int) (w : World) (hI : Ints w sv zs) :
    Calls Try.prog 46 #[.int .i64 lo, .int .i64 hi, sv] w fun e w' => e = .returned (.bool (!zs.any (outB lo hi))) ∧ Below w.heap.size w w' := by
  have hI' : Hid (Ints ((w.alloc (.cells #[.int .i64 lo] 2)).alloc (.cells #[.int .i64 hi] 2)) sv zs) := by
    have := hI.below (((Below.refl w.heap.size w).alloc (Nat.le_refl _) (.cells #[.int .i64 lo] 2)).alloc (by simp) (.cells #[.int .i64 hi] 2))
    exact Lib.hid this
  clear hI
  go_enter Try.func46, Try.ntmps46
  go_wp2_with fail
  refine (econtains_ints sv zs lo hi _ _ _ hI'.out ?_ ?_).mono ?_
  · simp
  · simp
  rintro e w' ⟨rfl, rfl⟩
  go_wp2
  go_ret
  exact ⟨rfl, ((Below.refl _ _).alloc (Nat.le_refl _) _).alloc (by simp) _⟩
/-- are these bands, and a gap? -/
def okB (g : Int) (bs : List Int) : Bool := decide (bs.length ≤ 10000) && (!([g].any (outB 0 1073741824)) && !(bs.any (outB 0 1073741824)))

set_option maxHeartbeats 400000 in
theorem eright_any (g : Int) (p : Option Addr) (m c : Nat) (bs : List Int) (w : World) (hI : Ints w (.slice p m c) bs) (hm : bs.length = m) :
    Calls Try.prog 27 #[.slice p m c, .int .i64 g] w fun e w' => e = .returned (.bool (okB g bs)) ∧ Below w.heap.size w w' := by
  by_cases hl : m ≤ 10000
  · cases h1 : [g].any (outB 0 1073741824) with
    | true =>
      have hb : Hid (okB g bs = false) := Lib.hid (by simp only [okB, h1]; simp)
      have HW := Lib.hid (fun sv X hI => h1 ▸ ewithin_any 0 1073741824 sv [g] X hI)
      clear h1 hI
      go_enter Try.func27, Try.ntmps27
      go_wp2_with fail
      refine (HW.out _ _ (Ints.whole (t := 2) (whole_new _ _ _ _ (by simp)) rfl (by simp))).mono ?_
      rintro e w' ⟨rfl, hb1⟩
      have HB := Lib.hid hb1
      clear hb1
      go_wp2
      go_ret
      exact ⟨by rw [hb.out] <;> rfl, ((Below.refl _ _).alloc (Nat.le_refl _) _).trans (HB.out.mono (by simp))⟩
    | false =>
      have hb : Hid (okB g bs = !(bs.any (outB 0 1073741824))) := Lib.hid (by
        have : decide (bs.length ≤ 10000) = true := by simp; omega
        simp only [okB, h1, this]; simp)
      have HW := Lib.hid (fun sv X hI => h1 ▸ ewithin_any 0 1073741824 sv [g] X hI)
      have HV := Lib.hid (fun sv X hI => ewithin_any 0 1073741824 sv bs X hI)
      have HI := Lib.hid hI
      clear h1 hI
      go_enter Try.func27, Try.ntmps27
      go_wp2_with fail
      refine (HW.out _ _ (Ints.whole (t := 2) (whole_new _ _ _ _ (by simp)) rfl (by simp))).mono ?_
      rintro e w1 ⟨rfl, hb1⟩
      have HB := Lib.hid (((Below.refl _ _).alloc (Nat.le_refl _) _).trans (hb1.mono (by simp)))
      clear hb1
      go_wp2_with fail
      refine (HV.out _ _ (HI.out.below HB.out)).mono ?_
      rintro e w2 ⟨rfl, hb2⟩
      have HB2 := Lib.hid (HB.out.trans (hb2.mono HB.out.size))
      clear hb2
      go_wp2
      go_ret
      exact ⟨by rw [hb.out] <;> rfl, HB2.out⟩
  · have hb : Hid (okB g bs = false) := Lib.hid (by
      have : decide (bs.length ≤ 10000) = false := by simp; omega
      simp only [okB, this]; simp)
    clear hI
    go_enter Try.func27, Try.ntmps27
    go_wp2
    go_ret
    exact ⟨by rw [hb.out] <;> rfl, Below.refl _ _⟩
end Go.Proofs.Ytpbkboandiigfaa
