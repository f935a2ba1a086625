/- Contracts of the library's swapRangeCmpFunc and rotateCmpFunc at elements of one cell, from a world of the sort's to a world of the sort's. Written by mk_St.py. -/
import Derived.Test.YtpbkboandiigfaaProg
import Derived.WalkKit
import Derived.WalkSpells
import Derived.WalkLawsBesides
import Derived.LoopTactic
import Derived.BigQuiet
import Derived.Deep.QuietTactic
import Derived.Lib.Hide
import Derived.Test.YtpbkboandiigfaaStP
import Derived.Shelf.SlSortCmp.Insertion1
namespace Go.Proofs.Ytpbkboandiigfaa
open Go.RowKit Go.Shelf Go.Sort Go.Lib
set_option linter.unusedVariables false
set_option linter.unusedSimpArgs false
section
variable {α : Type} [Inhabited α] {enc : α → Value} {w0 : World} {blk off : Nat} {d0 : Array α}

set_option maxHeartbeats 4000000 in
theorem swapR_any (fv : Value) (cap a b n : Nat) (d : Array α) (w : World) (R : Row1 enc w0 blk off d0) (hs : d0.size = d.size) (S : SW enc w0 blk off d w) (hab : a + n ≤ b) (hb : b + n ≤ d.size) (hsz : d.size < 4611686018427387904) :
    Calls Try.prog 96 #[.slice (some ⟨blk, off, none⟩) d.size cap, .int .i64 a, .int .i64 b, .int .i64 n, fv] w fun e w' => e = .returned (.tuple #[]) ∧ ∃ d', SwR d d' a b n ∧ SW enc w0 blk off d' w' := by
  have hcl0 := R.hO.cells
  simp only [Value.cells] at hcl0
  have hst := R.hO.store Try.prog
  have mixed : Try.prog.follows Departure.mixedOrders = true := by kernel_rfl
  have S0 : Aside (SW enc w0 blk off d w) := S
  clear S
  go_enter Try.func96, Try.ntmps96
  go_wp2
  go_loopg [10] n (fun kx s8 wr => ∃ (i : Nat) (dk : Array α), s8 = .int .i64 i ∧ i ≤ n ∧ n - i ≤ kx ∧ dk.size = d.size ∧ Aside (SW enc w0 blk off dk wr) ∧ Hid (SwR d dk a b i))
  case atStart => exact ⟨0, d, rfl, by omega, by omega, rfl, S0, SwR.zero d a b⟩
  case round =>
    clear S0
    obtain ⟨i, dk, rfl, hin, hkx, hds, S1, hq⟩ := hrel
    by_cases hlt : i < n
    · have hltz : (i : Int) < (n : Int) := by omega
      have hw1 : IntKind.i64.wrap ((a : Int) + (i : Int)) = (a : Int) + (i : Int) := by rw [IntKind.wrap_i64]; omega
      have hw2 : IntKind.i64.wrap ((b : Int) + (i : Int)) = (b : Int) + (i : Int) := by rw [IntKind.wrap_i64]; omega
      have hq2 : Hid (SwR d (swp dk (a + i) (b + i)) a b (i + 1)) := hq.out.step (by omega) (by omega)
      go_wp2_with fail
      obtain ⟨iN1, hiN1⟩ : ∃ q, q = a + i := ⟨_, rfl⟩
      obtain ⟨jN1, hjN1⟩ : ∃ q, q = b + i := ⟨_, rfl⟩
      have ea1 : ((a : Int) + (i : Int)).toNat = iN1 := by omega
      have pa1 : (0 : Int) ≤ (a : Int) + (i : Int) := by omega
      have ba1 : (a : Int) + (i : Int) < (d.size : Int) := by omega
      have ra1 : IntKind.i64.wrap ((a : Int) + (i : Int)) = (a : Int) + (i : Int) := by rw [IntKind.wrap_i64]; omega
      have ec1 : ((b : Int) + (i : Int)).toNat = jN1 := by omega
      have pc1 : (0 : Int) ≤ (b : Int) + (i : Int) := by omega
      have bc1 : (b : Int) + (i : Int) < (d.size : Int) := by omega
      have rc1 : IntKind.i64.wrap ((b : Int) + (i : Int)) = (b : Int) + (i : Int) := by rw [IntKind.wrap_i64]; omega
      obtain ⟨x1, hx1⟩ : ∃ x, x = dk[a + i]! := ⟨_, rfl⟩
      obtain ⟨y1, hy1⟩ : ∃ x, x = dk[b + i]! := ⟨_, rfl⟩
      have S2 : Aside (SW enc w0 blk off (swp dk (a + i) (b + i)) ((wr.setCell ⟨blk, off + iN1, none⟩ (enc y1)).setCell ⟨blk, off + jN1, none⟩ (enc x1)).drew) := by rw [hiN1, hjN1, hx1, hy1]; exact S1.out.swapped R (a + i) (b + i) (by omega) (by omega)
      have c1a := S1.out.c1 R (by omega) (a + i) (by omega)
      have c1b := S1.out.c1 R (by omega) (b + i) (by omega)
      have f1a := S1.out.f1 R (by omega) (a + i) (by omega)
      have f1b := S1.out.f1 R (by omega) (b + i) (by omega)
      obtain ⟨u1, c1c⟩ := S1.out.c2 R (by omega) (a + i) (b + i) (by omega) (by omega) (enc y1)
      rw [← hjN1, ← hiN1] at c1c
      rw [← hx1, ← hiN1] at c1a
      rw [← hy1, ← hjN1] at c1b
      rw [← hiN1] at f1a
      rw [← hjN1] at f1b
      clear S1 hx1 hy1 hiN1 hjN1
      go_wp2_with fail
      go_big_region_o
      clear c1a c1b c1c f1a f1b
      generalize ((wr.setCell ⟨blk, off + iN1, none⟩ (enc y1)).setCell ⟨blk, off + jN1, none⟩ (enc x1)).drew = w2 at S2 ⊢
      clear ea1 ec1 pa1 ba1 ra1 pc1 bc1 rc1
      clear hw1 hw2
      go_wp2
      go_roundg (n - (i + 1))
      case measure => omega
      case rel => exact ⟨i + 1, swp dk (a + i) (b + i), by go_num, by omega, by omega, by rw [size_swp]; exact hds, S2, hq2⟩
    · have hltz : ¬ (i : Int) < (n : Int) := by omega
      obtain rfl : i = n := by omega
      go_wp2
      go_end0
      exact ⟨rfl, dk, hq.out, S1.out⟩

set_option maxHeartbeats 4000000 in
theorem rotate_any (fv : Value) (cap A I J : Nat) (d : Array α) (w : World) (R : Row1 enc w0 blk off d0) (hs : d0.size = d.size) (S : SW enc w0 blk off d w) (hI : 0 < I) (hJ : 0 < J) (hb : A + I + J ≤ d.size) (hsz : d.size < 4611686018427387904) :
    Calls Try.prog 95 #[.slice (some ⟨blk, off, none⟩) d.size cap, .int .i64 A, .int .i64 (A + I : Nat), .int .i64 (A + I + J : Nat), fv] w fun e w' => e = .returned (.tuple #[]) ∧ ∃ d', Rot d d' A (A + I) (A + I + J) ∧ SW enc w0 blk off d' w' := by
  have S0 : Aside (SW enc w0 blk off d w) := S
  clear S
  obtain ⟨b, hbb⟩ : ∃ b, b = A + I + J := ⟨_, rfl⟩
  obtain ⟨m, hm⟩ : ∃ m, m = A + I := ⟨_, rfl⟩
  rw [← hbb, ← hm]
  rw [← hbb] at hb
  have e1 : IntKind.i64.wrap ((m : Int) - (A : Int)) = (I : Int) := by rw [IntKind.wrap_i64]; omega
  have e2 : IntKind.i64.wrap ((b : Int) - (m : Int)) = (J : Int) := by rw [IntKind.wrap_i64]; omega
  have HM : Hid (m = A + I) := hm
  have HBB : Hid (b = A + I + J) := hbb
  clear hm hbb
  go_enter Try.func95, Try.ntmps95
  go_wp2
  go_loopg [10, 11] (I + J) (fun kx s10 s11 wr => ∃ (i j A1 : Nat) (dk : Array α), s10 = .int .i64 i ∧ s11 = .int .i64 j ∧ 0 < i ∧ 0 < j ∧ A1 + i = m ∧ m + j ≤ b ∧ i + j ≤ kx ∧ dk.size = d.size ∧ Aside (SW enc w0 blk off dk wr) ∧ Hid (∀ d', Rot dk d' A1 m (m + j) → Rot d d' A m b))
  case atStart => exact ⟨I, J, A, d, rfl, rfl, hI, hJ, HM.out.symm, by rw [HBB.out, HM.out]; omega, by omega, rfl, S0, fun d' h => by rw [HBB.out, ← HM.out]; exact h⟩
  case round =>
    clear S0 e1 e2
    obtain ⟨i, j, A1, dk, rfl, rfl, hi, hj, hA1, hmj, hkx, hds, S1, hq⟩ := hrel
    have e1 : IntKind.i64.wrap ((m : Int) - (i : Int)) = (A1 : Int) := by rw [IntKind.wrap_i64]; omega
    by_cases hne : i = j
    · have hc := swapR_any fv cap A1 m i dk wr R (by omega) S1.out (by omega) (by omega) (by omega)
      rw [hds] at hc
      have HC := Lib.hid hc
      have hnz : ((i : Int) == (j : Int)) = true := by simp [hne]
      have hnz' : (i : Int) = (j : Int) := by omega
      clear hc
      subst hne
      go_wp2_with (go_at_call 96; refine HC.out.mono ?_; rintro e w' ⟨rfl, d', hd', S'⟩)
      go_end0
      refine ⟨rfl, d', hq.out d' ?_, S'⟩
      have hm' : m = A1 + i := by omega
      rw [hm'] at hd' ⊢
      exact Rot.done hd'
    · have hnz : ((i : Int) == (j : Int)) = false := by simp; omega
      by_cases hgt : j < i
      · have hgz : (j : Int) < (i : Int) := by omega
        have e3 : IntKind.i64.wrap ((i : Int) - (j : Int)) = ((i - j : Nat) : Int) := by rw [IntKind.wrap_i64]; omega
        have hc := swapR_any fv cap A1 m j dk wr R (by omega) S1.out (by omega) (by omega) (by omega)
        rw [hds] at hc
        have HC := Lib.hid hc
        have hm' : Hid (m = A1 + i) := (by omega : m = A1 + i)
        clear hc
        go_wp2_with (go_at_call 96; refine HC.out.mono ?_; rintro e w' ⟨rfl, d1, hd1, S'⟩; have S2 : Aside (SW enc w0 blk off d1 w') := S'; have HD : Hid (SwR dk d1 A1 m j) := hd1; clear S' hd1 HC)
        go_roundg (i - j + j)
        case measure => omega
        case rel =>
          refine ⟨i - j, j, A1 + j, d1, rfl, rfl, by omega, hj, by omega, hmj, by omega, by rw [HD.out.size]; exact hds, S2, fun d' hr => hq.out d' ?_⟩
          have hd1 := HD.out
          rw [hm'.out] at hr hd1 ⊢
          exact Rot.left hd1 hgt (by omega) hr
      · have hgz : ¬ (j : Int) < (i : Int) := by omega
        have e3 : IntKind.i64.wrap ((j : Int) - (i : Int)) = ((j - i : Nat) : Int) := by rw [IntKind.wrap_i64]; omega
        have e4 : IntKind.i64.wrap ((m : Int) + (j : Int)) = (m : Int) + (j : Int) := by rw [IntKind.wrap_i64]; omega
        have e5 : IntKind.i64.wrap ((m : Int) + (j : Int) - (i : Int)) = ((A1 + j : Nat) : Int) := by rw [IntKind.wrap_i64]; omega
        have hc := swapR_any fv cap A1 (A1 + j) i dk wr R (by omega) S1.out (by omega) (by omega) (by omega)
        rw [hds] at hc
        have HC := Lib.hid hc
        have hm' : Hid (m = A1 + i) := (by omega : m = A1 + i)
        clear hc
        go_wp2_with (go_at_call 96; refine HC.out.mono ?_; rintro e w' ⟨rfl, d1, hd1, S'⟩; have S2 : Aside (SW enc w0 blk off d1 w') := S'; have HD : Hid (SwR dk d1 A1 (A1 + j) i) := hd1; clear S' hd1 HC)
        go_roundg (i + (j - i))
        case measure => omega
        case rel =>
          refine ⟨i, j - i, A1, d1, rfl, rfl, hi, by omega, by omega, by omega, by omega, by rw [HD.out.size]; exact hds, S2, fun d' hr => hq.out d' ?_⟩
          have hd1 := HD.out
          rw [hm'.out] at hr ⊢
          rw [show A1 + i + (j - i) = A1 + j by omega] at hr
          exact Rot.right hd1 (by omega) (by omega) hr
end
end Go.Proofs.Ytpbkboandiigfaa
