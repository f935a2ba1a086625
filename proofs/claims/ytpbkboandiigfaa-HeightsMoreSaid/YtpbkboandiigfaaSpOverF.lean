/- Contract of spread.within: whether numbers are within bounds. Written by mk_SpW.py out of KBase. -/
/- Contract of spread.Over, and what the law's first example shows. -/
import Derived.Test.YtpbkboandiigfaaHBase
import Derived.Test.YtpbkboandiigfaaSpOver
namespace Go.Proofs.Ytpbkboandiigfaa
open Go.RowKit Go.Shelf
set_option linter.unusedVariables false
attribute [local go_sem] Oper.semAt_some
set_option maxHeartbeats 400000 in
theorem out_anyS (n lo hi : Int) (a1 a2 : Addr) (w : World) (h1 : w.cell? a1 = some (.int .i64 lo)) (h2 : w.cell? a2 = some (.int .i64 hi)) :
    Calls Try.prog 76 #[.int .i64 n, .pointer (some a1), .pointer (some a2)] w fun e w' => e = .returned (.bool (outB lo hi n)) ∧ w = w' := by
  by_cases hl : n < lo
  · have hb := Lib.hid (outB_lo (hi := hi) hl)
    go_enter Try.func76, Try.ntmps76
    go_wp2
    go_ret
    exact ⟨by rw [hb.out]; first | rfl | (simp; done) | (simp; omega), rfl⟩
  · by_cases hh : hi < n
    · have hb := Lib.hid (outB_hi (lo := lo) hh)
      go_enter Try.func76, Try.ntmps76
      go_wp2
      go_ret
      exact ⟨by rw [hb.out]; first | rfl | (simp; done) | (simp; omega), rfl⟩
    · have hb := Lib.hid (outB_in (lo := lo) (hi := hi) (n := n) (by omega) (by omega))
      go_enter Try.func76, Try.ntmps76
      go_wp2
      go_ret
      exact ⟨by rw [hb.out]; first | rfl | (simp; done) | (simp; omega), rfl⟩

set_option maxHeartbeats 400000 in
theorem idx_intsS (b off cap : Nat) (zs : List Int) (lo hi : Int) (a1 a2 : Addr) (w : World) (hm : zs.length ≤ 9223372036854775807) (h1 : w.cell? a1 = some (.int .i64 lo)) (h2 : w.cell? a2 = some (.int .i64 hi))
    (hc : ∀ j, j < zs.length → w.cell? ⟨b, off + j, none⟩ = some (.int .i64 (zs[j]?.getD 0))) :
    Calls Try.prog 67 #[.slice (some ⟨b, off, none⟩) zs.length cap, .func (.func 76) #[] #[.pointer (some a1), .pointer (some a2)]] w (IdxPost (zs.any (outB lo hi)) w) := by
  have eg : ∀ args w, (callFunc 76 args).run Try.prog w = .ok (.enter 76 args) w := enters_of Try.func76 (by kernel_rfl) rfl
  have hout := fun n X => out_anyS n lo hi a1 a2 X
  go_enter Try.func67, Try.ntmps67
  go_wp2
  go_loopg [5, 8] zs.length (fun gg _ s8 wr => ∃ kk : Nat, kk ≤ zs.length ∧ zs.length - kk ≤ gg ∧ s8 = .int .i64 kk ∧ w = wr ∧ Hid ((zs.take kk).any (outB lo hi) = false))
  case atStart => exact ⟨0, Nat.zero_le _, by omega, rfl, rfl, by simp [Lib.hid]⟩
  case round =>
    obtain ⟨kk, hkk, hg, rfl, rfl, A⟩ := hrel
    by_cases hlt : kk < zs.length
    · have hcell := hc kk hlt
      have hx : zs[kk]? = some (zs[kk]?.getD 0) := by simp [hlt]
      obtain ⟨y, hy⟩ : ∃ y, zs[kk]?.getD 0 = y := ⟨_, rfl⟩
      rw [hy] at hcell hx
      have HX := Lib.hid hx
      have HC := Lib.hid (hout y w h1 h2)
      clear hy hc hx hout
      cases hq : outB lo hi y with
      | true =>
        have R := Lib.hid (any_take_hit _ zs kk y hlt HX.out hq)
        have HC' := Lib.hid (hq ▸ HC.out)
        clear HC hq
        go_wp2_with (go_at_fn 76; refine HC'.out.mono ?_; rintro e w' ⟨rfl, rfl⟩)
        go_ret
        exact ⟨(kk : Int), rfl, by rw [R.out]; simp, rfl⟩
      | false =>
        have R := Lib.hid (any_take_step _ zs kk y hlt HX.out hq A.out)
        have HC' := Lib.hid (hq ▸ HC.out)
        clear HC hq
        go_wp2_with (go_at_fn 76; refine HC'.out.mono ?_; rintro e w' ⟨rfl, rfl⟩)
        go_roundg (zs.length - (kk + 1))
        case measure => omega
        case rel => exact ⟨kk + 1, by omega, by omega, by go_num, rfl, R⟩
    · have R := Lib.hid (show zs.any (outB lo hi) = false by have := A.out; rwa [List.take_of_length_le (by omega)] at this)
      go_wp2
      go_ret
      exact ⟨-1, rfl, by rw [R.out]; rfl, rfl⟩
set_option maxHeartbeats 400000 in
theorem contains_intsS (sv : Value) (zs : List Int) (lo hi : Int) (a1 a2 : Addr) (w : World) (hI : Ints w sv zs) (h1 : w.cell? a1 = some (.int .i64 lo)) (h2 : w.cell? a2 = some (.int .i64 hi)) :
    Calls Try.prog 48 #[sv, .func (.func 76) #[] #[.pointer (some a1), .pointer (some a2)]] w fun e w' => e = .returned (.bool (zs.any (outB lo hi))) ∧ w = w' := by
  have hcall : Calls Try.prog 67 #[sv, .func (.func 76) #[] #[.pointer (some a1), .pointer (some a2)]] w (IdxPost (zs.any (outB lo hi)) w) := by
    obtain ⟨hm, ⟨a, cap, rfl, rfl⟩ | ⟨b, off, cap, rfl, hc⟩⟩ := hI
    · exact idx_ints_none _ _ _ _
    · exact idx_intsS b off cap zs lo hi a1 a2 w hm h1 h2 hc
  have HC := Lib.hid hcall
  clear hcall h1 h2 hI
  go_enter Try.func48, Try.ntmps48
  go_wp2_with fail
  refine HC.out.mono ?_
  rintro e w' ⟨i, rfl, hi, rfl⟩
  have HI := Lib.hid hi
  clear hi
  go_wp2
  go_ret
  exact ⟨by rw [← HI.out]; first | rfl | (simp; done), rfl⟩
set_option maxHeartbeats 400000 in
theorem within_anyS (lo hi : Int) (sv : Value) (zs : List Int) (w : World) (hI : Ints w sv zs) :
    Calls Try.prog 60 #[.int .i64 lo, .int .i64 hi, sv] w fun e w' => e = .returned (.bool (!zs.any (outB lo hi))) ∧ Below w.heap.size w w' := by
  have hI' : Hid (Ints ((w.alloc (.cells #[.int .i64 lo] 2)).alloc (.cells #[.int .i64 hi] 2)) sv zs) := by
    have := hI.below (((Below.refl w.heap.size w).alloc (Nat.le_refl _) (.cells #[.int .i64 lo] 2)).alloc (by simp) (.cells #[.int .i64 hi] 2))
    exact Lib.hid this
  clear hI
  go_enter Try.func60, Try.ntmps60
  go_wp2_with fail
  refine (contains_intsS sv zs lo hi _ _ _ hI'.out ?_ ?_).mono ?_
  · simp
  · simp
  rintro e w' ⟨rfl, rfl⟩
  go_wp2
  go_ret
  exact ⟨rfl, ((Below.refl _ _).alloc (Nat.le_refl _) _).alloc (by simp) _⟩

end Go.Proofs.Ytpbkboandiigfaa

namespace Go.Proofs.Ytpbkboandiigfaa
open Go.RowKit Go.Shelf
set_option linter.unusedVariables false
set_option linter.unusedSimpArgs false
attribute [local go_sem] Oper.semAt_some

/-- may a length be distributed? -/
def overB (n : Int) (l ws : List Int) : Bool := (decide (1 ≤ l.length ∧ l.length ≤ 10000 ∧ ws.length = l.length)) && ((!([n].any (outB 0 1125899906842623))) && ((!(l.any (outB 0 1125899906842623))) && (!(ws.any (outB 0 1125899906842623)))))
theorem any_out (l : List Int) : (!(l.any (outB 0 1125899906842623))) = true ↔ OkW l := by
  rw [Bool.not_eq_true', List.any_eq_false]
  constructor
  · intro h z hz
    have := h z hz
    rw [Bool.not_eq_true] at this
    exact outB_false this
  · intro h z hz
    rw [Bool.not_eq_true]
    exact outB_in (h z hz).1 (h z hz).2
theorem overB_iff (n : Int) (l ws : List Int) : overB n l ws = true ↔ OverOk n l ws := by
  unfold overB
  rw [Bool.and_eq_true, Bool.and_eq_true, Bool.and_eq_true, any_out, any_out, any_out, decide_eq_true_eq]
  constructor
  · rintro ⟨⟨a, b, c⟩, d, e, f⟩
    have := d n (by simp)
    exact ⟨this.1, this.2, a, b, c, e, f⟩
  · rintro ⟨a, b, c, d, e, f, g⟩
    exact ⟨⟨c, d, e⟩, fun z hz => by obtain rfl := List.mem_singleton.1 hz; exact ⟨a, b⟩, f, g⟩
/-- what Over answers -/
def OverPost (n : Int) (l ws : List Int) (k : Nat) (W : World) (e : Ending) (X : World) : Prop :=
  (overB n l ws = true ∧ ∃ g cap sp, e = .returned (.tuple #[.slice (some ⟨g, 0, none⟩) k cap, .int .i64 0]) ∧ IRow X g (overP n l ws) sp ∧ W.heap.size ≤ g ∧ k ≤ cap ∧ cap ≤ 9223372036854775807 ∧ Below W.heap.size W X) ∨
  (overB n l ws = false ∧ e = .returned (.tuple #[.slice none 0 0, .int .i64 130]) ∧ Below W.heap.size W X)
set_option maxRecDepth 100000 in
set_option maxHeartbeats 2000000 in
theorem overF_any (a0 a1 : Option Addr) (k0 k1 c0 c1 : Nat) (n : Int) (l ws : List Int) (W : World) (h0 : l.length = k0) (h1 : ws.length = k1) (hl : Nums .i64 W (.slice a0 k0 c0) l) (hw : Nums .i64 W (.slice a1 k1 c1) ws) :
    Calls Try.prog 42 #[.int .i64 n, .slice a0 k0 c0, .slice a1 k1 c1] W (OverPost n l ws k0 W) := by
  have b0 : k0 ≤ 9223372036854775807 := by have := hl.1; omega
  have b1 : k1 ≤ 9223372036854775807 := by have := hw.1; omega
  by_cases hk : 1 ≤ k0 ∧ k0 ≤ 10000 ∧ k1 = k0
  · obtain ⟨k1', k2, rfl⟩ := hk
    have HE : Hid (overB n l ws = ((!([n].any (outB 0 1125899906842623))) && ((!(l.any (outB 0 1125899906842623))) && (!(ws.any (outB 0 1125899906842623)))))) := Lib.hid (by
      unfold overB; rw [decide_eq_true (by omega), Bool.true_and])
    have HO := Lib.hid (fun X (hX : Below W.heap.size W X) (hb : overB n l ws = true) => over_any (.slice a1 k1 c1) a0 k1 c0 n l ws X h0 (nums_below hl hX) (nums_below hw hX) ((overB_iff _ _ _).1 hb))
    have HW1 := Lib.hid (fun X sv (hI : Ints X sv [n]) => within_anyS 0 1125899906842623 sv [n] X hI)
    have HW2 := Lib.hid (fun X (hX : Below W.heap.size W X) => within_anyS 0 1125899906842623 (.slice a0 k1 c0) l X (nums_ints (nums_below hl hX)))
    have HW3 := Lib.hid (fun X (hX : Below W.heap.size W X) => within_anyS 0 1125899906842623 (.slice a1 k1 c1) ws X (nums_ints (nums_below hw hX)))
    generalize (!([n].any (outB 0 1125899906842623))) = q1 at HE HW1
    generalize (!(l.any (outB 0 1125899906842623))) = q2 at HE HW2
    generalize (!(ws.any (outB 0 1125899906842623))) = q3 at HE HW3
    unfold OverPost
    generalize overB n l ws = qb at HE HO ⊢
    generalize overP n l ws = op at HO ⊢
    clear hl hw h0 h1 b0 b1
    go_enter Try.func42, Try.ntmps42
    go_wp2_with fail
    refine (HW1.out _ _ (Ints.whole (zs := [n]) (n := 1) (whole_new W [.int .i64 n] 2 _ rfl) rfl (by omega))).mono ?_
    rintro e w1 ⟨rfl, hb1⟩
    have B1 := Lib.hid (((Below.refl _ W).alloc (Nat.le_refl _) _).trans (hb1.mono (by simp)))
    clear hb1 HW1
    cases q1 with
    | false =>
      go_wp2
      go_ret2
      exact .inr ⟨by rw [HE.out]; rfl, rfl, B1.out⟩
    | true =>
      go_wp2_with fail
      refine (HW2.out _ B1.out).mono ?_
      rintro e w2 ⟨rfl, hb2⟩
      have B2 := Lib.hid (B1.out.trans (hb2.mono B1.out.size))
      clear hb2 HW2 B1
      cases q2 with
      | false =>
        go_wp2
        go_ret2
        exact .inr ⟨by rw [HE.out]; rfl, rfl, B2.out⟩
      | true =>
        go_wp2_with fail
        refine (HW3.out _ B2.out).mono ?_
        rintro e w3 ⟨rfl, hb3⟩
        have B3 := Lib.hid (B2.out.trans (hb3.mono B2.out.size))
        clear hb3 HW3 B2
        cases q3 with
        | false =>
          go_wp2
          go_ret2
          exact .inr ⟨by rw [HE.out]; rfl, rfl, B3.out⟩
        | true =>
          have HO3 := Lib.hid (HO.out _ B3.out (by rw [HE.out]; rfl))
          clear HO
          go_wp2_with fail
          refine HO3.out.mono ?_
          rintro e w4 ⟨g, cap, sp, rfl, hir, hg, hk, hc, hb4⟩
          have HI := Lib.hid hir
          have B4 := Lib.hid (B3.out.trans (hb4.mono B3.out.size))
          have HG : Hid (W.heap.size ≤ g ∧ k1 ≤ cap ∧ cap ≤ 9223372036854775807) := Lib.hid ⟨Nat.le_trans B3.out.size hg, hk, hc⟩
          clear hir hb4 hg hk hc HO3 B3
          go_wp2
          go_ret2
          exact .inl ⟨by rw [HE.out]; rfl, g, cap, sp, rfl, HI.out, HG.out.1, HG.out.2.1, HG.out.2.2, B4.out⟩
  · have HE : Hid (overB n l ws = false) := Lib.hid (by unfold overB; rw [decide_eq_false (by omega), Bool.false_and])
    clear hl hw h0 h1
    by_cases e1 : k0 < 1
    · obtain rfl : k0 = 0 := by omega
      go_enter Try.func42, Try.ntmps42
      go_wp2
      go_ret2
      exact .inr ⟨HE.out, rfl, Below.refl _ _⟩
    · by_cases e2 : 10000 < k0
      · have f1 : ¬ ((k0 : Int) < 1) := by omega
        have f2 : ((10000 : Int) < (k0 : Int)) := by omega
        clear hk e1
        go_enter Try.func42, Try.ntmps42
        go_wp2
        go_ret2
        exact .inr ⟨HE.out, rfl, Below.refl _ _⟩
      · have f1 : ¬ ((k0 : Int) < 1) := by omega
        have f2 : ¬ ((10000 : Int) < (k0 : Int)) := by omega
        have f3 : ((k1 : Int) == (k0 : Int)) = false := by simp; omega
        have f4 : ¬ ((k1 : Int) = (k0 : Int)) := by omega
        have f5 : ¬ (k1 = k0) := by omega
        clear hk e1 e2
        go_enter Try.func42, Try.ntmps42
        go_wp2
        go_ret2
        exact .inr ⟨HE.out, rfl, Below.refl _ _⟩
end Go.Proofs.Ytpbkboandiigfaa
