/- Contracts of edges.Right, of edges.lies, and of the document's own Right. -/
import Derived.Test.YtlnfgmmgkmhehaaEBase
import Derived.Test.YtlnfgmmgkmhehaaLnPlain
namespace Go.Proofs.Ytlnfgmmgkmhehaa
open Go.RowKit Go.Shelf
set_option linter.unusedVariables false

/-- are these bands, and a gap? -/
def okB (g : Int) (bs : List Int) : Bool := decide (bs.length ≤ 10000) && (!([g].any (outB 0 1073741824)) && !(bs.any (outB 0 1073741824)))
theorem okB_iff {g : Int} {bs : List Int} : okB g bs = true ↔ okW g bs := by
  unfold okB okW
  simp only [Bool.and_eq_true, decide_eq_true_eq, Bool.not_eq_true', List.any_eq_false]
  constructor
  · rintro ⟨h1, h2, h3⟩
    refine ⟨?_, h1, fun x hx => ?_⟩
    · have := h2 g (by simp); exact outB_false (by simpa using this)
    · have := h3 x hx; exact outB_false (by simpa using this)
  · rintro ⟨h1, h2, h3⟩
    refine ⟨h2, fun x hx => ?_, fun x hx => ?_⟩
    · obtain rfl : x = g := by simpa using hx
      rw [outB_in h1.1 h1.2]; simp
    · have := h3 x hx
      rw [outB_in this.1 this.2]; simp
set_option maxHeartbeats 400000 in
theorem eright_any (g : Int) (p : Option Addr) (m c : Nat) (bs : List Int) (w : World) (hI : Ints w (.slice p m c) bs) (hm : bs.length = m) :
    Calls Try.prog 25 #[.slice p m c, .int .i64 g] w fun e w' => e = .returned (.bool (okB g bs)) ∧ Below w.heap.size w w' := by
  by_cases hl : m ≤ 10000
  · cases h1 : [g].any (outB 0 1073741824) with
    | true =>
      have hb : Hid (okB g bs = false) := Lib.hid (by simp only [okB, h1]; simp)
      have HW := Lib.hid (fun sv X hI => h1 ▸ ewithin_any 0 1073741824 sv [g] X hI)
      clear h1 hI
      go_enter Try.func25, Try.ntmps25
      go_wp2_with fail
      refine (HW.out _ _ (Ints.whole (t := 2) (whole_new _ _ _ _ (by simp)) rfl (by simp))).mono ?_
      rintro e w' ⟨rfl, hb1⟩
      have HB := Lib.hid hb1
      clear hb1
      go_wp2
      go_ret
      exact ⟨by rw [hb.out] <;> rfl, ((Below.refl _ _).alloc (Nat.le_refl _) _).trans (HB.out.mono (by simp))⟩
    | false =>
      have hb : Hid (okB g bs = !(bs.any (outB 0 1073741824))) := Lib.hid (by
        have : decide (bs.length ≤ 10000) = true := by simp; omega
        simp only [okB, h1, this]; simp)
      have HW := Lib.hid (fun sv X hI => h1 ▸ ewithin_any 0 1073741824 sv [g] X hI)
      have HV := Lib.hid (fun sv X hI => ewithin_any 0 1073741824 sv bs X hI)
      have HI := Lib.hid hI
      clear h1 hI
      go_enter Try.func25, Try.ntmps25
      go_wp2_with fail
      refine (HW.out _ _ (Ints.whole (t := 2) (whole_new _ _ _ _ (by simp)) rfl (by simp))).mono ?_
      rintro e w1 ⟨rfl, hb1⟩
      have HB := Lib.hid (((Below.refl _ _).alloc (Nat.le_refl _) _).trans (hb1.mono (by simp)))
      clear hb1
      go_wp2_with fail
      refine (HV.out _ _ (HI.out.below HB.out)).mono ?_
      rintro e w2 ⟨rfl, hb2⟩
      have HB2 := Lib.hid (HB.out.trans (hb2.mono HB.out.size))
      clear hb2
      go_wp2
      go_ret
      exact ⟨by rw [hb.out] <;> rfl, HB2.out⟩
  · have hb : Hid (okB g bs = false) := Lib.hid (by
      have : decide (bs.length ≤ 10000) = false := by simp; omega
      simp only [okB, this]; simp)
    clear hI
    go_enter Try.func25, Try.ntmps25
    go_wp2
    go_ret
    exact ⟨by rw [hb.out] <;> rfl, Below.refl _ _⟩
/-- does a span lie within so many? -/
def liesB (fr n all : Int) : Bool := decide (0 ≤ fr) && (decide (fr ≤ all) && (decide (0 ≤ n) && decide (n ≤ all - fr)))
set_option maxHeartbeats 400000 in
theorem lies_any (fr n all : Int) (w : World) (h0 : 0 ≤ all) (h1 : all ≤ 9223372036854775807) (h2 : fr ≤ 9223372036854775807) (h3 : -9223372036854775808 ≤ fr) :
    Calls Try.prog 27 #[.int .i64 fr, .int .i64 n, .int .i64 all] w fun e w' => e = .returned (.bool (liesB fr n all)) ∧ w = w' := by
  by_cases k1 : 0 ≤ fr
  · by_cases k2 : fr ≤ all
    · by_cases k3 : 0 ≤ n
      · have hb : Hid (liesB fr n all = decide (n ≤ all - fr)) := Lib.hid (by simp [liesB, k1, k2, k3])
        go_enter Try.func27, Try.ntmps27
        go_wp2
        go_ret
        exact ⟨by rw [hb.out] <;> first | rfl | (simp; done) | (simp; omega), rfl⟩
      · have hb : Hid (liesB fr n all = false) := Lib.hid (by simp [liesB, k3])
        go_enter Try.func27, Try.ntmps27
        go_wp2
        go_ret
        exact ⟨by rw [hb.out] <;> rfl, rfl⟩
    · have hb : Hid (liesB fr n all = false) := Lib.hid (by simp [liesB, k2])
      go_enter Try.func27, Try.ntmps27
      go_wp2
      go_ret
      exact ⟨by rw [hb.out] <;> rfl, rfl⟩
  · have hb : Hid (liesB fr n all = false) := Lib.hid (by simp [liesB, k1])
    go_enter Try.func27, Try.ntmps27
    go_wp2
    go_ret
    exact ⟨by rw [hb.out] <;> rfl, rfl⟩
end Go.Proofs.Ytlnfgmmgkmhehaa
