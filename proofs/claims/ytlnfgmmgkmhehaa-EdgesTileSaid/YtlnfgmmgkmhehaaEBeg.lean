/- Contracts of edges.Begins and edges.Extent. -/
import Derived.Test.YtlnfgmmgkmhehaaEFirst
namespace Go.Proofs.Ytlnfgmmgkmhehaa
open Go.RowKit Go.Shelf
set_option linter.unusedVariables false
attribute [local go_sem] Oper.semAt_some

theorem begin_good (g : Int) (p : Option Addr) (m c : Nat) (bs : List Int) (w : World) (hL : LowI w.heap.size w (.slice p m c) bs) (hm : bs.length = m) (hok : okW g bs) :
    Calls Try.prog 9 #[.slice p m c, .int .i64 g] w fun e W' => (∃ b, e = .returned (.tuple #[.slice (some ⟨b, 0, none⟩) m m, .int .i64 0]) ∧ w.heap.size ≤ b ∧ Whole W' b 2 ((begsW g bs m).map (Value.int .i64))) ∧ Below w.heap.size w W' := by
  have HRI := Lib.hid (by have := eright_any g p m c bs w hL.ints hm; rw [okB_iff.2 hok] at this; exact this)
  have HF := Lib.hid (fun X hL => first_any g p m c m bs X hL hm hok (by omega))
  have HL := Lib.hid hL
  clear hL hok hm
  go_enter Try.func9, Try.ntmps9
  go_wp2_with fail
  refine HRI.out.mono ?_
  rintro e w1 ⟨rfl, hb1⟩
  have HB1 := Lib.hid hb1
  have HL1 := Lib.hid ((HL.out.keep (Y := w1) (fun k hk => hb1.block k hk)).mono hb1.size)
  clear hb1 HRI
  go_wp2_with fail
  refine (HF.out _ HL1.out).mono ?_
  rintro e w2 ⟨rfl, hw2, hb2⟩
  have HB2 := Lib.hid hb2
  have HW2 := Lib.hid hw2
  clear hb2 HF hw2
  go_wp2
  go_ret2
  exact ⟨⟨_, rfl, by have := HB1.out.size; omega, HW2.out⟩, HB1.out.trans (HB2.out.mono HB1.out.size)⟩
theorem begin_bad (g : Int) (p : Option Addr) (m c : Nat) (bs : List Int) (w : World) (hI : Ints w (.slice p m c) bs) (hm : bs.length = m) (hok : okB g bs = false) :
    Calls Try.prog 9 #[.slice p m c, .int .i64 g] w fun e W' => e = .returned (.tuple #[.slice none 0 0, .int .i64 100]) ∧ Below w.heap.size w W' := by
  have HRI := Lib.hid (by have := eright_any g p m c bs w hI hm; rw [hok] at this; exact this)
  clear hI hok hm
  go_enter Try.func9, Try.ntmps9
  go_wp2_with fail
  refine HRI.out.mono ?_
  rintro e w1 ⟨rfl, hb1⟩
  have HB1 := Lib.hid hb1
  clear hb1 HRI
  go_wp2
  go_ret2
  exact ⟨rfl, HB1.out⟩
/-- how far all bands reach, with their gaps -/
def extW (g : Int) (bs : List Int) : Int := if bs.length = 0 then 0 else begW g bs bs.length
theorem extW_bd {g : Int} {bs : List Int} (h : okW g bs) : 0 ≤ extW g bs ∧ extW g bs ≤ 21476000000000 := by
  unfold extW
  split
  · omega
  · exact begW_bd h (Nat.le_refl _)
def extV (g : Int) (bs : List Int) : Int × Int := if okB g bs = true then (extW g bs, 0) else (0, 100)
set_option maxHeartbeats 1000000 in
theorem extent_any (g : Int) (p : Option Addr) (m c : Nat) (bs : List Int) (w : World) (hL : LowI w.heap.size w (.slice p m c) bs) (hm : bs.length = m) (hmc : m ≤ c) :
    Calls Try.prog 7 #[.slice p m c, .int .i64 g] w fun e W' => e = .returned (.tuple #[.int .i64 (extV g bs).1, .int .i64 (extV g bs).2]) ∧ Below w.heap.size w W' := by
  have hs := span_any g p m c 0 m bs w hL hm hmc (by omega) (by omega)
  unfold extV
  cases hok : okB g bs with
  | false =>
    rw [show spanV g bs 0 m = (0, 100) by unfold spanV; rw [hok]; simp] at hs
    dsimp only at hs
    have HS := Lib.hid hs
    clear hs hL hm hmc hok
    go_enter Try.func7, Try.ntmps7
    go_wp2_with fail
    refine HS.out.mono ?_
    rintro e w1 ⟨rfl, hb1⟩
    have HB1 := Lib.hid hb1
    clear hb1 HS
    go_wp2
    go_ret2
    exact ⟨rfl, HB1.out⟩
  | true =>
    have hw := okB_iff.1 hok
    by_cases h0 : m = 0
    · subst h0
      rw [show spanV g bs 0 (0 : Nat) = (0, 0) by unfold spanV; rw [hok, hm]; simp [liesB, wideW_self]] at hs
      have hv : Hid (extW g bs = 0) := Lib.hid (by unfold extW; rw [if_pos hm])
      dsimp only at hs
      have HS := Lib.hid hs
      clear hs hL hm hmc hok hw
      go_enter Try.func7, Try.ntmps7
      go_wp2_with fail
      refine HS.out.mono ?_
      rintro e w1 ⟨rfl, hb1⟩
      have HB1 := Lib.hid hb1
      clear hb1 HS
      go_wp2
      go_ret2
      exact ⟨by rw [hv.out] <;> rfl, HB1.out⟩
    · rw [show spanV g bs 0 m = (wideW g bs 0 m, 0) by unfold spanV; rw [hok, hm]; simp [liesB]] at hs
      dsimp only at hs
      have hbd := wideW_bd hw (s := 0) (e := m) (by omega)
      have hg := hw.1
      have hv : addS [g, wideW g bs 0 m, g] = extW g bs := by
        unfold extW begW
        have e1 := wideW_lt (b := g) (ws := bs) (s := 0) (e := m) (by omega)
        have e2 : preW g 0 bs = 0 := by cases bs <;> rfl
        rw [if_neg (by omega), hm]
        rw [addS3 _ _ _ (by omega) (by omega) (by omega) (by omega) (by omega) (by omega)]
        omega
      have HV := Lib.hid hv
      generalize wideW g bs 0 m = u at hs hbd HV hv
      have HI64 : Hid (In64 [g, u, g]) := Lib.hid fun j hj => by
        simp only [List.length_cons, List.length_nil] at hj
        rcases j with _ | _ | _ | j <;> simp <;> omega
      have hm0 : ((m : Int) == 0) = false := by simp; omega
      have HS := Lib.hid hs
      clear hs hL hm hmc hok hw hv h0
      go_enter Try.func7, Try.ntmps7
      go_wp2_with fail
      refine HS.out.mono ?_
      rintro e w1 ⟨rfl, hb1⟩
      have HB1 := Lib.hid hb1
      clear hb1 HS
      go_wp2_with fail
      refine (add_any _ [g, u, g] _ ?_ HI64.out).mono ?_
      · refine ⟨by simp, .inr ⟨w1.heap.size, 0, 3, rfl, by simp, by omega, fun j hj => ?_⟩⟩
        have := (whole_new w1 [.int .i64 g, .int .i64 u, .int .i64 g] 2 _ rfl).cellAt j
        rw [Nat.zero_add, this]
        simp only [List.length_cons, List.length_nil] at hj
        rcases j with _ | _ | _ | j <;> first | rfl | omega
      rintro e w2 ⟨rfl, rfl⟩
      go_wp2
      go_ret2
      exact ⟨by rw [HV.out] <;> rfl, HB1.out.alloc HB1.out.size _⟩
end Go.Proofs.Ytlnfgmmgkmhehaa
