/- The iterator over the slots of a place (grid.slots), and over all slots of a grid (grid.whole). -/
import Derived.Test.YtcgnldcdcbnofaaGMap
import Derived.Test.YtcgnldcdcbnofaaGTake
namespace Go.Proofs.Ytcgnldcdcbnofaa
open Go.RowKit Go.Shelf
set_option linter.unusedVariables false
attribute [local go_sem] Oper.semAt_some

def FewS (p : Pl) : Prop := p.r ≤ 200000 ∧ p.c ≤ 200000 ∧ p.h ≤ 200000 ∧ p.w ≤ 200000
/-- the slots of a place from a row on, and of a row from a column on -/
def rowS (p : Pl) (r c n : Nat) : List (Nat × Nat) := (List.range' c n).map fun c => (p.r + r, p.c + c)
def rowsS (p : Pl) (r n : Nat) : List (Nat × Nat) := (List.range' r n).flatMap fun r => rowS p r 0 p.w
def slotsL (p : Pl) : List (Nat × Nat) := rowsS p 0 p.h
theorem rowS_step (p : Pl) (r c n : Nat) : rowS p r c (n + 1) = (p.r + r, p.c + c) :: rowS p r (c + 1) n := by unfold rowS; rw [List.range'_succ]; rfl
theorem rowsS_step (p : Pl) (r n : Nat) : rowsS p r (n + 1) = rowS p r 0 p.w ++ rowsS p (r + 1) n := by unfold rowsS; rw [List.range'_succ]; rfl
def nxtSl (p : Pl) (pre : List (Nat × Nat)) (x : Nat × Nat) : Prop := ∃ rest, slotsL p = pre ++ x :: rest
def encSl (x : Nat × Nat) : Array Value := #[.agg #[.int .i64 (x.1 : Int), .int .i64 (x.2 : Int)]]
def SlotMem (gb : Nat) (p : Pl) (X : World) : Prop := Whole X gb 52 p.cells
set_option maxRecDepth 100000 in
set_option maxHeartbeats 2000000 in
theorem gslots_in (n : Nat) (hn : 1 ≤ n) (l gb : Nat) (p : Pl) (hp : FewS p) (J Jx : List (Nat × Nat) → World → Prop)
    (hY : ∀ pre x W, J pre W → nxtSl p pre x → YieldAt Fence.wide (n - 1) Try.prog l (encSl x) W fun e W' =>
      (e = .returned (.bool true) ∧ J (pre ++ [x]) W' ∧ KeepG (SlotMem gb p) W W') ∨ (e = .returned (.bool false) ∧ Jx (pre ++ [x]) W'))
    (W : World) (hR : SlotMem gb p W) (h0 : J [] W) :
    CallsIn Fence.wide n Try.prog 58 #[.func (.yield l) #[] #[], .pointer (some ⟨gb, 0, none⟩)] W fun e W' => (∃ v, e = .returned v) ∧
      ((∃ ys, ys = slotsL p ∧ J ys W') ∨ (∃ pre, True ∧ Jx pre W')) := by
  refine callsIn_of_wp Try.func58 rfl trivial ?_ rfl
  simp only [Try.ntmps58, List.size_toArray, List.length_cons, List.length_nil, Nat.reduceAdd, Nat.reduceSub, Array.replicate_succ, Array.replicate_zero, List.push_toArray, List.append_toArray, List.nil_append, List.cons_append]
  obtain ⟨pn, pr, pc, ph, pw⟩ := p
  obtain ⟨f1, f2, f3, f4⟩ := hp
  dsimp only at f1 f2 f3 f4
  have HC : Hid (∀ X, SlotMem gb ⟨pn, pr, pc, ph, pw⟩ X → gb < X.heap.size ∧ X.cell? ⟨gb, 1, none⟩ = some (.int .i64 (pr : Int)) ∧ X.cell? ⟨gb, 2, none⟩ = some (.int .i64 (pc : Int)) ∧ X.cell? ⟨gb, 3, none⟩ = some (.int .i64 (ph : Int)) ∧ X.cell? ⟨gb, 4, none⟩ = some (.int .i64 (pw : Int))) := Lib.hid fun X h =>
    ⟨h.lt, h.cellAt 1, h.cellAt 2, h.cellAt 3, h.cellAt 4⟩
  have HY := Lib.hid hY
  have HR0 := Lib.hid hR
  have H0 := Lib.hid h0
  obtain ⟨lb, -, -, a3, -⟩ := HC.out W hR
  clear hY h0 hR
  gi_wp2
  gi_loopw [7] (fun s7 X => ∃ (r : Nat) (pre : List (Nat × Nat)), r ≤ ph ∧ s7 = .int .i64 r ∧ Hid (slotsL ⟨pn, pr, pc, ph, pw⟩ = pre ++ rowsS ⟨pn, pr, pc, ph, pw⟩ r (ph - r)) ∧ Hid (J pre X) ∧ Hid (SlotMem gb ⟨pn, pr, pc, ph, pw⟩ X)) (fun s7 _ => ph - (intOf s7).toNat)
  case atStart => exact ⟨0, [], Nat.zero_le _, rfl, Lib.hid (by simp [slotsL]), H0, HR0⟩
  case round =>
    obtain ⟨r, pre, hr, rfl, HE, HJ, HR⟩ := hrel
    clear lb a3
    obtain ⟨lb, a1, a2, a3, a4⟩ := HC.out wr HR.out
    by_cases hlt : r < ph
    · have HE2 : Hid (slotsL ⟨pn, pr, pc, ph, pw⟩ = pre ++ (rowS ⟨pn, pr, pc, ph, pw⟩ r 0 (pw - 0) ++ rowsS ⟨pn, pr, pc, ph, pw⟩ (r + 1) (ph - (r + 1)))) := Lib.hid (by
        have := HE.out
        rw [show ph - r = (ph - (r + 1)) + 1 by omega, rowsS_step] at this
        exact this)
      clear HE
      gi_wp2
      gi_loopw [12] (fun s12 X => ∃ (c : Nat) (pre : List (Nat × Nat)), c ≤ pw ∧ s12 = .int .i64 c ∧ Hid (slotsL ⟨pn, pr, pc, ph, pw⟩ = pre ++ (rowS ⟨pn, pr, pc, ph, pw⟩ r c (pw - c) ++ rowsS ⟨pn, pr, pc, ph, pw⟩ (r + 1) (ph - (r + 1)))) ∧ Hid (J pre X) ∧ Hid (SlotMem gb ⟨pn, pr, pc, ph, pw⟩ X)) (fun s12 _ => pw - (intOf s12).toNat)
      case atStart => exact ⟨0, pre, Nat.zero_le _, rfl, HE2, HJ, HR⟩
      case round =>
        clear HE2 HJ HR lb a1 a2 a3 a4
        obtain ⟨c, pre, hc, rfl, HE, HJ, HR⟩ := hrel
        obtain ⟨lb, a1, a2, a3, a4⟩ := HC.out wr HR.out
        by_cases hlc : c < pw
        · have hE3 := HE.out
          rw [show pw - c = (pw - (c + 1)) + 1 by omega, rowS_step] at hE3
          obtain ⟨fn, tmps, assign, body, hy, hRR⟩ := HY.out pre (pr + r, pc + c) wr HJ.out ⟨_, hE3⟩
          dsimp only [encSl] at hy
          rw [show ((pr + r : Nat) : Int) = (pr : Int) + (r : Int) by omega, show ((pc + c : Nat) : Int) = (pc : Int) + (c : Int) by omega] at hy
          have HRn := Lib.hid hRR
          have HE3 := Lib.hid hE3
          clear hRR hE3 HE HJ
          gi_wp2
          refine HRn.out.mono ?_
          rintro e W3 (⟨rfl, hJ3, hk3⟩ | ⟨rfl, hJx3⟩)
          · have H3 := Lib.hid hJ3
            have K3 := Lib.hid (hk3.2 HR.out)
            clear hJ3 hk3 HRn hy HR
            gi_wp2
            go_roundw
            case rel => exact ⟨c + 1, pre ++ [(pr + r, pc + c)], by omega, by go_num, Lib.hid (by rw [HE3.out]; simp), H3, K3⟩
            case measure => simp [intOf]; omega
          · have H3 := Lib.hid hJx3
            clear hJx3 HRn hy
            gi_wp2
            exact bodyPost_ret (v := .tuple #[]) (results_none rfl _ _ _) rfl ⟨⟨_, rfl⟩, .inr ⟨_, trivial, H3.out⟩⟩
        · have HE2 : Hid (slotsL ⟨pn, pr, pc, ph, pw⟩ = pre ++ rowsS ⟨pn, pr, pc, ph, pw⟩ (r + 1) (ph - (r + 1))) := Lib.hid (by
            have := HE.out
            rw [show pw - c = 0 by omega] at this
            exact this)
          clear HE
          gi_wp2
          go_roundw
          case rel => exact ⟨r + 1, pre, by omega, by go_num, HE2, HJ, HR⟩
          case measure => simp [intOf]; omega
    · have HE2 : Hid (pre = slotsL ⟨pn, pr, pc, ph, pw⟩) := Lib.hid (by
        have := HE.out
        rw [show ph - r = 0 by omega] at this
        rw [this]; simp [rowsS])
      clear HE
      gi_wp2
      go_end0
      exact ⟨⟨_, rfl⟩, .inl ⟨_, HE2.out, HJ.out⟩⟩
theorem gslots_next (n : Nat) (hn : 1 ≤ n) (gb : Nat) (p : Pl) (hp : FewS p) (w : World) (hR : SlotMem gb p w) :
    SeqNext Fence.wide n Try.prog 58 #[.pointer (some ⟨gb, 0, none⟩)] encSl (KeepG (SlotMem gb p)) (nxtSl p) (fun ys => ys = slotsL p) (fun _ => True) w :=
  fun l J Jx W hW hJ hY h0 => gslots_in n hn l gb p hp J Jx hY W (hR.below hW hR.lt) h0
theorem gslotsF_any (x0 x1 x2 x3 x4 : Int) (w : World) :
    Calls Try.prog 43 #[.agg #[.int .i64 x0, .int .i64 x1, .int .i64 x2, .int .i64 x3, .int .i64 x4]] w fun e w' => e = .returned (.func (.func 58) #[] #[.pointer (some ⟨w.heap.size, 0, none⟩)]) ∧
      w' = w.alloc (.cells #[.int .i64 x0, .int .i64 x1, .int .i64 x2, .int .i64 x3, .int .i64 x4] 52) := by
  go_enter Try.func43, Try.ntmps43
  go_wp2
  go_ret
  exact ⟨rfl, rfl⟩
theorem gwhole_any (rows cols : Int) (w : World) :
    Calls Try.prog 24 #[.int .i64 rows, .int .i64 cols] w fun e w' => e = .returned (.func (.func 58) #[] #[.pointer (some ⟨w.heap.size, 0, none⟩)]) ∧
      w' = w.alloc (.cells #[.int .i64 0, .int .i64 0, .int .i64 0, .int .i64 rows, .int .i64 cols] 52) := by
  go_enter Try.func24, Try.ntmps24
  go_wp2_with (go_at_call 43; refine (gslotsF_any 0 0 0 rows cols _).mono ?_; rintro e w1 ⟨rfl, rfl⟩)
  go_ret
  exact ⟨rfl, rfl⟩
end Go.Proofs.Ytcgnldcdcbnofaa
