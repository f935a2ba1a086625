/- Who has which slot, and which are empty: the program answers as the document does, for every places and sizes. -/
import Derived.Test.YtcgnldcdcbnofaaRows
import Derived.WalkKit
import Derived.ProofKit
import Derived.OpenShut
import Derived.Below
import Derived.Test.YtcgnldcdcbnofaaGRSl
import Derived.Test.YtcgnldcdcbnofaaGShown
import Derived.ShutString
namespace Go.Proofs.Ytcgnldcdcbnofaa.gridSlots
open Go.ChangeShapes Go.WideShapes Go.ChangeAt Go.RowKit
set_option linter.unusedVariables false

theorem own : ownKnob Try.prog.godebug = none := by kernel_rfl
theorem laidOut : laidOutB Try.prog = true := by kernel_rfl

set_option maxRecDepth 100000 in
set_option maxHeartbeats 2000000 in
theorem skip_s3_le (a0 : Option Addr) (len0 cap0 : Nat) (L : List Pz) (rows cols : Int) (w : World) (hP : PsAt w (.slice a0 len0 cap0) L) (hz : L.length = len0) (hlc : len0 ≤ cap0) (hcm : cap0 ≤ 9223372036854775807) (hI : ∀ p ∈ L, p.ok) (k1 : 2000 < rows) (k2 : rows ≤ 65536) (k3 : cols ≤ 0) (h60 : (len0 : Int) ≤ 60) :
    Calls Try.prog 4 #[.slice a0 len0 cap0, .int .i64 rows, .int .i64 cols] w fun e w' => e = .returned (.bool true) ∧ Below w.heap.size w w' := by
  have HS7 := Lib.hid (fun X => shown7_any X)
  clear hP hz hI
  go_enter Try.func4, Try.ntmps4
  go_wp2_with (go_at_call 5; refine (HS7.out _).mono ?_; clear HS7; rintro e w1 ⟨rfl, hb1⟩; have HB1 := Lib.hid hb1; clear hb1)
  go_ret
  exact ⟨rfl, HB1.out⟩
set_option maxRecDepth 100000 in
set_option maxHeartbeats 2000000 in
theorem skip_s5_le (a0 : Option Addr) (len0 cap0 : Nat) (L : List Pz) (rows cols : Int) (w : World) (hP : PsAt w (.slice a0 len0 cap0) L) (hz : L.length = len0) (hlc : len0 ≤ cap0) (hcm : cap0 ≤ 9223372036854775807) (hI : ∀ p ∈ L, p.ok) (k1 : 2000 < rows) (k2 : rows ≤ 65536) (k3 : 10000 < cols) (h60 : (len0 : Int) ≤ 60) :
    Calls Try.prog 4 #[.slice a0 len0 cap0, .int .i64 rows, .int .i64 cols] w fun e w' => e = .returned (.bool true) ∧ Below w.heap.size w w' := by
  have HS7 := Lib.hid (fun X => shown7_any X)
  clear hP hz hI
  go_enter Try.func4, Try.ntmps4
  go_wp2_with (go_at_call 5; refine (HS7.out _).mono ?_; clear HS7; rintro e w1 ⟨rfl, hb1⟩; have HB1 := Lib.hid hb1; clear hb1)
  go_ret
  exact ⟨rfl, HB1.out⟩
set_option maxRecDepth 100000 in
set_option maxHeartbeats 2000000 in
theorem skip_s6_le (a0 : Option Addr) (len0 cap0 : Nat) (L : List Pz) (rows cols : Int) (w : World) (hP : PsAt w (.slice a0 len0 cap0) L) (hz : L.length = len0) (hlc : len0 ≤ cap0) (hcm : cap0 ≤ 9223372036854775807) (hI : ∀ p ∈ L, p.ok) (k1 : 2000 < rows) (k2 : rows ≤ 65536) (k3 : 0 < cols) (k4 : cols ≤ 10000) (pq : Int) (hpq : rows * cols = pq) (k5 : pq ≤ 10000) (h60 : (len0 : Int) ≤ 60) :
    Calls Try.prog 4 #[.slice a0 len0 cap0, .int .i64 rows, .int .i64 cols] w fun e w' => e = .returned (.bool true) ∧ Below w.heap.size w w' := by
  have HS7 := Lib.hid (fun X => shown7_any X)
  have hpq0 : 0 ≤ pq := by rw [← hpq]; exact Int.mul_nonneg (by omega) (by omega)
  have hpq1 : pq ≤ 655360000 := by rw [← hpq]; have := Int.mul_le_mul (show rows ≤ 65536 by omega) (show cols ≤ 10000 by omega) (by omega) (by omega); omega
  clear hP hz hI
  go_enter Try.func4, Try.ntmps4
  go_wp2_with (go_at_call 5; refine (HS7.out _).mono ?_; clear HS7; rintro e w1 ⟨rfl, hb1⟩; have HB1 := Lib.hid hb1; clear hb1)
  go_ret
  exact ⟨rfl, HB1.out⟩
set_option maxRecDepth 100000 in
set_option maxHeartbeats 2000000 in
theorem skip_s7_le (a0 : Option Addr) (len0 cap0 : Nat) (L : List Pz) (rows cols : Int) (w : World) (hP : PsAt w (.slice a0 len0 cap0) L) (hz : L.length = len0) (hlc : len0 ≤ cap0) (hcm : cap0 ≤ 9223372036854775807) (hI : ∀ p ∈ L, p.ok) (k1 : 2000 < rows) (k2 : rows ≤ 65536) (k3 : 0 < cols) (k4 : cols ≤ 10000) (pq : Int) (hpq : rows * cols = pq) (k5 : 1000000 < pq) (h60 : (len0 : Int) ≤ 60) :
    Calls Try.prog 4 #[.slice a0 len0 cap0, .int .i64 rows, .int .i64 cols] w fun e w' => e = .returned (.bool true) ∧ Below w.heap.size w w' := by
  have HS7 := Lib.hid (fun X => shown7_any X)
  have hpq0 : 0 ≤ pq := by rw [← hpq]; exact Int.mul_nonneg (by omega) (by omega)
  have hpq1 : pq ≤ 655360000 := by rw [← hpq]; have := Int.mul_le_mul (show rows ≤ 65536 by omega) (show cols ≤ 10000 by omega) (by omega) (by omega); omega
  clear hP hz hI
  go_enter Try.func4, Try.ntmps4
  go_wp2_with (go_at_call 5; refine (HS7.out _).mono ?_; clear HS7; rintro e w1 ⟨rfl, hb1⟩; have HB1 := Lib.hid hb1; clear hb1)
  go_ret
  exact ⟨rfl, HB1.out⟩
set_option maxRecDepth 100000 in
set_option maxHeartbeats 2000000 in
theorem skip_s8_le (a0 : Option Addr) (len0 cap0 : Nat) (L : List Pz) (rows cols : Int) (w : World) (hP : PsAt w (.slice a0 len0 cap0) L) (hz : L.length = len0) (hlc : len0 ≤ cap0) (hcm : cap0 ≤ 9223372036854775807) (hI : ∀ p ∈ L, p.ok) (k1 : 0 < rows) (k2 : rows ≤ 65536) (k3 : 0 < cols) (k4 : cols ≤ 10000) (pq : Int) (hpq : rows * cols = pq) (k5 : 10000 < pq) (k6 : pq ≤ 1000000) (h60 : (len0 : Int) ≤ 60) :
    Calls Try.prog 4 #[.slice a0 len0 cap0, .int .i64 rows, .int .i64 cols] w fun e w' => e = .returned (.bool true) ∧ Below w.heap.size w w' := by
  have HS7 := Lib.hid (fun X => shown7_any X)
  have hpq0 : 0 ≤ pq := by rw [← hpq]; exact Int.mul_nonneg (by omega) (by omega)
  have hpq1 : pq ≤ 655360000 := by rw [← hpq]; have := Int.mul_le_mul (show rows ≤ 65536 by omega) (show cols ≤ 10000 by omega) (by omega) (by omega); omega
  clear hP hz hI
  go_enter Try.func4, Try.ntmps4
  go_wp2_with (go_at_call 5; refine (HS7.out _).mono ?_; clear HS7; rintro e w1 ⟨rfl, hb1⟩; have HB1 := Lib.hid hb1; clear hb1)
  go_ret
  exact ⟨rfl, HB1.out⟩
set_option maxRecDepth 100000 in
set_option maxHeartbeats 2000000 in
theorem bad_c1_le (a0 : Option Addr) (len0 cap0 : Nat) (L : List Pz) (rows cols : Int) (w : World) (hP : PsAt w (.slice a0 len0 cap0) L) (hz : L.length = len0) (hlc : len0 ≤ cap0) (hcm : cap0 ≤ 9223372036854775807) (hI : ∀ p ∈ L, p.ok) (hr : I64 rows) (hc : I64 cols) (hO : ¬ (SizeQ rows cols ∧ OwnQ rows.toNat cols.toNat (L.take len0))) (k1 : rows ≤ 0) (h60 : (len0 : Int) ≤ 60) :
    Calls Try.prog 4 #[.slice a0 len0 cap0, .int .i64 rows, .int .i64 cols] w fun e w' => e = .returned (.bool true) ∧ Below w.heap.size w w' := by
  have HS7 := Lib.hid (fun X => shown7_any X)
  have HP := Lib.hid (places_take hP hz len0 (by omega))
  obtain ⟨T, hT⟩ : ∃ T, L.take len0 = T := ⟨_, rfl⟩
  have HLN : Hid (T.length = len0) := Lib.hid (by rw [← hT, List.length_take]; omega)
  have HI : Hid (∀ p ∈ T, p.ok) := Lib.hid (fun p hp => hI p (List.mem_of_mem_take (hT ▸ hp)))
  rw [hT] at HP hO
  clear hP hz hI hT
  have C1 := Lib.hid (fun (X : World) (hp : PsAt X (.slice a0 len0 cap0) T) => slots7_bad (rows := rows) (cols := cols) HLN.out hp HI.out hO)
  have C2 := Lib.hid (fun (X : World) (hp : PsAt X (.slice a0 len0 cap0) T) => refslots7_bad (rows := rows) (cols := cols) HLN.out hp HI.out hr hc hO)
  have C3 := Lib.hid (fun (X : World) (hp : PsAt X (.slice a0 len0 cap0) T) => empty7_bad (rows := rows) (cols := cols) HLN.out hp HI.out hO)
  clear hr hc hO HLN HI
  go_enter Try.func4, Try.ntmps4
  go_wp2_with (first
    | (go_at_call 5; refine (HS7.out _).mono ?_; clear HS7; rintro e w1 ⟨rfl, hb1⟩; have HB1 := Lib.hid hb1; have HP1 := Lib.hid (HP.out.below hb1); clear hb1 HP)
    | (go_at_call 12; refine (C1.out _ HP1.out).mono ?_; clear C1; rintro e w2 ⟨rfl, hb2⟩; have HB2 := Lib.hid (HB1.out.trans (hb2.mono HB1.out.size)); have HP2 := Lib.hid (HP1.out.below hb2); clear hb2 HB1 HP1)
    | (go_at_call 13; refine (C2.out _ HP2.out).mono ?_; clear C2; rintro e w3 ⟨rfl, hb3⟩; have HB3 := Lib.hid (HB2.out.trans (hb3.mono HB2.out.size)); have HP3 := Lib.hid (HP2.out.below hb3); clear hb3 HB2 HP2)
    | (go_at_call 14; refine (C3.out _ HP3.out).mono ?_; clear C3; rintro e w4 ⟨rfl, hb4⟩; have HB4 := Lib.hid (HB3.out.trans (hb4.mono HB3.out.size)); clear hb4 HB3 HP3))
  refine wp_loop_rounds 1 ?_
  rw [rounds_succ]
  go_wp2
  go_ret
  exact ⟨rfl, HB4.out⟩
set_option maxRecDepth 100000 in
set_option maxHeartbeats 2000000 in
theorem bad_c2_le (a0 : Option Addr) (len0 cap0 : Nat) (L : List Pz) (rows cols : Int) (w : World) (hP : PsAt w (.slice a0 len0 cap0) L) (hz : L.length = len0) (hlc : len0 ≤ cap0) (hcm : cap0 ≤ 9223372036854775807) (hI : ∀ p ∈ L, p.ok) (hr : I64 rows) (hc : I64 cols) (hO : ¬ (SizeQ rows cols ∧ OwnQ rows.toNat cols.toNat (L.take len0))) (k1 : 0 < rows) (k2 : rows ≤ 2000) (k3 : cols ≤ 0) (h60 : (len0 : Int) ≤ 60) :
    Calls Try.prog 4 #[.slice a0 len0 cap0, .int .i64 rows, .int .i64 cols] w fun e w' => e = .returned (.bool true) ∧ Below w.heap.size w w' := by
  have HS7 := Lib.hid (fun X => shown7_any X)
  have HP := Lib.hid (places_take hP hz len0 (by omega))
  obtain ⟨T, hT⟩ : ∃ T, L.take len0 = T := ⟨_, rfl⟩
  have HLN : Hid (T.length = len0) := Lib.hid (by rw [← hT, List.length_take]; omega)
  have HI : Hid (∀ p ∈ T, p.ok) := Lib.hid (fun p hp => hI p (List.mem_of_mem_take (hT ▸ hp)))
  rw [hT] at HP hO
  clear hP hz hI hT
  have C1 := Lib.hid (fun (X : World) (hp : PsAt X (.slice a0 len0 cap0) T) => slots7_bad (rows := rows) (cols := cols) HLN.out hp HI.out hO)
  have C2 := Lib.hid (fun (X : World) (hp : PsAt X (.slice a0 len0 cap0) T) => refslots7_bad (rows := rows) (cols := cols) HLN.out hp HI.out hr hc hO)
  have C3 := Lib.hid (fun (X : World) (hp : PsAt X (.slice a0 len0 cap0) T) => empty7_bad (rows := rows) (cols := cols) HLN.out hp HI.out hO)
  clear hr hc hO HLN HI
  go_enter Try.func4, Try.ntmps4
  go_wp2_with (first
    | (go_at_call 5; refine (HS7.out _).mono ?_; clear HS7; rintro e w1 ⟨rfl, hb1⟩; have HB1 := Lib.hid hb1; have HP1 := Lib.hid (HP.out.below hb1); clear hb1 HP)
    | (go_at_call 12; refine (C1.out _ HP1.out).mono ?_; clear C1; rintro e w2 ⟨rfl, hb2⟩; have HB2 := Lib.hid (HB1.out.trans (hb2.mono HB1.out.size)); have HP2 := Lib.hid (HP1.out.below hb2); clear hb2 HB1 HP1)
    | (go_at_call 13; refine (C2.out _ HP2.out).mono ?_; clear C2; rintro e w3 ⟨rfl, hb3⟩; have HB3 := Lib.hid (HB2.out.trans (hb3.mono HB2.out.size)); have HP3 := Lib.hid (HP2.out.below hb3); clear hb3 HB2 HP2)
    | (go_at_call 14; refine (C3.out _ HP3.out).mono ?_; clear C3; rintro e w4 ⟨rfl, hb4⟩; have HB4 := Lib.hid (HB3.out.trans (hb4.mono HB3.out.size)); clear hb4 HB3 HP3))
  refine wp_loop_rounds 1 ?_
  rw [rounds_succ]
  go_wp2
  go_ret
  exact ⟨rfl, HB4.out⟩
set_option maxRecDepth 100000 in
set_option maxHeartbeats 2000000 in
theorem bad_c4a_le (a0 : Option Addr) (len0 cap0 : Nat) (L : List Pz) (rows cols : Int) (w : World) (hP : PsAt w (.slice a0 len0 cap0) L) (hz : L.length = len0) (hlc : len0 ≤ cap0) (hcm : cap0 ≤ 9223372036854775807) (hI : ∀ p ∈ L, p.ok) (hr : I64 rows) (hc : I64 cols) (hO : ¬ (SizeQ rows cols ∧ OwnQ rows.toNat cols.toNat (L.take len0))) (k1 : 65536 < rows) (k2 : cols ≤ 0) (h60 : (len0 : Int) ≤ 60) :
    Calls Try.prog 4 #[.slice a0 len0 cap0, .int .i64 rows, .int .i64 cols] w fun e w' => e = .returned (.bool true) ∧ Below w.heap.size w w' := by
  have HS7 := Lib.hid (fun X => shown7_any X)
  have HP := Lib.hid (places_take hP hz len0 (by omega))
  obtain ⟨T, hT⟩ : ∃ T, L.take len0 = T := ⟨_, rfl⟩
  have HLN : Hid (T.length = len0) := Lib.hid (by rw [← hT, List.length_take]; omega)
  have HI : Hid (∀ p ∈ T, p.ok) := Lib.hid (fun p hp => hI p (List.mem_of_mem_take (hT ▸ hp)))
  rw [hT] at HP hO
  clear hP hz hI hT
  have C1 := Lib.hid (fun (X : World) (hp : PsAt X (.slice a0 len0 cap0) T) => slots7_bad (rows := rows) (cols := cols) HLN.out hp HI.out hO)
  have C2 := Lib.hid (fun (X : World) (hp : PsAt X (.slice a0 len0 cap0) T) => refslots7_bad (rows := rows) (cols := cols) HLN.out hp HI.out hr hc hO)
  have C3 := Lib.hid (fun (X : World) (hp : PsAt X (.slice a0 len0 cap0) T) => empty7_bad (rows := rows) (cols := cols) HLN.out hp HI.out hO)
  clear hr hc hO HLN HI
  go_enter Try.func4, Try.ntmps4
  go_wp2_with (first
    | (go_at_call 5; refine (HS7.out _).mono ?_; clear HS7; rintro e w1 ⟨rfl, hb1⟩; have HB1 := Lib.hid hb1; have HP1 := Lib.hid (HP.out.below hb1); clear hb1 HP)
    | (go_at_call 12; refine (C1.out _ HP1.out).mono ?_; clear C1; rintro e w2 ⟨rfl, hb2⟩; have HB2 := Lib.hid (HB1.out.trans (hb2.mono HB1.out.size)); have HP2 := Lib.hid (HP1.out.below hb2); clear hb2 HB1 HP1)
    | (go_at_call 13; refine (C2.out _ HP2.out).mono ?_; clear C2; rintro e w3 ⟨rfl, hb3⟩; have HB3 := Lib.hid (HB2.out.trans (hb3.mono HB2.out.size)); have HP3 := Lib.hid (HP2.out.below hb3); clear hb3 HB2 HP2)
    | (go_at_call 14; refine (C3.out _ HP3.out).mono ?_; clear C3; rintro e w4 ⟨rfl, hb4⟩; have HB4 := Lib.hid (HB3.out.trans (hb4.mono HB3.out.size)); clear hb4 HB3 HP3))
  refine wp_loop_rounds 1 ?_
  rw [rounds_succ]
  go_wp2
  go_ret
  exact ⟨rfl, HB4.out⟩
set_option maxRecDepth 100000 in
set_option maxHeartbeats 2000000 in
theorem bad_c4b_le (a0 : Option Addr) (len0 cap0 : Nat) (L : List Pz) (rows cols : Int) (w : World) (hP : PsAt w (.slice a0 len0 cap0) L) (hz : L.length = len0) (hlc : len0 ≤ cap0) (hcm : cap0 ≤ 9223372036854775807) (hI : ∀ p ∈ L, p.ok) (hr : I64 rows) (hc : I64 cols) (hO : ¬ (SizeQ rows cols ∧ OwnQ rows.toNat cols.toNat (L.take len0))) (k1 : 65536 < rows) (k2 : 0 < cols) (h60 : (len0 : Int) ≤ 60) :
    Calls Try.prog 4 #[.slice a0 len0 cap0, .int .i64 rows, .int .i64 cols] w fun e w' => e = .returned (.bool true) ∧ Below w.heap.size w w' := by
  have HS7 := Lib.hid (fun X => shown7_any X)
  have HP := Lib.hid (places_take hP hz len0 (by omega))
  obtain ⟨T, hT⟩ : ∃ T, L.take len0 = T := ⟨_, rfl⟩
  have HLN : Hid (T.length = len0) := Lib.hid (by rw [← hT, List.length_take]; omega)
  have HI : Hid (∀ p ∈ T, p.ok) := Lib.hid (fun p hp => hI p (List.mem_of_mem_take (hT ▸ hp)))
  rw [hT] at HP hO
  clear hP hz hI hT
  have C1 := Lib.hid (fun (X : World) (hp : PsAt X (.slice a0 len0 cap0) T) => slots7_bad (rows := rows) (cols := cols) HLN.out hp HI.out hO)
  have C2 := Lib.hid (fun (X : World) (hp : PsAt X (.slice a0 len0 cap0) T) => refslots7_bad (rows := rows) (cols := cols) HLN.out hp HI.out hr hc hO)
  have C3 := Lib.hid (fun (X : World) (hp : PsAt X (.slice a0 len0 cap0) T) => empty7_bad (rows := rows) (cols := cols) HLN.out hp HI.out hO)
  clear hr hc hO HLN HI
  go_enter Try.func4, Try.ntmps4
  go_wp2_with (first
    | (go_at_call 5; refine (HS7.out _).mono ?_; clear HS7; rintro e w1 ⟨rfl, hb1⟩; have HB1 := Lib.hid hb1; have HP1 := Lib.hid (HP.out.below hb1); clear hb1 HP)
    | (go_at_call 12; refine (C1.out _ HP1.out).mono ?_; clear C1; rintro e w2 ⟨rfl, hb2⟩; have HB2 := Lib.hid (HB1.out.trans (hb2.mono HB1.out.size)); have HP2 := Lib.hid (HP1.out.below hb2); clear hb2 HB1 HP1)
    | (go_at_call 13; refine (C2.out _ HP2.out).mono ?_; clear C2; rintro e w3 ⟨rfl, hb3⟩; have HB3 := Lib.hid (HB2.out.trans (hb3.mono HB2.out.size)); have HP3 := Lib.hid (HP2.out.below hb3); clear hb3 HB2 HP2)
    | (go_at_call 14; refine (C3.out _ HP3.out).mono ?_; clear C3; rintro e w4 ⟨rfl, hb4⟩; have HB4 := Lib.hid (HB3.out.trans (hb4.mono HB3.out.size)); clear hb4 HB3 HP3))
  refine wp_loop_rounds 1 ?_
  rw [rounds_succ]
  go_wp2
  go_ret
  exact ⟨rfl, HB4.out⟩
set_option maxRecDepth 100000 in
set_option maxHeartbeats 2000000 in
theorem bad_c5_le (a0 : Option Addr) (len0 cap0 : Nat) (L : List Pz) (rows cols : Int) (w : World) (hP : PsAt w (.slice a0 len0 cap0) L) (hz : L.length = len0) (hlc : len0 ≤ cap0) (hcm : cap0 ≤ 9223372036854775807) (hI : ∀ p ∈ L, p.ok) (hr : I64 rows) (hc : I64 cols) (hO : ¬ (SizeQ rows cols ∧ OwnQ rows.toNat cols.toNat (L.take len0))) (k1 : 0 < rows) (k2 : rows ≤ 2000) (k3 : 10000 < cols) (h60 : (len0 : Int) ≤ 60) :
    Calls Try.prog 4 #[.slice a0 len0 cap0, .int .i64 rows, .int .i64 cols] w fun e w' => e = .returned (.bool true) ∧ Below w.heap.size w w' := by
  have HS7 := Lib.hid (fun X => shown7_any X)
  have HP := Lib.hid (places_take hP hz len0 (by omega))
  obtain ⟨T, hT⟩ : ∃ T, L.take len0 = T := ⟨_, rfl⟩
  have HLN : Hid (T.length = len0) := Lib.hid (by rw [← hT, List.length_take]; omega)
  have HI : Hid (∀ p ∈ T, p.ok) := Lib.hid (fun p hp => hI p (List.mem_of_mem_take (hT ▸ hp)))
  rw [hT] at HP hO
  clear hP hz hI hT
  have C1 := Lib.hid (fun (X : World) (hp : PsAt X (.slice a0 len0 cap0) T) => slots7_bad (rows := rows) (cols := cols) HLN.out hp HI.out hO)
  have C2 := Lib.hid (fun (X : World) (hp : PsAt X (.slice a0 len0 cap0) T) => refslots7_bad (rows := rows) (cols := cols) HLN.out hp HI.out hr hc hO)
  have C3 := Lib.hid (fun (X : World) (hp : PsAt X (.slice a0 len0 cap0) T) => empty7_bad (rows := rows) (cols := cols) HLN.out hp HI.out hO)
  clear hr hc hO HLN HI
  go_enter Try.func4, Try.ntmps4
  go_wp2_with (first
    | (go_at_call 5; refine (HS7.out _).mono ?_; clear HS7; rintro e w1 ⟨rfl, hb1⟩; have HB1 := Lib.hid hb1; have HP1 := Lib.hid (HP.out.below hb1); clear hb1 HP)
    | (go_at_call 12; refine (C1.out _ HP1.out).mono ?_; clear C1; rintro e w2 ⟨rfl, hb2⟩; have HB2 := Lib.hid (HB1.out.trans (hb2.mono HB1.out.size)); have HP2 := Lib.hid (HP1.out.below hb2); clear hb2 HB1 HP1)
    | (go_at_call 13; refine (C2.out _ HP2.out).mono ?_; clear C2; rintro e w3 ⟨rfl, hb3⟩; have HB3 := Lib.hid (HB2.out.trans (hb3.mono HB2.out.size)); have HP3 := Lib.hid (HP2.out.below hb3); clear hb3 HB2 HP2)
    | (go_at_call 14; refine (C3.out _ HP3.out).mono ?_; clear C3; rintro e w4 ⟨rfl, hb4⟩; have HB4 := Lib.hid (HB3.out.trans (hb4.mono HB3.out.size)); clear hb4 HB3 HP3))
  refine wp_loop_rounds 1 ?_
  rw [rounds_succ]
  go_wp2
  go_ret
  exact ⟨rfl, HB4.out⟩
set_option maxRecDepth 100000 in
set_option maxHeartbeats 2000000 in
theorem bad_c6_le (a0 : Option Addr) (len0 cap0 : Nat) (L : List Pz) (rows cols : Int) (w : World) (hP : PsAt w (.slice a0 len0 cap0) L) (hz : L.length = len0) (hlc : len0 ≤ cap0) (hcm : cap0 ≤ 9223372036854775807) (hI : ∀ p ∈ L, p.ok) (hr : I64 rows) (hc : I64 cols) (hO : ¬ (SizeQ rows cols ∧ OwnQ rows.toNat cols.toNat (L.take len0))) (k1 : 0 < rows) (k2 : rows ≤ 2000) (k3 : 0 < cols) (k4 : cols ≤ 10000) (pq : Int) (hpq : rows * cols = pq) (k5 : pq ≤ 10000) (h60 : (len0 : Int) ≤ 60) :
    Calls Try.prog 4 #[.slice a0 len0 cap0, .int .i64 rows, .int .i64 cols] w fun e w' => e = .returned (.bool true) ∧ Below w.heap.size w w' := by
  have HS7 := Lib.hid (fun X => shown7_any X)
  have HP := Lib.hid (places_take hP hz len0 (by omega))
  obtain ⟨T, hT⟩ : ∃ T, L.take len0 = T := ⟨_, rfl⟩
  have HLN : Hid (T.length = len0) := Lib.hid (by rw [← hT, List.length_take]; omega)
  have HI : Hid (∀ p ∈ T, p.ok) := Lib.hid (fun p hp => hI p (List.mem_of_mem_take (hT ▸ hp)))
  rw [hT] at HP hO
  clear hP hz hI hT
  have hpq0 : 0 ≤ pq := by rw [← hpq]; exact Int.mul_nonneg (by omega) (by omega)
  have hpq1 : pq ≤ 655360000 := by rw [← hpq]; have := Int.mul_le_mul (show rows ≤ 65536 by omega) (show cols ≤ 10000 by omega) (by omega) (by omega); omega
  have C1 := Lib.hid (fun (X : World) (hp : PsAt X (.slice a0 len0 cap0) T) => slots7_bad (rows := rows) (cols := cols) HLN.out hp HI.out hO)
  have C2 := Lib.hid (fun (X : World) (hp : PsAt X (.slice a0 len0 cap0) T) => refslots7_bad (rows := rows) (cols := cols) HLN.out hp HI.out hr hc hO)
  have C3 := Lib.hid (fun (X : World) (hp : PsAt X (.slice a0 len0 cap0) T) => empty7_bad (rows := rows) (cols := cols) HLN.out hp HI.out hO)
  clear hr hc hO HLN HI
  go_enter Try.func4, Try.ntmps4
  go_wp2_with (first
    | (go_at_call 5; refine (HS7.out _).mono ?_; clear HS7; rintro e w1 ⟨rfl, hb1⟩; have HB1 := Lib.hid hb1; have HP1 := Lib.hid (HP.out.below hb1); clear hb1 HP)
    | (go_at_call 12; refine (C1.out _ HP1.out).mono ?_; clear C1; rintro e w2 ⟨rfl, hb2⟩; have HB2 := Lib.hid (HB1.out.trans (hb2.mono HB1.out.size)); have HP2 := Lib.hid (HP1.out.below hb2); clear hb2 HB1 HP1)
    | (go_at_call 13; refine (C2.out _ HP2.out).mono ?_; clear C2; rintro e w3 ⟨rfl, hb3⟩; have HB3 := Lib.hid (HB2.out.trans (hb3.mono HB2.out.size)); have HP3 := Lib.hid (HP2.out.below hb3); clear hb3 HB2 HP2)
    | (go_at_call 14; refine (C3.out _ HP3.out).mono ?_; clear C3; rintro e w4 ⟨rfl, hb4⟩; have HB4 := Lib.hid (HB3.out.trans (hb4.mono HB3.out.size)); clear hb4 HB3 HP3))
  refine wp_loop_rounds 1 ?_
  rw [rounds_succ]
  go_wp2
  go_ret
  exact ⟨rfl, HB4.out⟩
set_option maxRecDepth 100000 in
set_option maxHeartbeats 2000000 in
theorem bad_c7_le (a0 : Option Addr) (len0 cap0 : Nat) (L : List Pz) (rows cols : Int) (w : World) (hP : PsAt w (.slice a0 len0 cap0) L) (hz : L.length = len0) (hlc : len0 ≤ cap0) (hcm : cap0 ≤ 9223372036854775807) (hI : ∀ p ∈ L, p.ok) (hr : I64 rows) (hc : I64 cols) (hO : ¬ (SizeQ rows cols ∧ OwnQ rows.toNat cols.toNat (L.take len0))) (k1 : 0 < rows) (k2 : rows ≤ 2000) (k3 : 0 < cols) (k4 : cols ≤ 10000) (pq : Int) (hpq : rows * cols = pq) (k5 : 1000000 < pq) (h60 : (len0 : Int) ≤ 60) :
    Calls Try.prog 4 #[.slice a0 len0 cap0, .int .i64 rows, .int .i64 cols] w fun e w' => e = .returned (.bool true) ∧ Below w.heap.size w w' := by
  have HS7 := Lib.hid (fun X => shown7_any X)
  have HP := Lib.hid (places_take hP hz len0 (by omega))
  obtain ⟨T, hT⟩ : ∃ T, L.take len0 = T := ⟨_, rfl⟩
  have HLN : Hid (T.length = len0) := Lib.hid (by rw [← hT, List.length_take]; omega)
  have HI : Hid (∀ p ∈ T, p.ok) := Lib.hid (fun p hp => hI p (List.mem_of_mem_take (hT ▸ hp)))
  rw [hT] at HP hO
  clear hP hz hI hT
  have hpq0 : 0 ≤ pq := by rw [← hpq]; exact Int.mul_nonneg (by omega) (by omega)
  have hpq1 : pq ≤ 655360000 := by rw [← hpq]; have := Int.mul_le_mul (show rows ≤ 65536 by omega) (show cols ≤ 10000 by omega) (by omega) (by omega); omega
  have C1 := Lib.hid (fun (X : World) (hp : PsAt X (.slice a0 len0 cap0) T) => slots7_bad (rows := rows) (cols := cols) HLN.out hp HI.out hO)
  have C2 := Lib.hid (fun (X : World) (hp : PsAt X (.slice a0 len0 cap0) T) => refslots7_bad (rows := rows) (cols := cols) HLN.out hp HI.out hr hc hO)
  have C3 := Lib.hid (fun (X : World) (hp : PsAt X (.slice a0 len0 cap0) T) => empty7_bad (rows := rows) (cols := cols) HLN.out hp HI.out hO)
  clear hr hc hO HLN HI
  go_enter Try.func4, Try.ntmps4
  go_wp2_with (first
    | (go_at_call 5; refine (HS7.out _).mono ?_; clear HS7; rintro e w1 ⟨rfl, hb1⟩; have HB1 := Lib.hid hb1; have HP1 := Lib.hid (HP.out.below hb1); clear hb1 HP)
    | (go_at_call 12; refine (C1.out _ HP1.out).mono ?_; clear C1; rintro e w2 ⟨rfl, hb2⟩; have HB2 := Lib.hid (HB1.out.trans (hb2.mono HB1.out.size)); have HP2 := Lib.hid (HP1.out.below hb2); clear hb2 HB1 HP1)
    | (go_at_call 13; refine (C2.out _ HP2.out).mono ?_; clear C2; rintro e w3 ⟨rfl, hb3⟩; have HB3 := Lib.hid (HB2.out.trans (hb3.mono HB2.out.size)); have HP3 := Lib.hid (HP2.out.below hb3); clear hb3 HB2 HP2)
    | (go_at_call 14; refine (C3.out _ HP3.out).mono ?_; clear C3; rintro e w4 ⟨rfl, hb4⟩; have HB4 := Lib.hid (HB3.out.trans (hb4.mono HB3.out.size)); clear hb4 HB3 HP3))
  refine wp_loop_rounds 1 ?_
  rw [rounds_succ]
  go_wp2
  go_ret
  exact ⟨rfl, HB4.out⟩
set_option maxRecDepth 100000 in
set_option maxHeartbeats 2000000 in
theorem good_c1_le (a0 : Option Addr) (len0 cap0 : Nat) (L : List Pz) (rows cols : Nat) (w : World) (hP : PsAt w (.slice a0 len0 cap0) L) (hz : L.length = len0) (hlc : len0 ≤ cap0) (hcm : cap0 ≤ 9223372036854775807) (hI : ∀ p ∈ L, p.ok) (hS : SizeQ rows cols) (hO : OwnQ rows cols (L.take len0)) (k1 : (rows : Int) ≤ 0) (h60 : (len0 : Int) ≤ 60) :
    Calls Try.prog 4 #[.slice a0 len0 cap0, .int .i64 rows, .int .i64 cols] w fun e w' => e = .returned (.bool true) ∧ Below w.heap.size w w' := by
  have HS7 := Lib.hid (fun X => shown7_any X)
  have HP := Lib.hid (places_take hP hz len0 (by omega))
  obtain ⟨T, hT⟩ : ∃ T, L.take len0 = T := ⟨_, rfl⟩
  have HLN : Hid (T.length = len0) := Lib.hid (by rw [← hT, List.length_take]; omega)
  have HI : Hid (∀ p ∈ T, p.ok) := Lib.hid (fun p hp => hI p (List.mem_of_mem_take (hT ▸ hp)))
  rw [hT] at HP hO
  clear hP hz hI hT
  have hrc : rows ≤ 65536 ∧ cols ≤ 10000 := by have := hS.1; have := hS.2.1; omega
  obtain ⟨nx, hnx⟩ : ∃ nx, (emptyL rows cols T).length = nx := ⟨_, rfl⟩
  have hnx6 : nx ≤ 1000000 := by
    have h1 : (emptyL rows cols T).length ≤ (slotsL ⟨0, 0, 0, rows, cols⟩).length := List.length_filter_le _ _
    have h2 : (slotsL ⟨0, 0, 0, rows, cols⟩).length = rows * cols := by
      unfold slotsL rowsS rowS
      simp [List.length_flatMap, List.map_const', List.sum_replicate_nat]
    have h3 := hS.2.2
    have h4 : ((rows : Int) * (cols : Int)) = ((rows * cols : Nat) : Int) := by simp
    omega
  have C1 := Lib.hid (fun (X : World) (hp : PsAt X (.slice a0 len0 cap0) T) => slots7_ok HLN.out hp HI.out hS hO)
  have C2 := Lib.hid (fun (X : World) (hp : PsAt X (.slice a0 len0 cap0) T) => refslots7_ok HLN.out hp HI.out hS hO)
  have C3 := Lib.hid (fun (X : World) (hp : PsAt X (.slice a0 len0 cap0) T) => empty7_ok HLN.out hp HI.out hS hO)
  rw [hnx] at C3
  have HNX := Lib.hid hnx
  have HRC := Lib.hid hrc
  clear hS hO HLN HI hnx
  go_enter Try.func4, Try.ntmps4
  go_wp2_with (first
    | (go_at_call 5; refine (HS7.out _).mono ?_; clear HS7; rintro e w1 ⟨rfl, hb1⟩; have HB1 := Lib.hid hb1; have HP1 := Lib.hid (HP.out.below hb1); clear hb1 HP)
    | (go_at_call 12; refine (C1.out _ HP1.out).mono ?_; clear C1; rintro e w2 ⟨p2, c2, rfl, hz2, hb2⟩; have HB2 := Lib.hid (HB1.out.trans (hb2.mono HB1.out.size)); have HP2 := Lib.hid (HP1.out.below hb2); have HZ2 := Lib.hid hz2; clear hb2 hz2 HB1 HP1)
    | (go_at_call 13; refine (C2.out _ HP2.out).mono ?_; clear C2; rintro e w3 ⟨p3, c3, rfl, hz3, hb3⟩; have HB3 := Lib.hid (HB2.out.trans (hb3.mono HB2.out.size)); have HP3 := Lib.hid (HP2.out.below hb3); have HZ3 := Lib.hid hz3; have HZ2' := Lib.hid (HZ2.out.below hb3); clear hb3 hz3 HB2 HP2 HZ2)
    | (go_at_call 14; refine (C3.out _ HP3.out).mono ?_; clear C3; rintro e w4 ⟨p4, c4, rfl, hz4, hb4⟩; have HB4 := Lib.hid (HB3.out.trans (hb4.mono HB3.out.size)); have HA := Lib.hid (HZ2'.out.below hb4); have HB := Lib.hid (HZ3.out.below hb4); have HX := Lib.hid hz4; clear hb4 hz4 HB3 HP3 HZ3 HZ2'))
  have HAR := Lib.hid (fun (r : Nat) (hr : r < rows) => RowsZ.at HA.out r hr)
  have HBR := Lib.hid (fun (r : Nat) (hr : r < rows) => RowsZ.at HB.out r hr)
  have HXR := Lib.hid (fun (k : Nat) (s : Nat × Nat) (hk : (emptyL rows cols T)[k]? = some s) => SlotsZ.at HX.out k s hk)
  clear HA HB HX
  go_loopw [15, 14] (fun s15 s14 x => ∃ r k : Nat, r ≤ rows ∧ s15 = .int .i64 (r : Int) ∧ s14 = .int .i64 (k : Int) ∧ k ≤ nx ∧ Hid (k = freeN T (aheadL 0 0 cols r 0)) ∧ Hid (Below w4.heap.size w4 x)) (fun s15 _ _ => rows - (intOf s15).toNat)
  case atStart => exact ⟨0, 0, Nat.zero_le _, rfl, rfl, Nat.zero_le _, Lib.hid (freeN_start T cols).symm, Lib.hid (Below.refl _ _)⟩
  case round =>
    obtain ⟨r, k, hr, rfl, rfl, hkn, HK, HW⟩ := hrel
    by_cases hlt : r < rows
    · exfalso; omega
    · have hrr : r = rows := by omega
      have hke : k = nx := by rw [HK.out, hrr, freeN_end, HNX.out]
      have HF := Lib.hid (HB4.out.trans (HW.out.mono HB4.out.size))
      clear HK HW
      subst hke
      go_wp2
      go_ret
      exact ⟨by simp, HF.out⟩
set_option maxRecDepth 100000 in
set_option maxHeartbeats 2000000 in
theorem good_c2_le (a0 : Option Addr) (len0 cap0 : Nat) (L : List Pz) (rows cols : Nat) (w : World) (hP : PsAt w (.slice a0 len0 cap0) L) (hz : L.length = len0) (hlc : len0 ≤ cap0) (hcm : cap0 ≤ 9223372036854775807) (hI : ∀ p ∈ L, p.ok) (hS : SizeQ rows cols) (hO : OwnQ rows cols (L.take len0)) (k1 : 0 < (rows : Int)) (k2 : (rows : Int) ≤ 2000) (k3 : (cols : Int) ≤ 0) (h60 : (len0 : Int) ≤ 60) :
    Calls Try.prog 4 #[.slice a0 len0 cap0, .int .i64 rows, .int .i64 cols] w fun e w' => e = .returned (.bool true) ∧ Below w.heap.size w w' := by
  have HS7 := Lib.hid (fun X => shown7_any X)
  have HP := Lib.hid (places_take hP hz len0 (by omega))
  obtain ⟨T, hT⟩ : ∃ T, L.take len0 = T := ⟨_, rfl⟩
  have HLN : Hid (T.length = len0) := Lib.hid (by rw [← hT, List.length_take]; omega)
  have HI : Hid (∀ p ∈ T, p.ok) := Lib.hid (fun p hp => hI p (List.mem_of_mem_take (hT ▸ hp)))
  rw [hT] at HP hO
  clear hP hz hI hT
  have hrc : rows ≤ 65536 ∧ cols ≤ 10000 := by have := hS.1; have := hS.2.1; omega
  obtain ⟨nx, hnx⟩ : ∃ nx, (emptyL rows cols T).length = nx := ⟨_, rfl⟩
  have hnx6 : nx ≤ 1000000 := by
    have h1 : (emptyL rows cols T).length ≤ (slotsL ⟨0, 0, 0, rows, cols⟩).length := List.length_filter_le _ _
    have h2 : (slotsL ⟨0, 0, 0, rows, cols⟩).length = rows * cols := by
      unfold slotsL rowsS rowS
      simp [List.length_flatMap, List.map_const', List.sum_replicate_nat]
    have h3 := hS.2.2
    have h4 : ((rows : Int) * (cols : Int)) = ((rows * cols : Nat) : Int) := by simp
    omega
  have C1 := Lib.hid (fun (X : World) (hp : PsAt X (.slice a0 len0 cap0) T) => slots7_ok HLN.out hp HI.out hS hO)
  have C2 := Lib.hid (fun (X : World) (hp : PsAt X (.slice a0 len0 cap0) T) => refslots7_ok HLN.out hp HI.out hS hO)
  have C3 := Lib.hid (fun (X : World) (hp : PsAt X (.slice a0 len0 cap0) T) => empty7_ok HLN.out hp HI.out hS hO)
  rw [hnx] at C3
  have HNX := Lib.hid hnx
  have HRC := Lib.hid hrc
  clear hS hO HLN HI hnx
  go_enter Try.func4, Try.ntmps4
  go_wp2_with (first
    | (go_at_call 5; refine (HS7.out _).mono ?_; clear HS7; rintro e w1 ⟨rfl, hb1⟩; have HB1 := Lib.hid hb1; have HP1 := Lib.hid (HP.out.below hb1); clear hb1 HP)
    | (go_at_call 12; refine (C1.out _ HP1.out).mono ?_; clear C1; rintro e w2 ⟨p2, c2, rfl, hz2, hb2⟩; have HB2 := Lib.hid (HB1.out.trans (hb2.mono HB1.out.size)); have HP2 := Lib.hid (HP1.out.below hb2); have HZ2 := Lib.hid hz2; clear hb2 hz2 HB1 HP1)
    | (go_at_call 13; refine (C2.out _ HP2.out).mono ?_; clear C2; rintro e w3 ⟨p3, c3, rfl, hz3, hb3⟩; have HB3 := Lib.hid (HB2.out.trans (hb3.mono HB2.out.size)); have HP3 := Lib.hid (HP2.out.below hb3); have HZ3 := Lib.hid hz3; have HZ2' := Lib.hid (HZ2.out.below hb3); clear hb3 hz3 HB2 HP2 HZ2)
    | (go_at_call 14; refine (C3.out _ HP3.out).mono ?_; clear C3; rintro e w4 ⟨p4, c4, rfl, hz4, hb4⟩; have HB4 := Lib.hid (HB3.out.trans (hb4.mono HB3.out.size)); have HA := Lib.hid (HZ2'.out.below hb4); have HB := Lib.hid (HZ3.out.below hb4); have HX := Lib.hid hz4; clear hb4 hz4 HB3 HP3 HZ3 HZ2'))
  have HAR := Lib.hid (fun (r : Nat) (hr : r < rows) => RowsZ.at HA.out r hr)
  have HBR := Lib.hid (fun (r : Nat) (hr : r < rows) => RowsZ.at HB.out r hr)
  have HXR := Lib.hid (fun (k : Nat) (s : Nat × Nat) (hk : (emptyL rows cols T)[k]? = some s) => SlotsZ.at HX.out k s hk)
  clear HA HB HX
  go_loopw [15, 14] (fun s15 s14 x => ∃ r k : Nat, r ≤ rows ∧ s15 = .int .i64 (r : Int) ∧ s14 = .int .i64 (k : Int) ∧ k ≤ nx ∧ Hid (k = freeN T (aheadL 0 0 cols r 0)) ∧ Hid (Below w4.heap.size w4 x)) (fun s15 _ _ => rows - (intOf s15).toNat)
  case atStart => exact ⟨0, 0, Nat.zero_le _, rfl, rfl, Nat.zero_le _, Lib.hid (freeN_start T cols).symm, Lib.hid (Below.refl _ _)⟩
  case round =>
    obtain ⟨r, k, hr, rfl, rfl, hkn, HK, HW⟩ := hrel
    by_cases hlt : r < rows
    · obtain ⟨b, q, cq, hp2, lb, cb, hqi⟩ := HAR.out r hlt
      obtain ⟨b', q', cq', hp3, lb', cb', hqi'⟩ := HBR.out r hlt
      subst hp2 hp3
      have lw := HW.out.size
      have u1 := (HW.out.cell (p := ⟨b, r, none⟩) lb).trans cb
      have u2 := (HW.out.cell (p := ⟨b', r, none⟩) lb').trans cb'
      have lb1 : b < wr.heap.size := by omega
      have lb1' : b' < wr.heap.size := by omega
      have HI1 := Lib.hid (hqi.below HW.out)
      have HI2 := Lib.hid (hqi'.below HW.out)
      have HCB := Lib.hid cb'
      have HQI := Lib.hid hqi'
      clear cb cb' hqi hqi' HAR
      go_wp2
      refine region_still_tailF 8 (by kernel_rfl) (by decide +kernel) (fun w5 hw5 => ?_)
      have bW : Below wr.heap.size wr w5 := by rw [← hw5]; exact (Below.refl _ wr).drew
      have v1 := (bW.cell (p := ⟨b, r, none⟩) lb1).trans u1
      have v2 := (bW.cell (p := ⟨b', r, none⟩) lb1').trans u2
      have HC := Lib.hid (ints_any _ _ _ _ w5 (HI1.out.below bW) (HI2.out.below bW))
      have HW5 := Lib.hid (HW.out.trans (bW.mono lw))
      clear hw5 bW u1 u2 HI1 HI2 HW lw
      simp only [List.take_succ_cons, List.take_zero, List.drop_succ_cons, List.drop_zero]
      repeat still_step
      refine wpStill_nil ?_
      go_wp2_with (go_at_call 11; refine HC.out.mono ?_; clear HC; rintro e w6 ⟨rfl, n6, rfl⟩; simp only [decide_true]; have HW6 := Lib.hid (HW5.out.trans (below_dn w4.heap.size w5 n6)); clear HW5 v1 v2)
      generalize w5.drewN n6 = w7 at *
      go_loopw [16, 14] (fun s16 s14 x => ∃ c k : Nat, c ≤ cols ∧ s16 = .int .i64 (c : Int) ∧ s14 = .int .i64 (k : Int) ∧ k ≤ nx ∧ Hid (k = freeN T (aheadL 0 0 cols r c)) ∧ Hid (Below w4.heap.size w4 x)) (fun s16 _ _ => cols - (intOf s16).toNat)
      case atStart => exact ⟨0, k, Nat.zero_le _, rfl, rfl, hkn, HK, HW6⟩
      case round =>
        clear HK HW6 hkn
        obtain ⟨c, k, hc, rfl, rfl, hkn, HK, HW⟩ := hrel
        have lw := HW.out.size
        have u2 := (HW.out.cell (p := ⟨b', r, none⟩) lb').trans HCB.out
        have lb1' : b' < wr.heap.size := by omega
        by_cases hlc2 : c < cols
        · exfalso; omega
        · have hcc : c = cols := by omega
          have HK2 : Hid (k = freeN T (aheadL 0 0 cols (r + 1) 0)) := Lib.hid (by rw [← freeN_row, HK.out, hcc])
          clear hcc HK
          go_wp2
          go_roundw
          case rel => exact ⟨r + 1, k, by omega, by go_num, rfl, hkn, HK2, HW⟩
          case measure => simp [intOf]; omega
    · have hrr : r = rows := by omega
      have hke : k = nx := by rw [HK.out, hrr, freeN_end, HNX.out]
      have HF := Lib.hid (HB4.out.trans (HW.out.mono HB4.out.size))
      clear HK HW
      subst hke
      go_wp2
      go_ret
      exact ⟨by simp, HF.out⟩
set_option maxRecDepth 100000 in
set_option maxHeartbeats 2000000 in
theorem good_c6_le (a0 : Option Addr) (len0 cap0 : Nat) (L : List Pz) (rows cols : Nat) (w : World) (hP : PsAt w (.slice a0 len0 cap0) L) (hz : L.length = len0) (hlc : len0 ≤ cap0) (hcm : cap0 ≤ 9223372036854775807) (hI : ∀ p ∈ L, p.ok) (hS : SizeQ rows cols) (hO : OwnQ rows cols (L.take len0)) (k1 : 0 < (rows : Int)) (k2 : (rows : Int) ≤ 2000) (k3 : 0 < (cols : Int)) (k4 : (cols : Int) ≤ 10000) (pq : Int) (hpq : (rows : Int) * (cols : Int) = pq) (k5 : pq ≤ 10000) (h60 : (len0 : Int) ≤ 60) :
    Calls Try.prog 4 #[.slice a0 len0 cap0, .int .i64 rows, .int .i64 cols] w fun e w' => e = .returned (.bool true) ∧ Below w.heap.size w w' := by
  have HS7 := Lib.hid (fun X => shown7_any X)
  have HP := Lib.hid (places_take hP hz len0 (by omega))
  obtain ⟨T, hT⟩ : ∃ T, L.take len0 = T := ⟨_, rfl⟩
  have HLN : Hid (T.length = len0) := Lib.hid (by rw [← hT, List.length_take]; omega)
  have HI : Hid (∀ p ∈ T, p.ok) := Lib.hid (fun p hp => hI p (List.mem_of_mem_take (hT ▸ hp)))
  rw [hT] at HP hO
  clear hP hz hI hT
  have hpq0 : 0 ≤ pq := by rw [← hpq]; exact Int.mul_nonneg (by omega) (by omega)
  have hrc : rows ≤ 65536 ∧ cols ≤ 10000 := by have := hS.1; have := hS.2.1; omega
  obtain ⟨nx, hnx⟩ : ∃ nx, (emptyL rows cols T).length = nx := ⟨_, rfl⟩
  have hnx6 : nx ≤ 1000000 := by
    have h1 : (emptyL rows cols T).length ≤ (slotsL ⟨0, 0, 0, rows, cols⟩).length := List.length_filter_le _ _
    have h2 : (slotsL ⟨0, 0, 0, rows, cols⟩).length = rows * cols := by
      unfold slotsL rowsS rowS
      simp [List.length_flatMap, List.map_const', List.sum_replicate_nat]
    have h3 := hS.2.2
    have h4 : ((rows : Int) * (cols : Int)) = ((rows * cols : Nat) : Int) := by simp
    omega
  have C1 := Lib.hid (fun (X : World) (hp : PsAt X (.slice a0 len0 cap0) T) => slots7_ok HLN.out hp HI.out hS hO)
  have C2 := Lib.hid (fun (X : World) (hp : PsAt X (.slice a0 len0 cap0) T) => refslots7_ok HLN.out hp HI.out hS hO)
  have C3 := Lib.hid (fun (X : World) (hp : PsAt X (.slice a0 len0 cap0) T) => empty7_ok HLN.out hp HI.out hS hO)
  rw [hnx] at C3
  have HNX := Lib.hid hnx
  have HRC := Lib.hid hrc
  clear hS hO HLN HI hnx
  go_enter Try.func4, Try.ntmps4
  go_wp2_with (first
    | (go_at_call 5; refine (HS7.out _).mono ?_; clear HS7; rintro e w1 ⟨rfl, hb1⟩; have HB1 := Lib.hid hb1; have HP1 := Lib.hid (HP.out.below hb1); clear hb1 HP)
    | (go_at_call 12; refine (C1.out _ HP1.out).mono ?_; clear C1; rintro e w2 ⟨p2, c2, rfl, hz2, hb2⟩; have HB2 := Lib.hid (HB1.out.trans (hb2.mono HB1.out.size)); have HP2 := Lib.hid (HP1.out.below hb2); have HZ2 := Lib.hid hz2; clear hb2 hz2 HB1 HP1)
    | (go_at_call 13; refine (C2.out _ HP2.out).mono ?_; clear C2; rintro e w3 ⟨p3, c3, rfl, hz3, hb3⟩; have HB3 := Lib.hid (HB2.out.trans (hb3.mono HB2.out.size)); have HP3 := Lib.hid (HP2.out.below hb3); have HZ3 := Lib.hid hz3; have HZ2' := Lib.hid (HZ2.out.below hb3); clear hb3 hz3 HB2 HP2 HZ2)
    | (go_at_call 14; refine (C3.out _ HP3.out).mono ?_; clear C3; rintro e w4 ⟨p4, c4, rfl, hz4, hb4⟩; have HB4 := Lib.hid (HB3.out.trans (hb4.mono HB3.out.size)); have HA := Lib.hid (HZ2'.out.below hb4); have HB := Lib.hid (HZ3.out.below hb4); have HX := Lib.hid hz4; clear hb4 hz4 HB3 HP3 HZ3 HZ2'))
  have HAR := Lib.hid (fun (r : Nat) (hr : r < rows) => RowsZ.at HA.out r hr)
  have HBR := Lib.hid (fun (r : Nat) (hr : r < rows) => RowsZ.at HB.out r hr)
  have HXR := Lib.hid (fun (k : Nat) (s : Nat × Nat) (hk : (emptyL rows cols T)[k]? = some s) => SlotsZ.at HX.out k s hk)
  clear HA HB HX
  go_loopw [15, 14] (fun s15 s14 x => ∃ r k : Nat, r ≤ rows ∧ s15 = .int .i64 (r : Int) ∧ s14 = .int .i64 (k : Int) ∧ k ≤ nx ∧ Hid (k = freeN T (aheadL 0 0 cols r 0)) ∧ Hid (Below w4.heap.size w4 x)) (fun s15 _ _ => rows - (intOf s15).toNat)
  case atStart => exact ⟨0, 0, Nat.zero_le _, rfl, rfl, Nat.zero_le _, Lib.hid (freeN_start T cols).symm, Lib.hid (Below.refl _ _)⟩
  case round =>
    obtain ⟨r, k, hr, rfl, rfl, hkn, HK, HW⟩ := hrel
    by_cases hlt : r < rows
    · obtain ⟨b, q, cq, hp2, lb, cb, hqi⟩ := HAR.out r hlt
      obtain ⟨b', q', cq', hp3, lb', cb', hqi'⟩ := HBR.out r hlt
      subst hp2 hp3
      have lw := HW.out.size
      have u1 := (HW.out.cell (p := ⟨b, r, none⟩) lb).trans cb
      have u2 := (HW.out.cell (p := ⟨b', r, none⟩) lb').trans cb'
      have lb1 : b < wr.heap.size := by omega
      have lb1' : b' < wr.heap.size := by omega
      have HI1 := Lib.hid (hqi.below HW.out)
      have HI2 := Lib.hid (hqi'.below HW.out)
      have HCB := Lib.hid cb'
      have HQI := Lib.hid hqi'
      clear cb cb' hqi hqi' HAR
      go_wp2
      refine region_still_tailF 8 (by kernel_rfl) (by decide +kernel) (fun w5 hw5 => ?_)
      have bW : Below wr.heap.size wr w5 := by rw [← hw5]; exact (Below.refl _ wr).drew
      have v1 := (bW.cell (p := ⟨b, r, none⟩) lb1).trans u1
      have v2 := (bW.cell (p := ⟨b', r, none⟩) lb1').trans u2
      have HC := Lib.hid (ints_any _ _ _ _ w5 (HI1.out.below bW) (HI2.out.below bW))
      have HW5 := Lib.hid (HW.out.trans (bW.mono lw))
      clear hw5 bW u1 u2 HI1 HI2 HW lw
      simp only [List.take_succ_cons, List.take_zero, List.drop_succ_cons, List.drop_zero]
      repeat still_step
      refine wpStill_nil ?_
      go_wp2_with (go_at_call 11; refine HC.out.mono ?_; clear HC; rintro e w6 ⟨rfl, n6, rfl⟩; simp only [decide_true]; have HW6 := Lib.hid (HW5.out.trans (below_dn w4.heap.size w5 n6)); clear HW5 v1 v2)
      generalize w5.drewN n6 = w7 at *
      go_loopw [16, 14] (fun s16 s14 x => ∃ c k : Nat, c ≤ cols ∧ s16 = .int .i64 (c : Int) ∧ s14 = .int .i64 (k : Int) ∧ k ≤ nx ∧ Hid (k = freeN T (aheadL 0 0 cols r c)) ∧ Hid (Below w4.heap.size w4 x)) (fun s16 _ _ => cols - (intOf s16).toNat)
      case atStart => exact ⟨0, k, Nat.zero_le _, rfl, rfl, hkn, HK, HW6⟩
      case round =>
        clear HK HW6 hkn
        obtain ⟨c, k, hc, rfl, rfl, hkn, HK, HW⟩ := hrel
        have lw := HW.out.size
        have u2 := (HW.out.cell (p := ⟨b', r, none⟩) lb').trans HCB.out
        have lb1' : b' < wr.heap.size := by omega
        by_cases hlc2 : c < cols
        · obtain ⟨kb, ko, hq, lkb, hkc⟩ := ints_cell HQI.out c (by rw [rowM_len]; exact hlc2)
          subst hq
          rw [rowM_get _ _ _ _ hlc2] at hkc
          simp only [Option.getD_some] at hkc
          obtain ⟨z, hz⟩ : ∃ z, ownA (entL 0 T).reverse (r, c) = z := ⟨_, rfl⟩
          rw [hz] at hkc
          have u3 := (HW.out.cell (p := ⟨kb, ko + c, none⟩) lkb).trans hkc
          have lk1 : kb < wr.heap.size := by omega
          by_cases hge : 0 ≤ z
          · have HK2 : Hid (k = freeN T (aheadL 0 0 cols r (c + 1))) := Lib.hid (by rw [freeN_taken (rows := rows) (by rw [hz]; exact hge)]; exact HK.out)
            clear hkc hz HK
            go_wp2
            go_roundw
            case rel => exact ⟨c + 1, k, by omega, by go_num, rfl, hkn, HK2, HW⟩
            case measure => simp [intOf]; omega
          · obtain ⟨e1, e2⟩ := freeN_free (L := T) (rows := rows) (cols := cols) hlt hlc2 (by rw [hz]; exact hge)
            rw [← HK.out] at e1 e2
            have hknx : k < nx := by have := (List.getElem?_eq_some_iff.1 e2).1; rw [HNX.out] at this; exact this
            obtain ⟨xb, hx4, lxb, x1, x2⟩ := HXR.out k _ e2
            subst hx4
            have y1 := (HW.out.cell (p := ⟨xb, k * 2, none⟩) lxb).trans x1
            have y2 := (HW.out.cell (p := ⟨xb, k * 2 + 1, none⟩) lxb).trans x2
            have lx1 : xb < wr.heap.size := by omega
            have HK2 : Hid (k + 1 = freeN T (aheadL 0 0 cols r (c + 1))) := Lib.hid e1.symm
            dsimp only at y1 y2
            have hge2 : z < 0 := by omega
            have hE : ∀ X : World, (binOp .neq 43 (.agg #[.int .i64 (r : Int), .int .i64 (c : Int)]) (.agg #[.int .i64 (r : Int), .int .i64 (c : Int)])).run Try.prog X = .ok (.bool false) X := fun X => slot_same _ _ X
            clear hkc hz HK e1 e2 x1 x2 hge
            go_wp2
            go_roundw
            case rel => exact ⟨c + 1, k + 1, by omega, by go_num, by go_num, by omega, HK2, HW⟩
            case measure => simp [intOf]; omega
        · have hcc : c = cols := by omega
          have HK2 : Hid (k = freeN T (aheadL 0 0 cols (r + 1) 0)) := Lib.hid (by rw [← freeN_row, HK.out, hcc])
          clear hcc HK
          go_wp2
          go_roundw
          case rel => exact ⟨r + 1, k, by omega, by go_num, rfl, hkn, HK2, HW⟩
          case measure => simp [intOf]; omega
    · have hrr : r = rows := by omega
      have hke : k = nx := by rw [HK.out, hrr, freeN_end, HNX.out]
      have HF := Lib.hid (HB4.out.trans (HW.out.mono HB4.out.size))
      clear HK HW
      subst hke
      go_wp2
      go_ret
      exact ⟨by simp, HF.out⟩
set_option maxRecDepth 100000 in
set_option maxHeartbeats 2000000 in
theorem skip_s3_gt (a0 : Option Addr) (len0 cap0 : Nat) (L : List Pz) (rows cols : Int) (w : World) (hP : PsAt w (.slice a0 len0 cap0) L) (hz : L.length = len0) (hlc : len0 ≤ cap0) (hcm : cap0 ≤ 9223372036854775807) (hI : ∀ p ∈ L, p.ok) (k1 : 2000 < rows) (k2 : rows ≤ 65536) (k3 : cols ≤ 0) (h60 : (60 : Int) < (len0 : Int)) :
    Calls Try.prog 4 #[.slice a0 len0 cap0, .int .i64 rows, .int .i64 cols] w fun e w' => e = .returned (.bool true) ∧ Below w.heap.size w w' := by
  have HS7 := Lib.hid (fun X => shown7_any X)
  clear hP hz hI
  go_enter Try.func4, Try.ntmps4
  go_wp2_with (go_at_call 5; refine (HS7.out _).mono ?_; clear HS7; rintro e w1 ⟨rfl, hb1⟩; have HB1 := Lib.hid hb1; clear hb1)
  go_ret
  exact ⟨rfl, HB1.out⟩
set_option maxRecDepth 100000 in
set_option maxHeartbeats 2000000 in
theorem skip_s5_gt (a0 : Option Addr) (len0 cap0 : Nat) (L : List Pz) (rows cols : Int) (w : World) (hP : PsAt w (.slice a0 len0 cap0) L) (hz : L.length = len0) (hlc : len0 ≤ cap0) (hcm : cap0 ≤ 9223372036854775807) (hI : ∀ p ∈ L, p.ok) (k1 : 2000 < rows) (k2 : rows ≤ 65536) (k3 : 10000 < cols) (h60 : (60 : Int) < (len0 : Int)) :
    Calls Try.prog 4 #[.slice a0 len0 cap0, .int .i64 rows, .int .i64 cols] w fun e w' => e = .returned (.bool true) ∧ Below w.heap.size w w' := by
  have HS7 := Lib.hid (fun X => shown7_any X)
  clear hP hz hI
  go_enter Try.func4, Try.ntmps4
  go_wp2_with (go_at_call 5; refine (HS7.out _).mono ?_; clear HS7; rintro e w1 ⟨rfl, hb1⟩; have HB1 := Lib.hid hb1; clear hb1)
  go_ret
  exact ⟨rfl, HB1.out⟩
set_option maxRecDepth 100000 in
set_option maxHeartbeats 2000000 in
theorem skip_s6_gt (a0 : Option Addr) (len0 cap0 : Nat) (L : List Pz) (rows cols : Int) (w : World) (hP : PsAt w (.slice a0 len0 cap0) L) (hz : L.length = len0) (hlc : len0 ≤ cap0) (hcm : cap0 ≤ 9223372036854775807) (hI : ∀ p ∈ L, p.ok) (k1 : 2000 < rows) (k2 : rows ≤ 65536) (k3 : 0 < cols) (k4 : cols ≤ 10000) (pq : Int) (hpq : rows * cols = pq) (k5 : pq ≤ 10000) (h60 : (60 : Int) < (len0 : Int)) :
    Calls Try.prog 4 #[.slice a0 len0 cap0, .int .i64 rows, .int .i64 cols] w fun e w' => e = .returned (.bool true) ∧ Below w.heap.size w w' := by
  have HS7 := Lib.hid (fun X => shown7_any X)
  have hpq0 : 0 ≤ pq := by rw [← hpq]; exact Int.mul_nonneg (by omega) (by omega)
  have hpq1 : pq ≤ 655360000 := by rw [← hpq]; have := Int.mul_le_mul (show rows ≤ 65536 by omega) (show cols ≤ 10000 by omega) (by omega) (by omega); omega
  clear hP hz hI
  go_enter Try.func4, Try.ntmps4
  go_wp2_with (go_at_call 5; refine (HS7.out _).mono ?_; clear HS7; rintro e w1 ⟨rfl, hb1⟩; have HB1 := Lib.hid hb1; clear hb1)
  go_ret
  exact ⟨rfl, HB1.out⟩
set_option maxRecDepth 100000 in
set_option maxHeartbeats 2000000 in
theorem skip_s7_gt (a0 : Option Addr) (len0 cap0 : Nat) (L : List Pz) (rows cols : Int) (w : World) (hP : PsAt w (.slice a0 len0 cap0) L) (hz : L.length = len0) (hlc : len0 ≤ cap0) (hcm : cap0 ≤ 9223372036854775807) (hI : ∀ p ∈ L, p.ok) (k1 : 2000 < rows) (k2 : rows ≤ 65536) (k3 : 0 < cols) (k4 : cols ≤ 10000) (pq : Int) (hpq : rows * cols = pq) (k5 : 1000000 < pq) (h60 : (60 : Int) < (len0 : Int)) :
    Calls Try.prog 4 #[.slice a0 len0 cap0, .int .i64 rows, .int .i64 cols] w fun e w' => e = .returned (.bool true) ∧ Below w.heap.size w w' := by
  have HS7 := Lib.hid (fun X => shown7_any X)
  have hpq0 : 0 ≤ pq := by rw [← hpq]; exact Int.mul_nonneg (by omega) (by omega)
  have hpq1 : pq ≤ 655360000 := by rw [← hpq]; have := Int.mul_le_mul (show rows ≤ 65536 by omega) (show cols ≤ 10000 by omega) (by omega) (by omega); omega
  clear hP hz hI
  go_enter Try.func4, Try.ntmps4
  go_wp2_with (go_at_call 5; refine (HS7.out _).mono ?_; clear HS7; rintro e w1 ⟨rfl, hb1⟩; have HB1 := Lib.hid hb1; clear hb1)
  go_ret
  exact ⟨rfl, HB1.out⟩
set_option maxRecDepth 100000 in
set_option maxHeartbeats 2000000 in
theorem skip_s8_gt (a0 : Option Addr) (len0 cap0 : Nat) (L : List Pz) (rows cols : Int) (w : World) (hP : PsAt w (.slice a0 len0 cap0) L) (hz : L.length = len0) (hlc : len0 ≤ cap0) (hcm : cap0 ≤ 9223372036854775807) (hI : ∀ p ∈ L, p.ok) (k1 : 0 < rows) (k2 : rows ≤ 65536) (k3 : 0 < cols) (k4 : cols ≤ 10000) (pq : Int) (hpq : rows * cols = pq) (k5 : 10000 < pq) (k6 : pq ≤ 1000000) (h60 : (60 : Int) < (len0 : Int)) :
    Calls Try.prog 4 #[.slice a0 len0 cap0, .int .i64 rows, .int .i64 cols] w fun e w' => e = .returned (.bool true) ∧ Below w.heap.size w w' := by
  have HS7 := Lib.hid (fun X => shown7_any X)
  have hpq0 : 0 ≤ pq := by rw [← hpq]; exact Int.mul_nonneg (by omega) (by omega)
  have hpq1 : pq ≤ 655360000 := by rw [← hpq]; have := Int.mul_le_mul (show rows ≤ 65536 by omega) (show cols ≤ 10000 by omega) (by omega) (by omega); omega
  clear hP hz hI
  go_enter Try.func4, Try.ntmps4
  go_wp2_with (go_at_call 5; refine (HS7.out _).mono ?_; clear HS7; rintro e w1 ⟨rfl, hb1⟩; have HB1 := Lib.hid hb1; clear hb1)
  go_ret
  exact ⟨rfl, HB1.out⟩
set_option maxRecDepth 100000 in
set_option maxHeartbeats 2000000 in
theorem bad_c1_gt (a0 : Option Addr) (len0 cap0 : Nat) (L : List Pz) (rows cols : Int) (w : World) (hP : PsAt w (.slice a0 len0 cap0) L) (hz : L.length = len0) (hlc : len0 ≤ cap0) (hcm : cap0 ≤ 9223372036854775807) (hI : ∀ p ∈ L, p.ok) (hr : I64 rows) (hc : I64 cols) (hO : ¬ (SizeQ rows cols ∧ OwnQ rows.toNat cols.toNat (L.take 60))) (k1 : rows ≤ 0) (h60 : (60 : Int) < (len0 : Int)) :
    Calls Try.prog 4 #[.slice a0 len0 cap0, .int .i64 rows, .int .i64 cols] w fun e w' => e = .returned (.bool true) ∧ Below w.heap.size w w' := by
  have HS7 := Lib.hid (fun X => shown7_any X)
  have HP := Lib.hid (places_take hP hz 60 (by omega))
  obtain ⟨T, hT⟩ : ∃ T, L.take 60 = T := ⟨_, rfl⟩
  have HLN : Hid (T.length = 60) := Lib.hid (by rw [← hT, List.length_take]; omega)
  have HI : Hid (∀ p ∈ T, p.ok) := Lib.hid (fun p hp => hI p (List.mem_of_mem_take (hT ▸ hp)))
  rw [hT] at HP hO
  clear hP hz hI hT
  have C1 := Lib.hid (fun (X : World) (hp : PsAt X (.slice a0 60 cap0) T) => slots7_bad (rows := rows) (cols := cols) HLN.out hp HI.out hO)
  have C2 := Lib.hid (fun (X : World) (hp : PsAt X (.slice a0 60 cap0) T) => refslots7_bad (rows := rows) (cols := cols) HLN.out hp HI.out hr hc hO)
  have C3 := Lib.hid (fun (X : World) (hp : PsAt X (.slice a0 60 cap0) T) => empty7_bad (rows := rows) (cols := cols) HLN.out hp HI.out hO)
  clear hr hc hO HLN HI
  go_enter Try.func4, Try.ntmps4
  go_wp2_with (first
    | (go_at_call 5; refine (HS7.out _).mono ?_; clear HS7; rintro e w1 ⟨rfl, hb1⟩; have HB1 := Lib.hid hb1; have HP1 := Lib.hid (HP.out.below hb1); clear hb1 HP)
    | (go_at_call 12; refine (C1.out _ HP1.out).mono ?_; clear C1; rintro e w2 ⟨rfl, hb2⟩; have HB2 := Lib.hid (HB1.out.trans (hb2.mono HB1.out.size)); have HP2 := Lib.hid (HP1.out.below hb2); clear hb2 HB1 HP1)
    | (go_at_call 13; refine (C2.out _ HP2.out).mono ?_; clear C2; rintro e w3 ⟨rfl, hb3⟩; have HB3 := Lib.hid (HB2.out.trans (hb3.mono HB2.out.size)); have HP3 := Lib.hid (HP2.out.below hb3); clear hb3 HB2 HP2)
    | (go_at_call 14; refine (C3.out _ HP3.out).mono ?_; clear C3; rintro e w4 ⟨rfl, hb4⟩; have HB4 := Lib.hid (HB3.out.trans (hb4.mono HB3.out.size)); clear hb4 HB3 HP3))
  refine wp_loop_rounds 1 ?_
  rw [rounds_succ]
  go_wp2
  go_ret
  exact ⟨rfl, HB4.out⟩
set_option maxRecDepth 100000 in
set_option maxHeartbeats 2000000 in
theorem bad_c2_gt (a0 : Option Addr) (len0 cap0 : Nat) (L : List Pz) (rows cols : Int) (w : World) (hP : PsAt w (.slice a0 len0 cap0) L) (hz : L.length = len0) (hlc : len0 ≤ cap0) (hcm : cap0 ≤ 9223372036854775807) (hI : ∀ p ∈ L, p.ok) (hr : I64 rows) (hc : I64 cols) (hO : ¬ (SizeQ rows cols ∧ OwnQ rows.toNat cols.toNat (L.take 60))) (k1 : 0 < rows) (k2 : rows ≤ 2000) (k3 : cols ≤ 0) (h60 : (60 : Int) < (len0 : Int)) :
    Calls Try.prog 4 #[.slice a0 len0 cap0, .int .i64 rows, .int .i64 cols] w fun e w' => e = .returned (.bool true) ∧ Below w.heap.size w w' := by
  have HS7 := Lib.hid (fun X => shown7_any X)
  have HP := Lib.hid (places_take hP hz 60 (by omega))
  obtain ⟨T, hT⟩ : ∃ T, L.take 60 = T := ⟨_, rfl⟩
  have HLN : Hid (T.length = 60) := Lib.hid (by rw [← hT, List.length_take]; omega)
  have HI : Hid (∀ p ∈ T, p.ok) := Lib.hid (fun p hp => hI p (List.mem_of_mem_take (hT ▸ hp)))
  rw [hT] at HP hO
  clear hP hz hI hT
  have C1 := Lib.hid (fun (X : World) (hp : PsAt X (.slice a0 60 cap0) T) => slots7_bad (rows := rows) (cols := cols) HLN.out hp HI.out hO)
  have C2 := Lib.hid (fun (X : World) (hp : PsAt X (.slice a0 60 cap0) T) => refslots7_bad (rows := rows) (cols := cols) HLN.out hp HI.out hr hc hO)
  have C3 := Lib.hid (fun (X : World) (hp : PsAt X (.slice a0 60 cap0) T) => empty7_bad (rows := rows) (cols := cols) HLN.out hp HI.out hO)
  clear hr hc hO HLN HI
  go_enter Try.func4, Try.ntmps4
  go_wp2_with (first
    | (go_at_call 5; refine (HS7.out _).mono ?_; clear HS7; rintro e w1 ⟨rfl, hb1⟩; have HB1 := Lib.hid hb1; have HP1 := Lib.hid (HP.out.below hb1); clear hb1 HP)
    | (go_at_call 12; refine (C1.out _ HP1.out).mono ?_; clear C1; rintro e w2 ⟨rfl, hb2⟩; have HB2 := Lib.hid (HB1.out.trans (hb2.mono HB1.out.size)); have HP2 := Lib.hid (HP1.out.below hb2); clear hb2 HB1 HP1)
    | (go_at_call 13; refine (C2.out _ HP2.out).mono ?_; clear C2; rintro e w3 ⟨rfl, hb3⟩; have HB3 := Lib.hid (HB2.out.trans (hb3.mono HB2.out.size)); have HP3 := Lib.hid (HP2.out.below hb3); clear hb3 HB2 HP2)
    | (go_at_call 14; refine (C3.out _ HP3.out).mono ?_; clear C3; rintro e w4 ⟨rfl, hb4⟩; have HB4 := Lib.hid (HB3.out.trans (hb4.mono HB3.out.size)); clear hb4 HB3 HP3))
  refine wp_loop_rounds 1 ?_
  rw [rounds_succ]
  go_wp2
  go_ret
  exact ⟨rfl, HB4.out⟩
set_option maxRecDepth 100000 in
set_option maxHeartbeats 2000000 in
theorem bad_c4a_gt (a0 : Option Addr) (len0 cap0 : Nat) (L : List Pz) (rows cols : Int) (w : World) (hP : PsAt w (.slice a0 len0 cap0) L) (hz : L.length = len0) (hlc : len0 ≤ cap0) (hcm : cap0 ≤ 9223372036854775807) (hI : ∀ p ∈ L, p.ok) (hr : I64 rows) (hc : I64 cols) (hO : ¬ (SizeQ rows cols ∧ OwnQ rows.toNat cols.toNat (L.take 60))) (k1 : 65536 < rows) (k2 : cols ≤ 0) (h60 : (60 : Int) < (len0 : Int)) :
    Calls Try.prog 4 #[.slice a0 len0 cap0, .int .i64 rows, .int .i64 cols] w fun e w' => e = .returned (.bool true) ∧ Below w.heap.size w w' := by
  have HS7 := Lib.hid (fun X => shown7_any X)
  have HP := Lib.hid (places_take hP hz 60 (by omega))
  obtain ⟨T, hT⟩ : ∃ T, L.take 60 = T := ⟨_, rfl⟩
  have HLN : Hid (T.length = 60) := Lib.hid (by rw [← hT, List.length_take]; omega)
  have HI : Hid (∀ p ∈ T, p.ok) := Lib.hid (fun p hp => hI p (List.mem_of_mem_take (hT ▸ hp)))
  rw [hT] at HP hO
  clear hP hz hI hT
  have C1 := Lib.hid (fun (X : World) (hp : PsAt X (.slice a0 60 cap0) T) => slots7_bad (rows := rows) (cols := cols) HLN.out hp HI.out hO)
  have C2 := Lib.hid (fun (X : World) (hp : PsAt X (.slice a0 60 cap0) T) => refslots7_bad (rows := rows) (cols := cols) HLN.out hp HI.out hr hc hO)
  have C3 := Lib.hid (fun (X : World) (hp : PsAt X (.slice a0 60 cap0) T) => empty7_bad (rows := rows) (cols := cols) HLN.out hp HI.out hO)
  clear hr hc hO HLN HI
  go_enter Try.func4, Try.ntmps4
  go_wp2_with (first
    | (go_at_call 5; refine (HS7.out _).mono ?_; clear HS7; rintro e w1 ⟨rfl, hb1⟩; have HB1 := Lib.hid hb1; have HP1 := Lib.hid (HP.out.below hb1); clear hb1 HP)
    | (go_at_call 12; refine (C1.out _ HP1.out).mono ?_; clear C1; rintro e w2 ⟨rfl, hb2⟩; have HB2 := Lib.hid (HB1.out.trans (hb2.mono HB1.out.size)); have HP2 := Lib.hid (HP1.out.below hb2); clear hb2 HB1 HP1)
    | (go_at_call 13; refine (C2.out _ HP2.out).mono ?_; clear C2; rintro e w3 ⟨rfl, hb3⟩; have HB3 := Lib.hid (HB2.out.trans (hb3.mono HB2.out.size)); have HP3 := Lib.hid (HP2.out.below hb3); clear hb3 HB2 HP2)
    | (go_at_call 14; refine (C3.out _ HP3.out).mono ?_; clear C3; rintro e w4 ⟨rfl, hb4⟩; have HB4 := Lib.hid (HB3.out.trans (hb4.mono HB3.out.size)); clear hb4 HB3 HP3))
  refine wp_loop_rounds 1 ?_
  rw [rounds_succ]
  go_wp2
  go_ret
  exact ⟨rfl, HB4.out⟩
set_option maxRecDepth 100000 in
set_option maxHeartbeats 2000000 in
theorem bad_c4b_gt (a0 : Option Addr) (len0 cap0 : Nat) (L : List Pz) (rows cols : Int) (w : World) (hP : PsAt w (.slice a0 len0 cap0) L) (hz : L.length = len0) (hlc : len0 ≤ cap0) (hcm : cap0 ≤ 9223372036854775807) (hI : ∀ p ∈ L, p.ok) (hr : I64 rows) (hc : I64 cols) (hO : ¬ (SizeQ rows cols ∧ OwnQ rows.toNat cols.toNat (L.take 60))) (k1 : 65536 < rows) (k2 : 0 < cols) (h60 : (60 : Int) < (len0 : Int)) :
    Calls Try.prog 4 #[.slice a0 len0 cap0, .int .i64 rows, .int .i64 cols] w fun e w' => e = .returned (.bool true) ∧ Below w.heap.size w w' := by
  have HS7 := Lib.hid (fun X => shown7_any X)
  have HP := Lib.hid (places_take hP hz 60 (by omega))
  obtain ⟨T, hT⟩ : ∃ T, L.take 60 = T := ⟨_, rfl⟩
  have HLN : Hid (T.length = 60) := Lib.hid (by rw [← hT, List.length_take]; omega)
  have HI : Hid (∀ p ∈ T, p.ok) := Lib.hid (fun p hp => hI p (List.mem_of_mem_take (hT ▸ hp)))
  rw [hT] at HP hO
  clear hP hz hI hT
  have C1 := Lib.hid (fun (X : World) (hp : PsAt X (.slice a0 60 cap0) T) => slots7_bad (rows := rows) (cols := cols) HLN.out hp HI.out hO)
  have C2 := Lib.hid (fun (X : World) (hp : PsAt X (.slice a0 60 cap0) T) => refslots7_bad (rows := rows) (cols := cols) HLN.out hp HI.out hr hc hO)
  have C3 := Lib.hid (fun (X : World) (hp : PsAt X (.slice a0 60 cap0) T) => empty7_bad (rows := rows) (cols := cols) HLN.out hp HI.out hO)
  clear hr hc hO HLN HI
  go_enter Try.func4, Try.ntmps4
  go_wp2_with (first
    | (go_at_call 5; refine (HS7.out _).mono ?_; clear HS7; rintro e w1 ⟨rfl, hb1⟩; have HB1 := Lib.hid hb1; have HP1 := Lib.hid (HP.out.below hb1); clear hb1 HP)
    | (go_at_call 12; refine (C1.out _ HP1.out).mono ?_; clear C1; rintro e w2 ⟨rfl, hb2⟩; have HB2 := Lib.hid (HB1.out.trans (hb2.mono HB1.out.size)); have HP2 := Lib.hid (HP1.out.below hb2); clear hb2 HB1 HP1)
    | (go_at_call 13; refine (C2.out _ HP2.out).mono ?_; clear C2; rintro e w3 ⟨rfl, hb3⟩; have HB3 := Lib.hid (HB2.out.trans (hb3.mono HB2.out.size)); have HP3 := Lib.hid (HP2.out.below hb3); clear hb3 HB2 HP2)
    | (go_at_call 14; refine (C3.out _ HP3.out).mono ?_; clear C3; rintro e w4 ⟨rfl, hb4⟩; have HB4 := Lib.hid (HB3.out.trans (hb4.mono HB3.out.size)); clear hb4 HB3 HP3))
  refine wp_loop_rounds 1 ?_
  rw [rounds_succ]
  go_wp2
  go_ret
  exact ⟨rfl, HB4.out⟩
set_option maxRecDepth 100000 in
set_option maxHeartbeats 2000000 in
theorem bad_c5_gt (a0 : Option Addr) (len0 cap0 : Nat) (L : List Pz) (rows cols : Int) (w : World) (hP : PsAt w (.slice a0 len0 cap0) L) (hz : L.length = len0) (hlc : len0 ≤ cap0) (hcm : cap0 ≤ 9223372036854775807) (hI : ∀ p ∈ L, p.ok) (hr : I64 rows) (hc : I64 cols) (hO : ¬ (SizeQ rows cols ∧ OwnQ rows.toNat cols.toNat (L.take 60))) (k1 : 0 < rows) (k2 : rows ≤ 2000) (k3 : 10000 < cols) (h60 : (60 : Int) < (len0 : Int)) :
    Calls Try.prog 4 #[.slice a0 len0 cap0, .int .i64 rows, .int .i64 cols] w fun e w' => e = .returned (.bool true) ∧ Below w.heap.size w w' := by
  have HS7 := Lib.hid (fun X => shown7_any X)
  have HP := Lib.hid (places_take hP hz 60 (by omega))
  obtain ⟨T, hT⟩ : ∃ T, L.take 60 = T := ⟨_, rfl⟩
  have HLN : Hid (T.length = 60) := Lib.hid (by rw [← hT, List.length_take]; omega)
  have HI : Hid (∀ p ∈ T, p.ok) := Lib.hid (fun p hp => hI p (List.mem_of_mem_take (hT ▸ hp)))
  rw [hT] at HP hO
  clear hP hz hI hT
  have C1 := Lib.hid (fun (X : World) (hp : PsAt X (.slice a0 60 cap0) T) => slots7_bad (rows := rows) (cols := cols) HLN.out hp HI.out hO)
  have C2 := Lib.hid (fun (X : World) (hp : PsAt X (.slice a0 60 cap0) T) => refslots7_bad (rows := rows) (cols := cols) HLN.out hp HI.out hr hc hO)
  have C3 := Lib.hid (fun (X : World) (hp : PsAt X (.slice a0 60 cap0) T) => empty7_bad (rows := rows) (cols := cols) HLN.out hp HI.out hO)
  clear hr hc hO HLN HI
  go_enter Try.func4, Try.ntmps4
  go_wp2_with (first
    | (go_at_call 5; refine (HS7.out _).mono ?_; clear HS7; rintro e w1 ⟨rfl, hb1⟩; have HB1 := Lib.hid hb1; have HP1 := Lib.hid (HP.out.below hb1); clear hb1 HP)
    | (go_at_call 12; refine (C1.out _ HP1.out).mono ?_; clear C1; rintro e w2 ⟨rfl, hb2⟩; have HB2 := Lib.hid (HB1.out.trans (hb2.mono HB1.out.size)); have HP2 := Lib.hid (HP1.out.below hb2); clear hb2 HB1 HP1)
    | (go_at_call 13; refine (C2.out _ HP2.out).mono ?_; clear C2; rintro e w3 ⟨rfl, hb3⟩; have HB3 := Lib.hid (HB2.out.trans (hb3.mono HB2.out.size)); have HP3 := Lib.hid (HP2.out.below hb3); clear hb3 HB2 HP2)
    | (go_at_call 14; refine (C3.out _ HP3.out).mono ?_; clear C3; rintro e w4 ⟨rfl, hb4⟩; have HB4 := Lib.hid (HB3.out.trans (hb4.mono HB3.out.size)); clear hb4 HB3 HP3))
  refine wp_loop_rounds 1 ?_
  rw [rounds_succ]
  go_wp2
  go_ret
  exact ⟨rfl, HB4.out⟩
set_option maxRecDepth 100000 in
set_option maxHeartbeats 2000000 in
theorem bad_c6_gt (a0 : Option Addr) (len0 cap0 : Nat) (L : List Pz) (rows cols : Int) (w : World) (hP : PsAt w (.slice a0 len0 cap0) L) (hz : L.length = len0) (hlc : len0 ≤ cap0) (hcm : cap0 ≤ 9223372036854775807) (hI : ∀ p ∈ L, p.ok) (hr : I64 rows) (hc : I64 cols) (hO : ¬ (SizeQ rows cols ∧ OwnQ rows.toNat cols.toNat (L.take 60))) (k1 : 0 < rows) (k2 : rows ≤ 2000) (k3 : 0 < cols) (k4 : cols ≤ 10000) (pq : Int) (hpq : rows * cols = pq) (k5 : pq ≤ 10000) (h60 : (60 : Int) < (len0 : Int)) :
    Calls Try.prog 4 #[.slice a0 len0 cap0, .int .i64 rows, .int .i64 cols] w fun e w' => e = .returned (.bool true) ∧ Below w.heap.size w w' := by
  have HS7 := Lib.hid (fun X => shown7_any X)
  have HP := Lib.hid (places_take hP hz 60 (by omega))
  obtain ⟨T, hT⟩ : ∃ T, L.take 60 = T := ⟨_, rfl⟩
  have HLN : Hid (T.length = 60) := Lib.hid (by rw [← hT, List.length_take]; omega)
  have HI : Hid (∀ p ∈ T, p.ok) := Lib.hid (fun p hp => hI p (List.mem_of_mem_take (hT ▸ hp)))
  rw [hT] at HP hO
  clear hP hz hI hT
  have hpq0 : 0 ≤ pq := by rw [← hpq]; exact Int.mul_nonneg (by omega) (by omega)
  have hpq1 : pq ≤ 655360000 := by rw [← hpq]; have := Int.mul_le_mul (show rows ≤ 65536 by omega) (show cols ≤ 10000 by omega) (by omega) (by omega); omega
  have C1 := Lib.hid (fun (X : World) (hp : PsAt X (.slice a0 60 cap0) T) => slots7_bad (rows := rows) (cols := cols) HLN.out hp HI.out hO)
  have C2 := Lib.hid (fun (X : World) (hp : PsAt X (.slice a0 60 cap0) T) => refslots7_bad (rows := rows) (cols := cols) HLN.out hp HI.out hr hc hO)
  have C3 := Lib.hid (fun (X : World) (hp : PsAt X (.slice a0 60 cap0) T) => empty7_bad (rows := rows) (cols := cols) HLN.out hp HI.out hO)
  clear hr hc hO HLN HI
  go_enter Try.func4, Try.ntmps4
  go_wp2_with (first
    | (go_at_call 5; refine (HS7.out _).mono ?_; clear HS7; rintro e w1 ⟨rfl, hb1⟩; have HB1 := Lib.hid hb1; have HP1 := Lib.hid (HP.out.below hb1); clear hb1 HP)
    | (go_at_call 12; refine (C1.out _ HP1.out).mono ?_; clear C1; rintro e w2 ⟨rfl, hb2⟩; have HB2 := Lib.hid (HB1.out.trans (hb2.mono HB1.out.size)); have HP2 := Lib.hid (HP1.out.below hb2); clear hb2 HB1 HP1)
    | (go_at_call 13; refine (C2.out _ HP2.out).mono ?_; clear C2; rintro e w3 ⟨rfl, hb3⟩; have HB3 := Lib.hid (HB2.out.trans (hb3.mono HB2.out.size)); have HP3 := Lib.hid (HP2.out.below hb3); clear hb3 HB2 HP2)
    | (go_at_call 14; refine (C3.out _ HP3.out).mono ?_; clear C3; rintro e w4 ⟨rfl, hb4⟩; have HB4 := Lib.hid (HB3.out.trans (hb4.mono HB3.out.size)); clear hb4 HB3 HP3))
  refine wp_loop_rounds 1 ?_
  rw [rounds_succ]
  go_wp2
  go_ret
  exact ⟨rfl, HB4.out⟩
set_option maxRecDepth 100000 in
set_option maxHeartbeats 2000000 in
theorem bad_c7_gt (a0 : Option Addr) (len0 cap0 : Nat) (L : List Pz) (rows cols : Int) (w : World) (hP : PsAt w (.slice a0 len0 cap0) L) (hz : L.length = len0) (hlc : len0 ≤ cap0) (hcm : cap0 ≤ 9223372036854775807) (hI : ∀ p ∈ L, p.ok) (hr : I64 rows) (hc : I64 cols) (hO : ¬ (SizeQ rows cols ∧ OwnQ rows.toNat cols.toNat (L.take 60))) (k1 : 0 < rows) (k2 : rows ≤ 2000) (k3 : 0 < cols) (k4 : cols ≤ 10000) (pq : Int) (hpq : rows * cols = pq) (k5 : 1000000 < pq) (h60 : (60 : Int) < (len0 : Int)) :
    Calls Try.prog 4 #[.slice a0 len0 cap0, .int .i64 rows, .int .i64 cols] w fun e w' => e = .returned (.bool true) ∧ Below w.heap.size w w' := by
  have HS7 := Lib.hid (fun X => shown7_any X)
  have HP := Lib.hid (places_take hP hz 60 (by omega))
  obtain ⟨T, hT⟩ : ∃ T, L.take 60 = T := ⟨_, rfl⟩
  have HLN : Hid (T.length = 60) := Lib.hid (by rw [← hT, List.length_take]; omega)
  have HI : Hid (∀ p ∈ T, p.ok) := Lib.hid (fun p hp => hI p (List.mem_of_mem_take (hT ▸ hp)))
  rw [hT] at HP hO
  clear hP hz hI hT
  have hpq0 : 0 ≤ pq := by rw [← hpq]; exact Int.mul_nonneg (by omega) (by omega)
  have hpq1 : pq ≤ 655360000 := by rw [← hpq]; have := Int.mul_le_mul (show rows ≤ 65536 by omega) (show cols ≤ 10000 by omega) (by omega) (by omega); omega
  have C1 := Lib.hid (fun (X : World) (hp : PsAt X (.slice a0 60 cap0) T) => slots7_bad (rows := rows) (cols := cols) HLN.out hp HI.out hO)
  have C2 := Lib.hid (fun (X : World) (hp : PsAt X (.slice a0 60 cap0) T) => refslots7_bad (rows := rows) (cols := cols) HLN.out hp HI.out hr hc hO)
  have C3 := Lib.hid (fun (X : World) (hp : PsAt X (.slice a0 60 cap0) T) => empty7_bad (rows := rows) (cols := cols) HLN.out hp HI.out hO)
  clear hr hc hO HLN HI
  go_enter Try.func4, Try.ntmps4
  go_wp2_with (first
    | (go_at_call 5; refine (HS7.out _).mono ?_; clear HS7; rintro e w1 ⟨rfl, hb1⟩; have HB1 := Lib.hid hb1; have HP1 := Lib.hid (HP.out.below hb1); clear hb1 HP)
    | (go_at_call 12; refine (C1.out _ HP1.out).mono ?_; clear C1; rintro e w2 ⟨rfl, hb2⟩; have HB2 := Lib.hid (HB1.out.trans (hb2.mono HB1.out.size)); have HP2 := Lib.hid (HP1.out.below hb2); clear hb2 HB1 HP1)
    | (go_at_call 13; refine (C2.out _ HP2.out).mono ?_; clear C2; rintro e w3 ⟨rfl, hb3⟩; have HB3 := Lib.hid (HB2.out.trans (hb3.mono HB2.out.size)); have HP3 := Lib.hid (HP2.out.below hb3); clear hb3 HB2 HP2)
    | (go_at_call 14; refine (C3.out _ HP3.out).mono ?_; clear C3; rintro e w4 ⟨rfl, hb4⟩; have HB4 := Lib.hid (HB3.out.trans (hb4.mono HB3.out.size)); clear hb4 HB3 HP3))
  refine wp_loop_rounds 1 ?_
  rw [rounds_succ]
  go_wp2
  go_ret
  exact ⟨rfl, HB4.out⟩
set_option maxRecDepth 100000 in
set_option maxHeartbeats 2000000 in
theorem good_c1_gt (a0 : Option Addr) (len0 cap0 : Nat) (L : List Pz) (rows cols : Nat) (w : World) (hP : PsAt w (.slice a0 len0 cap0) L) (hz : L.length = len0) (hlc : len0 ≤ cap0) (hcm : cap0 ≤ 9223372036854775807) (hI : ∀ p ∈ L, p.ok) (hS : SizeQ rows cols) (hO : OwnQ rows cols (L.take 60)) (k1 : (rows : Int) ≤ 0) (h60 : (60 : Int) < (len0 : Int)) :
    Calls Try.prog 4 #[.slice a0 len0 cap0, .int .i64 rows, .int .i64 cols] w fun e w' => e = .returned (.bool true) ∧ Below w.heap.size w w' := by
  have HS7 := Lib.hid (fun X => shown7_any X)
  have HP := Lib.hid (places_take hP hz 60 (by omega))
  obtain ⟨T, hT⟩ : ∃ T, L.take 60 = T := ⟨_, rfl⟩
  have HLN : Hid (T.length = 60) := Lib.hid (by rw [← hT, List.length_take]; omega)
  have HI : Hid (∀ p ∈ T, p.ok) := Lib.hid (fun p hp => hI p (List.mem_of_mem_take (hT ▸ hp)))
  rw [hT] at HP hO
  clear hP hz hI hT
  have hrc : rows ≤ 65536 ∧ cols ≤ 10000 := by have := hS.1; have := hS.2.1; omega
  obtain ⟨nx, hnx⟩ : ∃ nx, (emptyL rows cols T).length = nx := ⟨_, rfl⟩
  have hnx6 : nx ≤ 1000000 := by
    have h1 : (emptyL rows cols T).length ≤ (slotsL ⟨0, 0, 0, rows, cols⟩).length := List.length_filter_le _ _
    have h2 : (slotsL ⟨0, 0, 0, rows, cols⟩).length = rows * cols := by
      unfold slotsL rowsS rowS
      simp [List.length_flatMap, List.map_const', List.sum_replicate_nat]
    have h3 := hS.2.2
    have h4 : ((rows : Int) * (cols : Int)) = ((rows * cols : Nat) : Int) := by simp
    omega
  have C1 := Lib.hid (fun (X : World) (hp : PsAt X (.slice a0 60 cap0) T) => slots7_ok HLN.out hp HI.out hS hO)
  have C2 := Lib.hid (fun (X : World) (hp : PsAt X (.slice a0 60 cap0) T) => refslots7_ok HLN.out hp HI.out hS hO)
  have C3 := Lib.hid (fun (X : World) (hp : PsAt X (.slice a0 60 cap0) T) => empty7_ok HLN.out hp HI.out hS hO)
  rw [hnx] at C3
  have HNX := Lib.hid hnx
  have HRC := Lib.hid hrc
  clear hS hO HLN HI hnx
  go_enter Try.func4, Try.ntmps4
  go_wp2_with (first
    | (go_at_call 5; refine (HS7.out _).mono ?_; clear HS7; rintro e w1 ⟨rfl, hb1⟩; have HB1 := Lib.hid hb1; have HP1 := Lib.hid (HP.out.below hb1); clear hb1 HP)
    | (go_at_call 12; refine (C1.out _ HP1.out).mono ?_; clear C1; rintro e w2 ⟨p2, c2, rfl, hz2, hb2⟩; have HB2 := Lib.hid (HB1.out.trans (hb2.mono HB1.out.size)); have HP2 := Lib.hid (HP1.out.below hb2); have HZ2 := Lib.hid hz2; clear hb2 hz2 HB1 HP1)
    | (go_at_call 13; refine (C2.out _ HP2.out).mono ?_; clear C2; rintro e w3 ⟨p3, c3, rfl, hz3, hb3⟩; have HB3 := Lib.hid (HB2.out.trans (hb3.mono HB2.out.size)); have HP3 := Lib.hid (HP2.out.below hb3); have HZ3 := Lib.hid hz3; have HZ2' := Lib.hid (HZ2.out.below hb3); clear hb3 hz3 HB2 HP2 HZ2)
    | (go_at_call 14; refine (C3.out _ HP3.out).mono ?_; clear C3; rintro e w4 ⟨p4, c4, rfl, hz4, hb4⟩; have HB4 := Lib.hid (HB3.out.trans (hb4.mono HB3.out.size)); have HA := Lib.hid (HZ2'.out.below hb4); have HB := Lib.hid (HZ3.out.below hb4); have HX := Lib.hid hz4; clear hb4 hz4 HB3 HP3 HZ3 HZ2'))
  have HAR := Lib.hid (fun (r : Nat) (hr : r < rows) => RowsZ.at HA.out r hr)
  have HBR := Lib.hid (fun (r : Nat) (hr : r < rows) => RowsZ.at HB.out r hr)
  have HXR := Lib.hid (fun (k : Nat) (s : Nat × Nat) (hk : (emptyL rows cols T)[k]? = some s) => SlotsZ.at HX.out k s hk)
  clear HA HB HX
  go_loopw [15, 14] (fun s15 s14 x => ∃ r k : Nat, r ≤ rows ∧ s15 = .int .i64 (r : Int) ∧ s14 = .int .i64 (k : Int) ∧ k ≤ nx ∧ Hid (k = freeN T (aheadL 0 0 cols r 0)) ∧ Hid (Below w4.heap.size w4 x)) (fun s15 _ _ => rows - (intOf s15).toNat)
  case atStart => exact ⟨0, 0, Nat.zero_le _, rfl, rfl, Nat.zero_le _, Lib.hid (freeN_start T cols).symm, Lib.hid (Below.refl _ _)⟩
  case round =>
    obtain ⟨r, k, hr, rfl, rfl, hkn, HK, HW⟩ := hrel
    by_cases hlt : r < rows
    · exfalso; omega
    · have hrr : r = rows := by omega
      have hke : k = nx := by rw [HK.out, hrr, freeN_end, HNX.out]
      have HF := Lib.hid (HB4.out.trans (HW.out.mono HB4.out.size))
      clear HK HW
      subst hke
      go_wp2
      go_ret
      exact ⟨by simp, HF.out⟩
set_option maxRecDepth 100000 in
set_option maxHeartbeats 2000000 in
theorem good_c2_gt (a0 : Option Addr) (len0 cap0 : Nat) (L : List Pz) (rows cols : Nat) (w : World) (hP : PsAt w (.slice a0 len0 cap0) L) (hz : L.length = len0) (hlc : len0 ≤ cap0) (hcm : cap0 ≤ 9223372036854775807) (hI : ∀ p ∈ L, p.ok) (hS : SizeQ rows cols) (hO : OwnQ rows cols (L.take 60)) (k1 : 0 < (rows : Int)) (k2 : (rows : Int) ≤ 2000) (k3 : (cols : Int) ≤ 0) (h60 : (60 : Int) < (len0 : Int)) :
    Calls Try.prog 4 #[.slice a0 len0 cap0, .int .i64 rows, .int .i64 cols] w fun e w' => e = .returned (.bool true) ∧ Below w.heap.size w w' := by
  have HS7 := Lib.hid (fun X => shown7_any X)
  have HP := Lib.hid (places_take hP hz 60 (by omega))
  obtain ⟨T, hT⟩ : ∃ T, L.take 60 = T := ⟨_, rfl⟩
  have HLN : Hid (T.length = 60) := Lib.hid (by rw [← hT, List.length_take]; omega)
  have HI : Hid (∀ p ∈ T, p.ok) := Lib.hid (fun p hp => hI p (List.mem_of_mem_take (hT ▸ hp)))
  rw [hT] at HP hO
  clear hP hz hI hT
  have hrc : rows ≤ 65536 ∧ cols ≤ 10000 := by have := hS.1; have := hS.2.1; omega
  obtain ⟨nx, hnx⟩ : ∃ nx, (emptyL rows cols T).length = nx := ⟨_, rfl⟩
  have hnx6 : nx ≤ 1000000 := by
    have h1 : (emptyL rows cols T).length ≤ (slotsL ⟨0, 0, 0, rows, cols⟩).length := List.length_filter_le _ _
    have h2 : (slotsL ⟨0, 0, 0, rows, cols⟩).length = rows * cols := by
      unfold slotsL rowsS rowS
      simp [List.length_flatMap, List.map_const', List.sum_replicate_nat]
    have h3 := hS.2.2
    have h4 : ((rows : Int) * (cols : Int)) = ((rows * cols : Nat) : Int) := by simp
    omega
  have C1 := Lib.hid (fun (X : World) (hp : PsAt X (.slice a0 60 cap0) T) => slots7_ok HLN.out hp HI.out hS hO)
  have C2 := Lib.hid (fun (X : World) (hp : PsAt X (.slice a0 60 cap0) T) => refslots7_ok HLN.out hp HI.out hS hO)
  have C3 := Lib.hid (fun (X : World) (hp : PsAt X (.slice a0 60 cap0) T) => empty7_ok HLN.out hp HI.out hS hO)
  rw [hnx] at C3
  have HNX := Lib.hid hnx
  have HRC := Lib.hid hrc
  clear hS hO HLN HI hnx
  go_enter Try.func4, Try.ntmps4
  go_wp2_with (first
    | (go_at_call 5; refine (HS7.out _).mono ?_; clear HS7; rintro e w1 ⟨rfl, hb1⟩; have HB1 := Lib.hid hb1; have HP1 := Lib.hid (HP.out.below hb1); clear hb1 HP)
    | (go_at_call 12; refine (C1.out _ HP1.out).mono ?_; clear C1; rintro e w2 ⟨p2, c2, rfl, hz2, hb2⟩; have HB2 := Lib.hid (HB1.out.trans (hb2.mono HB1.out.size)); have HP2 := Lib.hid (HP1.out.below hb2); have HZ2 := Lib.hid hz2; clear hb2 hz2 HB1 HP1)
    | (go_at_call 13; refine (C2.out _ HP2.out).mono ?_; clear C2; rintro e w3 ⟨p3, c3, rfl, hz3, hb3⟩; have HB3 := Lib.hid (HB2.out.trans (hb3.mono HB2.out.size)); have HP3 := Lib.hid (HP2.out.below hb3); have HZ3 := Lib.hid hz3; have HZ2' := Lib.hid (HZ2.out.below hb3); clear hb3 hz3 HB2 HP2 HZ2)
    | (go_at_call 14; refine (C3.out _ HP3.out).mono ?_; clear C3; rintro e w4 ⟨p4, c4, rfl, hz4, hb4⟩; have HB4 := Lib.hid (HB3.out.trans (hb4.mono HB3.out.size)); have HA := Lib.hid (HZ2'.out.below hb4); have HB := Lib.hid (HZ3.out.below hb4); have HX := Lib.hid hz4; clear hb4 hz4 HB3 HP3 HZ3 HZ2'))
  have HAR := Lib.hid (fun (r : Nat) (hr : r < rows) => RowsZ.at HA.out r hr)
  have HBR := Lib.hid (fun (r : Nat) (hr : r < rows) => RowsZ.at HB.out r hr)
  have HXR := Lib.hid (fun (k : Nat) (s : Nat × Nat) (hk : (emptyL rows cols T)[k]? = some s) => SlotsZ.at HX.out k s hk)
  clear HA HB HX
  go_loopw [15, 14] (fun s15 s14 x => ∃ r k : Nat, r ≤ rows ∧ s15 = .int .i64 (r : Int) ∧ s14 = .int .i64 (k : Int) ∧ k ≤ nx ∧ Hid (k = freeN T (aheadL 0 0 cols r 0)) ∧ Hid (Below w4.heap.size w4 x)) (fun s15 _ _ => rows - (intOf s15).toNat)
  case atStart => exact ⟨0, 0, Nat.zero_le _, rfl, rfl, Nat.zero_le _, Lib.hid (freeN_start T cols).symm, Lib.hid (Below.refl _ _)⟩
  case round =>
    obtain ⟨r, k, hr, rfl, rfl, hkn, HK, HW⟩ := hrel
    by_cases hlt : r < rows
    · obtain ⟨b, q, cq, hp2, lb, cb, hqi⟩ := HAR.out r hlt
      obtain ⟨b', q', cq', hp3, lb', cb', hqi'⟩ := HBR.out r hlt
      subst hp2 hp3
      have lw := HW.out.size
      have u1 := (HW.out.cell (p := ⟨b, r, none⟩) lb).trans cb
      have u2 := (HW.out.cell (p := ⟨b', r, none⟩) lb').trans cb'
      have lb1 : b < wr.heap.size := by omega
      have lb1' : b' < wr.heap.size := by omega
      have HI1 := Lib.hid (hqi.below HW.out)
      have HI2 := Lib.hid (hqi'.below HW.out)
      have HCB := Lib.hid cb'
      have HQI := Lib.hid hqi'
      clear cb cb' hqi hqi' HAR
      go_wp2
      refine region_still_tailF 8 (by kernel_rfl) (by decide +kernel) (fun w5 hw5 => ?_)
      have bW : Below wr.heap.size wr w5 := by rw [← hw5]; exact (Below.refl _ wr).drew
      have v1 := (bW.cell (p := ⟨b, r, none⟩) lb1).trans u1
      have v2 := (bW.cell (p := ⟨b', r, none⟩) lb1').trans u2
      have HC := Lib.hid (ints_any _ _ _ _ w5 (HI1.out.below bW) (HI2.out.below bW))
      have HW5 := Lib.hid (HW.out.trans (bW.mono lw))
      clear hw5 bW u1 u2 HI1 HI2 HW lw
      simp only [List.take_succ_cons, List.take_zero, List.drop_succ_cons, List.drop_zero]
      repeat still_step
      refine wpStill_nil ?_
      go_wp2_with (go_at_call 11; refine HC.out.mono ?_; clear HC; rintro e w6 ⟨rfl, n6, rfl⟩; simp only [decide_true]; have HW6 := Lib.hid (HW5.out.trans (below_dn w4.heap.size w5 n6)); clear HW5 v1 v2)
      generalize w5.drewN n6 = w7 at *
      go_loopw [16, 14] (fun s16 s14 x => ∃ c k : Nat, c ≤ cols ∧ s16 = .int .i64 (c : Int) ∧ s14 = .int .i64 (k : Int) ∧ k ≤ nx ∧ Hid (k = freeN T (aheadL 0 0 cols r c)) ∧ Hid (Below w4.heap.size w4 x)) (fun s16 _ _ => cols - (intOf s16).toNat)
      case atStart => exact ⟨0, k, Nat.zero_le _, rfl, rfl, hkn, HK, HW6⟩
      case round =>
        clear HK HW6 hkn
        obtain ⟨c, k, hc, rfl, rfl, hkn, HK, HW⟩ := hrel
        have lw := HW.out.size
        have u2 := (HW.out.cell (p := ⟨b', r, none⟩) lb').trans HCB.out
        have lb1' : b' < wr.heap.size := by omega
        by_cases hlc2 : c < cols
        · exfalso; omega
        · have hcc : c = cols := by omega
          have HK2 : Hid (k = freeN T (aheadL 0 0 cols (r + 1) 0)) := Lib.hid (by rw [← freeN_row, HK.out, hcc])
          clear hcc HK
          go_wp2
          go_roundw
          case rel => exact ⟨r + 1, k, by omega, by go_num, rfl, hkn, HK2, HW⟩
          case measure => simp [intOf]; omega
    · have hrr : r = rows := by omega
      have hke : k = nx := by rw [HK.out, hrr, freeN_end, HNX.out]
      have HF := Lib.hid (HB4.out.trans (HW.out.mono HB4.out.size))
      clear HK HW
      subst hke
      go_wp2
      go_ret
      exact ⟨by simp, HF.out⟩
set_option maxRecDepth 100000 in
set_option maxHeartbeats 2000000 in
theorem good_c6_gt (a0 : Option Addr) (len0 cap0 : Nat) (L : List Pz) (rows cols : Nat) (w : World) (hP : PsAt w (.slice a0 len0 cap0) L) (hz : L.length = len0) (hlc : len0 ≤ cap0) (hcm : cap0 ≤ 9223372036854775807) (hI : ∀ p ∈ L, p.ok) (hS : SizeQ rows cols) (hO : OwnQ rows cols (L.take 60)) (k1 : 0 < (rows : Int)) (k2 : (rows : Int) ≤ 2000) (k3 : 0 < (cols : Int)) (k4 : (cols : Int) ≤ 10000) (pq : Int) (hpq : (rows : Int) * (cols : Int) = pq) (k5 : pq ≤ 10000) (h60 : (60 : Int) < (len0 : Int)) :
    Calls Try.prog 4 #[.slice a0 len0 cap0, .int .i64 rows, .int .i64 cols] w fun e w' => e = .returned (.bool true) ∧ Below w.heap.size w w' := by
  have HS7 := Lib.hid (fun X => shown7_any X)
  have HP := Lib.hid (places_take hP hz 60 (by omega))
  obtain ⟨T, hT⟩ : ∃ T, L.take 60 = T := ⟨_, rfl⟩
  have HLN : Hid (T.length = 60) := Lib.hid (by rw [← hT, List.length_take]; omega)
  have HI : Hid (∀ p ∈ T, p.ok) := Lib.hid (fun p hp => hI p (List.mem_of_mem_take (hT ▸ hp)))
  rw [hT] at HP hO
  clear hP hz hI hT
  have hpq0 : 0 ≤ pq := by rw [← hpq]; exact Int.mul_nonneg (by omega) (by omega)
  have hrc : rows ≤ 65536 ∧ cols ≤ 10000 := by have := hS.1; have := hS.2.1; omega
  obtain ⟨nx, hnx⟩ : ∃ nx, (emptyL rows cols T).length = nx := ⟨_, rfl⟩
  have hnx6 : nx ≤ 1000000 := by
    have h1 : (emptyL rows cols T).length ≤ (slotsL ⟨0, 0, 0, rows, cols⟩).length := List.length_filter_le _ _
    have h2 : (slotsL ⟨0, 0, 0, rows, cols⟩).length = rows * cols := by
      unfold slotsL rowsS rowS
      simp [List.length_flatMap, List.map_const', List.sum_replicate_nat]
    have h3 := hS.2.2
    have h4 : ((rows : Int) * (cols : Int)) = ((rows * cols : Nat) : Int) := by simp
    omega
  have C1 := Lib.hid (fun (X : World) (hp : PsAt X (.slice a0 60 cap0) T) => slots7_ok HLN.out hp HI.out hS hO)
  have C2 := Lib.hid (fun (X : World) (hp : PsAt X (.slice a0 60 cap0) T) => refslots7_ok HLN.out hp HI.out hS hO)
  have C3 := Lib.hid (fun (X : World) (hp : PsAt X (.slice a0 60 cap0) T) => empty7_ok HLN.out hp HI.out hS hO)
  rw [hnx] at C3
  have HNX := Lib.hid hnx
  have HRC := Lib.hid hrc
  clear hS hO HLN HI hnx
  go_enter Try.func4, Try.ntmps4
  go_wp2_with (first
    | (go_at_call 5; refine (HS7.out _).mono ?_; clear HS7; rintro e w1 ⟨rfl, hb1⟩; have HB1 := Lib.hid hb1; have HP1 := Lib.hid (HP.out.below hb1); clear hb1 HP)
    | (go_at_call 12; refine (C1.out _ HP1.out).mono ?_; clear C1; rintro e w2 ⟨p2, c2, rfl, hz2, hb2⟩; have HB2 := Lib.hid (HB1.out.trans (hb2.mono HB1.out.size)); have HP2 := Lib.hid (HP1.out.below hb2); have HZ2 := Lib.hid hz2; clear hb2 hz2 HB1 HP1)
    | (go_at_call 13; refine (C2.out _ HP2.out).mono ?_; clear C2; rintro e w3 ⟨p3, c3, rfl, hz3, hb3⟩; have HB3 := Lib.hid (HB2.out.trans (hb3.mono HB2.out.size)); have HP3 := Lib.hid (HP2.out.below hb3); have HZ3 := Lib.hid hz3; have HZ2' := Lib.hid (HZ2.out.below hb3); clear hb3 hz3 HB2 HP2 HZ2)
    | (go_at_call 14; refine (C3.out _ HP3.out).mono ?_; clear C3; rintro e w4 ⟨p4, c4, rfl, hz4, hb4⟩; have HB4 := Lib.hid (HB3.out.trans (hb4.mono HB3.out.size)); have HA := Lib.hid (HZ2'.out.below hb4); have HB := Lib.hid (HZ3.out.below hb4); have HX := Lib.hid hz4; clear hb4 hz4 HB3 HP3 HZ3 HZ2'))
  have HAR := Lib.hid (fun (r : Nat) (hr : r < rows) => RowsZ.at HA.out r hr)
  have HBR := Lib.hid (fun (r : Nat) (hr : r < rows) => RowsZ.at HB.out r hr)
  have HXR := Lib.hid (fun (k : Nat) (s : Nat × Nat) (hk : (emptyL rows cols T)[k]? = some s) => SlotsZ.at HX.out k s hk)
  clear HA HB HX
  go_loopw [15, 14] (fun s15 s14 x => ∃ r k : Nat, r ≤ rows ∧ s15 = .int .i64 (r : Int) ∧ s14 = .int .i64 (k : Int) ∧ k ≤ nx ∧ Hid (k = freeN T (aheadL 0 0 cols r 0)) ∧ Hid (Below w4.heap.size w4 x)) (fun s15 _ _ => rows - (intOf s15).toNat)
  case atStart => exact ⟨0, 0, Nat.zero_le _, rfl, rfl, Nat.zero_le _, Lib.hid (freeN_start T cols).symm, Lib.hid (Below.refl _ _)⟩
  case round =>
    obtain ⟨r, k, hr, rfl, rfl, hkn, HK, HW⟩ := hrel
    by_cases hlt : r < rows
    · obtain ⟨b, q, cq, hp2, lb, cb, hqi⟩ := HAR.out r hlt
      obtain ⟨b', q', cq', hp3, lb', cb', hqi'⟩ := HBR.out r hlt
      subst hp2 hp3
      have lw := HW.out.size
      have u1 := (HW.out.cell (p := ⟨b, r, none⟩) lb).trans cb
      have u2 := (HW.out.cell (p := ⟨b', r, none⟩) lb').trans cb'
      have lb1 : b < wr.heap.size := by omega
      have lb1' : b' < wr.heap.size := by omega
      have HI1 := Lib.hid (hqi.below HW.out)
      have HI2 := Lib.hid (hqi'.below HW.out)
      have HCB := Lib.hid cb'
      have HQI := Lib.hid hqi'
      clear cb cb' hqi hqi' HAR
      go_wp2
      refine region_still_tailF 8 (by kernel_rfl) (by decide +kernel) (fun w5 hw5 => ?_)
      have bW : Below wr.heap.size wr w5 := by rw [← hw5]; exact (Below.refl _ wr).drew
      have v1 := (bW.cell (p := ⟨b, r, none⟩) lb1).trans u1
      have v2 := (bW.cell (p := ⟨b', r, none⟩) lb1').trans u2
      have HC := Lib.hid (ints_any _ _ _ _ w5 (HI1.out.below bW) (HI2.out.below bW))
      have HW5 := Lib.hid (HW.out.trans (bW.mono lw))
      clear hw5 bW u1 u2 HI1 HI2 HW lw
      simp only [List.take_succ_cons, List.take_zero, List.drop_succ_cons, List.drop_zero]
      repeat still_step
      refine wpStill_nil ?_
      go_wp2_with (go_at_call 11; refine HC.out.mono ?_; clear HC; rintro e w6 ⟨rfl, n6, rfl⟩; simp only [decide_true]; have HW6 := Lib.hid (HW5.out.trans (below_dn w4.heap.size w5 n6)); clear HW5 v1 v2)
      generalize w5.drewN n6 = w7 at *
      go_loopw [16, 14] (fun s16 s14 x => ∃ c k : Nat, c ≤ cols ∧ s16 = .int .i64 (c : Int) ∧ s14 = .int .i64 (k : Int) ∧ k ≤ nx ∧ Hid (k = freeN T (aheadL 0 0 cols r c)) ∧ Hid (Below w4.heap.size w4 x)) (fun s16 _ _ => cols - (intOf s16).toNat)
      case atStart => exact ⟨0, k, Nat.zero_le _, rfl, rfl, hkn, HK, HW6⟩
      case round =>
        clear HK HW6 hkn
        obtain ⟨c, k, hc, rfl, rfl, hkn, HK, HW⟩ := hrel
        have lw := HW.out.size
        have u2 := (HW.out.cell (p := ⟨b', r, none⟩) lb').trans HCB.out
        have lb1' : b' < wr.heap.size := by omega
        by_cases hlc2 : c < cols
        · obtain ⟨kb, ko, hq, lkb, hkc⟩ := ints_cell HQI.out c (by rw [rowM_len]; exact hlc2)
          subst hq
          rw [rowM_get _ _ _ _ hlc2] at hkc
          simp only [Option.getD_some] at hkc
          obtain ⟨z, hz⟩ : ∃ z, ownA (entL 0 T).reverse (r, c) = z := ⟨_, rfl⟩
          rw [hz] at hkc
          have u3 := (HW.out.cell (p := ⟨kb, ko + c, none⟩) lkb).trans hkc
          have lk1 : kb < wr.heap.size := by omega
          by_cases hge : 0 ≤ z
          · have HK2 : Hid (k = freeN T (aheadL 0 0 cols r (c + 1))) := Lib.hid (by rw [freeN_taken (rows := rows) (by rw [hz]; exact hge)]; exact HK.out)
            clear hkc hz HK
            go_wp2
            go_roundw
            case rel => exact ⟨c + 1, k, by omega, by go_num, rfl, hkn, HK2, HW⟩
            case measure => simp [intOf]; omega
          · obtain ⟨e1, e2⟩ := freeN_free (L := T) (rows := rows) (cols := cols) hlt hlc2 (by rw [hz]; exact hge)
            rw [← HK.out] at e1 e2
            have hknx : k < nx := by have := (List.getElem?_eq_some_iff.1 e2).1; rw [HNX.out] at this; exact this
            obtain ⟨xb, hx4, lxb, x1, x2⟩ := HXR.out k _ e2
            subst hx4
            have y1 := (HW.out.cell (p := ⟨xb, k * 2, none⟩) lxb).trans x1
            have y2 := (HW.out.cell (p := ⟨xb, k * 2 + 1, none⟩) lxb).trans x2
            have lx1 : xb < wr.heap.size := by omega
            have HK2 : Hid (k + 1 = freeN T (aheadL 0 0 cols r (c + 1))) := Lib.hid e1.symm
            dsimp only at y1 y2
            have hge2 : z < 0 := by omega
            have hE : ∀ X : World, (binOp .neq 43 (.agg #[.int .i64 (r : Int), .int .i64 (c : Int)]) (.agg #[.int .i64 (r : Int), .int .i64 (c : Int)])).run Try.prog X = .ok (.bool false) X := fun X => slot_same _ _ X
            clear hkc hz HK e1 e2 x1 x2 hge
            go_wp2
            go_roundw
            case rel => exact ⟨c + 1, k + 1, by omega, by go_num, by go_num, by omega, HK2, HW⟩
            case measure => simp [intOf]; omega
        · have hcc : c = cols := by omega
          have HK2 : Hid (k = freeN T (aheadL 0 0 cols (r + 1) 0)) := Lib.hid (by rw [← freeN_row, HK.out, hcc])
          clear hcc HK
          go_wp2
          go_roundw
          case rel => exact ⟨r + 1, k, by omega, by go_num, rfl, hkn, HK2, HW⟩
          case measure => simp [intOf]; omega
    · have hrr : r = rows := by omega
      have hke : k = nx := by rw [HK.out, hrr, freeN_end, HNX.out]
      have HF := Lib.hid (HB4.out.trans (HW.out.mono HB4.out.size))
      clear HK HW
      subst hke
      go_wp2
      go_ret
      exact ⟨by simp, HF.out⟩
theorem all_le (a0 : Option Addr) (len0 cap0 : Nat) (z0 : List Pz) (rows cols : Int) (w : World) (hP : PsAt w (.slice a0 len0 cap0) z0) (hz : z0.length = len0) (hlc : len0 ≤ cap0) (hcm : cap0 ≤ 9223372036854775807) (hI : ∀ p ∈ z0, p.ok) (hr : I64 rows) (hc : I64 cols) (h60 : (len0 : Int) ≤ 60) :
    Calls Try.prog 4 #[.slice a0 len0 cap0, .int .i64 rows, .int .i64 cols] w fun e w' => e = .returned (.bool true) ∧ Below w.heap.size w w' := by
  by_cases hQ : SizeQ rows cols ∧ OwnQ rows.toNat cols.toNat (z0.take len0)
  · obtain ⟨hS, hO⟩ := hQ
    obtain ⟨r, rfl⟩ := Int.eq_ofNat_of_zero_le hS.1.1
    obtain ⟨c, rfl⟩ := Int.eq_ofNat_of_zero_le hS.2.1.1
    have h1 := hS.1
    have h2 := hS.2.1
    by_cases j1 : (r : Int) ≤ 0
    · exact good_c1_le a0 len0 cap0 z0 r c w hP hz hlc hcm hI hS hO j1 h60
    by_cases j2 : (r : Int) ≤ 2000
    · by_cases j3 : (c : Int) ≤ 0
      · exact good_c2_le a0 len0 cap0 z0 r c w hP hz hlc hcm hI hS hO (by omega) j2 j3 h60
      · by_cases j4 : (r : Int) * (c : Int) ≤ 10000
        · exact good_c6_le a0 len0 cap0 z0 r c w hP hz hlc hcm hI hS hO (by omega) j2 (by omega) (by omega) _ rfl j4 h60
        · exact skip_s8_le a0 len0 cap0 z0 r c w hP hz hlc hcm hI (by omega) (by omega) (by omega) (by omega) _ rfl (by omega) hS.2.2 h60
    · by_cases j3 : (c : Int) ≤ 0
      · exact skip_s3_le a0 len0 cap0 z0 r c w hP hz hlc hcm hI (by omega) (by omega) j3 h60
      · by_cases j4 : (r : Int) * (c : Int) ≤ 10000
        · exact skip_s6_le a0 len0 cap0 z0 r c w hP hz hlc hcm hI (by omega) (by omega) (by omega) (by omega) _ rfl j4 h60
        · exact skip_s8_le a0 len0 cap0 z0 r c w hP hz hlc hcm hI (by omega) (by omega) (by omega) (by omega) _ rfl (by omega) hS.2.2 h60
  · by_cases j1 : rows ≤ 0
    · exact bad_c1_le a0 len0 cap0 z0 rows cols w hP hz hlc hcm hI hr hc hQ j1 h60
    by_cases j2 : 65536 < rows
    · by_cases j3 : cols ≤ 0
      · exact bad_c4a_le a0 len0 cap0 z0 rows cols w hP hz hlc hcm hI hr hc hQ j2 j3 h60
      · exact bad_c4b_le a0 len0 cap0 z0 rows cols w hP hz hlc hcm hI hr hc hQ j2 (by omega) h60
    by_cases j3 : cols ≤ 0
    · by_cases j4 : rows ≤ 2000
      · exact bad_c2_le a0 len0 cap0 z0 rows cols w hP hz hlc hcm hI hr hc hQ (by omega) j4 j3 h60
      · exact skip_s3_le a0 len0 cap0 z0 rows cols w hP hz hlc hcm hI (by omega) (by omega) j3 h60
    by_cases j5 : 10000 < cols
    · by_cases j4 : rows ≤ 2000
      · exact bad_c5_le a0 len0 cap0 z0 rows cols w hP hz hlc hcm hI hr hc hQ (by omega) j4 j5 h60
      · exact skip_s5_le a0 len0 cap0 z0 rows cols w hP hz hlc hcm hI (by omega) (by omega) j5 h60
    by_cases j6 : rows * cols ≤ 10000
    · by_cases j4 : rows ≤ 2000
      · exact bad_c6_le a0 len0 cap0 z0 rows cols w hP hz hlc hcm hI hr hc hQ (by omega) j4 (by omega) (by omega) _ rfl j6 h60
      · exact skip_s6_le a0 len0 cap0 z0 rows cols w hP hz hlc hcm hI (by omega) (by omega) (by omega) (by omega) _ rfl j6 h60
    by_cases j7 : rows * cols ≤ 1000000
    · exact skip_s8_le a0 len0 cap0 z0 rows cols w hP hz hlc hcm hI (by omega) (by omega) (by omega) (by omega) _ rfl (by omega) j7 h60
    · by_cases j4 : rows ≤ 2000
      · exact bad_c7_le a0 len0 cap0 z0 rows cols w hP hz hlc hcm hI hr hc hQ (by omega) j4 (by omega) (by omega) _ rfl (by omega) h60
      · exact skip_s7_le a0 len0 cap0 z0 rows cols w hP hz hlc hcm hI (by omega) (by omega) (by omega) (by omega) _ rfl (by omega) h60
theorem all_gt (a0 : Option Addr) (len0 cap0 : Nat) (z0 : List Pz) (rows cols : Int) (w : World) (hP : PsAt w (.slice a0 len0 cap0) z0) (hz : z0.length = len0) (hlc : len0 ≤ cap0) (hcm : cap0 ≤ 9223372036854775807) (hI : ∀ p ∈ z0, p.ok) (hr : I64 rows) (hc : I64 cols) (h60 : (60 : Int) < (len0 : Int)) :
    Calls Try.prog 4 #[.slice a0 len0 cap0, .int .i64 rows, .int .i64 cols] w fun e w' => e = .returned (.bool true) ∧ Below w.heap.size w w' := by
  by_cases hQ : SizeQ rows cols ∧ OwnQ rows.toNat cols.toNat (z0.take 60)
  · obtain ⟨hS, hO⟩ := hQ
    obtain ⟨r, rfl⟩ := Int.eq_ofNat_of_zero_le hS.1.1
    obtain ⟨c, rfl⟩ := Int.eq_ofNat_of_zero_le hS.2.1.1
    have h1 := hS.1
    have h2 := hS.2.1
    by_cases j1 : (r : Int) ≤ 0
    · exact good_c1_gt a0 len0 cap0 z0 r c w hP hz hlc hcm hI hS hO j1 h60
    by_cases j2 : (r : Int) ≤ 2000
    · by_cases j3 : (c : Int) ≤ 0
      · exact good_c2_gt a0 len0 cap0 z0 r c w hP hz hlc hcm hI hS hO (by omega) j2 j3 h60
      · by_cases j4 : (r : Int) * (c : Int) ≤ 10000
        · exact good_c6_gt a0 len0 cap0 z0 r c w hP hz hlc hcm hI hS hO (by omega) j2 (by omega) (by omega) _ rfl j4 h60
        · exact skip_s8_gt a0 len0 cap0 z0 r c w hP hz hlc hcm hI (by omega) (by omega) (by omega) (by omega) _ rfl (by omega) hS.2.2 h60
    · by_cases j3 : (c : Int) ≤ 0
      · exact skip_s3_gt a0 len0 cap0 z0 r c w hP hz hlc hcm hI (by omega) (by omega) j3 h60
      · by_cases j4 : (r : Int) * (c : Int) ≤ 10000
        · exact skip_s6_gt a0 len0 cap0 z0 r c w hP hz hlc hcm hI (by omega) (by omega) (by omega) (by omega) _ rfl j4 h60
        · exact skip_s8_gt a0 len0 cap0 z0 r c w hP hz hlc hcm hI (by omega) (by omega) (by omega) (by omega) _ rfl (by omega) hS.2.2 h60
  · by_cases j1 : rows ≤ 0
    · exact bad_c1_gt a0 len0 cap0 z0 rows cols w hP hz hlc hcm hI hr hc hQ j1 h60
    by_cases j2 : 65536 < rows
    · by_cases j3 : cols ≤ 0
      · exact bad_c4a_gt a0 len0 cap0 z0 rows cols w hP hz hlc hcm hI hr hc hQ j2 j3 h60
      · exact bad_c4b_gt a0 len0 cap0 z0 rows cols w hP hz hlc hcm hI hr hc hQ j2 (by omega) h60
    by_cases j3 : cols ≤ 0
    · by_cases j4 : rows ≤ 2000
      · exact bad_c2_gt a0 len0 cap0 z0 rows cols w hP hz hlc hcm hI hr hc hQ (by omega) j4 j3 h60
      · exact skip_s3_gt a0 len0 cap0 z0 rows cols w hP hz hlc hcm hI (by omega) (by omega) j3 h60
    by_cases j5 : 10000 < cols
    · by_cases j4 : rows ≤ 2000
      · exact bad_c5_gt a0 len0 cap0 z0 rows cols w hP hz hlc hcm hI hr hc hQ (by omega) j4 j5 h60
      · exact skip_s5_gt a0 len0 cap0 z0 rows cols w hP hz hlc hcm hI (by omega) (by omega) j5 h60
    by_cases j6 : rows * cols ≤ 10000
    · by_cases j4 : rows ≤ 2000
      · exact bad_c6_gt a0 len0 cap0 z0 rows cols w hP hz hlc hcm hI hr hc hQ (by omega) j4 (by omega) (by omega) _ rfl j6 h60
      · exact skip_s6_gt a0 len0 cap0 z0 rows cols w hP hz hlc hcm hI (by omega) (by omega) (by omega) (by omega) _ rfl j6 h60
    by_cases j7 : rows * cols ≤ 1000000
    · exact skip_s8_gt a0 len0 cap0 z0 rows cols w hP hz hlc hcm hI (by omega) (by omega) (by omega) (by omega) _ rfl (by omega) j7 h60
    · by_cases j4 : rows ≤ 2000
      · exact bad_c7_gt a0 len0 cap0 z0 rows cols w hP hz hlc hcm hI hr hc hQ (by omega) j4 (by omega) (by omega) _ rfl (by omega) h60
      · exact skip_s7_gt a0 len0 cap0 z0 rows cols w hP hz hlc hcm hI (by omega) (by omega) (by omega) (by omega) _ rfl (by omega) h60
theorem walk (w : World) (a0 : Option Addr) (len0 cap0 : Nat) (z0 : List Pz) (h0 : PsAt w (.slice a0 len0 cap0) z0 ∧ z0.length = len0 ∧ len0 ≤ cap0 ∧ cap0 ≤ maxLen ∧ ∀ p ∈ z0, p.ok) (a1 : Int) (h1 : (Lit.int .i64 a1).wf = true) (a2 : Int) (h2 : (Lit.int .i64 a2).wf = true) :
    Calls Try.prog 4 #[.slice a0 len0 cap0, .int .i64 a1, .int .i64 a2] w fun e w' => e = .returned (.bool true) ∧ Below w.heap.size w w' := by
  obtain ⟨hP, hz, hlc, hcm, hI⟩ := h0
  unfold maxLen at hcm
  by_cases h60 : (len0 : Int) ≤ 60
  · exact all_le a0 len0 cap0 z0 a1 a2 w hP hz hlc hcm hI (i64_wf h1) (i64_wf h2) h60
  · exact all_gt a0 len0 cap0 z0 a1 a2 w hP hz hlc hcm hI (i64_wf h1) (i64_wf h2) (by omega)

set_option maxRecDepth 100000 in
theorem lifted (os : Os) (started : os.Started) (H : Type) (enc : TypeId × Value → H) :
    ReturnsInHanded {} Try.checked os 4 .any (Rows.gridSlotsSpec.pre6 enc Try.prog Try.f4 Rows.gridSlotsRow.domain false) (Rows.gridSlotsSpec.post enc Try.prog Try.f4 false true false false) := by
  refine returnsInHanded_of_change (C := Try.checked) own started (by kernel_rfl) Try.func4
    (ChangeSpec.witness6 (enc := enc) (C := Try.checked) false ⟨#[], #[.slice none 0 0, .int .i64 0, .int .i64 0], []⟩ 8 (by kernel_rfl) (by kernel_rfl) (by kernel_rfl) (by kernel_rfl)) ?_
  intro W base args ds gs before hval0 hW hcnd _
  have hval : ∀ (j : Nat) t v, Try.f4.params[j]? = some t → args[j]? = some v → Value.okWide Try.prog W .any base t v := hval0
  have hW' := hW
  obtain ⟨p, q, hA0, hV, rfl, hfz, hnd⟩ := hW
  have hA : DataW.TrodAll enc Try.prog W 0 (fun _ => true) true Try.f4.params.toList args.toList ds p := hA0
  rw [Try.params4] at hA hval
  obtain ⟨v0, vs0, d0, ds0, p0, q0, hargs, rfl, rfl, h0, r0⟩ := trodAll_cons hA
  obtain ⟨v1, vs1, d1, ds1, p1, q1, rfl, rfl, rfl, h1, r1⟩ := trodAll_cons r0
  obtain ⟨v2, vs2, d2, ds2, p2, q2, rfl, rfl, rfl, h2, r2⟩ := trodAll_cons r1
  obtain ⟨rfl, rfl, rfl⟩ := trodAll_nil r2
  obtain rfl : args = #[v0, v1, v2] := by cases args; simp_all
  obtain ⟨rfl, rfl⟩ := trodVars_none hV
  obtain ⟨a0, len0, cap0, rfl⟩ := okWide_slice Try.underlying36 (hval 0 36 v0 rfl rfl)
  have k0 := h0
  have lt0 : ∀ x ∈ p0, x.block < W.heap.size := by obtain ⟨m, hm⟩ := k0; exact DataW.trod_lt m _ _ _ hm
  obtain ⟨z0, w0⟩ : ∃ L, PsAt W (.slice a0 len0 cap0) L ∧ L.length = len0 ∧ len0 ≤ cap0 ∧ cap0 ≤ maxLen ∧ ∀ p ∈ L, p.ok := by
    obtain ⟨fuel, hf⟩ := h0
    exact open_places (by simpa [Value.cells] using hf)
  obtain ⟨a1, rfl, rfl, rfl, w1⟩ := open_int Try.underlying3 (hval 1 3 v1 rfl rfl) h1
  obtain ⟨a2, rfl, rfl, rfl, w2⟩ := open_int Try.underlying3 (hval 2 3 v2 rfl rfl) h2
  clear hA0 hval0
  simp only [List.append_nil] at hW'
  refine (walk W a0 len0 cap0 z0 w0 a1 w1 a2 w2).mono fun e W' ⟨he, hg⟩ => ?_
  subst he
  exact ⟨_, rfl, _, _, _, [], _, [], hW', (trodAll_cons_mk (shut_bool Try.underlying4 _) trodAll_mk0), (trodAll_cons_mk (Below.trod laidOut (by kernel_rfl) (of_decide_eq_true (by kernel_rfl)) k0 hg lt0) (trodAll_cons_mk (shut_int Try.underlying3 w1) (trodAll_cons_mk (shut_int Try.underlying3 w2) trodAll_mk0))), rfl, hg.frame _, fun h => by cases h⟩

theorem over : Rows.gridSlotsRow.holds Try.pinned (OpenSpec.ofChange Rows.gridSlotsSpec) :=
  OpenClaim.holds_of_wide 4 Try.f4 rfl rfl rfl rfl rfl rfl rfl ⟨rfl, rfl, rfl, rfl, rfl⟩ rfl rfl rfl rfl rfl (by kernel_rfl) Try.func4 (by kernel_rfl)
    (of_decide_eq_true (by kernel_rfl)) (by unfold Func.isWrapper; first | (rw [if_pos (by decide +kernel)]; kernel_rfl) | (rw [if_neg (by decide +kernel)]; exact ⟨rfl, rfl⟩))
    (fun os started H enc _ => lifted os started H enc)

/-- the statement -/
theorem proved : Rows.GridSlotsSaid :=
  over
#print axioms proved
end Go.Proofs.Ytcgnldcdcbnofaa.gridSlots
