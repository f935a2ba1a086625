/- Contracts of lines.Break where there is no text, of lines.Least, Most and Box. -/
import Derived.Test.YthgkjgaebgpplaaLnBreak
import Derived.Test.YthgkjgaebgpplaaMul
namespace Go.Proofs.Ythgkjgaebgpplaa
open Go.RowKit Go.Shelf
set_option linter.unusedVariables false
attribute [local go_sem] Oper.semAt_some

theorem NdIn.cells' {n : Nd} {g : Nat} {X : World} (h : NdIn n g X) (cs : Array Value) (hcs : n.cells.toArray = cs) : ∀ j v, cs[j]? = some v → X.cell? ((⟨g, 0, none⟩ : Addr).add j) = some v := by rw [← hcs]; exact h.load
theorem NdIn.alloc {n : Nd} {g : Nat} {X : World} (h : NdIn n g X) (o : Obj) : NdIn n g (X.alloc o) := h.below ((Below.refl _ X).alloc (Nat.le_refl _) o)
theorem lnRight_cs (n : Nd) (X : World) (h : n.ok X) (cs : Array Value) (hcs : n.cells.toArray = cs) (d : Bool) (hd : textB n = d) : Calls Try.prog 15 #[.agg cs] X fun e Y => e = .returned (.bool d) ∧ Below X.heap.size X Y := by
  have := lnRight_any n X h
  rw [show n.val = .agg n.cells.toArray from rfl, hcs, hd] at this
  exact this
set_option maxHeartbeats 2000000 in
theorem break_bad (n : Nd) (w : World) (width : Int) (hok : n.ok w) (ht : textB n = false) :
    Calls Try.prog 12 #[n.val, .int .i64 width] w fun e W' => e = .returned (.tuple #[.slice none 0 0, .int .i64 90]) ∧ Below w.heap.size w W' := by
  have HN0 := NdIn.new n w hok
  obtain ⟨cs, hcs⟩ : ∃ cs, n.cells.toArray = cs := ⟨_, rfl⟩
  obtain ⟨W0, hW0⟩ : ∃ W0, (w.alloc (.cells cs 35)).alloc (.cells #[.int .i64 width] 2) = W0 := ⟨_, rfl⟩
  have HN : NdIn n w.heap.size W0 := by rw [← hW0, ← hcs]; exact HN0.below ((Below.refl _ _).alloc (Nat.le_refl _) _)
  have HB0 : Hid (Below w.heap.size w W0) := Lib.hid (by rw [← hW0]; exact ((Below.refl _ w).alloc (Nat.le_refl _) _).alloc (by simp) _)
  have HRI := Lib.hid (lnRight_cs n W0 HN.ok cs hcs _ ht)
  have HLN := Lib.hid (HN.cells' cs hcs)
  have iN : Hid ((Try.prog.info? 35).map (·.size) = some cs.size) := Lib.hid (by rw [← hcs]; exact nd_info n)
  rw [show n.val = .agg n.cells.toArray from rfl, hcs]
  clear HN0 HN hok ht hcs
  refine (callsIn_wide (n := 3)).1 (callsIn_of_wp_marks Try.func12 rfl trivial (wpIn_wide.2 ?_) rfl)
  simp only [Try.ntmps12, List.size_toArray, List.length_cons, List.length_nil, Nat.reduceAdd, Nat.reduceSub, Array.replicate_succ, Array.replicate_zero, List.push_toArray, List.append_toArray, List.nil_append, List.cons_append]
  go_wp2
  refine wp_scope_straight ?_
  go_wp2_with (first
    | (with_reducible refine wpList_load_at rfl 35 (.tmp 2) rfl _ rfl cs _ HLN.out Try.underlying35 rfl iN.out ?_)
    | (go_at_call 15; refine HRI.out.mono ?_; clear HRI hW0; rintro e w1 ⟨rfl, hb1⟩; have HB1 := Lib.hid hb1; clear hb1))
  simp only [Exit.noGoto]
  exact leaves_marks w.heap.size [] _ (Marks.nil _ _) (fun W' hck hbk => ⟨_, results_tmp2 rfl _ _ _, ⟨rfl, (HB0.out.trans (HB1.out.mono HB0.out.size)).trans hbk⟩⟩)
/-- what lines.Least and Most answer -/
def leastV (n : Nd) : Value := if textB n = true then .tuple #[.int .i64 (leastW n.ws), .int .i64 0] else .tuple #[.int .i64 0, .int .i64 90]
set_option maxHeartbeats 2000000 in
theorem least_bad (n : Nd) (w : World) (hok : n.ok w) (ht : textB n = false) :
    Calls Try.prog 20 #[n.val] w fun e W' => e = .returned (.tuple #[.int .i64 0, .int .i64 90]) ∧ Below w.heap.size w W' := by
  have HN0 := NdIn.new n w hok
  obtain ⟨cs, hcs⟩ : ∃ cs, n.cells.toArray = cs := ⟨_, rfl⟩
  obtain ⟨W0, hW0⟩ : ∃ W0, w.alloc (.cells cs 35) = W0 := ⟨_, rfl⟩
  have HN : NdIn n w.heap.size W0 := by rw [← hW0, ← hcs]; exact HN0
  have HB0 : Hid (Below w.heap.size w W0) := Lib.hid (by rw [← hW0]; exact (Below.refl _ w).alloc (Nat.le_refl _) _)
  have HRI := Lib.hid (lnRight_cs n W0 HN.ok cs hcs _ ht)
  have HLN := Lib.hid (HN.cells' cs hcs)
  have iN : Hid ((Try.prog.info? 35).map (·.size) = some cs.size) := Lib.hid (by rw [← hcs]; exact nd_info n)
  rw [show n.val = .agg n.cells.toArray from rfl, hcs]
  clear HN0 HN hok ht hcs
  go_enter Try.func20, Try.ntmps20
  go_wp2_with (first
    | (with_reducible refine wpList_load_at rfl 35 (.tmp 1) rfl _ rfl cs _ HLN.out Try.underlying35 rfl iN.out ?_)
    | (go_at_call 15; refine HRI.out.mono ?_; clear HRI hW0; rintro e w1 ⟨rfl, hb1⟩; have HB1 := Lib.hid hb1; clear hb1))
  go_ret2
  exact ⟨rfl, HB0.out.trans (HB1.out.mono HB0.out.size)⟩
set_option maxHeartbeats 2000000 in
theorem least_good (n : Nd) (w : World) (p : Option Addr) (m c : Nat) (hok : n.ok w) (ht : textB n = true) (hwv : n.wv = .slice p m c) (hm : n.ws.length = m) :
    Calls Try.prog 20 #[n.val] w fun e W' => e = .returned (.tuple #[.int .i64 (leastW n.ws), .int .i64 0]) ∧ Below w.heap.size w W' := by
  have HT := Lib.hid (textQ ht)
  have HN0 := NdIn.new n w hok
  obtain ⟨cs, hcs⟩ : ∃ cs, n.cells.toArray = cs := ⟨_, rfl⟩
  obtain ⟨W0, hW0⟩ : ∃ W0, w.alloc (.cells cs 35) = W0 := ⟨_, rfl⟩
  have HN : NdIn n w.heap.size W0 := by rw [← hW0, ← hcs]; exact HN0
  have HNH := Lib.hid HN
  have HB0 : Hid (Below w.heap.size w W0) := Lib.hid (by rw [← hW0]; exact (Below.refl _ w).alloc (Nat.le_refl _) _)
  have HRI := Lib.hid (lnRight_cs n W0 HN.ok cs hcs _ ht)
  have HLN := Lib.hid (HN.cells' cs hcs)
  have iN : Hid ((Try.prog.info? 35).map (·.size) = some cs.size) := Lib.hid (by rw [← hcs]; exact nd_info n)
  rw [show n.val = .agg n.cells.toArray from rfl, hcs]
  have HWV := Lib.hid hwv
  have HM := Lib.hid hm
  have hm64 : m ≤ 10000 := by have := HT.out.ok.2.1; omega
  clear HN0 HN hok ht hcs hwv hm
  go_enter Try.func20, Try.ntmps20
  go_wp2_with (first
    | (with_reducible refine wpList_load_at rfl 35 (.tmp 1) rfl _ rfl cs _ HLN.out Try.underlying35 rfl iN.out ?_)
    | (go_at_call 15; refine HRI.out.mono ?_; clear HRI hW0; rintro e w1 ⟨rfl, hb1⟩; have HB1 := Lib.hid hb1; have hN1 := HNH.out.below hb1; have e31 := hN1.w; rw [HWV.out] at e31; have l1 := hN1.row.lt; have hI := hN1.ok.2.1; rw [HWV.out] at hI; have HI := Lib.hid (LowI.of hI); clear hb1 hN1 hI))
  go_loopw [4, 13] (fun s4 s13 X => ∃ t : Nat, t ≤ m ∧ s13 = .int .i64 t ∧ s4 = .int .i64 (leastW (n.ws.take t)) ∧ w1 = X) (fun _ s13 _ => m - (intOf s13).toNat)
  case atStart => exact ⟨0, Nat.zero_le _, rfl, by simp [leastW], rfl⟩
  case round =>
    obtain ⟨t, ht, rfl, rfl, rfl⟩ := hrel
    clear e31
    by_cases hlt : t < m
    · obtain ⟨x, hx⟩ : ∃ x, n.ws[t]? = some x := ⟨_, List.getElem?_eq_getElem (by rw [HM.out]; exact hlt)⟩
      obtain ⟨bb, off, rfl, hbB, crow⟩ := HI.out.at t x hx
      have HS := Lib.hid (leastW_take n.ws t x hx)
      obtain ⟨q, hq⟩ : ∃ q, leastW (n.ws.take t) = q := ⟨_, rfl⟩
      rw [hq] at HS ⊢
      obtain ⟨mx, hmx⟩ : ∃ mx, max q x = mx := ⟨_, rfl⟩
      rw [hmx] at HS
      have hmx2 : (if q < x then x else q) = mx := by rw [← hmx]; split <;> omega
      clear hx hq
      go_wp2
      all_goals go_roundw
      all_goals first
        | exact ⟨t + 1, by omega, by go_num, by rw [HS.out], trivial⟩
        | (simp [intOf]; omega)
    · obtain rfl : t = m := by omega
      have HS : Hid (leastW (n.ws.take t) = leastW n.ws) := Lib.hid (by rw [List.take_of_length_le (by rw [HM.out]; exact Nat.le_refl _)])
      rw [HS.out]
      go_wp2
      go_ret2
      exact ⟨rfl, HB0.out.trans (HB1.out.mono HB0.out.size)⟩
theorem least_any (n : Nd) (w : World) (hok : n.ok w) : Calls Try.prog 20 #[n.val] w fun e W' => e = .returned (leastV n) ∧ Below w.heap.size w W' := by
  obtain ⟨p, c, hwv⟩ := hok.2.1.form
  unfold leastV
  split
  · rename_i ht; exact least_good n w p _ c hok ht hwv rfl
  · rename_i ht; exact least_bad n w hok (by simpa using ht)
/-- what lines.Most answers -/
def mostV (n : Nd) : Value := if textB n = true then .tuple #[.int .i64 (wideW n.b n.ws 0 n.ws.length), .int .i64 0] else .tuple #[.int .i64 0, .int .i64 90]
theorem wideV_all (n : Nd) : wideV n 0 n.ws.length = mostV n := by
  unfold wideV mostV
  by_cases ht : textB n = true
  · rw [if_pos ⟨ht, by omega, by omega, by omega⟩, if_pos ht]; simp
  · rw [if_neg (fun h => ht h.1), if_neg ht]
set_option maxHeartbeats 2000000 in
theorem most_at (n : Nd) (w : World) (p : Option Addr) (m c : Nat) (v1 v2 : Value) (hok : n.ok w) (hwv : n.wv = .slice p m c) (hm : n.ws.length = m) (hv : mostV n = .tuple #[v1, v2]) :
    Calls Try.prog 21 #[n.val] w fun e W' => e = .returned (.tuple #[v1, v2]) ∧ Below w.heap.size w W' := by
  have HN0 := NdIn.new n w hok
  obtain ⟨cs, hcs⟩ : ∃ cs, n.cells.toArray = cs := ⟨_, rfl⟩
  obtain ⟨W0, hW0⟩ : ∃ W0, w.alloc (.cells cs 35) = W0 := ⟨_, rfl⟩
  have HN : NdIn n w.heap.size W0 := by rw [← hW0, ← hcs]; exact HN0
  have HB0 : Hid (Below w.heap.size w W0) := Lib.hid (by rw [← hW0]; exact (Below.refl _ w).alloc (Nat.le_refl _) _)
  have HLN := Lib.hid (HN.cells' cs hcs)
  have iN : Hid ((Try.prog.info? 35).map (·.size) = some cs.size) := Lib.hid (by rw [← hcs]; exact nd_info n)
  have HWI : Hid (Calls Try.prog 19 #[.agg cs, .int .i64 0, .int .i64 m] W0 fun e Y => e = .returned (.tuple #[v1, v2]) ∧ Below W0.heap.size W0 Y) := Lib.hid (by
    have := wide_any n W0 0 (n.ws.length : Int) HN.ok
    rw [wideV_all, hv, hm, show n.val = .agg n.cells.toArray from rfl, hcs] at this
    exact this)
  rw [show n.val = .agg n.cells.toArray from rfl, hcs]
  have e31 := HN.w
  rw [hwv] at e31
  have l1 := HN.row.lt
  clear HN0 HN hok hcs hwv hm hv
  go_enter Try.func21, Try.ntmps21
  go_wp2_with (first
    | (with_reducible refine wpList_load_at rfl 35 (.tmp 1) rfl _ rfl cs _ HLN.out Try.underlying35 rfl iN.out ?_)
    | (go_at_call 19; refine HWI.out.mono ?_; clear HWI hW0; rintro e w1 ⟨rfl, hb1⟩; have HB1 := Lib.hid hb1; clear hb1))
  go_ret2
  exact ⟨rfl, HB0.out.trans (HB1.out.mono HB0.out.size)⟩
theorem most_any (n : Nd) (w : World) (hok : n.ok w) : Calls Try.prog 21 #[n.val] w fun e W' => e = .returned (mostV n) ∧ Below w.heap.size w W' := by
  obtain ⟨p, c, hwv⟩ := hok.2.1.form
  have h : ∃ v1 v2, mostV n = .tuple #[v1, v2] := by unfold mostV; split <;> exact ⟨_, _, rfl⟩
  obtain ⟨v1, v2, hv⟩ := h
  rw [hv]
  exact most_at n w p _ c v1 v2 hok hwv rfl hv
theorem OwnL.form {base : Nat} {X : World} {v : Value} {Ls : List (Nat × Nat)} (h : OwnL base X v Ls) : ∃ p c, v = .slice p Ls.length c := by
  rcases h.2 with ⟨rfl, h0⟩ | ⟨g, cap, cur, rfl, _⟩
  · rw [h0]; exact ⟨_, _, rfl⟩
  · exact ⟨_, _, rfl⟩
def boxCells (mi ma hi ba : Int) (hb : Bool) : List Value := [.int .i64 mi, .int .i64 ma, .int .i64 hi, .int .i64 ba, .bool hb]
def boxOf (n : Nd) (Ls : List (Nat × Nat)) : List Value := boxCells (leastW n.ws) (wideW n.b n.ws 0 n.ws.length) (Ls.length * n.h) (if 0 < Ls.length then n.h - n.h / 4 else 0) (decide (0 < Ls.length))
theorem results_box {fn : Func} {W : World} {g : Nat} {cs : List Value} {v : Value} {tmps : Array Value} (hf : fn.results = #[.cell 4 43, .tmp 5]) (hl : cs.length = 5) (ht : tmps.getD 4 undef = .pointer (some ⟨g, 0, none⟩)) (hv : tmps.getD 5 undef = v) (h : Whole W g 43 cs) :
    (results fn tmps).run Try.prog W = .ok (.tuple #[.agg cs.toArray, v]) W := by
  have hl := run_loadVar_row (P := Try.prog) W g 43 43 cs.toArray (0, 0) _ h Try.underlying43 rfl (by
    have h : (Try.prog.info? 43).map (·.size) = some 5 := by kernel_rfl
    rw [h]; simp [hl])
  rw [results_cell_tmp hf, ht, hv]
  simp [asAddr, hl]
set_option maxHeartbeats 2000000 in
theorem box_bad (n : Nd) (w : World) (width : Int) (hok : n.ok w) (ht : textB n = false) :
    Calls Try.prog 13 #[n.val, .int .i64 width] w fun e W' => e = .returned (.tuple #[.agg (boxCells 0 0 0 0 false).toArray, .int .i64 90]) ∧ Below w.heap.size w W' := by
  have HN0 := NdIn.new n w hok
  obtain ⟨cs, hcs⟩ : ∃ cs, n.cells.toArray = cs := ⟨_, rfl⟩
  obtain ⟨W0, hW0⟩ : ∃ W0, (w.alloc (.cells cs 35)).alloc (.cells #[.int .i64 0, .int .i64 0, .int .i64 0, .int .i64 0, .bool false] 43) = W0 := ⟨_, rfl⟩
  have HN : NdIn n w.heap.size W0 := by rw [← hW0, ← hcs]; exact HN0.alloc _
  have HB0 : Hid (Below w.heap.size w W0) := Lib.hid (by rw [← hW0]; exact ((Below.refl _ w).alloc (Nat.le_refl _) _).alloc (by simp) _)
  have HK : Whole W0 (w.heap.size + 1) 43 [.int .i64 0, .int .i64 0, .int .i64 0, .int .i64 0, .bool false] := by rw [← hW0]; exact whole_new (w.alloc (.cells cs 35)) [.int .i64 0, .int .i64 0, .int .i64 0, .int .i64 0, .bool false] 43 _ (by simp)
  have HKH := Lib.hid HK
  have HBR : Hid (Calls Try.prog 12 #[.agg cs, .int .i64 width] W0 fun e W' => e = .returned (.tuple #[.slice none 0 0, .int .i64 90]) ∧ Below W0.heap.size W0 W') := Lib.hid (by
    have := break_bad n W0 width HN.ok ht
    rw [show n.val = .agg n.cells.toArray from rfl, hcs] at this
    exact this)
  have HLN := Lib.hid (HN.cells' cs hcs)
  have iN : Hid ((Try.prog.info? 35).map (·.size) = some cs.size) := Lib.hid (by rw [← hcs]; exact nd_info n)
  rw [show n.val = .agg n.cells.toArray from rfl, hcs]
  clear HN0 HN hok ht hcs HK
  go_enter Try.func13, Try.ntmps13
  go_wp2_with (first
    | (with_reducible refine wpList_load_at rfl 35 (.tmp 2) rfl _ rfl cs _ HLN.out Try.underlying35 rfl iN.out ?_)
    | (go_at_call 12; refine HBR.out.mono ?_; clear HBR hW0; rintro e w1 ⟨rfl, hb1⟩; have HB1 := Lib.hid hb1; have hk := HKH.out.below hb1 HKH.out.lt; have K1 := Lib.hid hk; have c0 := hk.cellAt 0; have c1 := hk.cellAt 1; have c2 := hk.cellAt 2; have c3 := hk.cellAt 3; have c4 := hk.cellAt 4; have f0 := hk.free 0; have f1 := hk.free 1; have f2 := hk.free 2; have f3 := hk.free 3; have f4 := hk.free 4; have l1 := hk.lt; clear hb1 hk))
  refine bodyPost_ret (results_box (g := w.heap.size + 1) (cs := boxCells 0 0 0 0 false) rfl rfl rfl rfl (((((K1.out.set 0 (.int .i64 0)).set 1 (.int .i64 0)).set 2 (.int .i64 0)).set 3 (.int .i64 0)).set 4 (.bool false))) rfl ⟨rfl, ?_⟩
  exact HB0.out.trans ((((((HB1.out.mono HB0.out.size).setCell (p := ⟨w.heap.size + 1, 0, none⟩) (by show w.heap.size ≤ w.heap.size + 1; omega) _).setCell (p := ⟨w.heap.size + 1, 1, none⟩) (by show w.heap.size ≤ w.heap.size + 1; omega) _).setCell (p := ⟨w.heap.size + 1, 2, none⟩) (by show w.heap.size ≤ w.heap.size + 1; omega) _).setCell (p := ⟨w.heap.size + 1, 3, none⟩) (by show w.heap.size ≤ w.heap.size + 1; omega) _).setCell (p := ⟨w.heap.size + 1, 4, none⟩) (by show w.heap.size ≤ w.heap.size + 1; omega) _)
set_option maxRecDepth 100000 in
set_option maxHeartbeats 4000000 in
theorem box_good (n : Nd) (w : World) (width : Int) (p : Option Addr) (m c : Nat) (h mi ma : Int) (hok : n.ok w) (ht : textB n = true) (hwv : n.wv = .slice p m c) (hm : n.ws.length = m) (hmc : m ≤ c) (hh : n.h = h) (hmi : leastW n.ws = mi) (hma : wideW n.b n.ws 0 n.ws.length = ma) :
    Calls Try.prog 13 #[n.val, .int .i64 width] w fun e W' => ∃ Ls, e = .returned (.tuple #[.agg (boxOf n Ls).toArray, .int .i64 0]) ∧ Broke (IsLine n.b width n.ws) 0 Ls n.ws.length ∧ Below w.heap.size w W' := by
  have hT := textQ ht
  have h0 : 0 ≤ h := by have := hT.h; omega
  have h1 : h ≤ 1073741824 := by have := hT.h; omega
  have hm64 : m ≤ 10000 := by have := hT.ok.2.1; omega
  have HN0 := NdIn.new n w hok
  obtain ⟨cs, hcs⟩ : ∃ cs, n.cells.toArray = cs := ⟨_, rfl⟩
  obtain ⟨W0, hW0⟩ : ∃ W0, (w.alloc (.cells cs 35)).alloc (.cells #[.int .i64 0, .int .i64 0, .int .i64 0, .int .i64 0, .bool false] 43) = W0 := ⟨_, rfl⟩
  have HN : NdIn n w.heap.size W0 := by rw [← hW0, ← hcs]; exact HN0.alloc _
  have HNH := Lib.hid HN
  have HOW := Lib.hid hok
  have HB0 : Hid (Below w.heap.size w W0) := Lib.hid (by rw [← hW0]; exact ((Below.refl _ w).alloc (Nat.le_refl _) _).alloc (by simp) _)
  have HK : Whole W0 (w.heap.size + 1) 43 [.int .i64 0, .int .i64 0, .int .i64 0, .int .i64 0, .bool false] := by rw [← hW0]; exact whole_new (w.alloc (.cells cs 35)) [.int .i64 0, .int .i64 0, .int .i64 0, .int .i64 0, .bool false] 43 _ (by simp)
  have HKH := Lib.hid HK
  have hv : n.val = .agg cs := by rw [show n.val = .agg n.cells.toArray from rfl, hcs]
  have HBR : Hid (Calls Try.prog 12 #[.agg cs, .int .i64 width] W0 (BrPost n width W0)) := Lib.hid (by
    have := break_main n W0 p m c width n.b HN.ok ht hwv hm hmc rfl
    rwa [hv] at this)
  have HLE : Hid (∀ X : World, n.ok X → Calls Try.prog 20 #[.agg cs] X fun e W' => e = .returned (.tuple #[.int .i64 mi, .int .i64 0]) ∧ Below X.heap.size X W') := Lib.hid fun X hX => by
    have := least_any n X hX
    rw [hv] at this
    unfold leastV at this; rw [if_pos ht, hmi] at this; exact this
  have HMO : Hid (∀ X : World, n.ok X → Calls Try.prog 21 #[.agg cs] X fun e W' => e = .returned (.tuple #[.int .i64 ma, .int .i64 0]) ∧ Below X.heap.size X W') := Lib.hid fun X hX => by
    have := most_any n X hX
    rw [hv] at this
    unfold mostV at this; rw [if_pos ht, hma] at this; exact this
  have HLN := Lib.hid (fun (X : World) (hX : NdIn n w.heap.size X) => hX.cells' cs hcs)
  have iN : Hid ((Try.prog.info? 35).map (·.size) = some cs.size) := Lib.hid (by rw [← hcs]; exact nd_info n)
  have HH := Lib.hid hh
  have HBOX : Hid (∀ Ls : List (Nat × Nat), boxOf n Ls = boxCells mi ma (Ls.length * h) (if 0 < Ls.length then h - h / 4 else 0) (decide (0 < Ls.length))) := Lib.hid fun Ls => by unfold boxOf; rw [hmi, hma, hh]
  have HM := Lib.hid hm
  rw [hv]
  clear HN0 HN hok ht hcs HK hv hT hwv hmi hma hh hm
  go_enter Try.func13, Try.ntmps13
  go_wp2_with (first
    | (with_reducible refine wpList_load_at rfl 35 (.tmp 2) rfl _ rfl cs _ (HLN.out _ HNH.out) Try.underlying35 rfl iN.out ?_)
    | (go_at_call 12; refine HBR.out.mono ?_; clear HBR hW0; rintro e w1 ⟨lv, Ls, rfl, hbr, hol, hb1⟩; refine Hid.out ?_))
  refine Lib.hid ?_
  obtain ⟨lp, lc, rfl⟩ := hol.form
  have HBK := Lib.hid hbr
  have hll : Ls.length ≤ m := by have := hbr.len; have := HM.out; omega
  have B1 := Lib.hid (HB0.out.trans (hb1.mono HB0.out.size))
  have hN1 := HNH.out.below hb1
  have HN1 := Lib.hid hN1
  have K1 := Lib.hid (HKH.out.below hb1 HKH.out.lt)
  have e33 := hN1.h
  rw [HH.out] at e33
  have l1 := hN1.row.lt
  clear hbr hol hb1 hN1
  obtain ⟨k, hk⟩ : ∃ k, Ls.length = k := ⟨_, rfl⟩
  rw [hk] at hll
  have HKK := Lib.hid hk
  rw [hk]
  clear hk
  have hkh : 0 ≤ (k : Int) * h := Int.mul_nonneg (by omega) h0
  have hkh2 : (k : Int) * h ≤ 10000 * 1073741824 := Int.mul_le_mul (by omega) h1 h0 (by omega)
  have HMU : Hid (∀ X : World, Calls Try.prog 26 #[.int .i64 (k : Int), .int .i64 h] X fun e w' => e = .returned (.int .i64 ((k : Int) * h)) ∧ X = w') := Lib.hid fun X => by
    have := mul_any (k : Int) h X (by omega) (by omega) (by omega) (by omega)
    rwa [sat_in (by omega) (by omega)] at this
  have HBX2 : Hid (boxOf n Ls = boxCells mi ma ((k : Int) * h) (if 0 < k then h - h / 4 else 0) (decide (0 < k))) := Lib.hid (by rw [HBOX.out, HKK.out])
  generalize (k : Int) * h = kh at *
  obtain ⟨W2, hW2⟩ : ∃ W2, w1.alloc (.cells #[.int .i64 0, .int .i64 0, .int .i64 kh, .int .i64 0, .bool false] 43) = W2 := ⟨_, rfl⟩
  have b12 : Below w1.heap.size w1 W2 := by rw [← hW2]; exact (Below.refl _ w1).alloc (Nat.le_refl _) _
  have x2 : Whole W2 w1.heap.size 43 [.int .i64 0, .int .i64 0, .int .i64 kh, .int .i64 0, .bool false] := by rw [← hW2]; exact whole_new w1 [.int .i64 0, .int .i64 0, .int .i64 kh, .int .i64 0, .bool false] 43 _ rfl
  have HN2 := Lib.hid (HN1.out.below b12)
  have HK2 := Lib.hid (K1.out.below b12 K1.out.lt)
  have HX2 := Lib.hid x2
  have HB2 := Lib.hid (B1.out.trans (b12.mono B1.out.size))
  obtain ⟨J, hJ⟩ : ∃ J, w1.heap.size = J := ⟨_, rfl⟩
  have hN1J : w.heap.size + 1 < J := by have := K1.out.lt; omega
  rw [hJ] at HX2
  have HW2 := Lib.hid hW2
  clear b12 x2 hW2
  have HG : Hid (∀ (X Y : World) (L : List Value), Whole X J 43 L → NdIn n w.heap.size X → Whole X (w.heap.size + 1) 43 [.int .i64 0, .int .i64 0, .int .i64 0, .int .i64 0, .bool false] → Below w.heap.size w X → Below X.heap.size X Y → Whole Y J 43 L ∧ NdIn n w.heap.size Y ∧ Whole Y (w.heap.size + 1) 43 [.int .i64 0, .int .i64 0, .int .i64 0, .int .i64 0, .bool false] ∧ Below w.heap.size w Y) := Lib.hid fun X Y L h1 h2 h3 h4 hb => ⟨h1.below hb h1.lt, h2.below hb, h3.below hb h3.lt, h4.trans (hb.mono h4.size)⟩
  have HOKW : Hid (∀ X, Below w.heap.size w X → n.ok X) := Lib.hid fun X hX => HOW.out.below hX
  have HS : Hid (∀ (X : World) (L : List Value) (i : Nat) (u : Value), Whole X J 43 L → NdIn n w.heap.size X → Whole X (w.heap.size + 1) 43 [.int .i64 0, .int .i64 0, .int .i64 0, .int .i64 0, .bool false] → Below w.heap.size w X → Whole (X.setCell ⟨J, i, none⟩ u) J 43 (L.set i u) ∧ NdIn n w.heap.size (X.setCell ⟨J, i, none⟩ u) ∧ Whole (X.setCell ⟨J, i, none⟩ u) (w.heap.size + 1) 43 [.int .i64 0, .int .i64 0, .int .i64 0, .int .i64 0, .bool false] ∧ Below w.heap.size w (X.setCell ⟨J, i, none⟩ u)) := Lib.hid fun X L i u h1 h2 h3 h4 => by
    have hb := h4.setCell (p := ⟨J, i, none⟩) (by show w.heap.size ≤ J; omega) u
    exact ⟨h1.set i u, ⟨h2.row.other _ _ (by show w.heap.size ≠ J; omega), HOKW.out _ hb⟩, h3.other _ _ (by show w.heap.size + 1 ≠ J; omega), hb⟩
  have hj1 : ¬ J = w.heap.size := by omega
  have hj2 : ¬ J = w.heap.size + 1 := by omega
  have hj3 : ¬ w.heap.size = J := by omega
  have hj4 : ¬ w.heap.size + 1 = J := by omega
  by_cases hk0 : 0 < k
  · have hd : decide (0 < k) = true := by simpa using hk0
    go_wp2_with (first
      | (rw [HW2.out]; with_reducible refine wpList_load_at rfl 35 (.tmp 2) rfl _ rfl cs _ (HLN.out _ HN2.out) Try.underlying35 rfl iN.out ?_)
      | (go_at_call 26; refine (HMU.out _).mono ?_; clear HMU; rintro e w' ⟨rfl, rfl⟩)
      | (go_at_call 20; refine (HLE.out _ HN2.out.ok).mono ?_; clear HLE; rintro e w3 ⟨rfl, hb3⟩; obtain ⟨g1, g2, g3, g4⟩ := HG.out _ _ _ HX2.out HN2.out HK2.out HB2.out hb3; clear hb3; refine Hid.out ?_))
    refine Lib.hid ?_
    obtain ⟨q1, q2, q3, q4⟩ := HS.out w3 _ 0 (.int .i64 mi) g1 g2 g3 g4
    have x30 := g1.cellAt 0
    have f30 := g1.free 0
    have l3 := g1.lt
    have Q1 := Lib.hid q1
    have Q2 := Lib.hid q2
    have Q3 := Lib.hid q3
    have Q4 := Lib.hid q4
    clear g1 g2 g3 g4 q1 q2 q3 q4
    try clear e33 l1
    go_wp2_with (first
      | (with_reducible refine wpList_load_at rfl 35 (.tmp 2) rfl _ rfl cs _ (HLN.out _ Q2.out) Try.underlying35 rfl iN.out ?_)
      | (go_at_call 21; refine (HMO.out _ Q2.out.ok).mono ?_; clear HMO; rintro e w5 ⟨rfl, hb5⟩; obtain ⟨g1, g2, g3, g4⟩ := HG.out _ _ _ Q1.out Q2.out Q3.out Q4.out hb5; clear hb5; refine Hid.out ?_))
    refine Lib.hid ?_
    obtain ⟨q1, q2, q3, q4⟩ := HS.out w5 _ 1 (.int .i64 ma) g1 g2 g3 g4
    simp only [List.set_cons_zero, List.set_cons_succ] at q1 g1
    have y0 := g1.cellAt 0
    have y1 := g1.cellAt 1
    have y2 := g1.cellAt 2
    have y3 := g1.cellAt 3
    have y4 := g1.cellAt 4
    have f51 := g1.free 1
    have f53 := g1.free 3
    have f54 := g1.free 4
    have l5 := g1.lt
    have u0 := g3.cellAt 0
    have u1 := g3.cellAt 1
    have u2 := g3.cellAt 2
    have u3 := g3.cellAt 3
    have u4 := g3.cellAt 4
    have v0 := g3.free 0
    have v1 := g3.free 1
    have v2 := g3.free 2
    have v3 := g3.free 3
    have v4 := g3.free 4
    have l6 := g3.lt
    have e33 := g2.h
    rw [HH.out] at e33
    have l7 := g2.row.lt
    have R1 := Lib.hid q1
    have R2 := Lib.hid q2
    have R3 := Lib.hid q3
    have R4 := Lib.hid q4
    clear g1 g2 g3 g4 q1 q2 q3 q4 l3 x30 f30
    have hdiv : Int.tdiv h 4 = h / 4 := Int.tdiv_eq_ediv_of_nonneg h0
    generalize hq : h / 4 = hd4 at hdiv HBX2
    have hq1 : 0 ≤ hd4 := by omega
    have hq2 : hd4 ≤ h := by omega
    go_wp2
    refine bodyPost_ret (results_box (g := w.heap.size + 1) (cs := boxOf n Ls) rfl (by rw [HBX2.out]; rfl) rfl rfl ?_) rfl ⟨Ls, rfl, HBK.out, ?_⟩
    · rw [HBX2.out, if_pos hk0, hd]
      exact (((((((R3.out.other ⟨J, 3, none⟩ (.int .i64 (h - hd4)) (by show w.heap.size + 1 ≠ J; omega)).other ⟨J, 4, none⟩ (.bool true) (by show w.heap.size + 1 ≠ J; omega)).set 0 (.int .i64 mi)).set 1 (.int .i64 ma)).set 2 (.int .i64 kh)).set 3 (.int .i64 (h - hd4))).set 4 (.bool true))
    · exact (((((((R4.out.setCell (p := ⟨J, 3, none⟩) (by show w.heap.size ≤ J; omega) _).setCell (p := ⟨J, 4, none⟩) (by show w.heap.size ≤ J; omega) _).setCell (p := ⟨w.heap.size + 1, 0, none⟩) (Nat.le_succ _) _).setCell (p := ⟨w.heap.size + 1, 1, none⟩) (Nat.le_succ _) _).setCell (p := ⟨w.heap.size + 1, 2, none⟩) (Nat.le_succ _) _).setCell (p := ⟨w.heap.size + 1, 3, none⟩) (Nat.le_succ _) _).setCell (p := ⟨w.heap.size + 1, 4, none⟩) (Nat.le_succ _) _)
  · obtain rfl : k = 0 := by omega
    go_wp2_with (first
      | (rw [HW2.out]; with_reducible refine wpList_load_at rfl 35 (.tmp 2) rfl _ rfl cs _ (HLN.out _ HN2.out) Try.underlying35 rfl iN.out ?_)
      | (go_at_call 26; refine (HMU.out _).mono ?_; clear HMU; rintro e w' ⟨rfl, rfl⟩)
      | (go_at_call 20; refine (HLE.out _ HN2.out.ok).mono ?_; clear HLE; rintro e w3 ⟨rfl, hb3⟩; obtain ⟨g1, g2, g3, g4⟩ := HG.out _ _ _ HX2.out HN2.out HK2.out HB2.out hb3; clear hb3; refine Hid.out ?_))
    refine Lib.hid ?_
    obtain ⟨q1, q2, q3, q4⟩ := HS.out w3 _ 0 (.int .i64 mi) g1 g2 g3 g4
    have x30 := g1.cellAt 0
    have f30 := g1.free 0
    have l3 := g1.lt
    have Q1 := Lib.hid q1
    have Q2 := Lib.hid q2
    have Q3 := Lib.hid q3
    have Q4 := Lib.hid q4
    clear g1 g2 g3 g4 q1 q2 q3 q4
    try clear e33 l1
    go_wp2_with (first
      | (with_reducible refine wpList_load_at rfl 35 (.tmp 2) rfl _ rfl cs _ (HLN.out _ Q2.out) Try.underlying35 rfl iN.out ?_)
      | (go_at_call 21; refine (HMO.out _ Q2.out.ok).mono ?_; clear HMO; rintro e w5 ⟨rfl, hb5⟩; obtain ⟨g1, g2, g3, g4⟩ := HG.out _ _ _ Q1.out Q2.out Q3.out Q4.out hb5; clear hb5; refine Hid.out ?_))
    refine Lib.hid ?_
    obtain ⟨q1, q2, q3, q4⟩ := HS.out w5 _ 1 (.int .i64 ma) g1 g2 g3 g4
    simp only [List.set_cons_zero, List.set_cons_succ] at q1 g1
    have y0 := g1.cellAt 0
    have y1 := g1.cellAt 1
    have y2 := g1.cellAt 2
    have y3 := g1.cellAt 3
    have y4 := g1.cellAt 4
    have f51 := g1.free 1
    have f53 := g1.free 3
    have f54 := g1.free 4
    have l5 := g1.lt
    have u0 := g3.cellAt 0
    have u1 := g3.cellAt 1
    have u2 := g3.cellAt 2
    have u3 := g3.cellAt 3
    have u4 := g3.cellAt 4
    have v0 := g3.free 0
    have v1 := g3.free 1
    have v2 := g3.free 2
    have v3 := g3.free 3
    have v4 := g3.free 4
    have l6 := g3.lt
    have e33 := g2.h
    rw [HH.out] at e33
    have l7 := g2.row.lt
    have R1 := Lib.hid q1
    have R2 := Lib.hid q2
    have R3 := Lib.hid q3
    have R4 := Lib.hid q4
    clear g1 g2 g3 g4 q1 q2 q3 q4 l3 x30 f30
    go_wp2
    refine bodyPost_ret (results_box (g := w.heap.size + 1) (cs := boxOf n Ls) rfl (by rw [HBX2.out]; rfl) rfl rfl ?_) rfl ⟨Ls, rfl, HBK.out, ?_⟩
    · rw [HBX2.out, if_neg (by omega), show decide (0 < 0) = false from rfl]
      exact (((((R3.out.set 0 (.int .i64 mi)).set 1 (.int .i64 ma)).set 2 (.int .i64 kh)).set 3 (.int .i64 0)).set 4 (.bool false))
    · exact (((((R4.out.setCell (p := ⟨w.heap.size + 1, 0, none⟩) (Nat.le_succ _) _).setCell (p := ⟨w.heap.size + 1, 1, none⟩) (Nat.le_succ _) _).setCell (p := ⟨w.heap.size + 1, 2, none⟩) (Nat.le_succ _) _).setCell (p := ⟨w.heap.size + 1, 3, none⟩) (Nat.le_succ _) _).setCell (p := ⟨w.heap.size + 1, 4, none⟩) (Nat.le_succ _) _)
end Go.Proofs.Ythgkjgaebgpplaa
