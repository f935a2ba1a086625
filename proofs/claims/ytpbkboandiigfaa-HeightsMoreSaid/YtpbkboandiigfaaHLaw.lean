/- Lengths and places as arguments, the laws' cut and their first examples. -/
import Derived.Test.YtpbkboandiigfaaHStretch
import Derived.Deep.Slices
import Derived.ProofKit
import Derived.OpenShut
namespace Go.Proofs.Ytpbkboandiigfaa
open Go.ChangeShapes Go.WideShapes Go.ChangeAt Go.RowKit Go.Joins Go.Shelf
set_option linter.unusedVariables false
set_option linter.unusedSimpArgs false
attribute [local go_sem] Oper.semAt_some

def I64H (a : Int) : Prop := -9223372036854775808 ≤ a ∧ a ≤ 9223372036854775807
theorem i64H {a : Int} (h : (Lit.int .i64 a).wf = true) : I64H a := by
  have h' : (decide (-9223372036854775808 ≤ a) && decide (a ≤ 9223372036854775807)) = true := h
  simp at h'
  exact h'
def Pc.fit (p : Pc) : Prop := I64H p.nd ∧ I64H p.ro ∧ I64H p.co ∧ I64H p.rs ∧ I64H p.cs
def intC (z : Int) : List Value := [.int .i64 z]
theorem Try.cellsPcH : Try.prog.cellsOf 35 = 5 := by kernel_rfl
theorem Try.cellsIH : Try.prog.cellsOf 3 = 1 := by kernel_rfl
theorem Try.cellsLH : Try.prog.cellsOf 2 = 1 := by kernel_rfl
section
variable {H : Type} {enc : TypeId × Value → H} {w : World} {base : Nat} {spare : Nat → Bool} {held : Bool}
set_option maxRecDepth 100000 in
theorem pc_cells {fuel : Nat} {cs : List Value} {y : DataW H × List MemPlace} (h : DataW.trod enc Try.prog w base spare held fuel 35 cs = some y) : ∃ q : Pc, cs = q.cells ∧ q.fit := by
  obtain ⟨xs, n, _, _, hl, hlen, hf⟩ := DataW.trod_struct Try.underlying35 h
  rw [Try.cellsPcH] at hl
  match cs, hl, xs, hlen with
  | [c0, c1, c2, c3, c4], _, [y0, y1, y2, y3, y4], _ =>
    have k1 := Try.cellsIH
    have h0 := hf 0 _ rfl
    have h1 := hf 1 _ rfl
    have h2 := hf 2 _ rfl
    have h3 := hf 3 _ rfl
    have h4 := hf 4 _ rfl
    simp [k1] at h0 h1 h2 h3 h4
    obtain ⟨a0, e0, _, w0⟩ := DataW.trod_int Try.underlying3 h0
    obtain ⟨a1, e1, _, w1⟩ := DataW.trod_int Try.underlying3 h1
    obtain ⟨a2, e2, _, w2⟩ := DataW.trod_int Try.underlying3 h2
    obtain ⟨a3, e3, _, w3⟩ := DataW.trod_int Try.underlying3 h3
    obtain ⟨a4, e4, _, w4⟩ := DataW.trod_int Try.underlying3 h4
    simp at e0 e1 e2 e3 e4
    subst e0 e1 e2 e3 e4
    exact ⟨⟨a0, a1, a2, a3, a4⟩, rfl, i64H w0, i64H w1, i64H w2, i64H w3, i64H w4⟩
theorem int_cells {fuel : Nat} {cs : List Value} {y : DataW H × List MemPlace} (h : DataW.trod enc Try.prog w base spare held fuel 2 cs = some y) : ∃ q : Int, cs = intC q ∧ I64H q := by
  obtain ⟨a, e, _, w0⟩ := DataW.trod_int Try.underlying2 h
  exact ⟨a, e, i64H w0⟩
def IntArg (W : World) (a : Option Addr) (len cap : Nat) (zs : List Int) : Prop := RowArg intC I64H 1 W a len cap zs
def PlcArg (W : World) (a : Option Addr) (len cap : Nat) (zs : List Pc) : Prop := RowArg Pc.cells Pc.fit 5 W a len cap zs
theorem open_intsH {a : Option Addr} {len cap fuel : Nat} {y : DataW H × List MemPlace} (h : DataW.trod enc Try.prog w base spare held fuel 22 [.slice a len cap] = some y) : ∃ zs, IntArg w a len cap zs :=
  open_rowsK Try.underlying22 Try.cellsLH (fun _ => rfl) (fun h => int_cells h) h
theorem open_plcs {a : Option Addr} {len cap fuel : Nat} {y : DataW H × List MemPlace} (h : DataW.trod enc Try.prog w base spare held fuel 23 [.slice a len cap] = some y) : ∃ zs, PlcArg w a len cap zs :=
  open_rowsK Try.underlying23 Try.cellsPcH Pc.cells_len (fun h => pc_cells h) h
end
theorem IntArg.take {W : World} {a : Option Addr} {len cap : Nat} {zs : List Int} (h : IntArg W a len cap zs) (k : Nat) : IArg W a (min len k) cap (zs.take k) ∧ (∀ z ∈ zs.take k, I64H z) ∧ len ≤ cap ∧ cap ≤ 9223372036854775807 ∧ ((a = none ∧ len = 0 ∧ cap = 0) ∨ ∃ g off m, a = some ⟨g, off, m⟩) := by
  obtain ⟨h1, h2, h3, h4, h5, h6⟩ := RowArg.take (cells := intC) (wf := I64H) (n := 1) (fun _ => rfl) (by omega) h k
  refine ⟨⟨?_, h2, by omega, h4, ?_, ?_⟩, h5, h3, h4, h6⟩
  · refine ⟨by omega, ?_⟩
    rcases h1.2 with ⟨a', c', e, he⟩ | ⟨b, off, c', e, _, hc⟩
    · exact .inl ⟨a', c', e, he⟩
    · refine .inr ⟨b, off, c', e, fun j hj => ?_⟩
      have := hc j hj 0 _ rfl
      rw [getElem!_pos _ j hj] at this
      rw [List.getElem?_eq_getElem hj, Option.getD_some, ← this, Nat.mul_one]
      rfl
  · rcases h6 with ⟨e, h0, e2⟩ | ⟨g, off, m, e⟩
    · exact .inl ⟨e, by omega, e2⟩
    · exact .inr ⟨_, e⟩
  · intro x hx j z hz
    rcases h.2 with ⟨e, _⟩ | ⟨x', e, _, _, hzl, hc⟩
    · rw [hx] at e; cases e
    · rw [hx] at e
      injection e with e
      subst e
      have hj : j < (zs.take k).length := (List.getElem?_eq_some_iff.1 hz).1
      have hj2 : j < zs.length := by rw [List.length_take] at hj; omega
      have hjk : j < k := by rw [List.length_take] at hj; omega
      have := hc j (by omega) 0 _ rfl
      rw [getElem!_pos _ j hj2, Nat.mul_one, Nat.add_zero] at this
      rw [List.getElem?_take_of_lt hjk, List.getElem?_eq_getElem hj2] at hz
      injection hz with hz
      rw [← hz]; exact this
theorem plc_fit {ps : List Pc} {hs : List Int} (h : ∀ p ∈ ps, p.fit) : ∀ z ∈ htZ ps hs, z.fit := fun z hz => by
  obtain ⟨k, hk⟩ := List.mem_iff_getElem?.1 hz
  obtain ⟨p, x, h1, h2, rfl⟩ := htZ_get ps hs k z hk
  have := h p (List.mem_of_getElem? h1)
  exact ⟨this.2.2.2.1, this.2.1⟩
theorem results_threeH {W : World} {tmps : Array Value} {fn : Func} {a b c : Nat} {x y z : Value} (hf : fn.results = #[.tmp a, .tmp b, .tmp c]) (hx : tmps[a]? = some x) (hy : tmps[b]? = some y) (hz : tmps[c]? = some z) : (results fn tmps).run Try.prog W = .ok (.tuple #[x, y, z]) W := by
  simp [results, hf, go_sem, hx, hy, hz]
set_option maxHeartbeats 4000000 in
theorem cut_h (p q r : Option Addr) (n cap n' cap' n'' cap'' : Nat) (W : World) (hn : n ≤ cap) (hc : cap ≤ 9223372036854775807) (hn' : n' ≤ cap') (hc' : cap' ≤ 9223372036854775807) (hn'' : n'' ≤ cap'') (hc'' : cap'' ≤ 9223372036854775807)
    (hp : (p = none ∧ n = 0 ∧ cap = 0) ∨ ∃ g off m, p = some ⟨g, off, m⟩) (hq : (q = none ∧ n' = 0 ∧ cap' = 0) ∨ ∃ g off m, q = some ⟨g, off, m⟩) (hr : (r = none ∧ n'' = 0 ∧ cap'' = 0) ∨ ∃ g off m, r = some ⟨g, off, m⟩) :
    Calls Try.prog 11 #[.slice p n cap, .slice q n' cap', .slice r n'' cap''] W fun e W' => e = .returned (.tuple #[.slice p (min n 60) cap, .slice q (min n' 100) cap', .slice r (min n'' 100) cap'']) ∧ Below W.heap.size W W' := by
  have h1 : (min (n : Int) 60) = ((min n 60 : Nat) : Int) := by omega
  have h2 : (min (n' : Int) 100) = ((min n' 100 : Nat) : Int) := by omega
  have h5 : (min (n'' : Int) 100) = ((min n'' 100 : Nat) : Int) := by omega
  have h3 : min n 60 ≤ cap := by omega
  have h4 : min n' 100 ≤ cap' := by omega
  have h6 : min n'' 100 ≤ cap'' := by omega
  generalize min n 60 = k at *
  generalize min n' 100 = k' at *
  generalize min n'' 100 = k'' at *
  rcases hp with ⟨rfl, rfl, rfl⟩ | ⟨g, off, m, rfl⟩ <;> rcases hq with ⟨rfl, rfl, rfl⟩ | ⟨g', off', m', rfl⟩ <;> rcases hr with ⟨rfl, rfl, rfl⟩ | ⟨g'', off'', m'', rfl⟩
  all_goals
    go_enter Try.func11, Try.ntmps11
    go_wp2
    go_quiet (fail)
    go_wp2
    exact bodyPost_ret (results_threeH rfl rfl rfl rfl) rfl ⟨by first | rfl | (simp; omega), by first | exact below_dn _ _ _ | exact Below.refl _ _⟩
theorem shr_no (t : Int) (ws : List Int) (h : leftZ t (counted ws) = 0) : shrW t ws = baseL t (counted ws) := by
  unfold shrW shareS shareL
  rw [h, List.take_zero]
  rfl
theorem shown_least : leastP [-1, -1] (htZ [⟨0, 0, 0, 1, 1⟩, ⟨0, 0, 0, 2, 1⟩] [10, 40]) 0 = [40, 0] := by
  have e1 : htL 2 (htZ [⟨0, 0, 0, 1, 1⟩, ⟨0, 0, 0, 2, 1⟩] [10, 40]) = [⟨0, 0, 0, 1, 1, 10⟩, ⟨0, 0, 0, 2, 1, 40⟩] := by decide
  have e2 : reqP [-1, -1] = [0, 0] := by decide
  have e3 : meetH 0 [0, 0] ⟨0, 0, 0, 1, 1, 10⟩ = [10, 0] := by
    unfold meetH loH overP
    rw [shr_no _ _ (by decide)]
    decide
  have e4 : meetH 0 [10, 0] ⟨0, 0, 0, 2, 1, 40⟩ = [40, 0] := by
    unfold meetH loH overP
    rw [shr_no _ _ (by decide)]
    decide
  unfold leastP
  rw [show ([-1, -1] : List Int).length = 2 from rfl, e1, e2, List.foldl_cons, List.foldl_cons, List.foldl_nil, e3, e4]
theorem shown_str : stretchP [10, 30] [-1, -1] 60 = [15, 45] := by
  have e1 : choP [-1, -1] = [0, 1] := by decide
  have e2 : strS [10, 30] [-1, -1] 60 = [5, 15] := by
    unfold strS
    rw [e1, shr_no _ _ (by decide)]
    decide
  unfold stretchP
  rw [e1, e2]
  decide
theorem shown_ok : leastR [-1, -1] [⟨0, 0, 0, 1, 1⟩, ⟨0, 0, 0, 2, 1⟩] [10, 40] 0 = true := by decide
theorem shown_sok : StrOk [10, 30] [-1, -1] 60 := ⟨by decide, by decide, rfl, by intro z hz; simp at hz; omega, by intro z hz; simp at hz; omega, by decide, by decide⟩
theorem iarg_new {W : World} {g t m : Nat} {zs : List Int} (h : Whole W g t (zs.map (Value.int .i64))) (hm : zs.length = m) (hc : m ≤ 1000000) : IArg W (some ⟨g, 0, none⟩) m m zs :=
  ⟨Ints.whole h hm (by omega), hm, Nat.le_refl _, by omega, .inr ⟨_, rfl⟩, fun x hx j z hz => by
    injection hx with hx
    subst hx
    rw [add_plainC, Nat.zero_add, h.cellAt j, List.getElem?_map, hz]; rfl⟩
set_option maxRecDepth 100000 in
set_option maxHeartbeats 4000000 in
theorem shown16_any (w : World) : Calls Try.prog 10 #[] w fun e w' => e = .returned (.bool true) ∧ Below w.heap.size w w' := by
  have H1 := Lib.hid (fun X p q r (h1 : IArg X p 2 2 [-1, -1]) (h2 : RowsK Pc.cells 5 X (.slice q 2 2) [⟨0, 0, 0, 1, 1⟩, ⟨0, 0, 0, 2, 1⟩]) (h3 : Ints X (.slice r 2 2) [10, 40]) => least_any p q r 2 2 2 2 2 2 _ _ _ 0 X h1 (by omega) h2 rfl h3 rfl (by intro z hz; simp [htZ, Pc.ht] at hz; rcases hz with rfl | rfl <;> exact ⟨⟨by decide, by decide⟩, by decide, by decide⟩) (by omega) (by omega))
  have H2 := Lib.hid (fun X p q (h1 : IArg X p 2 2 [10, 30]) (h2 : IArg X q 2 2 [-1, -1]) => stretch_any p q 2 2 2 2 _ _ 60 X h1 h2 (by omega) (by omega))
  have H3 := Lib.hid (fun X => stretch_any none none 0 0 0 0 [] [] 5 X (iarg_nil X) (iarg_nil X) (by omega) (by omega))
  have H4 := Lib.hid (fun X v1 v2 xs (h1 : Nums .i64 X v1 xs) (h2 : Nums .i64 X v2 xs) => same_any v1 v2 xs xs X h1 h2)
  go_enter Try.func10, Try.ntmps10
  have K1 : Whole (((w.alloc (.cells #[.int .i64 (-1), .int .i64 (-1)] 2)).alloc (.cells #[.int .i64 0, .int .i64 0, .int .i64 0, .int .i64 1, .int .i64 1, .int .i64 0, .int .i64 0, .int .i64 0, .int .i64 2, .int .i64 1] 35)).alloc (.cells #[.int .i64 10, .int .i64 40] 2)) w.heap.size 2 (([-1, -1] : List Int).map (Value.int .i64)) := ((whole_new w _ 2 _ rfl).alloc _).alloc _
  have K2 : Whole (((w.alloc (.cells #[.int .i64 (-1), .int .i64 (-1)] 2)).alloc (.cells #[.int .i64 0, .int .i64 0, .int .i64 0, .int .i64 1, .int .i64 1, .int .i64 0, .int .i64 0, .int .i64 0, .int .i64 2, .int .i64 1] 35)).alloc (.cells #[.int .i64 10, .int .i64 40] 2)) (w.heap.size + 1) 35 (([⟨0, 0, 0, 1, 1⟩, ⟨0, 0, 0, 2, 1⟩] : List Pc).flatMap Pc.cells) := (whole_new (w.alloc _) _ 35 _ (by simp)).alloc _
  have K3 : Whole (((w.alloc (.cells #[.int .i64 (-1), .int .i64 (-1)] 2)).alloc (.cells #[.int .i64 0, .int .i64 0, .int .i64 0, .int .i64 1, .int .i64 1, .int .i64 0, .int .i64 0, .int .i64 0, .int .i64 2, .int .i64 1] 35)).alloc (.cells #[.int .i64 10, .int .i64 40] 2)) (w.heap.size + 1 + 1) 2 (([10, 40] : List Int).map (Value.int .i64)) := whole_new ((w.alloc _).alloc _) _ 2 _ (by simp)
  have B0 : Below w.heap.size w (((w.alloc (.cells #[.int .i64 (-1), .int .i64 (-1)] 2)).alloc (.cells #[.int .i64 0, .int .i64 0, .int .i64 0, .int .i64 1, .int .i64 1, .int .i64 0, .int .i64 0, .int .i64 0, .int .i64 2, .int .i64 1] 35)).alloc (.cells #[.int .i64 10, .int .i64 40] 2)) := (((Below.refl _ w).alloc (Nat.le_refl _) _).alloc (by simp) _).alloc (by simp <;> omega) _
  have C1 := Lib.hid (H1.out _ _ _ _ (iarg_new (m := 2) K1 rfl (by omega)) (RowsK.whole (m := 2) Pc.cells_len K2 rfl 2 (by omega)) (Ints.whole (n := 2) K3 rfl (by omega)))
  have BB0 := Lib.hid B0
  clear K1 K2 K3 B0 H1
  go_wp2_with fail
  refine C1.out.mono ?_
  rintro e w1 ⟨b1, ⟨_, p1, c1, rfl, hi1, hl1, _⟩ | ⟨h0, _⟩⟩
  rotate_left
  · rw [shown_ok] at h0; cases h0
  rw [shown_least] at hi1
  have I1 := Lib.hid hi1
  have BB1 := Lib.hid (BB0.out.trans (b1.mono BB0.out.size))
  clear C1 BB0 b1 hi1 hl1
  have K4 : Whole ((w1.alloc (.cells #[.int .i64 10, .int .i64 30] 2)).alloc (.cells #[.int .i64 (-1), .int .i64 (-1)] 2)) w1.heap.size 2 (([10, 30] : List Int).map (Value.int .i64)) := (whole_new w1 _ 2 _ rfl).alloc _
  have K5 : Whole ((w1.alloc (.cells #[.int .i64 10, .int .i64 30] 2)).alloc (.cells #[.int .i64 (-1), .int .i64 (-1)] 2)) (w1.heap.size + 1) 2 (([-1, -1] : List Int).map (Value.int .i64)) := whole_new (w1.alloc _) _ 2 _ (by simp)
  have B2 : Below w1.heap.size w1 ((w1.alloc (.cells #[.int .i64 10, .int .i64 30] 2)).alloc (.cells #[.int .i64 (-1), .int .i64 (-1)] 2)) := ((Below.refl _ w1).alloc (Nat.le_refl _) _).alloc (by simp) _
  have C2 := Lib.hid (H2.out _ _ _ (iarg_new (m := 2) K4 rfl (by omega)) (iarg_new (m := 2) K5 rfl (by omega)))
  have BB2 := Lib.hid (BB1.out.trans (B2.mono BB1.out.size))
  have I2 := Lib.hid (nums_below I1.out B2)
  clear K4 K5 B2 H2 BB1 I1
  go_wp2_with fail
  refine C2.out.mono ?_
  rintro e w3 ⟨b3, ⟨_, G3, c3, rfl, hi3, _⟩ | ⟨h0, _⟩⟩
  rotate_left
  · exact absurd shown_sok h0
  rw [shown_str] at hi3
  have I3 := Lib.hid hi3
  have I2' := Lib.hid (nums_below I2.out b3)
  have BB3 := Lib.hid (BB2.out.trans (b3.mono BB2.out.size))
  clear C2 BB2 b3 hi3 I2
  go_wp2_with fail
  refine (H3.out _).mono ?_
  rintro e w4 ⟨b4, ⟨h0, _⟩ | ⟨_, rfl⟩⟩
  · have := h0.r1; simp at this
  have I4 := Lib.hid (nums_below I3.out b4)
  have I5 := Lib.hid (nums_below I2'.out b4)
  have BB4 := Lib.hid (BB3.out.trans (b4.mono BB3.out.size))
  clear H3 BB3 b4 I3 I2'
  have N6 : Nums .i64 (w4.alloc (.cells #[.int .i64 40, .int .i64 0] 2)) (.slice (some ⟨w4.heap.size, 0, none⟩) 2 2) [40, 0] := iarg_nums (iarg_new (m := 2) (whole_new w4 _ 2 _ rfl) rfl (by omega))
  have C6 := Lib.hid (H4.out _ _ _ _ (nums_below I5.out ((Below.refl _ w4).alloc (Nat.le_refl _) _)) N6)
  clear N6
  go_wp2_with fail
  refine C6.out.mono ?_
  rintro e w6 ⟨rfl, n6, rfl⟩
  have B6 : Below w4.heap.size w4 ((w4.alloc (.cells #[.int .i64 40, .int .i64 0] 2)).drewN n6) := ((Below.refl _ w4).alloc (Nat.le_refl _) _).trans (below_dn _ _ _)
  have I6 := Lib.hid (nums_below I4.out B6)
  have BB6 := Lib.hid (BB4.out.trans (B6.mono BB4.out.size))
  obtain ⟨w6, hw6⟩ : ∃ w6, (w4.alloc (.cells #[.int .i64 40, .int .i64 0] 2)).drewN n6 = w6 := ⟨_, rfl⟩
  rw [hw6] at I6 BB6
  rw [hw6]
  clear C6 B6 hw6 I4 I5 BB4
  have N7 : Nums .i64 (w6.alloc (.cells #[.int .i64 15, .int .i64 45] 2)) (.slice (some ⟨w6.heap.size, 0, none⟩) 2 2) [15, 45] := iarg_nums (iarg_new (m := 2) (whole_new w6 _ 2 _ rfl) rfl (by omega))
  have C7 := Lib.hid (H4.out _ _ _ _ (nums_below I6.out ((Below.refl _ w6).alloc (Nat.le_refl _) _)) N7)
  clear N7
  go_wp2_with fail
  refine C7.out.mono ?_
  rintro e w8 ⟨rfl, n8, rfl⟩
  have B8 : Below w6.heap.size w6 ((w6.alloc (.cells #[.int .i64 15, .int .i64 45] 2)).drewN n8) := ((Below.refl _ w6).alloc (Nat.le_refl _) _).trans (below_dn _ _ _)
  have BB8 := Lib.hid (BB6.out.trans (B8.mono BB6.out.size))
  clear C7 B8 I6 H4 BB6
  go_wp2
  go_ret
  exact ⟨by first | rfl | (simp; done), BB8.out⟩
end Go.Proofs.Ytpbkboandiigfaa
