/- Bands as an argument, the laws' cut, their first example; spread.Needs for all bands, needs, gaps. Written by mk_SpLaw.py. -/
import Derived.Test.YtmljndggblfeiaaSpOverF
import Derived.Test.YtmljndggblfeiaaSpNeeds
import Derived.Test.YtmljndggblfeiaaKLaw
import Derived.Test.YtmljndggblfeiaaKShown
namespace Go.Proofs.Ytmljndggblfeiaa
open Go.RowKit Go.Shelf
set_option linter.unusedVariables false
set_option linter.unusedSimpArgs false
attribute [local go_sem] Oper.semAt_some

def Ba.wf (b : Ba) : Prop := fit64 b.mn ∧ fit64 b.mx ∧ fit64 b.sh ∧ fit64 b.wt
theorem Try.cellsBaS : Try.prog.cellsOf 39 = 4 := by kernel_rfl
section
variable {H : Type} {enc : TypeId × Value → H} {w : World} {base : Nat} {spare : Nat → Bool} {held : Bool}
theorem list4K {l : List Value} (h : l.length = 4) : ∃ c0 c1 c2 c3, l = [c0, c1, c2, c3] := by
  match l, h with
  | [c0, c1, c2, c3], _ => exact ⟨c0, c1, c2, c3, rfl⟩
theorem band_cells {fuel : Nat} {cs : List Value} {x : DataW H × List MemPlace} (h : DataW.trod enc Try.prog w base spare held fuel 39 cs = some x) : ∃ q : Ba, cs = q.cells ∧ q.wf := by
  obtain ⟨hl, n, xs, rfl, hm⟩ := trod_struct_invK Try.underlying39 h
  rw [Try.cellsBaS] at hl
  obtain ⟨c0, c1, c2, c3, rfl⟩ := list4K hl
  obtain ⟨y0, z0, h0, hm1, rfl⟩ := mapM_invK hm
  obtain ⟨y1, z1, h1, hm2, rfl⟩ := mapM_invK hm1
  obtain ⟨y2, z2, h2, hm3, rfl⟩ := mapM_invK hm2
  obtain ⟨y3, z3, h3, hm4, rfl⟩ := mapM_invK hm3
  obtain rfl := mapM_endK hm4
  simp [Try.cellsIntK, Try.cellsI64K] at h0 h1 h2 h3
  obtain ⟨k, e0, rfl, w0⟩ := DataW.trod_int Try.underlying2 h0
  obtain ⟨m, e1, rfl, w1⟩ := DataW.trod_int Try.underlying2 h1
  obtain ⟨o, e2, rfl, w2⟩ := DataW.trod_int Try.underlying2 h2
  obtain ⟨p, e3, rfl, w3⟩ := DataW.trod_int Try.underlying2 h3
  simp at e0 e1 e2 e3
  subst e0 e1 e2 e3
  exact ⟨⟨k, m, o, p⟩, rfl, w0, w1, w2, w3⟩
/-- bands as an argument -/
def BandArg (W : World) (a : Option Addr) (len cap : Nat) (zs : List Ba) : Prop := RowArg Ba.cells Ba.wf 4 W a len cap zs
theorem open_bands {a : Option Addr} {len cap fuel : Nat} {y : DataW H × List MemPlace} (h : DataW.trod enc Try.prog w base spare held fuel 22 [.slice a len cap] = some y) : ∃ zs, BandArg w a len cap zs :=
  open_rowsK Try.underlying22 Try.cellsBaS Ba.cells_len (fun h => band_cells h) h
end
set_option maxHeartbeats 2000000 in
theorem cut_s (p q : Option Addr) (n cap n' cap' : Nat) (W : World) (hn : n ≤ cap) (hc : cap ≤ 9223372036854775807) (hn' : n' ≤ cap') (hc' : cap' ≤ 9223372036854775807)
    (hp : (p = none ∧ n = 0 ∧ cap = 0) ∨ ∃ g off m, p = some ⟨g, off, m⟩) (hq : (q = none ∧ n' = 0 ∧ cap' = 0) ∨ ∃ g off m, q = some ⟨g, off, m⟩) :
    Calls Try.prog 7 #[.slice p n cap, .slice q n' cap'] W fun e W' => e = .returned (.tuple #[.slice p (min n 40) cap, .slice q (min n' 100) cap']) ∧ Below W.heap.size W W' := by
  have h1 : (min (n : Int) 40) = ((min n 40 : Nat) : Int) := by omega
  have h2 : (min (n' : Int) 100) = ((min n' 100 : Nat) : Int) := by omega
  have h3 : min n 40 ≤ cap := by omega
  have h4 : min n' 100 ≤ cap' := by omega
  generalize min n 40 = k at *
  generalize min n' 100 = k' at *
  rcases hp with ⟨rfl, rfl, rfl⟩ | ⟨g, off, m, rfl⟩ <;> rcases hq with ⟨rfl, rfl, rfl⟩ | ⟨g', off', m', rfl⟩
  all_goals
    go_enter Try.func7, Try.ntmps7
    go_wp2
    go_quiet (fail)
    go_wp2
    exact bodyPost_ret (results_twoK rfl rfl rfl) rfl ⟨by first | rfl | (simp; omega), by first | exact below_dn _ _ _ | exact Below.refl _ _⟩
/-- what spread.Needs answers -/
def NeedsPost (bs : List Ba) (ns : List Ne) (gap : Int) (m : Nat) (W : World) (e : Ending) (X : World) : Prop :=
  (rightP bs ns gap = true ∧ ∃ G, e = .returned (.tuple #[.slice (some ⟨G, 0, none⟩) m m, .int .i64 0]) ∧ W.heap.size ≤ G ∧ BsAt G (spreadP bs ns gap) X ∧ Below W.heap.size W X) ∨
  (rightP bs ns gap = false ∧ e = .returned (.tuple #[.slice none 0 0, .int .i64 130]) ∧ Below W.heap.size W X)
theorem needsF_any (p q : Option Addr) (m c m' c' : Nat) (bs : List Ba) (ns : List Ne) (gap : Int) (W : World) (hb : RowsK Ba.cells 4 W (.slice p m c) bs) (hn : RowsK Ne.cells 9 W (.slice q m' c') ns) :
    Calls Try.prog 8 #[.slice p m c, .slice q m' c', .int .i64 gap] W (NeedsPost bs ns gap m W) := by
  cases hr : rightP bs ns gap with
  | true => exact (needs_ok p q m c m' c' bs ns gap W hb hn hr).mono fun e X h => .inl ⟨hr, h⟩
  | false => exact (needs_bad p q m c m' c' bs ns gap W hb hn hr).mono fun e X h => .inr ⟨hr, h⟩

theorem shr_shown : overP 10 [2, 3] [1, 4] = [3, 7] := by
  unfold overP shrW
  have e1 : max 0 (10 - sumZ [2, 3]) = 5 := by decide
  have e2 : counted [1, 4] = [1, 4] := by decide
  rw [e1, e2]
  unfold shareS shareL
  have e3 : leftZ 5 [1, 4] = 0 := by decide
  rw [e3, List.take_zero]
  decide
theorem overB_shown : overB 10 [2, 3] [1, 4] = true := by decide
theorem overB_wrong : overB (-1) [2] [1] = false := by decide
theorem partP_shown : partP 10 3 3 = 4 := by decide
set_option maxRecDepth 100000 in
set_option maxHeartbeats 4000000 in
theorem shown14_any (w : World) : Calls Try.prog 6 #[] w fun e w' => e = .returned (.bool true) ∧ Below w.heap.size w w' := by
  have H1 := Lib.hid (fun X a0 a1 (h1 : Nums .i64 X (.slice a0 2 2) [2, 3]) (h2 : Nums .i64 X (.slice a1 2 2) [1, 4]) => overF_any a0 a1 2 2 2 2 10 [2, 3] [1, 4] X rfl rfl h1 h2)
  have H2 := Lib.hid (fun X a0 a1 (h1 : Nums .i64 X (.slice a0 1 1) [2]) (h2 : Nums .i64 X (.slice a1 1 1) [1]) => overF_any a0 a1 1 1 1 1 (-1) [2] [1] X rfl rfl h1 h2)
  have H3 := Lib.hid (fun X => part_any 10 3 3 X (by omega) (by omega) (by omega) (by omega) (by omega) (by omega))
  rw [partP_shown] at H3
  have H4 := Lib.hid (fun X v1 v2 (h1 : Nums .i64 X v1 [3, 7]) (h2 : Nums .i64 X v2 [3, 7]) => same_any v1 v2 [3, 7] [3, 7] X h1 h2)
  go_enter Try.func6, Try.ntmps6
  go_wp2_with fail
  obtain ⟨W1, hW1⟩ : ∃ W1, (w.alloc (.cells #[.int .i64 2, .int .i64 3] 2)).alloc (.cells #[.int .i64 1, .int .i64 4] 2) = W1 := ⟨_, rfl⟩
  have B1 : Hid (Below w.heap.size w W1) := Lib.hid (by rw [← hW1]; exact ((Below.refl _ w).alloc (Nat.le_refl _) _).alloc (by simp) _)
  have r1 : IRow W1 w.heap.size [2, 3] [] := by rw [← hW1]; exact (IRow.new w [2, 3] _ rfl).alloc _
  have r2 : IRow W1 (w.heap.size + 1) [1, 4] [] := by rw [← hW1]; exact IRow.new _ [1, 4] _ (by simp)
  try rw [hW1]
  clear hW1
  refine (H1.out W1 _ _ (r1.all 2 2 rfl (by omega) (by omega)) (r2.all 2 2 rfl (by omega) (by omega))).mono ?_
  rintro e w2 (⟨_, g, cap, sp, rfl, hir, hg, hk, hc, hb2⟩ | ⟨h, _⟩)
  rotate_left
  · rw [overB_shown] at h; cases h
  rw [shr_shown] at hir
  have HI := Lib.hid hir
  have HC : Hid (2 ≤ cap ∧ cap ≤ 9223372036854775807) := Lib.hid ⟨hk, hc⟩
  have B2 := Lib.hid (B1.out.trans (hb2.mono B1.out.size))
  clear hir hg hk hc hb2 r1 r2 B1 H1
  go_wp2_with fail
  obtain ⟨W3, hW3⟩ : ∃ W3, (w2.alloc (.cells #[.int .i64 2] 2)).alloc (.cells #[.int .i64 1] 2) = W3 := ⟨_, rfl⟩
  have B3 : Hid (Below w.heap.size w W3) := Lib.hid (by rw [← hW3]; exact (B2.out.alloc B2.out.size _).alloc (by have := B2.out.size; simp; omega) _)
  have r1 : IRow W3 w2.heap.size [2] [] := by rw [← hW3]; exact (IRow.new w2 [2] _ rfl).alloc _
  have r2 : IRow W3 (w2.heap.size + 1) [1] [] := by rw [← hW3]; exact IRow.new _ [1] _ (by simp)
  have HI3 : Hid (IRow W3 g [3, 7] sp) := Lib.hid (by rw [← hW3]; exact (HI.out.alloc _).alloc _)
  try rw [hW3]
  clear hW3 HI B2
  refine (H2.out W3 _ _ (r1.all 1 1 rfl (by omega) (by omega)) (r2.all 1 1 rfl (by omega) (by omega))).mono ?_
  rintro e w4 (⟨h, _⟩ | ⟨_, rfl, hb4⟩)
  · rw [overB_wrong] at h; cases h
  have B4 := Lib.hid (B3.out.trans (hb4.mono B3.out.size))
  have HI4 := Lib.hid (HI3.out.below hb4 HI3.out.lt)
  clear r1 r2 hb4 B3 HI3 H2
  go_wp2_with fail
  have HI5 := HI4.out.alloc (.cells #[.int .i64 3, .int .i64 7] 2)
  refine (H4.out _ _ _ (HI5.all 2 cap rfl HC.out.1 HC.out.2) ((IRow.new w4 [3, 7] _ rfl).all 2 2 rfl (by omega) (by omega))).mono ?_
  clear HI5
  rintro e w5 ⟨rfl, n5, hw5⟩
  have B5 : Hid (Below w.heap.size w w5) := Lib.hid (by rw [hw5]; exact (B4.out.alloc B4.out.size _).trans (below_dn _ _ _))
  clear hw5 B4 HI4 H4
  go_wp2_with fail
  refine (H3.out _).mono ?_
  rintro e w6 ⟨rfl, rfl⟩
  clear H3
  go_wp2
  go_ret
  exact ⟨by simp, B5.out⟩
end Go.Proofs.Ytmljndggblfeiaa
