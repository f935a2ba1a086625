/- What the laws on bands need: numbers as an argument, the first hundred of them, and that beginnings are known (shown). -/
import Derived.Test.YtlnfgmmgkmhehaaERef
import Derived.Deep.Strs
import Derived.Deep.Slices
import Derived.OpenShut
namespace Go.Proofs.Ytlnfgmmgkmhehaa
open Go.ChangeShapes Go.WideShapes Go.RowKit Go.Shelf Go.Deep
set_option linter.unusedVariables false
set_option linter.unusedSimpArgs false

section
variable {H : Type} {enc : TypeId × Value → H} {w : World} {base : Nat} {spare : Nat → Bool} {held : Bool}
set_option maxRecDepth 100000 in
theorem open_ints64 {a : Option Addr} {len cap fuel : Nat} {y : DataW H × List MemPlace} (h : DataW.trod enc Try.prog w base spare held fuel 22 [.slice a len cap] = some y) : ∃ zs, Ints w (.slice a len cap) zs ∧ zs.length = len ∧ len ≤ cap ∧ cap ≤ maxLen := by
  rcases Go.Deep.open_slice1 Try.underlying22 (by kernel_rfl) h with ⟨hcs, _⟩ | ⟨x, l, c, m, n, V, D, Pl, hcs, _, hl, hm, hmm, _, hx⟩
  · simp at hcs
    obtain ⟨rfl, rfl, rfl⟩ := hcs
    exact ⟨[], ⟨by simp, .inl ⟨none, 0, rfl, rfl⟩⟩, rfl, by omega, by unfold maxLen; omega⟩
  · simp at hcs
    obtain ⟨rfl, rfl, rfl⟩ := hcs
    have hm' := hm
    unfold maxLen at hm
    have hlm : len ≤ m := by rw [hmm]; split <;> omega
    have each : ∀ i, i < len → ∃ z : Int, w.cell? (x.add i) = some (.int .i64 z) := by
      intro i hi
      obtain ⟨c0, t0⟩ := hx i (by omega)
      obtain ⟨z, e0, _, _⟩ := DataW.trod_int Try.underlying2 t0
      simp at e0
      exact ⟨z, by rw [c0, e0]⟩
    obtain ⟨q, hq⟩ := Go.Deep.choose_lt each
    obtain ⟨g, off, sp⟩ := x
    by_cases h0 : len = 0
    · subst h0; exact ⟨[], ⟨by simp, .inl ⟨_, cap, rfl, rfl⟩⟩, rfl, hl, hm'⟩
    · have c0 := hq 0 (by omega)
      have hs : sp = none := by simpa [Addr.add] using World.cell?_spot c0
      subst hs
      refine ⟨(List.range len).map q, ⟨by simp; omega, .inr ⟨g, off, cap, by simp, fun j hj => ?_⟩⟩, by simp, hl, hm'⟩
      have hj' : j < len := by simpa using hj
      have a0 := hq j hj'
      rw [add_plainE] at a0
      rw [a0]; simp [hj']
end
theorem ints_takeR {W : World} {a : Option Addr} {l c : Nat} {zs : List Int} (h : Ints W (.slice a l c) zs) (hl : zs.length = l) (k : Nat) (hk : k ≤ l) : Ints W (.slice a k c) (zs.take k) := by
  have hlk : (zs.take k).length = k := by rw [List.length_take]; omega
  obtain ⟨h1, ⟨a', c', e, rfl⟩ | ⟨b, off, c', e, hc⟩⟩ := h
  · injection e with e1 e2 e3
    subst e1 e3
    simp at hl
    refine ⟨by omega, .inl ⟨a, c, ?_, by simp⟩⟩
    rw [show k = 0 by omega]
  · injection e with e1 e2 e3
    subst e1 e3
    refine ⟨by omega, .inr ⟨b, off, c, by rw [hlk], fun j hj => ?_⟩⟩
    rw [hlk] at hj
    have := hc j (by omega)
    rwa [List.getElem?_take_of_lt hj]
theorem ints_cellR {X : World} {q : Option Addr} {n c : Nat} {zs : List Int} (h : Ints X (.slice q n c) zs) (j : Nat) (z : Int) (hz : zs[j]? = some z) : ∃ b o, q = some ⟨b, o, none⟩ ∧ b < X.heap.size ∧ X.cell? ⟨b, o + j, none⟩ = some (.int .i64 z) := by
  have hj := (List.getElem?_eq_some_iff.1 hz).1
  obtain ⟨_, ⟨a, cap', e, rfl⟩ | ⟨g, off, cap', e, hc⟩⟩ := h
  · simp at hj
  · injection e with e1 e2 e3
    have h1 := hc j hj
    rw [hz] at h1
    exact ⟨g, off, e1, cell_lt h1, h1⟩
theorem wpList_val {P : Program} {ops : Array Oper} {w : World} {Q : Exit → Act → World → Prop} {a : Act} {o : Oper} {rest : List Oper} (hg : o.guard = none) (v : Value) (hr : (execOp a.eval o).run P w = .ok (.value v) w) (h : wpList P ops Q rest (a.put o.dst v) w) : wpList P ops Q (o :: rest) a w :=
  wpList_plain hg fun K hK => by
    unfold Oper.wp
    rw [hr]
    exact hK _ _ h
theorem exec_slice_h {P : Program} {w : World} {a : Act} {o : Oper} (t : TypeId) (x hi : Operand) (ho : o.op = .slice t x none (some hi) none) (e : TypeId) (ht : P.underlying t = some (.slice e)) (hs : (sizeOf e).run P w = .ok 1 w)
    (p : Option Addr) (m c to : Nat) (hx : a.eval x = .slice p m c) (hh : a.eval hi = .int .i64 to) (h2 : to ≤ c) :
    (execOp a.eval o).run P w = .ok (.value (.slice p to c)) w := by
  have he : P.elem t = e := by simp [Program.elem, ht]
  have ht' : P.underlying t = some (.slice (P.elem t)) := by rw [he]; exact ht
  unfold execOp
  simp only [ho, hx, Option.map_some, Option.map_none, hh]
  simp [run_sliceAt_slice (P := P) w t _ _ _ _ ht', run_slice_h (P := P) w t p m c ht' .i64 (to : Int) (by omega) (by omega), he, hs, sliced, Result.andThen]
  intro _; cases p <;> simp [go_sem]
/-- two numbers laid out -/
theorem lay2E (w : World) (x y : Int) : LowI (w.heap.size + 1) (w.alloc (.cells #[.int .i64 x, .int .i64 y] 2)) (.slice (some ⟨w.heap.size, 0, none⟩) 2 2) [x, y] :=
  ⟨by simp, .inr ⟨w.heap.size, 0, 2, rfl, by omega, fun j hj => by
    have := (whole_new w [.int .i64 x, .int .i64 y] 2 _ rfl).cellAt j
    rw [Nat.zero_add, this]
    simp only [List.length_cons, List.length_nil] at hj
    rcases j with _ | _ | j <;> first | rfl | omega⟩⟩
theorem LowI.nums {B : Nat} {X : World} {p : Option Addr} {l c : Nat} {zs : List Int} (h : LowI B X (.slice p l c) zs) (hc : l ≤ c) (hc2 : c ≤ 9223372036854775807) : Nums .i64 X (.slice p l c) zs := by
  refine ⟨h.1, ?_⟩
  rcases h.2 with ⟨a, c', e, rfl⟩ | ⟨b, off, c', e, hB, hcc⟩
  · injection e with e1 e2 e3
    subst e1 e2 e3
    exact .inl ⟨_, _, rfl, hc2, rfl⟩
  · injection e with e1 e2 e3
    subst e1 e2 e3
    exact .inr ⟨b, off, _, rfl, hc, hc2, hcc⟩
theorem whole_nums {W : World} {g m : Nat} {zs : List Int} (h : Whole W g 2 (zs.map (Value.int .i64))) (hm : zs.length = m) (hk : m ≤ 1000000) : Nums .i64 W (.slice (some ⟨g, 0, none⟩) m m) zs := by
  subst hm
  refine ⟨by omega, .inr ⟨g, 0, zs.length, rfl, Nat.le_refl _, by omega, fun j hj => ?_⟩⟩
  rw [Nat.zero_add, h.cellAt j]; simp [hj]
/-- the first hundred numbers of an argument -/
theorem cut_low {W : World} {a : Option Addr} {len cap : Nat} {zs : List Int} (h : Ints W (.slice a len cap) zs) (hl : zs.length = len) : LowI W.heap.size W (.slice a (min len 100) cap) (zs.take 100) ∧ (zs.take 100).length = min len 100 := by
  have h2 := ints_takeR h hl (min len 100) (by omega)
  have e : zs.take (min len 100) = zs.take 100 := by
    by_cases k : len ≤ 100
    · rw [Nat.min_eq_left k, List.take_of_length_le (by omega), List.take_of_length_le (by omega)]
    · rw [Nat.min_eq_right (by omega)]
  rw [e] at h2
  exact ⟨.of h2, by simp; omega⟩
/-- numbers that an argument has, in every later world -/
def LowE (w : World) (p : Option Addr) (m c : Nat) (bs : List Int) (X : World) : Prop := LowI w.heap.size w (.slice p m c) bs ∧ Below w.heap.size w X
theorem LowE.at {w : World} {p : Option Addr} {m c : Nat} {bs : List Int} {X : World} (h : LowE w p m c bs X) : LowI X.heap.size X (.slice p m c) bs := (h.1.keep (Y := X) (fun k hk => h.2.block k hk)).mono h.2.size
theorem LowE.next {w : World} {p : Option Addr} {m c : Nat} {bs : List Int} {X Y : World} (h : LowE w p m c bs X) (hb : Below X.heap.size X Y) : LowE w p m c bs Y := ⟨h.1, h.2.trans (hb.mono h.2.size)⟩
theorem LowE.drew {w : World} {p : Option Addr} {m c : Nat} {bs : List Int} {X : World} (h : LowE w p m c bs X) (n : Nat) : LowE w p m c bs (X.drewN n) := h.next (below_dn _ X n)
theorem okW57 : okW 2 [5, 7] := ⟨by omega, by simp, fun x hx => by simp at hx; omega⟩
set_option maxHeartbeats 2000000 in
theorem shown10_any (w : World) : Calls Try.prog 4 #[] w fun e w' => e = .returned (.bool true) ∧ Below w.heap.size w w' := by
  have H1 := Lib.hid (fun X g hL => begin_good 2 (some ⟨g, 0, none⟩) 2 2 [5, 7] X hL rfl okW57)
  have H2 := Lib.hid (fun X g hL => extent_any 2 (some ⟨g, 0, none⟩) 2 2 [5, 7] X hL rfl (Nat.le_refl _))
  have H3 := Lib.hid (fun X hL => extent_any (-1) none 0 0 [] X hL rfl (Nat.le_refl _))
  rw [show extV 2 [5, 7] = (18, 0) by decide] at H2
  rw [show extV (-1) [] = (0, 100) by decide] at H3
  have e29 : begsW 2 [5, 7] 2 = [2, 9] := by decide
  rw [e29] at H1
  have HS := Lib.hid (fun X x y hx hy => same_any x y [2, 9] [2, 9] X hx hy)
  clear e29
  go_enter Try.func4, Try.ntmps4
  go_wp2_with fail
  refine (H1.out _ _ ((lay2E w 5 7).mono (by simp))).mono ?_
  rintro e w1 ⟨⟨b, rfl, hb0, hwh⟩, hb1⟩
  have HB1 := Lib.hid (((Below.refl _ w).alloc (Nat.le_refl _) _).trans (hb1.mono (by simp)))
  have HWH := Lib.hid hwh
  clear hb1 H1 hwh
  go_wp2_with fail
  refine (H2.out _ _ ((lay2E w1 5 7).mono (by simp))).mono ?_
  rintro e w2 ⟨rfl, hb2⟩
  have hb12 : Below w1.heap.size w1 w2 := ((Below.refl _ w1).alloc (Nat.le_refl _) _).trans (hb2.mono (by simp))
  have HB2 := Lib.hid (HB1.out.trans (hb12.mono HB1.out.size))
  have HWH2 := Lib.hid (HWH.out.below hb12 HWH.out.lt)
  clear hb2 hb12 H2 HWH
  go_wp2_with fail
  refine (H3.out _ ⟨by simp, .inl ⟨none, 0, rfl, rfl⟩⟩).mono ?_
  rintro e w3 ⟨rfl, hb3⟩
  have HB3 := Lib.hid (HB2.out.trans (hb3.mono HB2.out.size))
  have HWH3 := Lib.hid (HWH2.out.below hb3 HWH2.out.lt)
  clear hb3 H3 HWH2
  go_wp2_with fail
  refine (HS.out _ _ _ (whole_nums (HWH3.out.alloc _) rfl (by decide)) (whole_nums (whole_new w3 [.int .i64 2, .int .i64 9] 2 _ rfl) rfl (by decide))).mono ?_
  rintro e w4 ⟨rfl, n, rfl⟩
  go_wp2
  go_ret
  exact ⟨rfl, (HB3.out.alloc HB3.out.size _).trans (below_dn _ _ _)⟩
end Go.Proofs.Ytlnfgmmgkmhehaa
