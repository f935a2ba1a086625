/- Claims at the start of a block with room behind them: what is read and stored; generic. -/
import Derived.Test.YtceippgkmoijdaaCoApp
import Derived.Test.YtceippgkmoijdaaCoPl
namespace Go.Proofs.Ytceippgkmoijdaa
open Go.RowKit Go.Shelf Go.Maps
set_option linter.unusedVariables false
set_option linter.unusedSectionVars false
set_option linter.unusedSimpArgs false

/-- a list of structs at the start of a block -/
def LsR {α : Type} (cells : α → List Value) (t G : Nat) (bs : List α) (sp : List Value) (X : World) : Prop := Whole X G t (bs.flatMap cells ++ sp)
section
variable {α : Type} [Inhabited α] {cells : α → List Value} {n t G : Nat} {bs : List α} {sp : List Value} {X : World}
theorem LsR.of (h : LsB cells t G bs X) : LsR cells t G bs [] X := by unfold LsR; rw [List.append_nil]; exact h
theorem LsR.below {B : Nat} {Y : World} (h : LsR cells t G bs sp X) (hb : Below B X Y) (hg : G < B) : LsR cells t G bs sp Y := Whole.below h hb hg
theorem LsR.lt (h : LsR cells t G bs sp X) : G < X.heap.size := Whole.lt h
theorem LsR.cell (hl : ∀ a, (cells a).length = n) (h : LsR cells t G bs sp X) (c : Nat) (b : α) (hb : bs[c]? = some b) (i : Nat) (hi : i < n) : X.cell? ⟨G, c * n + i, none⟩ = (cells b)[i]? := by
  have hc := (List.getElem?_eq_some_iff.1 hb).1
  have hx := Nat.mul_le_mul_right n (show c + 1 ≤ bs.length from hc)
  rw [Nat.succ_mul] at hx
  rw [Whole.cellAt h, List.getElem?_append_left (by rw [flat_lenL hl]; omega), flat_getK cells n hl bs c i hi hc]
  have : bs[c]! = b := by simp [List.getElem!_eq_getElem?_getD, hb]
  rw [this]
theorem LsR.rows (hl : ∀ a, (cells a).length = n) (h : LsR cells t G bs sp X) {m : Nat} (hm : bs.length = m) (c : Nat) (h2 : m ≤ 9223372036854775807) : RowsK cells n X (.slice (some ⟨G, 0, none⟩) m c) bs := by
  refine ⟨by omega, .inr ⟨G, 0, c, by rw [hm], h.lt, fun j hj i v hv => ?_⟩⟩
  have hi : i < n := by
    have := (List.getElem?_eq_some_iff.1 hv).1; rwa [hl] at this
  have e : bs[j]? = some bs[j]! := by simp [List.getElem!_eq_getElem?_getD, hj]
  rw [show 0 + j * n + i = j * n + i by omega, h.cell hl j _ e i hi]; exact hv
theorem LsR.there (hl : ∀ a, (cells a).length = n) (h : LsR cells t G bs sp X) (c : Nat) (hc : c < bs.length) : X.there G (c * n) n := fun j hj => by
  obtain ⟨b, hb⟩ : ∃ b, bs[c]? = some b := ⟨_, List.getElem?_eq_getElem hc⟩
  refine ⟨?_, Whole.free h _⟩
  rw [h.cell hl c b hb j hj]
  simp [hl, hj]
theorem LsR.put (hl : ∀ a, (cells a).length = n) (h : LsR cells t G bs sp X) (c : Nat) (b : α) (hc : c < bs.length) : LsR cells t G (bs.set c b) sp (X.setCells G (c * n) (cells b)) := by
  unfold LsR
  have hx := Nat.mul_le_mul_right n (show c + 1 ≤ bs.length from hc)
  rw [Nat.succ_mul] at hx
  have h1 : c * n ≤ (bs.flatMap cells).length := by rw [flat_lenL hl]; omega
  have h2 : c * n + (cells b).length ≤ (bs.flatMap cells).length := by rw [flat_lenL hl, hl]; exact hx
  have hp := whole_putL (cells b) (c * n) _ X h (by rw [List.length_append]; omega)
  rw [List.take_append_of_le_length h1, List.drop_append_of_le_length h2] at hp
  rw [flat_setL hl bs c b hc, List.append_assoc, List.append_assoc]
  exact hp
/-- one cell of one of them -/
theorem LsR.putc (hl : ∀ a, (cells a).length = n) (h : LsR cells t G bs sp X) (c i : Nat) (b b' : α) (hb : bs[c]? = some b) (v : Value) (hi : i < n) (he : cells b' = (cells b).set i v) : LsR cells t G (bs.set c b') sp (X.setCell ⟨G, c * n + i, none⟩ v) := by
  have hc := (List.getElem?_eq_some_iff.1 hb).1
  have hx := Nat.mul_le_mul_right n (show c + 1 ≤ bs.length from hc)
  rw [Nat.succ_mul] at hx
  have hs := Whole.set h (c * n + i) v
  have hln : c * n + i < (bs.flatMap cells).length := by rw [flat_lenL hl]; omega
  rw [List.set_append_left _ _ hln] at hs
  have e : (bs.flatMap cells).set (c * n + i) v = (bs.set c b').flatMap cells := by
    have hbb : bs[c]! = b := by simp [List.getElem!_eq_getElem?_getD, hb]
    apply List.ext_getElem?
    intro j
    by_cases hj : j < bs.length * n
    · have hn : 0 < n := by omega
      have hd : j / n < bs.length := (Nat.div_lt_iff_lt_mul hn).2 hj
      have hr := Nat.mod_lt j hn
      have ej : j = j / n * n + j % n := by rw [Nat.mul_comm]; exact (Nat.div_add_mod j n).symm
      have f1 := flat_getK cells n hl bs (j / n) (j % n) hr hd
      have f2 := flat_getK cells n hl (bs.set c b') (j / n) (j % n) hr (by rw [List.length_set]; exact hd)
      rw [← ej] at f1 f2
      rw [f2]
      by_cases e1 : j / n = c
      · have e2 : (bs.set c b')[j / n]! = b' := by rw [e1]; simp [List.getElem!_eq_getElem?_getD, hc]
        rw [e2, he]
        rw [e1, hbb] at f1
        by_cases e3 : j % n = i
        · have e4 : j = c * n + i := by rw [← e1, ← e3]; exact ej
          rw [e3, List.getElem?_set_self (by rw [hl]; exact hi), e4, List.getElem?_set_self hln]
        · rw [List.getElem?_set_ne (Ne.symm e3), List.getElem?_set_ne (fun x => e3 (by rw [← x, ← e1]; rw [← e1] at x; rw [← x, Nat.add_comm, Nat.add_mul_mod_self_right, Nat.mod_eq_of_lt hi])), f1]
      · have e2 : (bs.set c b')[j / n]! = bs[j / n]! := by simp [List.getElem!_eq_getElem?_getD, List.getElem?_set_ne (Ne.symm e1)]
        rw [e2, List.getElem?_set_ne (fun x => e1 (by rw [← x, Nat.add_comm, Nat.add_mul_div_right _ _ hn, Nat.div_eq_of_lt hi]; omega)), f1]
    · rw [List.getElem?_eq_none (by rw [List.length_set, flat_lenL hl]; omega), List.getElem?_eq_none (by rw [flat_lenL hl, List.length_set]; omega)]
  unfold LsR
  rw [← e]
  exact hs
end
theorem CRow.ls {X : World} {G : Nat} {cs : List Cl} {sp : List Value} (h : CRow X G cs sp) : LsR Cl.cells 108 G cs sp X := h
theorem LsR.crow {X : World} {G : Nat} {cs : List Cl} {sp : List Value} (h : LsR Cl.cells 108 G cs sp X) : CRow X G cs sp := h
theorem make_cl (m : Nat) (hm : m ≤ 1000000) (w : World) : (Instr.makeSlice 87 (.int .i64 (m : Int)) (.int .i64 (m : Int))).run Try.prog w = .ok (.slice (some ⟨w.heap.size, 0, none⟩) m m) (w.alloc (.cells ((List.replicate m Cl.zero).flatMap Cl.cells).toArray 108)) := by
  cases hi : Try.prog.info? 108 with
  | none => have := Try.infoClA; rw [hi] at this; cases this
  | some i =>
    have h := Try.infoClA
    rw [hi] at h
    simp only [Option.map_some, Option.some.injEq, Prod.mk.injEq] at h
    obtain ⟨hz, h1, h2⟩ := h
    have hr := run_make (P := Try.prog) w 87 108 i _ Try.underlying87 hi hz .i64 .i64 m m (by omega) (by omega) (by rw [h2]; omega) (by omega)
    rw [hr, h1]
    simp only [Int.toNat_natCast]
    rw [← made_flatL Cl.cells_len]
    rfl
/-- slices built of operands -/
theorem wp_build1 {P : Program} {o : Oper} {a : Act} {w X : World} {K : Act → World → Prop} {Q : Exit → Act → World → Prop} (t : TypeId) (x : Operand) (ho : o.op = .buildSlice t 1 #[(0, x)]) (u r : Value) (hx : a.eval x = u)
    (hr : (Instr.buildSlice t 1 #[(0, u)]).run P w = .ok r X) (h : K (a.put o.dst r) X) : o.wp P a w K Q := by
  subst hx
  unfold Oper.wp execOp
  simp only [ho, Sem.run_bind, Sem.run_pure, Result.andThen_ok]
  rw [show (#[(0, x)].map fun (i, x) => (i, a.eval x)) = #[(0, a.eval x)] from by simp, hr]
  exact h
theorem wp_build2 {P : Program} {o : Oper} {a : Act} {w X : World} {K : Act → World → Prop} {Q : Exit → Act → World → Prop} (t : TypeId) (x y : Operand) (ho : o.op = .buildSlice t 2 #[(0, x), (1, y)]) (u v r : Value) (hx : a.eval x = u) (hy : a.eval y = v)
    (hr : (Instr.buildSlice t 2 #[(0, u), (1, v)]).run P w = .ok r X) (h : K (a.put o.dst r) X) : o.wp P a w K Q := by
  subst hx; subst hy
  unfold Oper.wp execOp
  simp only [ho, Sem.run_bind, Sem.run_pure, Result.andThen_ok]
  rw [show (#[(0, x), (1, y)].map fun (i, x) => (i, a.eval x)) = #[(0, a.eval x), (1, a.eval y)] from by simp, hr]
  exact h
theorem wp_build3 {P : Program} {o : Oper} {a : Act} {w X : World} {K : Act → World → Prop} {Q : Exit → Act → World → Prop} (t : TypeId) (x y z : Operand) (ho : o.op = .buildSlice t 3 #[(0, x), (1, y), (2, z)]) (u v s r : Value) (hx : a.eval x = u) (hy : a.eval y = v) (hz : a.eval z = s)
    (hr : (Instr.buildSlice t 3 #[(0, u), (1, v), (2, s)]).run P w = .ok r X) (h : K (a.put o.dst r) X) : o.wp P a w K Q := by
  subst hx; subst hy; subst hz
  unfold Oper.wp execOp
  simp only [ho, Sem.run_bind, Sem.run_pure, Result.andThen_ok]
  rw [show (#[(0, x), (1, y), (2, z)].map fun (i, x) => (i, a.eval x)) = #[(0, a.eval x), (1, a.eval y), (2, a.eval z)] from by simp, hr]
  exact h
theorem build_cl1 (a : Cl) (w : World) : (Instr.buildSlice 87 1 #[(0, a.val)]).run Try.prog w = .ok (.slice (some ⟨w.heap.size, 0, none⟩) 1 1) (w.alloc (.cells a.cells.toArray 108)) := by
  obtain ⟨⟨a0, a1, a2, a3, a4, a5⟩, a6⟩ := a
  kernel_rfl
theorem build_cl2 (a b : Cl) (w : World) : (Instr.buildSlice 87 2 #[(0, a.val), (1, b.val)]).run Try.prog w = .ok (.slice (some ⟨w.heap.size, 0, none⟩) 2 2) (w.alloc (.cells (a.cells ++ b.cells).toArray 108)) := by
  obtain ⟨⟨a0, a1, a2, a3, a4, a5⟩, a6⟩ := a
  obtain ⟨⟨b0, b1, b2, b3, b4, b5⟩, b6⟩ := b
  kernel_rfl
theorem build_cl3 (a b c : Cl) (w : World) : (Instr.buildSlice 87 3 #[(0, a.val), (1, b.val), (2, c.val)]).run Try.prog w = .ok (.slice (some ⟨w.heap.size, 0, none⟩) 3 3) (w.alloc (.cells (a.cells ++ (b.cells ++ c.cells)).toArray 108)) := by
  obtain ⟨⟨a0, a1, a2, a3, a4, a5⟩, a6⟩ := a
  obtain ⟨⟨b0, b1, b2, b3, b4, b5⟩, b6⟩ := b
  obtain ⟨⟨c0, c1, c2, c3, c4, c5⟩, c6⟩ := c
  kernel_rfl
theorem three_cl {X : World} {g t : Nat} {a b c : Cl} (h : Whole X g t (a.cells ++ (b.cells ++ c.cells))) : RowsK Cl.cells 7 X (.slice (some ⟨g, 0, none⟩) 3 3) [a, b, c] := RowsK.whole Cl.cells_len (zs := [a, b, c]) (m := 3) (by simpa using h) rfl 3 (by decide)
/-- claims, two in a row -/
theorem two_cl {X : World} {g t : Nat} {a b : Cl} (h : Whole X g t (a.cells ++ b.cells)) : RowsK Cl.cells 7 X (.slice (some ⟨g, 0, none⟩) 2 2) [a, b] := RowsK.whole Cl.cells_len (zs := [a, b]) (m := 2) (by simpa using h) rfl 2 (by decide)
end Go.Proofs.Ytceippgkmoijdaa
