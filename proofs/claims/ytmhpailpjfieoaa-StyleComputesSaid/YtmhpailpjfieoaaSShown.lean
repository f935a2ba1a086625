/- The computed values that every statement of layer 3 asks for first are known. -/
import Derived.Test.YtmhpailpjfieoaaSFrame
namespace Go.Proofs.Ytmhpailpjfieoaa
open Go.RowKit Go.Shelf
set_option linter.unusedVariables false

theorem wpList_load_row_w {P : Program} {ops : Array Oper} {rest : List Oper} {o : Oper} {a : Act} {w : World} {Q : Exit → Act → World → Prop} (hgd : Region.wanted o (yielded ops a.tmps) = true) (ty : TypeId) (x : Operand) (ho : o.op = .load ty x)
    (g : Nat) (hx : a.eval x = .pointer (some ⟨g, 0, none⟩)) (t : TypeId) (cs : Array Value) (fr : Nat × Nat) (d : TypeDesc) (hg : w.heap[g]? = some (.cells cs t fr))
    (hu : P.underlying ty = some d) (hd : (match d with | .struct _ | .array _ _ => true | _ => false) = true) (hi : (P.info? ty).map (·.size) = some cs.size)
    (h : wpList P ops Q rest (a.put o.dst (.agg cs)) w) : wpList P ops Q (o :: rest) a w :=
  wpList_step fun K hK => by rw [if_pos hgd]; exact wp_load_row ty x ho g hx t cs fr d hg hu hd hi (hK _ _ h)
theorem at_world {P : Program} {ops : Array Oper} {rest : List Oper} {a : Act} {W : World} {Q : Exit → Act → World → Prop} (p : World → Prop) (h : p W) (k : ∀ X, p X → wpList P ops Q rest a X) : wpList P ops Q rest a W := k W h
theorem whole_row_other {W : World} {g t : Nat} {xs : List Value} (h : Whole W g t xs) (k : Nat) (cs : Array Value) (hne : g ≠ k) : Whole (W.setRow k cs) g t xs := (setRow_other W k g cs hne).trans h
def shA : Sty := ⟨0, 0, 0, 0, fun k => if k = 0 then ⟨0, 0, 5, 0⟩ else if k = 1 then ⟨0, 3, 7, 0⟩ else Sd.zero, 0, -3, 0, false, false, 0, 0, false, false⟩
def shB : Sty := ⟨0, 0, 0, 0, fun _ => Sd.zero, 0, 0, 9, false, false, 0, 0, false, false⟩
theorem shA_val : shA.val = .agg #[.int .i64 0, .int .i64 0, .int .i64 0, .int .i64 0, .int .i64 0, .int .i64 0, .int .i64 0, .int .i64 0, .int .i64 0, .int .i64 5, .int .u32 0, .int .i64 3, .int .i64 7, .int .u32 0, .int .i64 0, .int .i64 0, .int .u32 0, .int .i64 0, .int .i64 0, .int .u32 0, .int .i64 0, .int .i64 (-3), .int .i64 0, .bool false, .bool false, .int .i64 0, .int .i64 0, .bool false, .bool false] := rfl
theorem shB_val : shB.val = .agg #[.int .i64 0, .int .i64 0, .int .i64 0, .int .i64 0, .int .i64 0, .int .i64 0, .int .i64 0, .int .i64 0, .int .i64 0, .int .i64 0, .int .u32 0, .int .i64 0, .int .i64 0, .int .u32 0, .int .i64 0, .int .i64 0, .int .u32 0, .int .i64 0, .int .i64 0, .int .u32 0, .int .i64 0, .int .i64 0, .int .i64 9, .bool false, .bool false, .int .i64 0, .int .i64 0, .bool false, .bool false] := rfl
theorem shA_ok : validS shA = true := rfl
theorem shB_bad : validS shB = false := rfl
theorem sty_info (s : Sty) : (Try.prog.info? 31).map (·.size) = some s.cells.toArray.size := Try.infoSty
set_option maxRecDepth 100000 in
set_option maxHeartbeats 4000000 in
theorem shown_any (w : World) : Calls Try.prog 8 #[] w fun e W' => e = .returned (.bool true) ∧ Below w.heap.size w W' := by
  obtain ⟨cA, hA⟩ : ∃ c, (compS shA).cells.toArray = c := ⟨_, rfl⟩
  obtain ⟨cZ, hZ⟩ : ∃ c, Sty.zero.cells.toArray = c := ⟨_, rfl⟩
  have CA : Hid (∀ X : World, Calls Try.prog 9 #[.agg #[.int .i64 0, .int .i64 0, .int .i64 0, .int .i64 0, .int .i64 0, .int .i64 0, .int .i64 0, .int .i64 0, .int .i64 0, .int .i64 5, .int .u32 0, .int .i64 3, .int .i64 7, .int .u32 0, .int .i64 0, .int .i64 0, .int .u32 0, .int .i64 0, .int .i64 0, .int .u32 0, .int .i64 0, .int .i64 (-3), .int .i64 0, .bool false, .bool false, .int .i64 0, .int .i64 0, .bool false, .bool false]] X fun e W' => e = .returned (.tuple #[.agg cA, .int .i64 0]) ∧ Below X.heap.size X W') := Lib.hid fun X => by
    have h := comp_any shA X
    rw [shA_val, compR, if_pos shA_ok, if_pos shA_ok] at h
    rw [← hA]; exact h
  have CB : Hid (∀ X : World, Calls Try.prog 9 #[.agg #[.int .i64 0, .int .i64 0, .int .i64 0, .int .i64 0, .int .i64 0, .int .i64 0, .int .i64 0, .int .i64 0, .int .i64 0, .int .i64 0, .int .u32 0, .int .i64 0, .int .i64 0, .int .u32 0, .int .i64 0, .int .i64 0, .int .u32 0, .int .i64 0, .int .i64 0, .int .u32 0, .int .i64 0, .int .i64 0, .int .i64 9, .bool false, .bool false, .int .i64 0, .int .i64 0, .bool false, .bool false]] X fun e W' => e = .returned (.tuple #[.agg cZ, .int .i64 30]) ∧ Below X.heap.size X W') := Lib.hid fun X => by
    have h := comp_any shB X
    rw [shB_val, compR, if_neg (by rw [shB_bad]; simp), if_neg (by rw [shB_bad]; simp)] at h
    rw [← hZ]; exact h
  have CF : Hid (∀ X : World, Calls Try.prog 13 #[.agg cA, .bool true] X fun e W' => e = .returned (.agg #[.int .i64 0, .int .i64 7, .int .i64 0, .int .i64 0]) ∧ Below X.heap.size X W') := Lib.hid fun X => by
    have h := frame_any (compS shA) true X (by
      intro k hk
      have : k = 0 ∨ k = 1 ∨ k = 2 ∨ k = 3 := by omega
      rcases this with rfl | rfl | rfl | rfl <;> exact ⟨⟨by decide, by decide⟩, ⟨by decide, by decide⟩⟩)
    rw [show (compS shA).val = .agg (compS shA).cells.toArray from rfl, hA] at h
    exact h
  have iA : Hid ((Try.prog.info? 31).map (·.size) = some cA.size) := Lib.hid (by rw [← hA]; exact sty_info _)
  have iZ : Hid ((Try.prog.info? 31).map (·.size) = some cZ.size) := Lib.hid (by rw [← hZ]; exact sty_info _)
  have oA : Hid (cA.all (·.oneCell') = true) := Lib.hid (by rw [← hA]; exact cells_one _)
  have oZ : Hid (cZ.all (·.oneCell') = true) := Lib.hid (by rw [← hZ]; exact cells_one _)
  have zA : Hid (Sty.zero.cells.toArray.size = cA.size) := Lib.hid (by rw [← hA]; rfl)
  have zZ : Hid (Sty.zero.cells.toArray.size = cZ.size) := Lib.hid (by rw [← hZ])
  have HA := Lib.hid hA
  clear hA hZ
  go_enter Try.func8, Try.ntmps8
  go_wp2_with (first
    | (go_at_call 9; refine (CA.out _).mono ?_; clear CA; rintro e w1 ⟨rfl, hb1⟩)
    | (refine wpList_store_row rfl 31 (.tmp 1) (.tmp 11) rfl _ cA rfl rfl 31 Sty.zero.cells.toArray (whole_new w1 Sty.zero.cells 31 _ rfl) iA.out zA.out oA.out ?_)
    | fail)
  obtain ⟨X1, hX1⟩ : ∃ X1, (w1.alloc (.cells Sty.zero.cells.toArray 31)).setRow w1.heap.size cA = X1 := ⟨_, rfl⟩
  have KA : Whole X1 w1.heap.size 31 (compS shA).cells := by
    rw [← hX1, ← HA.out]
    exact whole_row (whole_new w1 Sty.zero.cells 31 _ rfl) _
  have B1 : Below w.heap.size w X1 := by rw [← hX1]; exact (hb1.trans ((Below.refl _ w1).alloc hb1.size _)).trans (below_row _ _ _ hb1.size)
  have z1 : w.heap.size ≤ w1.heap.size := hb1.size
  have y1 : w1.heap.size < X1.heap.size := KA.lt
  unfold Sty.zero Sty.cells styCells Sd.zero at hX1
  dsimp only at hX1
  rw [hX1]
  clear hX1 hb1 zA oA
  have xF : ∀ w : World, (Instr.index 24 (.agg #[.int .i64 0, .int .i64 7, .int .i64 0, .int .i64 0]) (.int .i64 1)).run Try.prog w = .ok (.int .i64 7) w := fun _ => by kernel_rfl
  refine (CB.out _).mono ?_
  clear CB
  rintro e w2 ⟨rfl, hb2⟩
  have K2 := KA.below hb2 y1
  have B2 := B1.trans (hb2.mono (by omega))
  have z2 : w.heap.size ≤ w2.heap.size := B2.size
  have y2 : w1.heap.size < w2.heap.size := K2.lt
  clear KA B1 hb2
  go_wp2_with (first
    | (refine wpList_store_row rfl 31 (.tmp 3) (.tmp 16) rfl _ cZ rfl rfl 31 Sty.zero.cells.toArray (whole_new w2 Sty.zero.cells 31 _ rfl) iZ.out zZ.out oZ.out ?_; refine at_world (fun X => Whole X w1.heap.size 31 (compS shA).cells ∧ Below w.heap.size w X) ⟨whole_row_other (K2.alloc _) _ _ (by omega), (B2.trans ((Below.refl _ w2).alloc z2 _)).trans (below_row _ _ _ z2)⟩ (fun X hX => ?_); obtain ⟨KX, BX⟩ := hX; have c9 : X.cell? ⟨w1.heap.size, 9, none⟩ = some (.int .i64 0) := KX.cellAt 9; have c20 : X.cell? ⟨w1.heap.size, 20, none⟩ = some (.int .i64 1) := KX.cellAt 20; have c21 : X.cell? ⟨w1.heap.size, 21, none⟩ = some (.int .i64 1) := KX.cellAt 21; have lX := KX.lt; have KXc := KX; unfold Whole at KXc; rw [HA.out] at KXc; have BXH := Lib.hid BX; clear BX KX K2 B2 iZ)
    | (refine wpList_load_row_w rfl 31 (.tmp 1) rfl _ rfl 31 cA (0, 0) _ KXc Try.underlying31 rfl iA.out ?_; clear KXc)
    | (go_at_call 13; refine (CF.out _).mono ?_; clear CF; rintro e w3 ⟨rfl, hb3⟩))
  go_ret
  exact ⟨rfl, BXH.out.trans (hb3.mono BXH.out.size)⟩
end Go.Proofs.Ytmhpailpjfieoaa
