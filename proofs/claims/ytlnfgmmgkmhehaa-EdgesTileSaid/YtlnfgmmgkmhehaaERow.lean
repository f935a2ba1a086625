/- A list of numbers that is made with room, and grows within it. -/
import Derived.Test.YtlnfgmmgkmhehaaESt
import Derived.Laws.Tables
import Derived.Deep.WholeRow
namespace Go.Proofs.Ytlnfgmmgkmhehaa
open Go.RowKit Go.Shelf
set_option linter.unusedVariables false

theorem whole_rowE {W : World} {g t : Nat} {xs : List Value} (h : Whole W g t xs) (ys : List Value) : Whole (W.setRow g ys.toArray) g t ys := setRow_heap W g xs.toArray ys.toArray t (0, 0) h
theorem whole_row_otherE {W : World} {g t : Nat} {xs : List Value} (h : Whole W g t xs) (k : Nat) (cs : Array Value) (hne : g ≠ k) : Whole (W.setRow k cs) g t xs := (setRow_other W k g cs hne).trans h
theorem below_rowE {B : Nat} (W : World) (g : Nat) (cs : Array Value) (h : B ≤ g) : Below B W (W.setRow g cs) := ⟨rfl, rfl, rfl, by simp, fun k hk => setRow_other W g k cs (by omega)⟩
theorem keeps_rowE {W : World} {g t : Nat} {xs : List Value} (h : Whole W g t xs) (ys : List Value) : KeepsOthers W (W.setRow g ys.toArray) := ⟨by simp, fun k o hk ho => by
  by_cases e : k = g
  · subst e
    rw [show W.heap[k]? = _ from h] at hk
    cases hk; cases ho
  · exact (setRow_other W g k _ e).trans hk⟩
/-- numbers, and room for more -/
def encB (zs : List Int) (k : Nat) : List Value := zs.map (Value.int .i64) ++ List.replicate (k - zs.length) (Value.int .i64 0)
theorem encB_len {zs : List Int} {k : Nat} (h : zs.length ≤ k) : (encB zs k).length = k := by simp [encB]; omega
theorem encB_full {zs : List Int} {k : Nat} (h : zs.length = k) : encB zs k = zs.map (Value.int .i64) := by simp [encB, h]
theorem encB_push {zs : List Int} {k j : Nat} (z : Int) (hj : zs.length = j) (h : j < k) : (encB zs k).take j ++ [Value.int .i64 z] ++ (encB zs k).drop (j + 1) = encB (zs ++ [z]) k := by
  subst hj
  unfold encB
  rw [List.take_left' (by simp), List.drop_append, List.drop_eq_nil_of_le (by simp)]
  simp only [List.length_map, List.nil_append, List.map_append, List.map_cons, List.map_nil, List.length_append, List.length_cons, List.length_nil, List.drop_replicate]
  congr 2
  omega
theorem Try.infoI64E : (Try.prog.info? 2).map (fun i => (i.zero, i.size, i.bytes)) = some (some (.int .i64 0), 1, 8) := by kernel_rfl
theorem make_intsE (k : Nat) (hk : k ≤ 1000000) (w : World) : (Instr.makeSlice 22 (.int .i64 0) (.int .i64 (k : Int))).run Try.prog w = .ok (.slice (some ⟨w.heap.size, 0, none⟩) 0 k) (w.alloc (.cells (encB [] k).toArray 2)) := by
  cases hi : Try.prog.info? 2 with
  | none => have := Try.infoI64E; rw [hi] at this; cases this
  | some i =>
    have h := Try.infoI64E
    rw [hi] at h
    simp only [Option.map_some, Option.some.injEq, Prod.mk.injEq] at h
    obtain ⟨hz, h1, h2⟩ := h
    have hr := run_make (P := Try.prog) w 22 2 i _ Try.underlying22 hi hz .i64 .i64 0 k (by omega) (by omega) (by rw [h2]; omega) (by omega)
    rw [hr, h1]
    simp only [Int.toNat_natCast, Int.toNat_zero]
    congr 3
    simp [encB, madeCells, Value.cells]
    apply Array.ext
    · simp
    · intro i h1 h2; simp [Nat.mod_one]
theorem add_zeroE (b : Nat) : (⟨b, 0, none⟩ : Addr).add 0 = ⟨b, 0, none⟩ := by unfold Addr.add; split <;> simp_all
/-- one number more, where there is room: in a round -/
theorem wpListIn_pushE {F : Fence} {nF : Nat} (w : World) {ops : Array Oper} {rest : List Oper} {o : Oper} {a : Act} {Q : Exit → Act → World → Prop} (hgd : o.guard = none) (s x : Operand)
    (ho : o.op = .call { callee := .builtin .append, args := #[s, x], argTypes := #[22, 22] })
    (g j k : Nat) (zs : List Int) (z : Int) (hs : a.eval s = .slice (some ⟨g, 0, none⟩) j k) (hg : Whole w g 2 (encB zs k)) (hj : zs.length = j) (hjk : j < k)
    (tb : Nat) (hx : a.eval x = .slice (some ⟨tb, 0, none⟩) 1 1) (hz : w.cell? ⟨tb, 0, none⟩ = some (.int .i64 z))
    (h : ∀ Y, Hid (w.setRow g (encB (zs ++ [z]) k).toArray = Y) → wpListIn F nF Try.prog ops Q rest (a.put o.dst (.slice (some ⟨g, 0, none⟩) (j + 1) k)) Y) :
    wpListIn F nF Try.prog ops Q (o :: rest) a w := by
  refine wpListIn_plain hgd fun K hK => ?_
  cases hi : Try.prog.info? 2 with
  | none => have := Try.infoI64E; rw [hi] at this; cases this
  | some i =>
    have h' := Try.infoI64E
    rw [hi] at h'
    simp only [Option.map_some, Option.some.injEq, Prod.mk.injEq] at h'
    obtain ⟨hz0, h1, h2⟩ := h'
    have hr := run_append_room (P := Try.prog) w 22 o.type 2 i Try.underlying22 hi g j k _ hg ⟨tb, 0, none⟩ 1 1 [.int .i64 z] (by simp [h1]) (fun q u hq => by
      cases q with
      | zero => simp at hq; subst hq; rw [add_zeroE]; exact hz
      | succ q => simp at hq) (by simp [Value.oneCell']) (by omega) (by simp [h1, encB_len (show zs.length ≤ k by omega)]; omega)
    rw [h1, Nat.mul_one] at hr
    simp only [List.length_cons, List.length_nil, Nat.zero_add] at hr
    rw [encB_push z hj hjk] at hr
    unfold Oper.wpIn
    refine ⟨by simp [Oper.about, ho, resolve, Target.leads, Sem.run_pure], ?_⟩
    rw [Oper.semAt_plain F _ _ (by rw [ho]; intro c hc'; cases hc')]
    simp [execOp, ho, resolve, invoke, builtin, hs, hx, hr, Result.andThen]
    exact hK _ _ (h _ (Lib.hid rfl))
end Go.Proofs.Ytlnfgmmgkmhehaa
