/- A function that ranges over functions leaves: the blocks for its rounds' deferred calls are shut, one by one; all cells lie as they lay. -/
import Derived.RangeFuncNested
import Derived.RangeFuncLeaves
import Derived.RangeFuncBox
import Derived.WalkKit
namespace Go.Proofs.Ytgaclepoipaecaa
open Go.RowKit
set_option linter.unusedVariables false

/-- every block of cells of W lies in W' as it lay -/
def CellsKept (W W' : World) : Prop := ∀ (k : Nat) (o : Obj), W.heap[k]? = some o → o.isCells = true → W'.heap[k]? = some o
theorem CellsKept.refl (W : World) : CellsKept W W := fun _ _ h _ => h
theorem CellsKept.trans {A B C : World} (h : CellsKept A B) (k : CellsKept B C) : CellsKept A C := fun i o hi ho => k i o (h i o hi ho) ho
theorem CellsKept.shut {W : World} {D : Nat} {ds : List Deferred} (h : W.heap[D]? = some (.deferred (some ds))) (o' : Obj) : CellsKept W (W.putObj D o') := by
  intro k o hk ho
  by_cases e : k = D
  · subst e; rw [h] at hk; cases hk; cases ho
  · exact (World.putObj_heap_other e).trans hk
theorem CellsKept.cell {W W' : World} (h : CellsKept W W') {a : Addr} {v : Value} (hc : W.cell? a = some v) : W'.cell? a = some v := by
  unfold World.cell? at hc ⊢
  cases hb : W.heap[a.block]? with
  | none => simp [hb] at hc
  | some o =>
    cases ho : o.isCells with
    | true => rw [h _ _ hb ho]; rw [hb] at hc; exact hc
    | false => rw [hb] at hc; cases o <;> simp_all [Obj.isCells]
/-- the blocks for deferred calls that are still open -/
def Marks (B : Nat) (Ds : List Nat) (W : World) : Prop := Ds.Nodup ∧ ∀ D ∈ Ds, B ≤ D ∧ W.heap[D]? = some (.deferred (some []))
theorem Marks.nil (B : Nat) (W : World) : Marks B [] W := ⟨List.nodup_nil, fun _ h => by cases h⟩
theorem Marks.cons {B D : Nat} {Ds : List Nat} {W : World} (h : Marks B Ds W) (hB : B ≤ D) (hD : W.heap[D]? = some (.deferred (some []))) (hlt : ∀ E ∈ Ds, E < D) : Marks B (D :: Ds) W :=
  ⟨List.nodup_cons.2 ⟨fun k => by have := hlt D k; omega, h.1⟩, fun E hE => by
    rcases List.mem_cons.1 hE with rfl | hE
    · exact ⟨hB, hD⟩
    · exact h.2 E hE⟩
theorem leaves_marks {P : Program} {F : Fence} {n : Nat} {fn : Func} {tmps : Array Value} {R : Ending → World → Prop} (B : Nat) : ∀ (Ds : List Nat) (W : World), Marks B Ds W →
    (∀ W', CellsKept W W' → Below B W W' → ∃ v, (results fn tmps).run P W' = .ok v W' ∧ R (.returned v) W') →
    LeavesInM F n P fn tmps R (Ds.map fun D => ({ target := .collected D, args := #[] } : Deferred)) .returning W := by
  intro Ds
  induction Ds with
  | nil => intro W _ h; exact h W (CellsKept.refl W) (Below.refl B W)
  | cons D Ds ih =>
    intro W hM h
    have hD := hM.2 D (by simp)
    refine ⟨by simp, .inl ⟨D, _, rfl, run_takeDeferred hD.2, ?_⟩⟩
    have hb : Below B W (W.putObj D (.deferred none)) := (Below.refl B W).grown (grownBy_putObj' W D _) (by have := (Array.getElem?_eq_some_iff.1 hD.2).1; have := hD.1; omega) (fun k e => by cases e; exact hD.1)
    refine ih _ ⟨(List.nodup_cons.1 hM.1).2, fun E hE => ⟨(hM.2 E (by simp [hE])).1, ?_⟩⟩ ?_
    · have hne : E ≠ D := fun e => (List.nodup_cons.1 hM.1).1 (e ▸ hE)
      exact (World.putObj_heap_other hne).trans (hM.2 E (by simp [hE])).2
    · intro W' hc hb'
      exact h W' ((CellsKept.shut hD.2 _).trans hc) (hb.trans hb')
end Go.Proofs.Ytgaclepoipaecaa
