/- Contracts of slices.All over numbers of 64 bits: the pairs of index and number, in order. -/
/- A function that ranges over functions leaves: the blocks for its rounds' deferred calls are shut, one by one; all cells lie as they lay. -/
import Derived.Test.YtpbkboandiigfaaRows
import Derived.RangeFuncNested
import Derived.RangeFuncBound
import Derived.RangeFuncCalls
import Derived.RangeFuncLeaves
import Derived.RangeFuncBox
import Derived.ScopeJumps
import Derived.WalkMore
import Derived.Shelf.Abstract
import Derived.Shelf.RegionOpen
import Derived.WalkKit
import Derived.OwnWalkIn
import Derived.TacticsInMore
import Derived.LoopNIn
import Derived.LoopIn
namespace Go.Proofs.Ytpbkboandiigfaa
open Go.RowKit Go.Shelf
set_option linter.unusedVariables false
attribute [local go_sem] Oper.semAt_some

/-- what has come when k rounds are over: f 0, .., f (k - 1) -/
def upto {α : Type} (f : Nat → α) (k : Nat) : List α := (List.range k).map f
theorem upto_succ {α : Type} (f : Nat → α) (k : Nat) : upto f (k + 1) = upto f k ++ [f k] := by simp [upto, List.range_succ]
theorem upto_length {α : Type} (f : Nat → α) (k : Nat) : (upto f k).length = k := by simp [upto]

set_option maxRecDepth 100000 in
set_option maxHeartbeats 2000000 in
theorem all1_in (F : Fence) (n : Nat) (hf : F.fn 86) (hro : F.round = none) (hn : 1 ≤ n) (l Bs n₀ b off len cap : Nat) (hreach : len ≤ 9223372036854775807) (hb : 0 < len → b < n₀)
    {α : Type} (f : Nat → α) (encs : α → Array Value) (vs : Nat → Value) (henc : ∀ j, j < len → encs (f j) = #[.int .i64 (j : Int), vs j]) (J Jx : List α → World → Prop)
    (hY : ∀ pre x W, J pre W → pre.length < len → YieldAt F (n - 1) Try.prog l (encs x) W fun e W' =>
      (e = .returned (.bool true) ∧ J (pre ++ [x]) W' ∧ Below n₀ W W') ∨ (e = .returned (.bool false) ∧ Jx (pre ++ [x]) W'))
    (W : World) (hBs : W.cell? ⟨Bs, 0, none⟩ = some (.slice (some ⟨b, off, none⟩) len cap)) (hc : ∀ j, j < len → W.cell? ⟨b, off + j, none⟩ = some (vs j)) (h0 : J [] W) :
    CallsIn F n Try.prog 86 #[.func (.yield l) #[] #[], .pointer (some ⟨Bs, 0, none⟩)] W fun e W' => (∃ v, e = .returned v) ∧
      ((∃ ys, ys = upto f len ∧ J ys W') ∨ (∃ pre, (∃ k, k ≤ len ∧ pre = upto f k) ∧ Jx pre W')) := by
  refine callsIn_of_wp Try.func86 rfl hf ?_ hro
  simp only [Try.ntmps86, List.size_toArray, List.length_cons, List.length_nil, Nat.reduceAdd, Nat.reduceSub, Array.replicate_succ, Array.replicate_zero, List.push_toArray, List.append_toArray, List.nil_append, List.cons_append]
  gi_wp2
  gi_loopw [7] (fun i wr => ∃ k : Nat, k ≤ len ∧ i = .int .i64 k ∧ J (upto f k) wr ∧ Below n₀ W wr)
    (fun i _ => len - (intOf i).toNat)
  case atStart => exact ⟨0, Nat.zero_le _, rfl, h0, Below.refl _ _⟩
  case round =>
    obtain ⟨k, hk, rfl, hJs, hnx⟩ := hrel
    have hcx : k < len → wr.cell? ⟨b, off + k, none⟩ = some (vs k) := fun h => (hnx.cell (p := ⟨b, off + k, none⟩) (hb (by omega))).trans (hc k h)
    by_cases hlt : k < len
    · have hyy := hY _ (f k) wr hJs (by rw [upto_length]; exact hlt)
      rw [henc k hlt] at hyy
      obtain ⟨v, hv⟩ : ∃ v, vs k = v := ⟨_, rfl⟩
      rw [hv] at hyy
      obtain ⟨fn, tmps, assign, body, hy, hR⟩ := hyy
      have hcx' := hcx hlt
      rw [hv] at hcx'
      clear hcx hc hv
      gi_wp2
      refine hR.mono ?_
      rintro e W3 (⟨rfl, hJ3, hk3⟩ | ⟨rfl, hJx3⟩)
      · -- THE ROUND GOES ON
        gi_wp2
        go_roundw
        case rel => exact ⟨k + 1, by omega, by simp, by rw [upto_succ]; exact hJ3, hnx.trans hk3⟩
        case measure => simp [intOf]; omega
      · gi_wp2
        refine bodyPost_ret (results_none rfl _ _ _) rfl ?_
        exact ⟨⟨_, rfl⟩, .inr ⟨_, ⟨k + 1, by omega, (upto_succ _ _).symm⟩, hJx3⟩⟩
    · obtain rfl : k = len := by omega
      gi_wp2
      go_end0
      exact ⟨⟨_, rfl⟩, .inl ⟨_, rfl, hJs⟩⟩

set_option maxRecDepth 100000 in
set_option maxHeartbeats 1000000 in
theorem all1_nil_in (F : Fence) (n : Nat) (hf : F.fn 86) (hro : F.round = none) (l Bs : Nat) (a : Option Addr) (cap : Nat) {α : Type} (J : List α → World → Prop) (W : World) (hBs : W.cell? ⟨Bs, 0, none⟩ = some (.slice a 0 cap)) (h0 : J [] W) :
    CallsIn F n Try.prog 86 #[.func (.yield l) #[] #[], .pointer (some ⟨Bs, 0, none⟩)] W fun e W' => (∃ v, e = .returned v) ∧ J [] W' := by
  refine callsIn_of_wp Try.func86 rfl hf ?_ hro
  simp only [Try.ntmps86, List.size_toArray, List.length_cons, List.length_nil, Nat.reduceAdd, Nat.reduceSub, Array.replicate_succ, Array.replicate_zero, List.push_toArray, List.append_toArray, List.nil_append, List.cons_append]
  gi_wp2
  gi_loopw [7] (fun i wr => i = .int .i64 0 ∧ J [] wr) (fun _ _ => 0)
  case atStart => exact ⟨rfl, h0⟩
  case round =>
    obtain ⟨rfl, hJs⟩ := hrel
    gi_wp2
    go_end0
    exact ⟨⟨_, rfl⟩, hJs⟩

set_option maxHeartbeats 1000000 in
/-- slices.All(s): the slice value is boxed; the function value captures the box -/
theorem all_any (a : Option Addr) (len cap : Nat) (w : World) :
    Calls Try.prog 78 #[.slice a len cap] w fun e w' => e = .returned (.func (.func 86) #[] #[.pointer (some ⟨w.heap.size, 0, none⟩)]) ∧ w' = w.alloc (.cells #[.slice a len cap] 22) := by
  go_enter Try.func78, Try.ntmps78
  go_wp2
  go_ret
  exact ⟨rfl, rfl⟩

/-- where the cells of a slice lie: below block n₀; or it is nil -/
def Lies (n₀ : Nat) (W : World) (sv : Value) (len : Nat) (vs : Nat → Value) : Prop :=
  (∃ (a : Option Addr) (cap : Nat), sv = .slice a 0 cap ∧ len = 0) ∨ ∃ b off cap, sv = .slice (some ⟨b, off, none⟩) len cap ∧ (0 < len → b < n₀) ∧ ∀ j, j < len → W.cell? ⟨b, off + j, none⟩ = some (vs j)
theorem Lies.below {n₀ : Nat} {A B : World} (h : Below n₀ A B) {sv : Value} {len : Nat} {vs : Nat → Value} : Lies n₀ A sv len vs → Lies n₀ B sv len vs
  | .inl e => .inl e
  | .inr ⟨b, off, cap, e, hb, hc⟩ => .inr ⟨b, off, cap, e, hb, fun j hj => (h.cell (p := ⟨b, off + j, none⟩) (hb (by omega))).trans (hc j hj)⟩

/-- slices.All(s) hands back a value that yields f 0, f 1, ..: all; or the first k of them -/
theorem all_stops (F : Fence) (n : Nat) (hf : F.fn 86) (hro : F.round = none) (hn : 1 ≤ n) (Bs n₀ : Nat) (sv : Value) (len : Nat) (hreach : len ≤ 9223372036854775807) (w : World) (hBs : Bs < w.heap.size) (hn₀ : n₀ ≤ w.heap.size)
    {α : Type} (f : Nat → α) (encs : α → Array Value) (vs : Nat → Value) (henc : ∀ j, j < len → encs (f j) = #[.int .i64 (j : Int), vs j])
    (hc : w.cell? ⟨Bs, 0, none⟩ = some sv) (hI : Lies n₀ w sv len vs) :
    SeqStopsK F n Try.prog 86 #[.pointer (some ⟨Bs, 0, none⟩)] encs (Below n₀) (fun ys => ys = upto f len)
      (fun pre => ∃ k, k ≤ len ∧ pre = upto f k) len w := fun l J Jx W hW _ _ hY h0 => by
  have hc' := (hW.cell (p := ⟨Bs, 0, none⟩) hBs).trans hc
  rcases hI.below (hW.mono hn₀) with ⟨a, cap, rfl, rfl⟩ | ⟨b, off, cap, rfl, hb, hcs⟩
  · exact (all1_nil_in F n hf hro l Bs a cap J W hc' h0).mono fun e W' ⟨he, hj⟩ => ⟨he, .inl ⟨_, rfl, hj⟩⟩
  · exact all1_in F n hf hro hn l Bs n₀ b off len cap hreach hb f encs vs henc J Jx hY W hc' hcs h0
end Go.Proofs.Ytpbkboandiigfaa

namespace Go.Proofs.Ytpbkboandiigfaa
open Go.RowKit
set_option linter.unusedVariables false

/-- every block of cells of W lies in W' as it lay -/
def CellsKept (W W' : World) : Prop := ∀ (k : Nat) (o : Obj), W.heap[k]? = some o → o.isCells = true → W'.heap[k]? = some o
theorem CellsKept.refl (W : World) : CellsKept W W := fun _ _ h _ => h
theorem CellsKept.trans {A B C : World} (h : CellsKept A B) (k : CellsKept B C) : CellsKept A C := fun i o hi ho => k i o (h i o hi ho) ho
theorem CellsKept.shut {W : World} {D : Nat} {ds : List Deferred} (h : W.heap[D]? = some (.deferred (some ds))) (o' : Obj) : CellsKept W (W.putObj D o') := by
  intro k o hk ho
  by_cases e : k = D
  · subst e; rw [h] at hk; cases hk; cases ho
  · exact (World.putObj_heap_other e).trans hk
theorem CellsKept.cell {W W' : World} (h : CellsKept W W') {a : Addr} {v : Value} (hc : W.cell? a = some v) : W'.cell? a = some v := by
  unfold World.cell? at hc ⊢
  cases hb : W.heap[a.block]? with
  | none => simp [hb] at hc
  | some o =>
    cases ho : o.isCells with
    | true => rw [h _ _ hb ho]; rw [hb] at hc; exact hc
    | false => rw [hb] at hc; cases o <;> simp_all [Obj.isCells]
/-- the blocks for deferred calls that are still open -/
def Marks (B : Nat) (Ds : List Nat) (W : World) : Prop := Ds.Nodup ∧ ∀ D ∈ Ds, B ≤ D ∧ W.heap[D]? = some (.deferred (some []))
theorem Marks.nil (B : Nat) (W : World) : Marks B [] W := ⟨List.nodup_nil, fun _ h => by cases h⟩
theorem Marks.cons {B D : Nat} {Ds : List Nat} {W : World} (h : Marks B Ds W) (hB : B ≤ D) (hD : W.heap[D]? = some (.deferred (some []))) (hlt : ∀ E ∈ Ds, E < D) : Marks B (D :: Ds) W :=
  ⟨List.nodup_cons.2 ⟨fun k => by have := hlt D k; omega, h.1⟩, fun E hE => by
    rcases List.mem_cons.1 hE with rfl | hE
    · exact ⟨hB, hD⟩
    · exact h.2 E hE⟩
theorem leaves_marks {P : Program} {F : Fence} {n : Nat} {fn : Func} {tmps : Array Value} {R : Ending → World → Prop} (B : Nat) : ∀ (Ds : List Nat) (W : World), Marks B Ds W →
    (∀ W', CellsKept W W' → Below B W W' → ∃ v, (results fn tmps).run P W' = .ok v W' ∧ R (.returned v) W') →
    LeavesInM F n P fn tmps R (Ds.map fun D => ({ target := .collected D, args := #[] } : Deferred)) .returning W := by
  intro Ds
  induction Ds with
  | nil => intro W _ h; exact h W (CellsKept.refl W) (Below.refl B W)
  | cons D Ds ih =>
    intro W hM h
    have hD := hM.2 D (by simp)
    refine ⟨by simp, .inl ⟨D, _, rfl, run_takeDeferred hD.2, ?_⟩⟩
    have hb : Below B W (W.putObj D (.deferred none)) := (Below.refl B W).grown (grownBy_putObj' W D _) (by have := (Array.getElem?_eq_some_iff.1 hD.2).1; have := hD.1; omega) (fun k e => by cases e; exact hD.1)
    refine ih _ ⟨(List.nodup_cons.1 hM.1).2, fun E hE => ⟨(hM.2 E (by simp [hE])).1, ?_⟩⟩ ?_
    · have hne : E ≠ D := fun e => (List.nodup_cons.1 hM.1).1 (e ▸ hE)
      exact (World.putObj_heap_other hne).trans (hM.2 E (by simp [hE])).2
    · intro W' hc hb'
      exact h W' ((CellsKept.shut hD.2 _).trans hc) (hb.trans hb')
end Go.Proofs.Ytpbkboandiigfaa
