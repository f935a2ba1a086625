/- Plain facts on saturated whole numbers: nothing of the program. -/
/- Contracts of the arithmetic of layer 1 (fixed) and of the document's own answers: saturated sums, differences, bounds. -/
/- Slices of whole numbers as lists; sums over them. -/
/- Contracts of the small functions of layer 3 (style): drawn widths, sizes that are computed or asked whether they may be, and the document's own. -/
/- A function that ranges over functions leaves: the blocks for its rounds' deferred calls are shut, one by one; all cells lie as they lay. -/
/- A region that draws its order, within a round of a range over a function: it is walked like one outside of it. -/
import Derived.WalkKit
import Derived.Lib.Hide
import Derived.Test.YtecnapecmioamaaRows
import Derived.WalkSpells
import Derived.WalkLawsBesides
import Derived.LoopTactic
import Derived.BigQuiet
import Derived.Deep.QuietTactic
import Derived.Test.YtecnapecmioamaaSPlain
import Derived.Test.YtecnapecmioamaaSBase
import Derived.RangeFuncNested
import Derived.RangeFuncLeaves
import Derived.RangeFuncBox
import Derived.OrdersHeld
import Derived.OrdersIn
import Derived.RangeFuncCalls
import Derived.TacticsIn
import Derived.RegionTactic
namespace Go.Proofs.Ytecnapecmioamaa
open Go.RowKit

/-- the bounds, behind names -/
def Top : Int := 9223372036854775807
def Low : Int := -9223372036854775808
/-- a whole number, saturated -/
def sat (x : Int) : Int := if 9223372036854775807 < x then 9223372036854775807 else if x < -9223372036854775808 then -9223372036854775808 else x
theorem sat_lo (x : Int) : -9223372036854775808 ≤ sat x := by unfold sat; split <;> (try split) <;> omega
theorem sat_hi (x : Int) : sat x ≤ 9223372036854775807 := by unfold sat; split <;> (try split) <;> omega
theorem sat_over {x : Int} (h : 9223372036854775807 < x) : sat x = 9223372036854775807 := by unfold sat; rw [if_pos h]
theorem sat_under {x : Int} (h : x < -9223372036854775808) : sat x = -9223372036854775808 := by unfold sat; rw [if_neg (by omega), if_pos h]
theorem sat_in {x : Int} (h : -9223372036854775808 ≤ x) (h' : x ≤ 9223372036854775807) : sat x = x := by unfold sat; rw [if_neg (by omega), if_neg (by omega)]
theorem ret_int {k : IntKind} {a b : Int} (h : a = b) : Ending.returned (.int k a) = .returned (.int k b) := by rw [h]
end Go.Proofs.Ytecnapecmioamaa

namespace Go.Proofs.Ytecnapecmioamaa
open Go.RowKit

theorem wrap_mag (a : Int) (a1 : -9223372036854775808 ≤ a) (h : a < 0) : IntKind.u64.wrap (-IntKind.u64.wrap a) = (a.natAbs : Int) := by
  simp [IntKind.wrap, IntKind.bits, IntKind.signed]; omega

end Go.Proofs.Ytecnapecmioamaa

namespace Go.Proofs.Ytecnapecmioamaa
open Go.RowKit
set_option linter.unusedVariables false

/-- the slice value sv holds the numbers zs of kind k in the world W -/
def Nums (k : IntKind) (W : World) (sv : Value) (zs : List Int) : Prop :=
  zs.length ≤ 9223372036854775807 ∧ ((∃ (a : Option Addr) (cap : Nat), sv = .slice a 0 cap ∧ cap ≤ 9223372036854775807 ∧ zs = []) ∨ ∃ b off cap, sv = .slice (some ⟨b, off, none⟩) zs.length cap ∧ zs.length ≤ cap ∧ cap ≤ 9223372036854775807 ∧ ∀ j, j < zs.length → W.cell? ⟨b, off + j, none⟩ = some (.int k (zs[j]?.getD 0)))
/-- .. and all of them lie in 64 bits -/
def In64 (zs : List Int) : Prop := ∀ j, j < zs.length → -9223372036854775808 ≤ zs[j]?.getD 0 ∧ zs[j]?.getD 0 ≤ 9223372036854775807
/-- a sum, saturated step by step -/
def addS (zs : List Int) : Int := zs.foldl (fun s z => sat (s + z)) 0
theorem foldl_bd (zs : List Int) (s : Int) (h : -9223372036854775808 ≤ s ∧ s ≤ 9223372036854775807) : -9223372036854775808 ≤ zs.foldl (fun s z => sat (s + z)) s ∧ zs.foldl (fun s z => sat (s + z)) s ≤ 9223372036854775807 := by
  induction zs generalizing s with
  | nil => exact h
  | cons z zs ih => exact ih _ ⟨sat_lo _, sat_hi _⟩
theorem addS_bd (zs : List Int) : -9223372036854775808 ≤ addS zs ∧ addS zs ≤ 9223372036854775807 := foldl_bd zs 0 (by omega)
theorem take_snoc (zs : List Int) (k : Nat) (h : k < zs.length) : zs.take (k + 1) = zs.take k ++ [zs[k]?.getD 0] := by
  rw [List.take_succ_eq_append_getElem h]; simp [h]
theorem addS_snoc (zs : List Int) (k : Nat) (h : k < zs.length) : addS (zs.take (k + 1)) = sat (addS (zs.take k) + zs[k]?.getD 0) := by
  rw [take_snoc zs k h]; simp [addS]


end Go.Proofs.Ytecnapecmioamaa

namespace Go.Proofs.Ytecnapecmioamaa
open Go.RowKit Go.Shelf
set_option linter.unusedVariables false

def drawnW (s w : Int) : Int := if s = 0 ∨ s = 1 then 0 else max w 0
theorem ret_size {k a b : Int} (h : a = b) : Ending.returned (.agg #[.int .i64 k, .int .i64 a]) = .returned (.agg #[.int .i64 k, .int .i64 b]) := by rw [h]
theorem ret_bool {a b : Bool} (h : a = b) : Ending.returned (.bool a) = .returned (.bool b) := by rw [h]
set_option maxHeartbeats 400000 in
theorem drawn_any (s w c : Int) (W : World) : Calls Try.prog 44 #[.agg #[.int .i64 s, .int .i64 w, .int .u32 c]] W fun e W' => e = .returned (.int .i64 (drawnW s w)) ∧ Below W.heap.size W W' := by
  have D : Hid (drawnW s w = if s = 0 ∨ s = 1 then 0 else max w 0) := Lib.hid rfl
  generalize drawnW s w = d at *
  go_enter Try.func44, Try.ntmps44
  go_wp2
  all_goals (go_ret; refine ⟨ret_int ?_, (Below.refl _ _).alloc (Nat.le_refl _) _⟩; have e := D.out; simp_all <;> omega)
set_option maxHeartbeats 400000 in
theorem compSize_at (k n d : Int) (W : World) (h : (k = 0 ∧ d = 0) ∨ (k = 1 ∧ n < 0 ∧ d = 0) ∨ (k = 1 ∧ 0 ≤ n ∧ d = n) ∨ (k ≠ 0 ∧ k ≠ 1 ∧ d = n)) :
    Calls Try.prog 45 #[.agg #[.int .i64 k, .int .i64 n]] W fun e W' => e = .returned (.agg #[.int .i64 k, .int .i64 d]) ∧ Below W.heap.size W W' := by
  rcases h with ⟨h0, rfl⟩ | ⟨h0, h1, rfl⟩ | ⟨h0, h1, rfl⟩ | ⟨h0, h1, rfl⟩
  all_goals
    go_enter Try.func45, Try.ntmps45
    go_wp2
    refine bodyPost_ret (v := .agg #[.int .i64 k, .int .i64 _]) (by simp [results, Try.results45, go_sem] <;> first | exact ⟨by omega, rfl⟩ | omega | rfl) rfl ⟨rfl, ?_⟩
    exact ((Below.refl _ _).alloc (Nat.le_refl _) _).alloc (by simp) _
theorem compSize_any (k n : Int) (W : World) : Calls Try.prog 45 #[.agg #[.int .i64 k, .int .i64 n]] W fun e W' => e = .returned (.agg #[.int .i64 k, .int .i64 (compN k n)]) ∧ Below W.heap.size W W' :=
  compSize_at k n _ W (by unfold compN; by_cases h0 : k = 0 <;> by_cases h1 : k = 1 <;> simp [h0, h1] <;> omega)
set_option maxHeartbeats 400000 in
theorem refLen_any (n : Int) (W : World) : Calls Try.prog 53 #[.int .i64 n] W fun e W' => e = .returned (.bool (inPx n)) ∧ W = W' := by
  by_cases h : -1073741824 ≤ n
  · have D : Hid (inPx n = decide (n ≤ 1073741824)) := Lib.hid (by simp [inPx, h])
    go_enter Try.func53, Try.ntmps53
    go_wp2
    go_ret
    exact ⟨ret_bool D.out.symm, rfl⟩
  · have D : Hid (inPx n = false) := Lib.hid (by simp [inPx]; omega)
    go_enter Try.func53, Try.ntmps53
    go_wp2
    go_ret
    exact ⟨ret_bool D.out.symm, rfl⟩
def madeN (k n : Int) : Int := max (if k = 0 then 0 else n) 0
set_option maxHeartbeats 400000 in
theorem refMade_at (k n d : Int) (W : World) (h : (k = 0 ∧ d = 0) ∨ (k ≠ 0 ∧ n < 0 ∧ d = 0) ∨ (k ≠ 0 ∧ 0 ≤ n ∧ d = n)) :
    Calls Try.prog 54 #[.agg #[.int .i64 k, .int .i64 n]] W fun e W' => e = .returned (.agg #[.int .i64 k, .int .i64 d]) ∧ Below W.heap.size W W' := by
  rcases h with ⟨h0, rfl⟩ | ⟨h0, h1, rfl⟩ | ⟨h0, h1, rfl⟩
  all_goals
    go_enter Try.func54, Try.ntmps54
    go_wp2
    refine bodyPost_ret (v := .agg #[.int .i64 k, .int .i64 _]) (by simp [results, Try.results54, go_sem] <;> first | exact ⟨by omega, rfl⟩ | omega | rfl) rfl ⟨rfl, ?_⟩
    exact ((Below.refl _ _).alloc (Nat.le_refl _) _).alloc (by simp) _
theorem refMade_any (k n : Int) (W : World) : Calls Try.prog 54 #[.agg #[.int .i64 k, .int .i64 n]] W fun e W' => e = .returned (.agg #[.int .i64 k, .int .i64 (madeN k n)]) ∧ Below W.heap.size W W' :=
  refMade_at k n _ W (by unfold madeN; by_cases h0 : k = 0 <;> simp [h0] <;> omega)
set_option maxHeartbeats 400000 in
theorem validSize_any (k n : Int) (W : World) : Calls Try.prog 57 #[.agg #[.int .i64 k, .int .i64 n]] W fun e W' => e = .returned (.bool (sizeB k n)) ∧ Below W.heap.size W W' := by
  have hd : sizeB k n = if k = 0 then true else if k = 1 then inPx n else if k = 2 then decide (0 ≤ n) && decide (n ≤ 10000000) else false := rfl
  have H1 := Lib.hid (fun sv X hI => within_any (-1073741824) 1073741824 sv [n] X hI)
  have H2 := Lib.hid (fun sv X hI => within_any 0 10000000 sv [n] X hI)
  have E1 : (inPx n = !([n].any (outB (-1073741824) 1073741824))) := (within_one _ _ _).symm
  have E2 : ((decide (0 ≤ n) && decide (n ≤ 10000000)) = !([n].any (outB 0 10000000))) := (within_one _ _ _).symm
  rw [E1, E2] at hd
  clear E1 E2
  generalize (!([n].any (outB (-1073741824) 1073741824))) = d1 at *
  generalize (!([n].any (outB 0 10000000))) = d2 at *
  generalize sizeB k n = d at *
  have D := Lib.hid hd
  clear hd
  by_cases h0 : k = 0
  · subst h0
    go_enter Try.func57, Try.ntmps57
    go_wp2_with fail
    go_ret
    exact ⟨ret_bool (by simpa using D.out.symm), (Below.refl _ _).alloc (Nat.le_refl _) _⟩
  · by_cases h1 : k = 1
    · subst h1
      go_enter Try.func57, Try.ntmps57
      go_wp2_with fail
      refine (H1.out _ _ (Ints.whole (t := 2) (whole_new _ _ _ _ (by simp)) rfl (by simp))).mono ?_
      rintro e w' ⟨rfl, hb1⟩
      go_wp2_with fail
      go_ret
      exact ⟨ret_bool (by simpa using D.out.symm), (((Below.refl _ _).alloc (Nat.le_refl _) _).alloc (by simp) _).trans (hb1.mono (by simp; omega))⟩
    · by_cases h2 : k = 2
      · subst h2
        go_enter Try.func57, Try.ntmps57
        go_wp2_with fail
        refine (H2.out _ _ (Ints.whole (t := 2) (whole_new _ _ _ _ (by simp)) rfl (by simp))).mono ?_
        rintro e w' ⟨rfl, hb1⟩
        go_wp2_with fail
        go_ret
        exact ⟨ret_bool (by simpa using D.out.symm), (((Below.refl _ _).alloc (Nat.le_refl _) _).alloc (by simp) _).trans (hb1.mono (by simp; omega))⟩
      · go_enter Try.func57, Try.ntmps57
        go_wp2_with fail
        go_ret
        exact ⟨ret_bool (by simpa [h0, h1, h2] using D.out.symm), (Below.refl _ _).alloc (Nat.le_refl _) _⟩
set_option maxHeartbeats 400000 in
theorem refSize_any (k n : Int) (W : World) : Calls Try.prog 52 #[.agg #[.int .i64 k, .int .i64 n]] W fun e W' => e = .returned (.bool (sizeB k n)) ∧ Below W.heap.size W W' := by
  have hd : sizeB k n = if k = 0 then true else if k = 1 then inPx n else if k = 2 then decide (0 ≤ n) && decide (n ≤ 10000000) else false := rfl
  have H1 := Lib.hid (fun X => refLen_any n X)
  generalize sizeB k n = d at *
  generalize inPx n = d1 at *
  have D := Lib.hid hd
  clear hd
  by_cases h0 : k = 0
  · subst h0
    go_enter Try.func52, Try.ntmps52
    go_wp2_with fail
    go_ret
    exact ⟨ret_bool (by simpa using D.out.symm), (Below.refl _ _).alloc (Nat.le_refl _) _⟩
  · by_cases h1 : k = 1
    · subst h1
      go_enter Try.func52, Try.ntmps52
      go_wp2_with fail
      refine (H1.out _).mono ?_
      rintro e w' ⟨rfl, rfl⟩
      go_wp2_with fail
      go_ret
      exact ⟨ret_bool (by simpa using D.out.symm), (Below.refl _ _).alloc (Nat.le_refl _) _⟩
    · by_cases h2 : k = 2
      · subst h2
        by_cases h3 : 0 ≤ n
        · have hd : Hid (d = decide (n ≤ 10000000)) := Lib.hid (by simpa [h3] using D.out)
          go_enter Try.func52, Try.ntmps52
          go_wp2_with fail
          go_ret
          exact ⟨ret_bool hd.out.symm, (Below.refl _ _).alloc (Nat.le_refl _) _⟩
        · have hd : Hid (d = false) := Lib.hid (by simpa [h3] using D.out)
          go_enter Try.func52, Try.ntmps52
          go_wp2_with fail
          go_ret
          exact ⟨ret_bool hd.out.symm, (Below.refl _ _).alloc (Nat.le_refl _) _⟩
      · go_enter Try.func52, Try.ntmps52
        go_wp2_with fail
        go_ret
        exact ⟨ret_bool (by simpa [h0, h1, h2] using D.out.symm), (Below.refl _ _).alloc (Nat.le_refl _) _⟩
end Go.Proofs.Ytecnapecmioamaa

namespace Go.Proofs.Ytecnapecmioamaa
open Go.RowKit
set_option linter.unusedVariables false

/-- every block of cells of W lies in W' as it lay -/
def CellsKept (W W' : World) : Prop := ∀ (k : Nat) (o : Obj), W.heap[k]? = some o → o.isCells = true → W'.heap[k]? = some o
theorem CellsKept.refl (W : World) : CellsKept W W := fun _ _ h _ => h
theorem CellsKept.trans {A B C : World} (h : CellsKept A B) (k : CellsKept B C) : CellsKept A C := fun i o hi ho => k i o (h i o hi ho) ho
theorem CellsKept.shut {W : World} {D : Nat} {ds : List Deferred} (h : W.heap[D]? = some (.deferred (some ds))) (o' : Obj) : CellsKept W (W.putObj D o') := by
  intro k o hk ho
  by_cases e : k = D
  · subst e; rw [h] at hk; cases hk; cases ho
  · exact (World.putObj_heap_other e).trans hk
theorem CellsKept.cell {W W' : World} (h : CellsKept W W') {a : Addr} {v : Value} (hc : W.cell? a = some v) : W'.cell? a = some v := by
  unfold World.cell? at hc ⊢
  cases hb : W.heap[a.block]? with
  | none => simp [hb] at hc
  | some o =>
    cases ho : o.isCells with
    | true => rw [h _ _ hb ho]; rw [hb] at hc; exact hc
    | false => rw [hb] at hc; cases o <;> simp_all [Obj.isCells]
/-- the blocks for deferred calls that are still open -/
def Marks (B : Nat) (Ds : List Nat) (W : World) : Prop := Ds.Nodup ∧ ∀ D ∈ Ds, B ≤ D ∧ W.heap[D]? = some (.deferred (some []))
theorem Marks.nil (B : Nat) (W : World) : Marks B [] W := ⟨List.nodup_nil, fun _ h => by cases h⟩
theorem Marks.cons {B D : Nat} {Ds : List Nat} {W : World} (h : Marks B Ds W) (hB : B ≤ D) (hD : W.heap[D]? = some (.deferred (some []))) (hlt : ∀ E ∈ Ds, E < D) : Marks B (D :: Ds) W :=
  ⟨List.nodup_cons.2 ⟨fun k => by have := hlt D k; omega, h.1⟩, fun E hE => by
    rcases List.mem_cons.1 hE with rfl | hE
    · exact ⟨hB, hD⟩
    · exact h.2 E hE⟩
theorem leaves_marks {P : Program} {F : Fence} {n : Nat} {fn : Func} {tmps : Array Value} {R : Ending → World → Prop} (B : Nat) : ∀ (Ds : List Nat) (W : World), Marks B Ds W →
    (∀ W', CellsKept W W' → Below B W W' → ∃ v, (results fn tmps).run P W' = .ok v W' ∧ R (.returned v) W') →
    LeavesInM F n P fn tmps R (Ds.map fun D => ({ target := .collected D, args := #[] } : Deferred)) .returning W := by
  intro Ds
  induction Ds with
  | nil => intro W _ h; exact h W (CellsKept.refl W) (Below.refl B W)
  | cons D Ds ih =>
    intro W hM h
    have hD := hM.2 D (by simp)
    refine ⟨by simp, .inl ⟨D, _, rfl, run_takeDeferred hD.2, ?_⟩⟩
    have hb : Below B W (W.putObj D (.deferred none)) := (Below.refl B W).grown (grownBy_putObj' W D _) (by have := (Array.getElem?_eq_some_iff.1 hD.2).1; have := hD.1; omega) (fun k e => by cases e; exact hD.1)
    refine ih _ ⟨(List.nodup_cons.1 hM.1).2, fun E hE => ⟨(hM.2 E (by simp [hE])).1, ?_⟩⟩ ?_
    · have hne : E ≠ D := fun e => (List.nodup_cons.1 hM.1).1 (e ▸ hE)
      exact (World.putObj_heap_other hne).trans (hM.2 E (by simp [hE])).2
    · intro W' hc hb'
      exact h W' ((CellsKept.shut hD.2 _).trans hc) (hb.trans hb')
end Go.Proofs.Ytecnapecmioamaa

namespace Go.Proofs.Ytecnapecmioamaa
open Go.RowKit
set_option linter.unusedVariables false

variable {P : Program} {ops : Array Oper} {Q : Exit → Act → World → Prop}
/-- no operation is a 'defer', none calls one of the library's rows -/
def PlainOps (ops : Array Oper) : Bool := ops.all fun o => match o.op with | .defer _ => false | _ => true
theorem PlainOps.spec (h : PlainOps ops = true) {i : Nat} {o : Oper} (hi : ops[i]? = some o) : ∀ c, o.op ≠ .defer c := by
  intro c hc
  obtain ⟨hlt, rfl⟩ := Array.getElem?_eq_some_iff.1 hi
  have := Array.all_eq_true.1 h i hlt
  rw [hc] at this; cases this
theorem rows_wide {l n : Nat} {row : String} {args : Array Value} {w : World} {R : Value → World → Prop} (h : Rows P row args w R) : RowsIn (Fence.wide.inRound l) n P row args w R := by
  intro c cs hr
  obtain ⟨v, w', hR, hs⟩ := h c cs
  exact ⟨v, w', hR, stepsIn_wide.2 hs⟩
theorem wpOpIn_of_plain {l n i : Nat} (hp : PlainOps ops = true) (hlo : ¬ LetsOut Q) {K : Act → World → Prop} {a : Act} {w : World} (h : wpOp P ops Q i K a w) :
    wpOpIn (Fence.wide.inRound l) n P ops Q i K a w := by
  unfold wpOp at h
  unfold wpOpIn
  cases ho : ops[i]? with
  | none => rw [ho] at h; exact h
  | some o =>
    rw [ho] at h
    dsimp only at h ⊢
    split
    · rename_i hw
      rw [if_pos hw] at h
      rcases h with h | ⟨_, h⟩
      · refine ⟨fun _ _ => trivial, ?_⟩
        rw [show (Fence.wide.inRound l).round = some l from rfl, Oper.semAt_some l _ _ (PlainOps.spec hp ho)]
        unfold Oper.wp at h
        generalize (execOp a.eval o).run P w = r at *
        cases r with
        | ok x w' =>
          cases x <;> simp only [Oper.upon, Oper.uponIn] at h ⊢
          case value u => exact h
          case skip => exact h
          case defer d => exact h
          case enter f args => exact ⟨fun k => (by cases k), CallsIn.inRound l (callsIn_wide.2 h)⟩
          case row row args => exact ⟨fun k => (by cases k), rows_wide h⟩
        | halt x w' => cases x <;> simp only [Oper.upon, Oper.uponIn] at h ⊢; exact h
      · exact absurd h hlo
    · rename_i hw
      rw [if_neg hw] at h
      exact ⟨fun _ _ => trivial, h⟩
theorem wpAnyIn_of_plain {l n : Nat} (hp : PlainOps ops = true) (hlo : ¬ LetsOut Q) : ∀ (fuel : Nat) (listed : Array Bool) (a : Act) (w : World), wpAny P .any ops Q fuel listed a w → wpAnyIn (Fence.wide.inRound l) n P .any ops Q fuel listed a w
  | 0, _, _, _, h => h
  | fuel + 1, listed, a, w, h => ⟨h.1, fun i hi => wpOpIn_mono (fun a' w' h' => wpAnyIn_of_plain hp hlo fuel _ a' w' h') (wpOpIn_of_plain hp hlo (h.2 i hi))⟩
/-- a region that draws, in a round: the loads and the pure operations may be taken first, while S holds -/
theorem wpIn_round_held {l n id : Nat} {a : Act} {w : World} (S : World → Prop) (hm : P.follows .mixedOrders = true) (hp : PlainOps ops = true) (hlo : ¬ LetsOut Q)
    (h : wpAnyH P .any ops Q S ops.size (Array.replicate ops.size false) a w.drew) : (Code.region id ops true).wpIn (Fence.wide.inRound l) n P Q a w :=
  wpIn_region_any hm (wpAnyIn_of_plain hp hlo _ _ _ _ (wpAny_of_held _ _ _ _ h))
end Go.Proofs.Ytecnapecmioamaa
