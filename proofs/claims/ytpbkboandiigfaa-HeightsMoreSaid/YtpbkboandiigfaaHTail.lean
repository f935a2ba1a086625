/- A region that draws its order, within a round of a range over a function: a head that leaves the world alone, then a chain (that may call yield). Nothing of the program. -/
/- A region that draws its order, in a function that is walked within a fence: a head that leaves the world alone, then a chain (that may call yield). Nothing of the program. -/
import Derived.Test.YtpbkboandiigfaaRound
import Derived.StillTail
import Derived.OwnWalkIn
import Derived.TacticsInMore
namespace Go.Proofs.Ytpbkboandiigfaa
open Go.RowKit
set_option linter.unusedVariables false

theorem anyIn_of_head {F : Fence} {m : Nat} {P : Program} {md : Region.Mode} {ops : Array Oper} {w : World} {lp n g : Nat} {L : Array Bool → Act → Prop} {Q : Exit → Act → World → Prop} (hp : PlainOps ops = true) (hlo : ¬ LetsOut Q)
    (hL : ∀ listed a, L listed a → wpAnyIn (Fence.wide.inRound lp) m P md ops Q g listed a w) :
    ∀ (f : Nat) (listed : Array Bool) (a : Act), wpAnyL P md ops w n L f listed a → wpAnyIn (Fence.wide.inRound lp) m P md ops Q (f + g) listed a w := by
  intro f
  induction f with
  | zero => intro listed a h; rw [Nat.zero_add]; exact hL _ _ h
  | succ f ih =>
    intro listed a h
    obtain ⟨h1, h2⟩ := h
    rw [Nat.add_right_comm]
    refine ⟨fun e => absurd e h1, fun i hi => wpOpIn_of_plain hp hlo (wpOp_of_stOp (fun a' h' => ih _ a' h') (h2 i hi).2)⟩
theorem anyIn_of_seq {F : Fence} {m : Nat} {P : Program} {md : Region.Mode} {ops : Array Oper} {Q : Exit → Act → World → Prop} : ∀ (l : List Oper) (k : Nat) (listed : Array Bool) (a : Act) (w : World), (∀ j, l[j]? = ops[k + j]?) →
    Region.seqB md ops l.length k listed = true → wpListIn F m P ops Q l a w → wpAnyIn F m P md ops Q l.length listed a w := by
  intro l
  induction l with
  | nil => intro k listed a w _ hB h; exact ⟨by simpa [Region.seqB] using hB, h⟩
  | cons o l ih =>
    intro k listed a w hl hB h
    simp only [List.length_cons, Region.seqB, Bool.and_eq_true, decide_eq_true_eq] at hB
    obtain ⟨hB1, hB2⟩ := hB
    refine ⟨fun e => (by rw [hB1] at e; cases e), fun i hi => ?_⟩
    rw [hB1] at hi
    obtain rfl : i = k := by simpa using hi
    have ho : ops[i]? = some o := by simpa using (hl 0).symm
    have hone : wpOpIn F m P ops Q i (wpListIn F m P ops Q l) a w := by unfold wpOpIn; rw [ho]; exact h
    exact wpOpIn_mono (fun a' w' h' => ih (i + 1) _ a' w' (fun j => by have := hl (j + 1); rw [show i + (j + 1) = i + 1 + j by omega] at this; simpa using this) hB2 h') hone
/-- in a round: the head as it comes, then the chain -/
theorem round_still_tail {lp m id : Nat} {P : Program} {Q : Exit → Act → World → Prop} {a : Act} {w : World} {l : List Oper} (n : Nat) (hm : P.follows .mixedOrders = true) (hp : PlainOps l.toArray = true) (hlo : ¬ LetsOut Q) (hB : Region.lexTailB .any l.toArray n = true)
    (h : ∀ w2 : World, w.drew = w2 → wpStill P l.toArray w2 (fun a' => wpListIn (Fence.wide.inRound lp) m P l.toArray Q (l.drop n) a' w2) (l.take n) a) : (Code.region id l.toArray true).wpIn (Fence.wide.inRound lp) m P Q a w := by
  have h0 := h _ rfl
  simp only [Region.lexTailB, Bool.and_eq_true, decide_eq_true_eq] at hB
  obtain ⟨⟨⟨⟨hsel, hn⟩, hs⟩, hc⟩, hlex⟩ := hB
  have hn' : n < l.length := by simpa using hn
  have htl : (l.take n).length = n := by rw [List.length_take]; omega
  have hdl : (l.drop n).length = l.toArray.size - n := by simp
  have inv0 : HeadInv .any l.toArray n (Array.replicate l.toArray.size false) :=
    ⟨by simp, fun j oj _ hl => (by rw [getD_replicate_false] at hl; cases hl), fun t _ ht => getD_in (by simpa using ht) (getD_replicate_false _ _)⟩
  have h1 := wpAnyL_lex hsel hs hc hn (l.take n) 0 (Array.replicate l.toArray.size false) a (fun j hj => by rw [htl] at hj; simp [List.getElem?_take, hj]) (by omega) inv0 (by rw [htl]; exact hlex) h0
  refine wpIn_region_any hm ?_
  have h2 := anyIn_of_head (F := Fence.wide) (m := m) (lp := lp) hp hlo (g := l.toArray.size - n) (fun listed a' hL => by
    rw [← hdl]
    exact anyIn_of_seq (l.drop n) n listed a' _ (fun j => by simp) (by rw [hdl]; exact hL.1) hL.2) (l.take n).length _ _ h1
  rw [htl] at h2
  rwa [show n + (l.toArray.size - n) = l.toArray.size by simp; omega] at h2
end Go.Proofs.Ytpbkboandiigfaa

namespace Go.Proofs.Ytpbkboandiigfaa
open Go.RowKit
set_option linter.unusedVariables false

theorem rows_wideW {n : Nat} {P : Program} {row : String} {args : Array Value} {w : World} {R : Value → World → Prop} (h : Rows P row args w R) : RowsIn Fence.wide n P row args w R := by
  intro c cs hr
  obtain ⟨v, w', hR, hs⟩ := h c cs
  exact ⟨v, w', hR, stepsIn_wide.2 hs⟩
theorem wpOpIn_of_wide {P : Program} {ops : Array Oper} {Q : Exit → Act → World → Prop} {n i : Nat} (hlo : ¬ LetsOut Q) {K : Act → World → Prop} {a : Act} {w : World} (h : wpOp P ops Q i K a w) :
    wpOpIn Fence.wide n P ops Q i K a w := by
  unfold wpOp at h
  unfold wpOpIn
  cases ho : ops[i]? with
  | none => rw [ho] at h; exact h
  | some o =>
    rw [ho] at h
    dsimp only at h ⊢
    split
    · rename_i hw
      rw [if_pos hw] at h
      rcases h with h | ⟨_, h⟩
      · refine ⟨fun _ _ => trivial, ?_⟩
        rw [show Fence.wide.round = none from rfl, Oper.semAt_none]
        unfold Oper.wp at h
        generalize (execOp a.eval o).run P w = r at *
        cases r with
        | ok x w' =>
          cases x <;> simp only [Oper.upon, Oper.uponIn] at h ⊢
          case value u => exact h
          case skip => exact h
          case defer d => exact h
          case enter f args => exact ⟨fun k => (by cases k), callsIn_wide.2 h⟩
          case row row args => exact ⟨fun k => (by cases k), rows_wideW h⟩
        | halt x w' => cases x <;> simp only [Oper.upon, Oper.uponIn] at h ⊢; exact h
      · exact absurd h hlo
    · rename_i hw
      rw [if_neg hw] at h
      exact ⟨fun _ _ => trivial, h⟩
theorem anyIn_of_headW {m : Nat} {P : Program} {md : Region.Mode} {ops : Array Oper} {w : World} {n g : Nat} {L : Array Bool → Act → Prop} {Q : Exit → Act → World → Prop} (hlo : ¬ LetsOut Q)
    (hL : ∀ listed a, L listed a → wpAnyIn Fence.wide m P md ops Q g listed a w) :
    ∀ (f : Nat) (listed : Array Bool) (a : Act), wpAnyL P md ops w n L f listed a → wpAnyIn Fence.wide m P md ops Q (f + g) listed a w := by
  intro f
  induction f with
  | zero => intro listed a h; rw [Nat.zero_add]; exact hL _ _ h
  | succ f ih =>
    intro listed a h
    obtain ⟨h1, h2⟩ := h
    rw [Nat.add_right_comm]
    refine ⟨fun e => absurd e h1, fun i hi => wpOpIn_of_wide hlo (wpOp_of_stOp (fun a' h' => ih _ a' h') (h2 i hi).2)⟩
theorem wide_still_tail {m id : Nat} {P : Program} {Q : Exit → Act → World → Prop} {a : Act} {w : World} {l : List Oper} (n : Nat) (hm : P.follows .mixedOrders = true) (hlo : ¬ LetsOut Q) (hB : Region.lexTailB .any l.toArray n = true)
    (h : ∀ w2 : World, w.drew = w2 → wpStill P l.toArray w2 (fun a' => wpListIn Fence.wide m P l.toArray Q (l.drop n) a' w2) (l.take n) a) : (Code.region id l.toArray true).wpIn Fence.wide m P Q a w := by
  have h0 := h _ rfl
  simp only [Region.lexTailB, Bool.and_eq_true, decide_eq_true_eq] at hB
  obtain ⟨⟨⟨⟨hsel, hn⟩, hs⟩, hc⟩, hlex⟩ := hB
  have hn' : n < l.length := by simpa using hn
  have htl : (l.take n).length = n := by rw [List.length_take]; omega
  have hdl : (l.drop n).length = l.toArray.size - n := by simp
  have inv0 : HeadInv .any l.toArray n (Array.replicate l.toArray.size false) :=
    ⟨by simp, fun j oj _ hl => (by rw [getD_replicate_false] at hl; cases hl), fun t _ ht => getD_in (by simpa using ht) (getD_replicate_false _ _)⟩
  have h1 := wpAnyL_lex hsel hs hc hn (l.take n) 0 (Array.replicate l.toArray.size false) a (fun j hj => by rw [htl] at hj; simp [List.getElem?_take, hj]) (by omega) inv0 (by rw [htl]; exact hlex) h0
  refine wpIn_region_any hm ?_
  have h2 := anyIn_of_headW (m := m) hlo (g := l.toArray.size - n) (fun listed a' hL => by
    rw [← hdl]
    exact anyIn_of_seq (l.drop n) n listed a' _ (fun j => by simp) (by rw [hdl]; exact hL.1) hL.2) (l.take n).length _ _ h1
  rw [htl] at h2
  rwa [show n + (l.toArray.size - n) = l.toArray.size by simp; omega] at h2
end Go.Proofs.Ytpbkboandiigfaa
