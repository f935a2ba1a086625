/- Regions within a round of a range over a function: walked as outside of it, those that draw their order and those that do not. Nothing of the program. -/
import Derived.Test.YtpbkboandiigfaaOrdL
import Derived.Test.YtpbkboandiigfaaRound
namespace Go.Proofs.Ytpbkboandiigfaa
open Go.RowKit
set_option linter.unusedVariables false

section
variable {P : Program} {ops : Array Oper} {Q : Exit → Act → World → Prop}
theorem opIn_of_plain {l n : Nat} (hlo : ¬ LetsOut Q) {o : Oper} (hp : ∀ c, o.op ≠ .defer c) {K K' : Act → World → Prop} (hK : ∀ a w, K a w → K' a w) {a : Act} {w : World} (h : o.wp P a w K Q) : o.wpIn (Fence.wide.inRound l) n P a w K' Q := by
  refine ⟨fun _ _ => trivial, ?_⟩
  rw [show (Fence.wide.inRound l).round = some l from rfl, Oper.semAt_some l _ _ hp]
  unfold Oper.wp at h
  generalize (execOp a.eval o).run P w = r at *
  cases r with
  | ok x w' =>
    cases x <;> simp only [Oper.upon, Oper.uponIn] at h ⊢
    case value u => exact hK _ _ h
    case skip => exact hK _ _ h
    case defer d => exact hK _ _ h
    case enter f args =>
      refine ⟨fun k => (by cases k), CallsIn.inRound l (callsIn_wide.2 (h.mono fun e w'' he => ?_))⟩
      cases e with
      | returned u => exact hK _ _ he
      | panicked c => exact he
      | outgrown => exact he
    case row row args => exact ⟨fun k => (by cases k), rows_wide (Rows.mono h fun u w'' he => hK _ _ he)⟩
  | halt x w' => cases x <;> simp only [Oper.upon, Oper.uponIn] at h ⊢; exact h
theorem listIn_of_plain {l n : Nat} (hlo : ¬ LetsOut Q) : ∀ (rest : List Oper) (hp : ∀ o ∈ rest, ∀ c, o.op ≠ .defer c) (a : Act) (w : World), wpList P ops Q rest a w → wpListIn (Fence.wide.inRound l) n P ops Q rest a w
  | [], _, _, _, h => h
  | o :: rest, hp, a, w, h => by
    unfold wpList at h
    unfold wpListIn
    split
    · rename_i hw
      rw [if_pos hw] at h
      rcases h with h | ⟨_, h⟩
      · exact opIn_of_plain hlo (hp o (by simp)) (fun a w hr => listIn_of_plain hlo rest (fun o ho => hp o (List.mem_cons_of_mem _ ho)) a w hr) h
      · exact absurd h hlo
    · rename_i hw
      rw [if_neg hw] at h
      exact ⟨fun _ _ => trivial, listIn_of_plain hlo rest (fun o ho => hp o (List.mem_cons_of_mem _ ho)) _ w h⟩
/-- a region that draws not, in a round -/
theorem round_plain {l n id : Nat} {os : List Oper} {a : Act} {w : World} (hlo : ¬ LetsOut Q) (hp : PlainOps os.toArray = true) (h : wpList P os.toArray Q os a w) : (Code.region id os.toArray false).wpIn (Fence.wide.inRound l) n P Q a w :=
  wpIn_region_lit (listIn_of_plain hlo os (fun o ho => by
    obtain ⟨i, hi⟩ := List.getElem?_of_mem ho
    exact PlainOps.spec hp (i := i) (by simpa using hi)) a w h)
/-- a region that draws its order, in a round -/
theorem round_L {S : World → Prop} {l n id : Nat} {a : Act} {w : World} (hm : P.follows .mixedOrders = true) (hp : PlainOps ops = true) (hlo : ¬ LetsOut Q)
    (h : ∀ w2 : World, w.drew = w2 → AnyL P .any ops Q S ops.size (Array.replicate ops.size false) a w2) : (Code.region id ops true).wpIn (Fence.wide.inRound l) n P Q a w :=
  wpIn_region_any hm (wpAnyIn_of_plain hp hlo _ _ _ _ (h _ rfl).plain)
end
end Go.Proofs.Ytpbkboandiigfaa
