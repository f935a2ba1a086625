/- Orders of a region one of whose operations waits for all others: what is taken first may hang on what that one changes. Nothing of the program. -/
import Derived.Test.YtpbkboandiigfaaROwn
namespace Go.Proofs.Ytpbkboandiigfaa
open Go.RowKit
set_option linter.unusedVariables false
set_option linter.unusedSimpArgs false

section
variable {P : Program} {ops : Array Oper} {Q : Exit → Act → World → Prop} {md : Region.Mode} {S : World → Prop}
/-- does an operation wait for all others? -/
def lastB (md : Region.Mode) (ops : Array Oper) (j : Nat) : Bool :=
  match ops[j]? with
  | none => false
  | some o => (List.range ops.size).all fun k => k == j || o.after.any fun e => Region.binds md e && e.on == k
theorem lastB_waits {j k : Nat} {o : Oper} (hj : ops[j]? = some o) (h : lastB md ops j = true) (hk : k < ops.size) (hne : k ≠ j) : ∃ e ∈ o.after, Region.binds md e = true ∧ e.on = k := by
  unfold lastB at h
  rw [hj] at h
  have h1 := List.all_eq_true.1 h k (List.mem_range.2 hk)
  rw [Bool.or_eq_true] at h1
  rcases h1 with h1 | h1
  · exact absurd (by simpa using h1) hne
  · obtain ⟨e, he, hb⟩ := Array.any_eq_true'.1 h1
    rw [Bool.and_eq_true] at hb
    exact ⟨e, he, hb.1, by simpa using hb.2⟩
/-- every order, with a condition on the world behind each operation but one that waits for all -/
def AnyL (P : Program) (md : Region.Mode) (ops : Array Oper) (Q : Exit → Act → World → Prop) (S : World → Prop) : Nat → Array Bool → Act → World → Prop
  | 0, l, a, w => Region.ready md ops l = [] ∧ Q .normal a w
  | n + 1, l, a, w => (Region.ready md ops l = [] → Q .normal a w) ∧
      ∀ i, i ∈ Region.ready md ops l → wpOp P ops Q i (fun b v => (lastB md ops i = false → S v) ∧ AnyL P md ops Q S n (l.setIfInBounds i true) b v) a w
theorem AnyL.plain {n : Nat} : ∀ {l : Array Bool} {a : Act} {w : World}, AnyL P md ops Q S n l a w → wpAny P md ops Q n l a w := by
  induction n with
  | zero => intro l a w h; exact h
  | succ n ih => intro l a w h; exact ⟨h.1, fun i hi => wpOp_mono (fun b v hb => ih hb.2) (h.2 i hi)⟩
theorem ready_not_last {i j : Nat} {l : Array Bool} {oi : Oper} (hi : ops[i]? = some oi) (hr : i ∈ Region.ready md ops l) (hj : j ∈ Region.ready md ops l) (hne : j ≠ i) : lastB md ops j = false ∧ ∃ o, ops[j]? = some o ∧ l.getD j true = false ∧ ∀ e ∈ o.after, Region.binds md e = true → e.on ≠ i := by
  obtain ⟨hu, o, ho, hall⟩ := mem_ready.1 hj
  have hiu := (mem_ready.1 hr).1
  have no : ∀ e ∈ o.after, Region.binds md e = true → e.on ≠ i := fun e he hb hon => by
    have h1 := hall e he hb
    rw [hon] at h1
    by_cases hlt : i < l.size
    · simp [hlt] at h1 hiu; rw [hiu] at h1; cases h1
    · simp [Array.getElem?_eq_none (Nat.le_of_not_lt hlt)] at h1
  refine ⟨?_, o, ho, hu, no⟩
  cases hl : lastB md ops j with
  | false => rfl
  | true =>
    obtain ⟨e, he, hb, hon⟩ := lastB_waits ho hl (Array.getElem?_eq_some_iff.1 hi).1 (Ne.symm hne)
    exact absurd hon (no e he hb)
theorem AnyL.ahead {i : Nat} {oi : Oper} {v : Value} (hi : ops[i]? = some oi) (hsel : Region.noSelect ops = true)
    (hQ : ∀ c a w, Q (.panic c) (a.put oi.dst v) w → Q (.panic c) a w) {n : Nat} : ∀ {l : Array Bool} {a : Act} {w : World},
    (∀ (j : Nat) (oj : Oper), ops[j]? = some oj → j ≠ i → l.getD j true = false → (∀ e ∈ oj.after, Region.binds md e = true → e.on ≠ i) → oi.apart ops oj = true) →
    i ∈ Region.ready md ops l → YieldsIf P ops S oi v a → S w → AnyL P md ops Q S n (l.setIfInBounds i true) (a.put oi.dst v) w → AnyL P md ops Q S (n + 1) l a w := by
  induction n with
  | zero =>
    intro l a w hap hr hy hS H
    refine ⟨fun e => absurd (e ▸ hr) (by simp), fun j hj => ?_⟩
    by_cases hji : j = i
    · subst hji; exact hy.wpOp hi hS ⟨fun _ => hS, H⟩
    · exact absurd (H.1 ▸ ready_mono hj hji) (by simp)
  | succ n ih =>
    intro l a w hap hr hy hS H
    refine ⟨fun e => absurd (e ▸ hr) (by simp), fun j hj => ?_⟩
    by_cases hji : j = i
    · subst hji; exact hy.wpOp hi hS ⟨fun _ => hS, H⟩
    · obtain ⟨hl, oj, hoj, hju, hno⟩ := ready_not_last hi hr hj hji
      have step := wpOp_putIf hoj (hap j oj hoj hji hju hno) (fun cs b => Region.noSelect_spec hsel i oi cs b hi) (fun cs b => Region.noSelect_spec hsel j oj cs b hoj) hQ hy (H.2 j (ready_mono hj hji))
      refine wpOp_mono (fun b u hb => ⟨fun _ => hb.2.1 hl, ?_⟩) step
      refine ih (fun k ok hk hki hku hkn => hap k ok hk hki ?_ hkn) (ready_mono hr (Ne.symm hji)) hb.1 (hb.2.1 hl) ?_
      · by_cases hjk : j = k
        · subst hjk; exact hju
        · rwa [getD_set_ne true hjk] at hku
      · rw [Array.setIfInBounds_comm _ _ hji]; exact hb.2.2
/-- an operation is taken first -/
theorem AnyL.take {i : Nat} {oi : Oper} {v : Value} {n : Nat} {l : Array Bool} {a : Act} {w : World} (dst : Option Tmp) (hi : ops[i]? = some oi) (hd : oi.dst = dst)
    (hs : Region.noSelect ops = true) (hf : Region.free md ops l i = true) (hr : (Region.ready md ops l).contains i = true)
    (hQ : ∀ c a w, Q (.panic c) (a.put dst v) w → Q (.panic c) a w) (hS : S w) (hy : YieldsIf P ops S oi v a)
    (h : AnyL P md ops Q S n (l.setIfInBounds i true) (a.put dst v) w) : AnyL P md ops Q S (n + 1) l a w := by
  subst hd
  exact AnyL.ahead hi hs hQ (fun j oj h1 h2 h3 h4 => Region.free_spec hi hf j oj h1 h2 h3 h4) (by simpa using hr) hy hS h
/-- the one that comes up -/
theorem AnyL.one {i : Nat} {oi : Oper} {n : Nat} {l : Array Bool} {a : Act} {w : World} (hi : ops[i]? = some oi) (hr : Region.ready md ops l = [i])
    (h : wpOp P ops Q i (fun b v => (lastB md ops i = false → S v) ∧ AnyL P md ops Q S n (l.setIfInBounds i true) b v) a w) : AnyL P md ops Q S (n + 1) l a w :=
  ⟨fun e => absurd (hr ▸ e) (by simp), fun j hj => by rw [hr] at hj; obtain rfl := List.mem_singleton.1 hj; exact h⟩
/-- some that come up -/
theorem AnyL.some {rs : List Nat} {n : Nat} {l : Array Bool} {a : Act} {w : World} (hr : Region.ready md ops l = rs) (hne : rs ≠ [])
    (h : ∀ i ∈ rs, wpOp P ops Q i (fun b v => (lastB md ops i = false → S v) ∧ AnyL P md ops Q S n (l.setIfInBounds i true) b v) a w) : AnyL P md ops Q S (n + 1) l a w :=
  ⟨fun e => absurd (hr ▸ e) hne, fun j hj => h j (hr ▸ hj)⟩
theorem AnyL.done {n : Nat} {l : Array Bool} {a : Act} {w : World} (hr : Region.ready md ops l = []) (h : Q .normal a w) : AnyL P md ops Q S n l a w := by
  cases n with
  | zero => exact ⟨hr, h⟩
  | succ n => exact ⟨fun _ => h, fun j hj => absurd (hr ▸ hj) (by simp)⟩
/-- a region that draws its order -/
theorem region_L {id : Nat} {a : Act} {w : World} (hm : P.follows .mixedOrders = true)
    (h : ∀ w2 : World, w.drew = w2 → AnyL P .any ops Q S ops.size (Array.replicate ops.size false) a w2) : (Code.region id ops true).wp P Q a w := wp_region_any hm (h _ rfl).plain
end
end Go.Proofs.Ytpbkboandiigfaa
