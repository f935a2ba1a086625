/- The walk through a page goes from parents to kids: each that is met, but the root, is a kid of one that was met ahead of it, one level above. Plain data. -/
/- Contract of tree.Parents: whose kids nodes are. -/
import Derived.Test.YtecnapecmioamaaTPure
import Derived.Test.YtecnapecmioamaaTOrder
namespace Go.Proofs.Ytecnapecmioamaa
open Go.RowKit Go.Shelf
set_option linter.unusedVariables false

/-- each list on the stack is of kids of one that was met, one level above -/
def Lv (kf : Int → List Int) (pre : List (Int × Nat)) : List (List Int) → Prop
  | [] => True
  | ks :: st => ((st = [] ∧ ∀ z ∈ ks, z = 0) ∨ (st ≠ [] ∧ ∃ q, (q, st.length) ∈ pre ∧ ∀ z ∈ ks, z ∈ kf q)) ∧ Lv kf pre st
theorem Lv.more {kf : Int → List Int} {pre : List (Int × Nat)} (x : Int × Nat) : ∀ {st : List (List Int)}, Lv kf pre st → Lv kf (pre ++ [x]) st
  | [], _ => trivial
  | ks :: st, h => ⟨h.1.elim .inl (fun ⟨h1, q, h2, h3⟩ => .inr ⟨h1, q, List.mem_append_left _ h2, h3⟩), h.2.more x⟩
theorem nextD_lv {kf : Int → List Int} {pre : List (Int × Nat)} {vis : List Int} : ∀ {st : List (List Int)} {z : Int} {d : Nat} {st' : List (List Int)}, Lv kf pre st → nextD vis st = some (z, d, st') →
    ((d = 1 ∧ z = 0) ∨ ∃ q, (q, d - 1) ∈ pre ∧ z ∈ kf q ∧ 2 ≤ d) ∧ Lv kf pre st'
  | [], z, d, st', _, h => by simp [nextD] at h
  | ks :: st, z, d, st', hl, h => by
    unfold nextD at h
    cases hd : ks.dropWhile (fun z => vis.contains z) with
    | nil => rw [hd] at h; exact nextD_lv hl.2 h
    | cons a r =>
      rw [hd] at h
      simp only [Option.some.injEq, Prod.mk.injEq] at h
      obtain ⟨rfl, rfl, rfl⟩ := h
      have hsub : ∀ y ∈ a :: r, y ∈ ks := fun y hy => (List.dropWhile_sublist (l := ks) (fun z => vis.contains z)).subset (hd ▸ hy)
      obtain ⟨h1, h2⟩ := hl
      rcases h1 with ⟨rfl, h3⟩ | ⟨hne, q, h4, h5⟩
      · exact ⟨.inl ⟨rfl, h3 a (hsub a (by simp))⟩, .inl ⟨rfl, fun y hy => h3 y (hsub y (by simp [hy]))⟩, h2⟩
      · have hpos : 1 ≤ st.length := by cases st with | nil => exact absurd rfl hne | cons a b => simp
        exact ⟨.inr ⟨q, by rw [Nat.add_sub_cancel]; exact h4, h5 a (hsub a (by simp)), by omega⟩, .inr ⟨hne, q, h4, fun y hy => h5 y (hsub y (by simp [hy]))⟩, h2⟩
theorem Runs.lv {kf : Int → List Int} {pre : List (Int × Nat)} {vis : List Int} {st : List (List Int)} (h : Runs kf pre vis st) : Lv kf pre st := by
  induction h with
  | nil => exact ⟨.inl ⟨rfl, fun z hz => by simpa using hz⟩, trivial⟩
  | @step pre vis st z d st' h hn ih =>
    obtain ⟨_, h2⟩ := nextD_lv ih hn
    have hd := (nextD_some hn).2.1
    refine ⟨.inr ⟨fun e => nextD_ne (e ▸ hn), z, ?_, fun y hy => hy⟩, h2.more _⟩
    rw [← hd]; simp
theorem Runs.empty {kf : Int → List Int} {pre : List (Int × Nat)} {vis : List Int} {st : List (List Int)} (h : Runs kf pre vis st) (hp : pre = []) : vis = [] ∧ st = [[0]] := by
  cases h with
  | nil => exact ⟨rfl, rfl⟩
  | step h hn => simp at hp
/-- the root is met first -/
theorem Runs.root {kf : Int → List Int} {pre : List (Int × Nat)} {vis : List Int} {st : List (List Int)} (h : Runs kf pre vis st) (hne : pre ≠ []) : (0 : Int) ∈ vis := by
  induction h with
  | nil => exact absurd rfl hne
  | @step pre vis st z d st' h hn ih =>
    by_cases hp : pre = []
    · obtain ⟨rfl, rfl⟩ := h.empty hp
      have : nextD [] [[0]] = some ((0 : Int), 1, [[]]) := rfl
      rw [this] at hn
      injection hn with hn
      injection hn with hz
      subst hz; simp
    · exact List.mem_cons_of_mem _ (ih hp)
/-- where each comes from -/
def FromUp (kf : Int → List Int) (pre : List (Int × Nat)) : Prop :=
  ∀ (i : Nat) (z : Int) (d : Nat), pre[i]? = some (z, d) → (i = 0 ∧ z = 0 ∧ d = 1) ∨ ∃ (j : Nat) (q : Int) (e : Nat), j < i ∧ pre[j]? = some (q, e) ∧ z ∈ kf q ∧ d = e + 1
theorem Runs.up {kf : Int → List Int} {pre : List (Int × Nat)} {vis : List Int} {st : List (List Int)} (h : Runs kf pre vis st) : FromUp kf pre := by
  induction h with
  | nil => intro i z d hi; simp at hi
  | @step pre vis st z d st' h hn ih =>
    intro i y e hi
    by_cases hlt : i < pre.length
    · rw [List.getElem?_append_left hlt] at hi
      rcases ih i y e hi with h0 | ⟨j, q, e', h1, h2, h3⟩
      · exact .inl h0
      · exact .inr ⟨j, q, e', h1, by rw [List.getElem?_append_left (by omega)]; exact h2, h3⟩
    · have hie : i = pre.length := by have := (List.getElem?_eq_some_iff.1 hi).1; simp at this; omega
      subst hie
      rw [List.getElem?_append_right (Nat.le_refl _)] at hi
      simp at hi
      obtain ⟨rfl, rfl⟩ := hi
      rcases (nextD_lv h.lv hn).1 with ⟨rfl, rfl⟩ | ⟨q, h1, h2, h3⟩
      · -- the root again: only as the very first
        left
        refine ⟨?_, rfl, rfl⟩
        have hv := (nextD_some hn).1
        by_cases hp : pre = []
        · rw [hp]; rfl
        · have := h.root hp
          simp at hv
          exact absurd this hv
      · obtain ⟨j, hj⟩ := List.mem_iff_getElem?.1 h1
        have hjl := (List.getElem?_eq_some_iff.1 hj).1
        exact .inr ⟨j, q, d - 1, hjl, by rw [List.getElem?_append_left hjl]; exact hj, h2, by omega⟩
/-- what is met: all different, within the page -/
theorem walk_facts {kf : Int → List Int} {m : Nat} (hm : 1 ≤ m) (hk : KidsIn m kf) : ∃ vis st, Runs kf (walkL m kf) vis st ∧ nextD vis st = none := by
  -- the walk goes on until nothing is left: at most m steps
  have key : ∀ n pre vis st, Runs kf pre vis st → m - pre.length ≤ n → ∃ xs vis' st', Runs kf xs vis' st' ∧ nextD vis' st' = none := by
    intro n
    induction n with
    | zero =>
      intro pre vis st hr hn
      cases hq : nextD vis st with
      | none => exact ⟨pre, vis, st, hr, hq⟩
      | some x =>
        obtain ⟨z, d, st'⟩ := x
        exfalso
        have := ((hr.good hm hk).step hk hq).vlen
        simp at this
        have := hr.len
        omega
    | succ n ih =>
      intro pre vis st hr hn
      cases hq : nextD vis st with
      | none => exact ⟨pre, vis, st, hr, hq⟩
      | some x =>
        obtain ⟨z, d, st'⟩ := x
        exact ih _ _ _ (hr.step hq) (by simp; omega)
  obtain ⟨xs, vis, st, hr, hn⟩ := key m [] [] [[0]] .nil (by simp)
  have he := runs_end hr hn m (by rw [hr.len]; exact (hr.good hm hk).vlen)
  exact ⟨vis, st, he ▸ hr, hn⟩
end Go.Proofs.Ytecnapecmioamaa

namespace Go.Proofs.Ytecnapecmioamaa
open Go.RowKit Go.Shelf
set_option linter.unusedVariables false
attribute [local go_sem] Oper.semAt_some

/-- parents, as they have been written so far: (kid, parent) -/
def parL (m : Nat) (P : List (Int × Nat)) : List Int := P.foldl (fun ps x => ps.set x.1.toNat (x.2 : Int)) ((List.replicate m 0).set 0 (-1))
theorem parL_len (m : Nat) (P : List (Int × Nat)) : (parL m P).length = m := by
  unfold parL
  have : ∀ (xs : List (Int × Nat)) (ds : List Int), (xs.foldl (fun ds x => ds.set x.1.toNat (x.2 : Int)) ds).length = ds.length := by
    intro xs
    induction xs with
    | nil => intro ds; rfl
    | cons x xs ih => intro ds; simp only [List.foldl_cons]; rw [ih]; simp
  rw [this]; simp
theorem parL_snoc (m : Nat) (P : List (Int × Nat)) (x : Int × Nat) : parL m (P ++ [x]) = (parL m P).set x.1.toNat (x.2 : Int) := by simp [parL, List.foldl_append]
def pairsOf (ns : List Nd) : List (Int × Nat) := ns.zipIdx.flatMap fun x => x.1.ks.map fun z => (z, x.2)
theorem pairs_snoc (ns : List Nd) (i : Nat) (n : Nd) (h : ns[i]? = some n) : pairsOf (ns.take (i + 1)) = pairsOf (ns.take i) ++ n.ks.map (fun z => (z, i)) := by
  have hl := (List.getElem?_eq_some_iff.1 h).1
  unfold pairsOf
  rw [List.take_add_one, h, List.zipIdx_append, List.flatMap_append]
  simp [List.length_take, Nat.min_eq_left (Nat.le_of_lt hl)]
def parentsP (ns : List Nd) : List Int := parL ns.length (pairsOf ns)
end Go.Proofs.Ytecnapecmioamaa
