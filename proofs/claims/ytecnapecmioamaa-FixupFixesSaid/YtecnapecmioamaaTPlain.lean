/- The walk through a page as plain data: what is met, in which order, how deep. Nothing of the program. -/
import Derived.WalkKit
namespace Go.Proofs.Ytecnapecmioamaa
set_option linter.unusedVariables false

/-- the next one on the stack that was not met, how deep it is, what is left -/
def nextD (vis : List Int) : List (List Int) → Option (Int × Nat × List (List Int))
  | [] => none
  | ks :: st => match ks.dropWhile (fun z => vis.contains z) with
    | [] => nextD vis st
    | z :: r => some (z, st.length + 1, r :: st)
/-- what has been met so far, and what is on the stack -/
inductive Runs (kf : Int → List Int) : List (Int × Nat) → List Int → List (List Int) → Prop
  | nil : Runs kf [] [] [[0]]
  | step {pre vis st z d st'} : Runs kf pre vis st → nextD vis st = some (z, d, st') → Runs kf (pre ++ [(z, d)]) (z :: vis) (kf z :: st')
def runD (kf : Int → List Int) : Nat → List Int → List (List Int) → List (Int × Nat)
  | 0, _, _ => []
  | f + 1, vis, st => match nextD vis st with
    | none => []
    | some (z, d, st') => (z, d) :: runD kf f (z :: vis) (kf z :: st')
/-- the walk: at most m ones -/
def walkL (m : Nat) (kf : Int → List Int) : List (Int × Nat) := runD kf (m + 1) [] [[0]]
theorem Runs.run {kf : Int → List Int} {pre : List (Int × Nat)} {vis : List Int} {st : List (List Int)} (h : Runs kf pre vis st) : ∀ f, runD kf (pre.length + f) [] [[0]] = pre ++ runD kf f vis st := by
  induction h with
  | nil => intro f; simp
  | @step pre vis st z d st' h hn ih =>
    intro f
    have := ih (f + 1)
    rw [List.length_append, List.length_singleton, show pre.length + 1 + f = pre.length + (f + 1) by omega, this]
    conv => lhs; rhs; unfold runD
    rw [hn]; simp
theorem Runs.vis {kf : Int → List Int} {pre : List (Int × Nat)} {vis : List Int} {st : List (List Int)} (h : Runs kf pre vis st) : vis = (pre.map Prod.fst).reverse := by
  induction h with
  | nil => rfl
  | step h hn ih => rw [ih]; simp
theorem runs_end {kf : Int → List Int} {pre : List (Int × Nat)} {vis : List Int} {st : List (List Int)} (h : Runs kf pre vis st) (hn : nextD vis st = none) (m : Nat) (hm : pre.length ≤ m) : pre = walkL m kf := by
  have := h.run (m + 1 - pre.length)
  rw [show pre.length + (m + 1 - pre.length) = m + 1 by omega] at this
  unfold walkL
  rw [this]
  obtain ⟨f, hf⟩ : ∃ f, m + 1 - pre.length = f + 1 := ⟨m - pre.length, by omega⟩
  rw [hf, runD, hn]; simp
theorem dropWhile_take {α : Type} (p : α → Bool) : ∀ (l : List α) (i : Nat) (x : α), (∀ y ∈ l.take i, p y = true) → l[i]? = some x → p x = false → l.dropWhile p = x :: l.drop (i + 1)
  | [], i, x, _, h, _ => by simp at h
  | a :: l, 0, x, _, h, hx => by simp at h; subst h; simp [List.dropWhile, hx]
  | a :: l, i + 1, x, ha, h, hx => by
    have h1 : p a = true := ha a (by simp)
    have := dropWhile_take p l i x (fun y hy => ha y (by simp [hy])) (by simpa using h) hx
    simp [List.dropWhile, h1, this]
theorem dropWhile_none {α : Type} (p : α → Bool) : ∀ (l : List α), (∀ y ∈ l, p y = true) → l.dropWhile p = []
  | [], _ => rfl
  | a :: l, h => by simp [List.dropWhile, h a (by simp), dropWhile_none p l (fun y hy => h y (by simp [hy]))]
theorem nextD_hit {vis ks : List Int} {st : List (List Int)} {i : Nat} {z : Int} (ha : ∀ y ∈ ks.take i, vis.contains y = true) (hz : ks[i]? = some z) (hn : vis.contains z = false) : nextD vis (ks :: st) = some (z, st.length + 1, ks.drop (i + 1) :: st) := by
  unfold nextD
  rw [dropWhile_take _ ks i z ha hz hn]
theorem nextD_pop {vis ks : List Int} {st : List (List Int)} (ha : ∀ y ∈ ks, vis.contains y = true) : nextD vis (ks :: st) = nextD vis st := by
  conv => lhs; unfold nextD
  rw [dropWhile_none _ ks ha]
theorem nextD_some {vis : List Int} : ∀ {st : List (List Int)} {z : Int} {d : Nat} {st' : List (List Int)}, nextD vis st = some (z, d, st') →
    vis.contains z = false ∧ d = st'.length ∧ st'.length ≤ st.length ∧ (∃ ks ∈ st, z ∈ ks) ∧ ∀ ks ∈ st', ∃ ks' ∈ st, ∀ y ∈ ks, y ∈ ks'
  | [], z, d, st', h => by simp [nextD] at h
  | ks :: st, z, d, st', h => by
    unfold nextD at h
    cases hd : ks.dropWhile (fun z => vis.contains z) with
    | nil =>
      rw [hd] at h
      obtain ⟨h1, h2, h3, ⟨k, hk, hz⟩, h4⟩ := nextD_some h
      exact ⟨h1, h2, by simp; omega, ⟨k, by simp [hk], hz⟩, fun a ha => by obtain ⟨b, hb, hs⟩ := h4 a ha; exact ⟨b, by simp [hb], hs⟩⟩
    | cons a r =>
      rw [hd] at h
      simp only [Option.some.injEq, Prod.mk.injEq] at h
      obtain ⟨rfl, rfl, rfl⟩ := h
      have hsub : ∀ y ∈ a :: r, y ∈ ks := fun y hy => (List.dropWhile_sublist (l := ks) (fun z => vis.contains z)).subset (hd ▸ hy)
      refine ⟨?_, by simp, by simp, ⟨ks, by simp, hsub a (by simp)⟩, fun b hb => ?_⟩
      · have := List.head_dropWhile_not (fun z => vis.contains z) (l := ks) (by rw [hd]; simp)
        simp only [hd, List.head_cons] at this
        simpa using this
      · rcases List.mem_cons.1 hb with rfl | hb
        · exact ⟨ks, by simp, fun y hy => hsub y (by simp [hy])⟩
        · exact ⟨b, by simp [hb], fun y hy => hy⟩
/-- as many different ones as there are below m -/
theorem nodup_le (m : Nat) : ∀ (l : List Int), l.Nodup → (∀ z ∈ l, 0 ≤ z ∧ z < m) → l.length ≤ m := by
  induction m with
  | zero =>
    intro l _ h
    cases l with
    | nil => simp
    | cons a l => have := h a (by simp); omega
  | succ m ih =>
    intro l hn h
    by_cases hm : (m : Int) ∈ l
    · have h1 := List.length_erase_of_mem hm
      have h2 := ih (l.erase (m : Int)) (hn.erase _) (fun z hz => by
        have h3 := (List.Nodup.mem_erase_iff hn).1 hz
        have := h z h3.2
        have : z ≠ m := h3.1
        omega)
      have : 0 < l.length := List.length_pos_of_mem hm
      omega
    · have := ih l hn (fun z hz => by
        have h3 := h z hz
        have : z ≠ m := fun e => hm (e ▸ hz)
        omega)
      omega
/-- kids are places -/
def KidsIn (m : Nat) (kf : Int → List Int) : Prop := ∀ z, ∀ y ∈ kf z, 0 ≤ y ∧ y < m
structure Good (m : Nat) (vis : List Int) (st : List (List Int)) : Prop where
  rng : ∀ ks ∈ st, ∀ z ∈ ks, 0 ≤ z ∧ z < (m : Int)
  nd : vis.Nodup
  vrng : ∀ z ∈ vis, 0 ≤ z ∧ z < (m : Int)
  len : st.length ≤ vis.length + 1
theorem Good.vlen {m : Nat} {vis : List Int} {st : List (List Int)} (h : Good m vis st) : vis.length ≤ m := nodup_le m vis h.nd h.vrng
theorem Good.start {m : Nat} (hm : 1 ≤ m) : Good m [] [[0]] := ⟨fun ks hk z hz => by simp at hk; subst hk; simp at hz; subst hz; omega, List.nodup_nil, fun z h => (by cases h), by simp⟩
theorem Good.step {m : Nat} {kf : Int → List Int} (hk : KidsIn m kf) {vis : List Int} {st st' : List (List Int)} {z : Int} {d : Nat} (h : Good m vis st) (hn : nextD vis st = some (z, d, st')) : Good m (z :: vis) (kf z :: st') := by
  obtain ⟨h1, h2, h3, ⟨k, hk1, hz⟩, h4⟩ := nextD_some hn
  refine ⟨fun ks hks y hy => ?_, List.nodup_cons.2 ⟨by simpa using h1, h.nd⟩, fun y hy => ?_, ?_⟩
  · rcases List.mem_cons.1 hks with rfl | hks
    · exact hk z y hy
    · obtain ⟨k', hk', hs⟩ := h4 ks hks
      exact h.rng k' hk' y (hs y hy)
  · rcases List.mem_cons.1 hy with rfl | hy
    · exact h.rng k hk1 y hz
    · exact h.vrng y hy
  · have := h.len; simp; omega
theorem Good.pop {m : Nat} {vis ks : List Int} {st : List (List Int)} (h : Good m vis (ks :: st)) : Good m vis st := ⟨fun k hk => h.rng k (by simp [hk]), h.nd, h.vrng, by have := h.len; simp at this; omega⟩
theorem Runs.good {m : Nat} {kf : Int → List Int} (hm : 1 ≤ m) (hk : KidsIn m kf) {pre : List (Int × Nat)} {vis : List Int} {st : List (List Int)} (h : Runs kf pre vis st) : Good m vis st := by
  induction h with
  | nil => exact Good.start hm
  | step h hn ih => exact ih.step hk hn
theorem Runs.len {kf : Int → List Int} {pre : List (Int × Nat)} {vis : List Int} {st : List (List Int)} (h : Runs kf pre vis st) : pre.length = vis.length := by rw [h.vis]; simp
theorem nextD_ne {vis : List Int} : ∀ {st : List (List Int)} {z : Int} {d : Nat}, nextD vis st = some (z, d, []) → False
  | [], z, d, h => by simp [nextD] at h
  | ks :: st, z, d, h => by
    unfold nextD at h
    cases hd : ks.dropWhile (fun z => vis.contains z) with
    | nil => rw [hd] at h; exact nextD_ne h
    | cons a r => rw [hd] at h; simp at h
/-- the stack is never empty behind a step; depths lie in bounds -/
theorem Runs.one {kf : Int → List Int} {pre : List (Int × Nat)} {vis : List Int} {st : List (List Int)} (h : Runs kf pre vis st) : ∀ x ∈ pre, 1 ≤ x.2 ∧ x.2 ≤ pre.length := by
  induction h with
  | nil => intro x hx; cases hx
  | @step pre vis st z d st' h hn ih =>
    intro x hx
    rcases List.mem_append.1 hx with hx | hx
    · have := ih x hx; simp; omega
    · simp at hx; subst hx
      obtain ⟨h1, h2, h3, ⟨k, hk1, hz⟩, h4⟩ := nextD_some hn
      have h5 : st.length ≤ vis.length + 1 := by
        clear ih hn h1 h2 h3 hk1 hz h4 hx
        induction h with
        | nil => simp
        | step h hn ih => have := (nextD_some hn).2.2.1; simp; omega
      have h6 := h.len
      have h7 : 1 ≤ st'.length := by
        cases st' with
        | nil => exfalso; exact nextD_ne hn
        | cons a b => simp
      simp; omega
end Go.Proofs.Ytecnapecmioamaa
