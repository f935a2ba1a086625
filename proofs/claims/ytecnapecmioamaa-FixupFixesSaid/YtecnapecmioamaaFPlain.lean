/- A page that is fixed, as plain data: a node's kids are run through, one by one; runs of those that may not stand there are laid into new nodes. -/
import Derived.Test.YtecnapecmioamaaFRuns
namespace Go.Proofs.Ytecnapecmioamaa
open Go.RowKit Go.Shelf
set_option linter.unusedVariables false

/-- kids so far, runs of new nodes so far, whether the last kid was one that went into a new node -/
def stepK (p : Int → Bool) (n : Nat) (st : List Int × List (List Int) × Bool) (z : Int) : List Int × List (List Int) × Bool :=
  if p z then (st.1 ++ [z], st.2.1, false)
  else if st.2.2 then (st.1, st.2.1.dropLast ++ [st.2.1.getLast?.getD [] ++ [z]], true)
  else (st.1 ++ [((n + st.2.1.length : Nat) : Int)], st.2.1 ++ [[z]], true)
def FK (p : Int → Bool) (n : Nat) (ks : List Int) : List Int × List (List Int) × Bool := ks.foldl (stepK p n) ([], [], false)
theorem FK_append (p : Int → Bool) (n : Nat) (a b : List Int) : FK p n (a ++ b) = b.foldl (stepK p n) (FK p n a) := by unfold FK; rw [List.foldl_append]
theorem fold_true (p : Int → Bool) (n : Nat) : ∀ (run : List Int) (st : List Int × List (List Int) × Bool), (∀ z ∈ run, p z = true) → run ≠ [] → run.foldl (stepK p n) st = (st.1 ++ run, st.2.1, false) := by
  intro run
  induction run with
  | nil => intro st _ h; exact absurd rfl h
  | cons a run ih =>
    intro st h _
    have ha := h a (by simp)
    rw [List.foldl_cons]
    have e : stepK p n st a = (st.1 ++ [a], st.2.1, false) := by unfold stepK; rw [if_pos ha]
    rw [e]
    by_cases hr : run = []
    · subst hr; rfl
    · rw [ih _ (fun z hz => h z (by simp [hz])) hr]; simp
theorem fold_false' (p : Int → Bool) (n : Nat) : ∀ (run : List Int) (kids : List Int) (news : List (List Int)) (last : List Int), (∀ z ∈ run, p z = false) → run.foldl (stepK p n) (kids, news ++ [last], true) = (kids, news ++ [last ++ run], true) := by
  intro run
  induction run with
  | nil => intro _ _ _ _; simp
  | cons a run ih =>
    intro kids news last h
    have ha := h a (by simp)
    rw [List.foldl_cons]
    have e : stepK p n (kids, news ++ [last], true) a = (kids, news ++ [last ++ [a]], true) := by unfold stepK; rw [if_neg (by simp [ha])]; simp
    rw [e, ih _ _ _ (fun z hz => h z (by simp [hz]))]; simp
theorem fold_false (p : Int → Bool) (n : Nat) (run kids : List Int) (news : List (List Int)) (h : ∀ z ∈ run, p z = false) (hr : run ≠ []) : run.foldl (stepK p n) (kids, news, false) = (kids ++ [((n + news.length : Nat) : Int)], news ++ [run], true) := by
  cases run with
  | nil => exact absurd rfl hr
  | cons a run =>
    have ha := h a (by simp)
    rw [List.foldl_cons]
    have e : stepK p n (kids, news, false) a = (kids ++ [((n + news.length : Nat) : Int)], news ++ [[a]], true) := by unfold stepK; rw [if_neg (by simp [ha])]; simp
    rw [e, fold_false' p n run _ _ _ (fun z hz => h z (by simp [hz]))]; simp
/-- the run behind place f, up to t -/
def runOf (ks : List Int) (f t : Nat) : List Int := (ks.drop f).take (t - f)
theorem take_run (ks : List Int) (f t : Nat) (h : f ≤ t) : ks.take t = ks.take f ++ runOf ks f t := by
  unfold runOf
  rw [← List.take_add, show f + (t - f) = t by omega]
theorem runOf_len (ks : List Int) (f t : Nat) (h : t ≤ ks.length) : (runOf ks f t).length = t - f := by unfold runOf; simp; omega
theorem runOf_get (ks : List Int) (f t j : Nat) (h : j < t - f) : (runOf ks f t)[j]? = ks[f + j]? := by unfold runOf; rw [List.getElem?_take_of_lt h, List.getElem?_drop]
theorem RunAt.mem {p : Int → Bool} {ks : List Int} {r : Bool} {f t : Nat} (h : RunAt p ks r f t) : ∀ z ∈ runOf ks f t, p z = r := fun z hz => by
  obtain ⟨j, hj⟩ := List.mem_iff_getElem?.1 hz
  have hl := (List.getElem?_eq_some_iff.1 hj).1
  rw [runOf_len ks f t h.le] at hl
  rw [runOf_get ks f t j hl] at hj
  exact h.all _ z (by omega) (by omega) hj
theorem RunAt.ne {p : Int → Bool} {ks : List Int} {r : Bool} {f t : Nat} (h : RunAt p ks r f t) : runOf ks f t ≠ [] := fun e => by
  have := runOf_len ks f t h.le
  rw [e] at this
  have := h.lt
  simp at *; omega
/-- what is known at the end of a run -/
def KInv (p : Int → Bool) (n : Nat) (ks : List Int) (f : Nat) (kids : List Int) (news : List (List Int)) : Prop := ∃ op, FK p n (ks.take f) = (kids, news, op) ∧ (op = true → ∀ z, ks[f]? = some z → p z = true)
theorem KInv.start (p : Int → Bool) (n : Nat) (ks : List Int) : KInv p n ks 0 [] [] := ⟨false, rfl, fun h => by cases h⟩
theorem KInv.right {p : Int → Bool} {n : Nat} {ks kids : List Int} {f t : Nat} {news : List (List Int)} (h : KInv p n ks f kids news) (hr : RunAt p ks true f t) : KInv p n ks t (kids ++ runOf ks f t) news := by
  obtain ⟨op, h1, h2⟩ := h
  refine ⟨false, ?_, fun h => by cases h⟩
  rw [take_run ks f t (Nat.le_of_lt hr.lt), FK_append, h1, fold_true p n _ _ hr.mem hr.ne]
theorem KInv.wrong {p : Int → Bool} {n : Nat} {ks kids : List Int} {f t : Nat} {news : List (List Int)} (h : KInv p n ks f kids news) (hr : RunAt p ks false f t) : KInv p n ks t (kids ++ [((n + news.length : Nat) : Int)]) (news ++ [runOf ks f t]) := by
  obtain ⟨op, h1, h2⟩ := h
  have hop : op = false := by
    cases op with
    | false => rfl
    | true =>
      obtain ⟨z, hz⟩ : ∃ z, ks[f]? = some z := ⟨_, List.getElem?_eq_getElem (by have := hr.lt; have := hr.le; omega)⟩
      have a := h2 rfl z hz
      have b := hr.all f z (Nat.le_refl _) hr.lt hz
      rw [a] at b; cases b
  subst hop
  refine ⟨true, ?_, fun _ z hz => by simpa using hr.nxt z hz⟩
  rw [take_run ks f t (Nat.le_of_lt hr.lt), FK_append, h1, fold_false p n _ _ _ hr.mem hr.ne]
theorem KInv.done {p : Int → Bool} {n : Nat} {ks kids : List Int} {f : Nat} {news : List (List Int)} (h : KInv p n ks f kids news) (hf : ks.length ≤ f) : (FK p n ks).1 = kids ∧ (FK p n ks).2.1 = news := by
  obtain ⟨op, h1, _⟩ := h
  rw [List.take_of_length_le hf] at h1
  rw [h1]; exact ⟨rfl, rfl⟩
/-- how many there are: each kid is one, or goes into a new one -/
theorem FK_len (p : Int → Bool) (n : Nat) (ks : List Int) : (FK p n ks).2.1.length ≤ ks.length ∧ (FK p n ks).1.length ≤ ks.length ∧ ((FK p n ks).2.2 = true → (FK p n ks).2.1 ≠ []) := by
  suffices ∀ (b : List Int) (st : List Int × List (List Int) × Bool) (k : Nat), st.2.1.length ≤ k → st.1.length ≤ k → (st.2.2 = true → st.2.1 ≠ []) →
      (b.foldl (stepK p n) st).2.1.length ≤ k + b.length ∧ (b.foldl (stepK p n) st).1.length ≤ k + b.length ∧ ((b.foldl (stepK p n) st).2.2 = true → (b.foldl (stepK p n) st).2.1 ≠ []) by
    have := this ks ([], [], false) 0 (by simp) (by simp) (by simp)
    simpa [FK] using this
  intro b
  induction b with
  | nil => intro st k h1 h2 h3; exact ⟨by simpa using h1, by simpa using h2, h3⟩
  | cons a b ih =>
    intro st k h1 h2 h3
    rw [List.foldl_cons, List.length_cons]
    have := ih (stepK p n st a) (k + 1) ?_ ?_ ?_
    · obtain ⟨x, y, z⟩ := this
      exact ⟨by omega, by omega, z⟩
    all_goals
      unfold stepK
      split
      · simp; try omega
      · split
        · rename_i h4
          have h5 := h3 h4
          have : 0 < st.2.1.length := List.length_pos_iff.2 h5
          simp; try omega
        · simp; try omega

def newSty : Sty := { Sty.zero with cs := 1, rs := 1 }
/-- a node without where its slices lie -/
def Nd.bare (n : Nd) : Nd := { n with kv := .slice none 0 0, wv := .slice none 0 0 }
def newNd (k : Int) (run : List Int) : Nd := { Nd.zero with k := aroundP k, ks := run, s := newSty }
/-- the kind of a node by its place -/
def mayAt (k : Int) (ns : List Nd) (z : Int) : Bool := mayP k (kdOf ns z.toNat)
def fixB (ns : List Nd) (i : Nat) : List Nd :=
  match ns[i]? with
  | none => ns
  | some n => ns.set i { n with ks := (FK (mayAt n.k ns) ns.length n.ks).1 } ++ (FK (mayAt n.k ns) ns.length n.ks).2.1.map (newNd n.k)
theorem kdOf_bare (ns : List Nd) (i : Nat) : kdOf (ns.map Nd.bare) i = kdOf ns i := by
  unfold kdOf
  rw [List.getElem?_map]
  cases ns[i]? <;> rfl
theorem kdOf_append (ns l : List Nd) (i : Nat) (h : i < ns.length) : kdOf (ns ++ l) i = kdOf ns i := by
  unfold kdOf
  rw [List.getElem?_append_left h]
end Go.Proofs.Ytecnapecmioamaa
