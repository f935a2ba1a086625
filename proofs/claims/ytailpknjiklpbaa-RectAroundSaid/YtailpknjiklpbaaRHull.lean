/- What is around some: joined one by one it comes to the same; once it is too large it stays so. Plain. -/
import Derived.Test.YtailpknjiklpbaaRRefAround
namespace Go.Proofs.Ytailpknjiklpbaa
set_option linter.unusedVariables false

def hullOf (s : Bool × Int × Int × Int × Int) : R := ⟨s.2.1, s.2.2.1, s.2.2.2.1 - s.2.1, s.2.2.2.2 - s.2.2.1⟩
theorem hullR_eq (zs : List R) : hullR zs = hullOf (hullS zs) := rfl
def goodS (s : Bool × Int × Int × Int × Int) : Prop := s = (false, 0, 0, 0, 0) ∨ (s.1 = true ∧ s.2.1 < s.2.2.2.1 ∧ s.2.2.1 < s.2.2.2.2 ∧ s.2.1 ≤ 1152921504606846975 ∧ s.2.2.1 ≤ 1152921504606846975)
theorem good_step (s : Bool × Int × Int × Int × Int) (q : R) (hs : goodS s) (hq : rightB q = true) : goodS (hstep s q) := by
  have h := (rightB_iff q).1 hq
  unfold hstep
  split
  · exact hs
  · rename_i he
    have hn := (emptyB_not q).1 (by simpa using he)
    split
    · rename_i h1
      rcases hs with rfl | ⟨_, h2⟩
      · cases h1
      · refine .inr ⟨rfl, ?_⟩; dsimp only; omega
    · refine .inr ⟨rfl, ?_⟩; dsimp only; omega
theorem mono_step (s : Bool × Int × Int × Int × Int) (q : R) (hs : goodS s) (hq : rightB q = true) (hr : rightB (hullOf (hstep s q)) = true) : rightB (hullOf s) = true := by
  have h := (rightB_iff q).1 hq
  rcases hs with rfl | ⟨h1, h2⟩
  · decide
  · unfold hstep at hr
    split at hr
    · exact hr
    · rw [rightB_iff] at *
      unfold hullOf at *
      dsimp only at *
      omega
theorem join_step (s : Bool × Int × Int × Int × Int) (q : R) (hs : goodS s) (hq : rightB q = true) (he : emptyB q = false) : joinR (hullOf s) q = hullOf (hstep s q) := by
  unfold hstep
  rw [if_neg (by rw [he]; decide)]
  rcases hs with rfl | ⟨h1, h2⟩
  · unfold joinR
    rw [if_pos (show hullOf (false, 0, 0, 0, 0) = ⟨0, 0, 0, 0⟩ from rfl), if_neg (by decide)]
    unfold hullOf
    obtain ⟨x, y, w, h⟩ := q
    rw [R.mk.injEq]; dsimp only; omega
  · rw [if_pos h1]
    unfold joinR hullOf
    rw [if_neg (by rw [R.mk.injEq]; omega), R.mk.injEq]
    dsimp only
    omega
theorem fold_good (zs : List R) (s : Bool × Int × Int × Int × Int) (hs : goodS s) (hz : ∀ q ∈ zs, rightB q = true) : goodS (zs.foldl hstep s) := by
  induction zs generalizing s with
  | nil => exact hs
  | cons q zs ih => exact ih _ (good_step s q hs (hz q (List.mem_cons_self ..))) fun p hp => hz p (List.mem_cons_of_mem _ hp)
theorem fold_mono (zs : List R) (s : Bool × Int × Int × Int × Int) (hs : goodS s) (hz : ∀ q ∈ zs, rightB q = true) (hr : rightB (hullOf (zs.foldl hstep s)) = true) : rightB (hullOf s) = true := by
  induction zs generalizing s with
  | nil => exact hr
  | cons q zs ih =>
    have hq := hz q (List.mem_cons_self ..)
    exact mono_step s q hs hq (ih _ (good_step s q hs hq) (fun p hp => hz p (List.mem_cons_of_mem _ hp)) hr)
/-- joined one by one -/
theorem fold_join (zs : List R) (s : Bool × Int × Int × Int × Int) (hs : goodS s) (hz : ∀ q ∈ zs, rightB q = true) : (zs.filter fun q => !emptyB q).foldl joinR (hullOf s) = hullOf (zs.foldl hstep s) := by
  induction zs generalizing s with
  | nil => rfl
  | cons q zs ih =>
    have hq := hz q (List.mem_cons_self ..)
    have hr : ∀ p ∈ zs, rightB p = true := fun p hp => hz p (List.mem_cons_of_mem _ hp)
    cases he : emptyB q with
    | true =>
      rw [List.filter_cons_of_neg (by simp [he]), List.foldl_cons, ← ih _ (good_step s q hs hq) hr]
      unfold hstep; rw [if_pos he]
    | false =>
      rw [List.filter_cons_of_pos (by simp [he]), List.foldl_cons, List.foldl_cons, join_step s q hs hq he, ih _ (good_step s q hs hq) hr]
theorem good_start : goodS (false, 0, 0, 0, 0) := .inl rfl
/-- what is around some is what their joining comes to -/
theorem hull_join (zs : List R) (hz : ∀ q ∈ zs, rightB q = true) : (zs.filter fun q => !emptyB q).foldl joinR ⟨0, 0, 0, 0⟩ = hullR zs := fold_join zs _ good_start hz
/-- what is too large ahead is too large in the end -/
theorem hull_prefix (l m : List R) (hz : ∀ q ∈ l ++ m, rightB q = true) (hr : rightB (hullR (l ++ m)) = true) : rightB (hullR l) = true := by
  rw [hullR_eq] at *
  unfold hullS at *
  rw [List.foldl_append] at hr
  exact fold_mono m _ (fold_good l _ good_start fun q hq => hz q (List.mem_append.2 (.inl hq))) (fun q hq => hz q (List.mem_append.2 (.inr hq))) hr
theorem hull_two (a b : R) : hullS [a, b] = hstep (hstep (false, 0, 0, 0, 0) a) b := rfl
/-- around two, in whichever order -/
theorem hull_swap (a b : R) : hullR [a, b] = hullR [b, a] := by
  unfold hullR
  rw [hull_two, hull_two]
  unfold hstep
  by_cases ha : emptyB a = true <;> by_cases hb : emptyB b = true
  · simp [ha, hb]
  · simp [ha, hb]
  · simp [ha, hb]
  · simp only [ha, hb]
    simp only [Bool.false_eq_true, if_false, if_true, R.mk.injEq]
    omega
theorem all_swap (a b : R) : [a, b].all rightB = [b, a].all rightB := by
  simp only [List.all_cons, List.all_nil, Bool.and_true]; exact Bool.and_comm _ _
theorem around_swap (a b : R) : aroundR [a, b] = aroundR [b, a] := by
  unfold aroundR; rw [all_swap, hull_swap]
/-- what is around two has what the first has -/
theorem hull_first (a b : R) (ha : rightB a = true) (hb : rightB b = true) (he : emptyB a = false) : meetP (hullR [a, b]) a = a := by
  have pa := (rightB_iff a).1 ha
  have pb := (rightB_iff b).1 hb
  refine (meet_within _ a ⟨pa.2.2.1.1, pa.2.2.2.1⟩ he).2 ?_
  unfold hullR
  rw [hull_two]
  unfold hstep
  by_cases hb : emptyB b = true
  · simp [he, hb]; omega
  · simp only [he, hb]
    simp only [Bool.false_eq_true, if_false, if_true]
    omega
theorem meet_swap (a b : R) : meetR a b = meetR b a := by
  unfold meetR meetP
  rw [Bool.and_comm]
  simp only [Int.min_comm, Int.max_comm]
end Go.Proofs.Ytailpknjiklpbaa
