/- What the shares of a length are, in plain data: each is rounded down, or one more; they add up; a greater weight has no less; a weight of 0 has nothing. -/
import Derived.Test.YtpbkboandiigfaaStOrd
namespace Go.Proofs.Ytpbkboandiigfaa
open Go.RowKit
set_option linter.unusedVariables false

theorem getD_set (b : List Int) (a i : Nat) (v : Int) (h : a < b.length) : (b.set a v)[i]?.getD 0 = if i = a then v else b[i]?.getD 0 := by
  rw [List.getElem?_set]
  by_cases e : a = i
  · subst e; simp [h]
  · rw [if_neg e, if_neg (Ne.symm e)]
theorem incL_get : ∀ (l : List Nat) (b : List Int), l.Nodup → (∀ i ∈ l, i < b.length) → ∀ i, (incL b l)[i]?.getD 0 = b[i]?.getD 0 + if i ∈ l then 1 else 0 := by
  intro l
  induction l with
  | nil => intro b _ _ i; simp [incL]
  | cons a l ih =>
    intro b hn hb i
    have hn' := List.nodup_cons.1 hn
    have ha := hb a (by simp)
    show (incL (b.set a (b[a]?.getD 0 + 1)) l)[i]?.getD 0 = _
    rw [ih _ hn'.2 (fun j hj => by rw [List.length_set]; exact hb j (by simp [hj])) i, getD_set _ _ _ _ ha]
    by_cases e : i = a
    · subst e; simp [hn'.1]
    · simp [e]
theorem sumZ_set (b : List Int) (a : Nat) (h : a < b.length) : sumZ (b.set a (b[a]?.getD 0 + 1)) = sumZ b + 1 := by
  induction b generalizing a with
  | nil => simp at h
  | cons x b ih =>
    cases a with
    | zero => simp only [List.set_cons_zero, sumZ_cons, List.getElem?_cons_zero, Option.getD_some]; omega
    | succ a => simp only [List.set_cons_succ, sumZ_cons, List.getElem?_cons_succ]; rw [ih a (by simpa using h)]; omega
theorem sumZ_incL : ∀ (l : List Nat) (b : List Int), (∀ i ∈ l, i < b.length) → sumZ (incL b l) = sumZ b + l.length := by
  intro l
  induction l with
  | nil => intro b _; simp [incL]
  | cons a l ih =>
    intro b hb
    show sumZ (incL (b.set a (b[a]?.getD 0 + 1)) l) = _
    rw [ih _ (fun j hj => by rw [List.length_set]; exact hb j (by simp [hj])), sumZ_set b a (hb a (by simp))]
    simp only [List.length_cons]; omega
theorem sumZ_perm {l l' : List Int} (h : l.Perm l') : sumZ l = sumZ l' := by
  induction h with
  | nil => rfl
  | cons x _ ih => rw [sumZ_cons, sumZ_cons, ih]
  | swap x y l => rw [sumZ_cons, sumZ_cons, sumZ_cons, sumZ_cons]; omega
  | trans _ _ h1 h2 => rw [h1, h2]
theorem map_range_get (rs : List Int) : ((List.range rs.length).map fun i => rs[i]?.getD 0) = rs := by
  apply List.ext_getElem
  · simp
  · intro k h1 h2; simp [h2]
theorem sumZ_le (l : List Int) (c : Int) (h : ∀ z ∈ l, z ≤ c) : sumZ l ≤ l.length * c := by
  induction l with
  | nil => simp [sumZ]
  | cons a l ih =>
    rw [sumZ_cons]
    have h1 := h a (by simp)
    have h2 := ih fun z hz => h z (by simp [hz])
    have e : (((a :: l).length : Nat) : Int) * c = l.length * c + c := by simp only [List.length_cons]; rw [Int.natCast_add, Int.add_mul]; simp
    omega
theorem sumZ_zero (l : List Int) (h : ∀ z ∈ l, z = 0) : sumZ l = 0 := by
  induction l with
  | nil => rfl
  | cons a l ih => rw [sumZ_cons, h a (by simp), ih fun z hz => h z (by simp [hz])]; rfl

/-- who is ahead of one of the first k is of them -/
theorem IsOrd.ahead {n : Nat} {rs : List Int} {ord : List Nat} (h : IsOrd n rs ord) {k i j : Nat} (hi : i ∈ ord.take k) (hj : j < n) (ha : ahead rs j i) : j ∈ ord.take k := by
  obtain ⟨p, hp, rfl⟩ := List.mem_iff_getElem.1 hi
  have hjm : j ∈ ord := h.perm.mem_iff.2 (by simpa using hj)
  obtain ⟨q, hq, rfl⟩ := List.mem_iff_getElem.1 hjm
  rw [List.length_take] at hp
  by_cases c : q < k
  · exact List.mem_iff_getElem.2 ⟨q, by rw [List.length_take]; omega, by rw [List.getElem_take]⟩
  · exfalso
    rw [List.getElem_take] at ha
    have := List.pairwise_iff_getElem.1 h.srt p q (by omega) hq (by omega)
    exact ahead_irr _ _ (ahead_trans _ _ _ _ this ha)
theorem IsOrd.nodup {n : Nat} {rs : List Int} {ord : List Nat} (h : IsOrd n rs ord) : ord.Nodup := h.perm.nodup_iff.2 List.nodup_range
theorem IsOrd.length {n : Nat} {rs : List Int} {ord : List Nat} (h : IsOrd n rs ord) : ord.length = n := by rw [h.perm.length_eq, List.length_range]
theorem IsOrd.lt {n : Nat} {rs : List Int} {ord : List Nat} (h : IsOrd n rs ord) : ∀ i ∈ ord, i < n := fun i hi => by simpa using h.perm.mem_iff.1 hi
/-- none of the first has nothing left -/
theorem IsOrd.pos {n k : Nat} {rs : List Int} {ord : List Nat} {S : Int} (h : IsOrd n rs ord) (hl : rs.length = n) (hS : 0 < S) (hr : ∀ z ∈ rs, 0 ≤ z ∧ z < S) (hk : (k : Int) * S = sumZ rs) (hkn : k ≤ n) : ∀ i ∈ ord.take k, rs[i]?.getD 0 ≠ 0 := by
  intro i hi h0
  have hk0 : 0 < k := by
    cases k with
    | zero => simp at hi
    | succ k => omega
  have hsum : sumZ rs = sumZ ((ord.take k).map fun i => rs[i]?.getD 0) + sumZ ((ord.drop k).map fun i => rs[i]?.getD 0) := by
    rw [← sumZ_append, ← List.map_append, List.take_append_drop, sumZ_perm (h.perm.map _), ← hl, map_range_get]
  have hge : ∀ j : Nat, (0 : Int) ≤ rs[j]?.getD 0 := fun j => by
    by_cases c : j < rs.length
    · simp only [c, List.getElem?_eq_getElem, Option.getD_some]; exact (hr _ (List.getElem_mem c)).1
    · rw [List.getElem?_eq_none (by omega)]; exact Int.le_refl 0
  have hlt : ∀ j : Nat, rs[j]?.getD 0 ≤ S - 1 := fun j => by
    by_cases c : j < rs.length
    · simp only [c, List.getElem?_eq_getElem, Option.getD_some]; have := (hr _ (List.getElem_mem c)).2; omega
    · rw [List.getElem?_eq_none (by omega)]; show (0 : Int) ≤ S - 1; omega
  have hz : sumZ ((ord.drop k).map fun i => rs[i]?.getD 0) = 0 := sumZ_zero _ fun z hz => by
    obtain ⟨j, hj, rfl⟩ := List.mem_map.1 hz
    apply Classical.byContradiction
    intro hne
    have hjn : j < n := h.lt j (List.mem_of_mem_drop hj)
    have hmem := h.ahead hi hjn (.inl (by rw [h0]; have := hge j; omega))
    have hd : (ord.take k ++ ord.drop k).Nodup := by rw [List.take_append_drop]; exact h.nodup
    exact (List.nodup_append.1 hd).2.2 j hmem j hj rfl
  have hle := sumZ_le ((ord.take k).map fun i => rs[i]?.getD 0) (S - 1) fun z hz => by
    obtain ⟨j, _, rfl⟩ := List.mem_map.1 hz
    exact hlt j
  rw [hz, Int.add_zero] at hsum
  rw [List.length_map, List.length_take, h.length, Nat.min_eq_left hkn, ← hsum, ← hk, Int.mul_sub] at hle
  omega

def shareS (t : Int) (cs : List Int) : List Int := shareL (ordS cs.length) t cs
/-- what is shared out -/
structure Shr (t : Int) (cs a : List Int) : Prop where
  len : a.length = cs.length
  sum : sumZ a = t
  ge : ∀ i : Nat, (0 : Int) ≤ a[i]?.getD 0
  zero : ∀ i : Nat, i < cs.length → cs[i]?.getD 0 = 0 → a[i]?.getD 0 = 0
  mono : ∀ i j : Nat, i < cs.length → j < cs.length → cs[i]?.getD 0 < cs[j]?.getD 0 → a[i]?.getD 0 ≤ a[j]?.getD 0
theorem baseL_get (t : Int) (cs : List Int) (i : Nat) (h : i < cs.length) : (baseL t cs)[i]?.getD 0 = t * (cs[i]?.getD 0) / sumZ cs := by unfold baseL; simp [h]
theorem restL_get (t : Int) (cs : List Int) (i : Nat) (h : i < cs.length) : (restL t cs)[i]?.getD 0 = t * (cs[i]?.getD 0) % sumZ cs := by unfold restL; simp [h]
theorem shareS_get (t : Int) (cs : List Int) (i : Nat) : (shareS t cs)[i]?.getD 0 = (baseL t cs)[i]?.getD 0 + if i ∈ (ordS cs.length (restL t cs)).take (leftZ t cs) then 1 else 0 := by
  have ho := ordS_is cs.length (restL t cs)
  refine incL_get _ _ (List.Nodup.sublist (List.take_sublist _ _) ho.nodup) (fun j hj => ?_) i
  have := ho.lt j (List.mem_of_mem_take hj)
  simpa [baseL] using this
theorem leftZ_eq (t : Int) (cs : List Int) (hs : 0 < sumZ cs) (hn : 1 ≤ cs.length) : (leftZ t cs : Int) = t - sumZ (baseL t cs) ∧ leftZ t cs < cs.length ∧ (leftZ t cs : Int) * sumZ cs = sumZ (restL t cs) := by
  have hb := left_bd t (sumZ cs) cs hs rfl hn
  have e := sumZ_share t (sumZ cs) cs hs
  have h1 : (leftZ t cs : Int) = t - sumZ (baseL t cs) := by unfold leftZ baseL; omega
  refine ⟨h1, ?_, ?_⟩
  · unfold leftZ baseL; omega
  · rw [h1, Int.sub_mul, e]; unfold baseL restL; rw [Int.mul_comm (sumZ (List.map _ _)) (sumZ cs)]; omega
theorem shareS_shr (t : Int) (cs : List Int) (t0 : 0 ≤ t) (hc : ∀ z ∈ cs, 0 ≤ z) (hs : 0 < sumZ cs) (hn : 1 ≤ cs.length) : Shr t cs (shareS t cs) := by
  have ho := ordS_is cs.length (restL t cs)
  obtain ⟨l1, l2, l3⟩ := leftZ_eq t cs hs hn
  have hg : ∀ i : Nat, (0 : Int) ≤ cs[i]?.getD 0 := fun i => by
    by_cases c : i < cs.length
    · simp only [c, List.getElem?_eq_getElem, Option.getD_some]; exact hc _ (List.getElem_mem c)
    · rw [List.getElem?_eq_none (by omega)]; exact Int.le_refl 0
  have hpos := ho.pos (S := sumZ cs) (k := leftZ t cs) (by simp [restL]) hs (fun z hz => by
    obtain ⟨y, hy, rfl⟩ := List.mem_map.1 hz
    exact ⟨Int.emod_nonneg _ (by omega), Int.emod_lt_of_pos _ hs⟩) l3 (by omega)
  have hb0 : ∀ i : Nat, (0 : Int) ≤ (baseL t cs)[i]?.getD 0 := fun i => by
    by_cases c : i < cs.length
    · rw [baseL_get _ _ _ c]; exact Int.ediv_nonneg (Int.mul_nonneg t0 (hg i)) (by omega)
    · rw [List.getElem?_eq_none (by simp [baseL]; omega)]; exact Int.le_refl 0
  refine ⟨by simp [shareS, shareL, incL_length, baseL], ?_, ?_, ?_, ?_⟩
  · unfold shareS shareL
    rw [sumZ_incL _ _ (fun j hj => by have := ho.lt j (List.mem_of_mem_take hj); simpa [baseL] using this), List.length_take, ho.length, Nat.min_eq_left (by omega), l1]; omega
  · intro i; rw [shareS_get]; have := hb0 i; split <;> omega
  · intro i hi h0
    rw [shareS_get, baseL_get _ _ _ hi, h0, Int.mul_zero, Int.zero_ediv]
    rw [if_neg]
    · rfl
    · intro hm
      refine hpos i hm ?_
      rw [restL_get _ _ _ hi, h0, Int.mul_zero, Int.zero_emod]
  · intro i j hi hj hlt
    rw [shareS_get, shareS_get, baseL_get _ _ _ hi, baseL_get _ _ _ hj]
    have key : t * (cs[i]?.getD 0) / sumZ cs ≤ t * (cs[j]?.getD 0) / sumZ cs := Int.ediv_le_ediv hs (Int.mul_le_mul_of_nonneg_left (by omega) t0)
    by_cases hm : i ∈ (ordS cs.length (restL t cs)).take (leftZ t cs)
    · by_cases hj' : j ∈ (ordS cs.length (restL t cs)).take (leftZ t cs)
      · rw [if_pos hm, if_pos hj']; omega
      · rw [if_pos hm, if_neg hj']
        by_cases he : t * (cs[i]?.getD 0) / sumZ cs = t * (cs[j]?.getD 0) / sumZ cs
        · exfalso
          have e1 := Int.mul_ediv_add_emod (t * (cs[i]?.getD 0)) (sumZ cs)
          have e2 := Int.mul_ediv_add_emod (t * (cs[j]?.getD 0)) (sumZ cs)
          rw [he] at e1
          have hle : t * (cs[i]?.getD 0) ≤ t * (cs[j]?.getD 0) := Int.mul_le_mul_of_nonneg_left (by omega) t0
          have hnah : ¬ ahead (restL t cs) j i := fun ha => hj' (ho.ahead hm hj ha)
          have hr : (restL t cs)[j]?.getD 0 ≤ (restL t cs)[i]?.getD 0 := by
            apply Classical.byContradiction; intro c; exact hnah (.inl (by omega))
          rw [restL_get _ _ _ hi, restL_get _ _ _ hj] at hr
          have heq : t * (cs[i]?.getD 0) = t * (cs[j]?.getD 0) := by omega
          have ht : t = 0 := by
            apply Classical.byContradiction; intro c
            have := Int.mul_lt_mul_of_pos_left hlt (show 0 < t by omega)
            omega
          refine hpos i hm ?_
          rw [restL_get _ _ _ hi, ht, Int.zero_mul, Int.zero_emod]
        · omega
    · rw [if_neg hm]; split <;> omega

/-- weights that are all the same -/
theorem sumZ_rep (n : Nat) (w : Int) : sumZ (List.replicate n w) = n * w := by
  induction n with
  | zero => simp [sumZ]
  | succ n ih => rw [List.replicate_succ, sumZ_cons, ih, Int.natCast_add, Int.add_mul]; simp; omega
theorem ordS_same (n : Nat) (r : Int) : ordS n (List.replicate n r) = List.range n := by
  refine (ordS_is n _).one ⟨List.Perm.refl _, ?_⟩
  rw [List.pairwise_iff_getElem]
  intro i j hi hj hij
  simp only [List.length_range] at hi hj
  simp only [List.getElem_range]
  exact .inr ⟨by simp [hi, hj], hij⟩
theorem shareS_rep (t w : Int) (n : Nat) (hw : 0 < w) (hn : 1 ≤ n) (t0 : 0 ≤ t) : shareS t (List.replicate n w) = evenL t n := by
  have hs : sumZ (List.replicate n w) = n * w := sumZ_rep n w
  have hd : t * w / (n * w) = t / n := Int.mul_ediv_mul_of_pos_left _ _ hw
  have hlen : (List.replicate n w).length = n := by simp
  have hl : (leftZ t (List.replicate n w) : Int) = t % n := by
    obtain ⟨l1, _, _⟩ := leftZ_eq t (List.replicate n w) (by rw [hs]; exact Int.mul_pos (by omega) hw) (by simpa using hn)
    rw [l1]
    have : baseL t (List.replicate n w) = List.replicate n (t / n) := by unfold baseL; rw [hs, List.map_replicate, hd]
    rw [this, sumZ_rep]
    have := Int.mul_ediv_add_emod t n
    omega
  apply List.ext_getElem
  · simp [shareS, shareL, incL_length, baseL, evenL]
  · intro i h1 h2
    have hi : i < n := by simpa [evenL] using h2
    have g := shareS_get t (List.replicate n w) i
    rw [baseL_get _ _ _ (by simpa using hi), hlen] at g
    have hrest : restL t (List.replicate n w) = List.replicate n (t * w % sumZ (List.replicate n w)) := by unfold restL; rw [List.map_replicate]
    rw [hrest, ordS_same, hs] at g
    simp only [hi, List.getElem?_replicate, if_true, Option.getD_some, hd] at g
    rw [List.getElem?_eq_getElem h1, Option.getD_some] at g
    rw [g]
    simp only [evenL, List.getElem_map, List.getElem_range, evenI]
    have hmem : i ∈ (List.range n).take (leftZ t (List.replicate n w)) ↔ (i : Int) < t % n := by
      rw [List.take_range, List.mem_range]; omega
    by_cases c : (i : Int) < t % n
    · rw [if_pos (hmem.2 c), if_pos c]
    · rw [if_neg (fun h => c (hmem.1 h)), if_neg c]
end Go.Proofs.Ytpbkboandiigfaa
