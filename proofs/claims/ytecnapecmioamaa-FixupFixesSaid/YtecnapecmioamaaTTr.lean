/- Pages that are trees: each place is a kid once, and is reached; what the walk meets of them. Plain data. -/
import Derived.Test.YtecnapecmioamaaTOrds
namespace Go.Proofs.Ytecnapecmioamaa
open Go.RowKit Go.Shelf
set_option linter.unusedVariables false

/-- places that are reached from the root -/
inductive Reach (ns : List Nd) : Nat → Prop
  | root : Reach ns 0
  | kid {p j : Nat} {n : Nd} : Reach ns p → ns[p]? = some n → (j : Int) ∈ n.ks → Reach ns j
/-- no place is a kid twice -/
structure Tr0 (ns : List Nd) : Prop where
  link : ∀ n ∈ ns, ∀ z ∈ n.ks, 1 ≤ z ∧ z < (ns.length : Int)
  once : ∀ j : Nat, 1 ≤ j → j < ns.length → (kidsOf ns).count (j : Int) = 1
structure Tr (ns : List Nd) : Prop extends Tr0 ns where
  met : ∀ j, j < ns.length → Reach ns j
theorem mem_take_while (p : Int → Bool) : ∀ (l : List Int), ∀ y ∈ l.takeWhile p, p y = true
  | [], y, h => by simp at h
  | a :: l, y, h => by
    rw [List.takeWhile_cons] at h
    split at h
    · rename_i ha
      rcases List.mem_cons.1 h with rfl | h
      · exact ha
      · exact mem_take_while p l y h
    · cases h
theorem drop_nil_mem (p : Int → Bool) (l : List Int) (h : l.dropWhile p = []) : ∀ y ∈ l, p y = true := fun y hy => by
  have hs := List.takeWhile_append_dropWhile (p := p) (l := l)
  rw [h, List.append_nil] at hs
  rw [← hs] at hy
  exact mem_take_while p l y hy
/-- what is met stays met, what is on the stack is met in the end -/
theorem nextD_keep {vis : List Int} : ∀ {st : List (List Int)} {z : Int} {d : Nat} {st' : List (List Int)}, nextD vis st = some (z, d, st') → ∀ ks ∈ st, ∀ y ∈ ks, y ∈ vis ∨ y = z ∨ ∃ ks' ∈ st', y ∈ ks'
  | [], z, d, st', h => by simp [nextD] at h
  | ks :: st, z, d, st', h => by
    unfold nextD at h
    cases hd : ks.dropWhile (fun z => vis.contains z) with
    | nil =>
      rw [hd] at h
      intro l hl y hy
      rcases List.mem_cons.1 hl with rfl | hl
      · have := drop_nil_mem _ _ hd y hy
        exact .inl (by simpa using this)
      · exact nextD_keep h l hl y hy
    | cons a r =>
      rw [hd] at h
      simp only [Option.some.injEq, Prod.mk.injEq] at h
      obtain ⟨rfl, rfl, rfl⟩ := h
      intro l hl y hy
      rcases List.mem_cons.1 hl with rfl | hl
      · have hs := List.takeWhile_append_dropWhile (p := fun z => vis.contains z) (l := l)
        rw [← hs, hd] at hy
        rcases List.mem_append.1 hy with hy | hy
        · have := mem_take_while _ _ y hy
          exact .inl (by simpa using this)
        · rcases List.mem_cons.1 hy with rfl | hy
          · exact .inr (.inl rfl)
          · exact .inr (.inr ⟨r, by simp, hy⟩)
      · exact .inr (.inr ⟨l, by simp [hl], hy⟩)
theorem nextD_none {vis : List Int} : ∀ {st : List (List Int)}, nextD vis st = none → ∀ ks ∈ st, ∀ y ∈ ks, y ∈ vis
  | [], _ => fun ks hk => by cases hk
  | ks :: st, h => by
    unfold nextD at h
    cases hd : ks.dropWhile (fun z => vis.contains z) with
    | nil =>
      rw [hd] at h
      intro l hl y hy
      rcases List.mem_cons.1 hl with rfl | hl
      · have := drop_nil_mem _ _ hd y hy
        simpa using this
      · exact nextD_none h l hl y hy
    | cons a r => rw [hd] at h; simp at h
theorem Runs.closed {kf : Int → List Int} {pre : List (Int × Nat)} {vis : List Int} {st : List (List Int)} (h : Runs kf pre vis st) : ((0 : Int) ∈ vis ∨ ∃ ks ∈ st, (0 : Int) ∈ ks) ∧ ∀ z ∈ vis, ∀ y ∈ kf z, y ∈ vis ∨ ∃ ks ∈ st, y ∈ ks := by
  induction h with
  | nil => exact ⟨.inr ⟨[0], by simp, by simp⟩, fun z hz => by cases hz⟩
  | @step pre vis st z d st' h hn ih =>
    have hk := nextD_keep hn
    have key : ∀ y, (y ∈ vis ∨ ∃ ks ∈ st, y ∈ ks) → y ∈ z :: vis ∨ ∃ ks ∈ kf z :: st', y ∈ ks := fun y hy => by
      rcases hy with hy | ⟨ks, h1, h2⟩
      · exact .inl (by simp [hy])
      · rcases hk ks h1 y h2 with h | rfl | ⟨ks', h3, h4⟩
        · exact .inl (by simp [h])
        · exact .inl (by simp)
        · exact .inr ⟨ks', by simp [h3], h4⟩
    refine ⟨key 0 ih.1, fun x hx y hy => ?_⟩
    rcases List.mem_cons.1 hx with rfl | hx
    · exact .inr ⟨kf x, by simp, hy⟩
    · exact key y (ih.2 x hx y hy)
/-- what is reached is met by the walk -/
theorem reach_met {ns : List Nd} (h1 : 1 ≤ ns.length) (hl : ∀ n ∈ ns, ∀ z ∈ n.ks, 1 ≤ z ∧ z < (ns.length : Int)) {j : Nat} (hj : Reach ns j) : ∃ d, ((j : Int), d) ∈ walkL ns.length (kfOf ns) := by
  have hki := kids_in hl
  obtain ⟨vis, st, hr, hn⟩ := walk_facts h1 hki
  obtain ⟨c0, c1⟩ := hr.closed
  have hnn := nextD_none hn
  have hvis := hr.vis
  suffices (j : Int) ∈ vis by
    rw [hvis] at this
    obtain ⟨x, hx, e⟩ := List.mem_map.1 (List.mem_reverse.1 this)
    exact ⟨x.2, by rw [← e]; exact hx⟩
  induction hj with
  | root => rcases c0 with h | ⟨ks, h2, h3⟩
            · exact h
            · exact hnn ks h2 _ h3
  | @kid p j n hp hnp hjk ih =>
    have : (j : Int) ∈ kfOf ns (p : Int) := by
      unfold kfOf
      rw [Int.toNat_natCast, hnp]; exact hjk
    rcases c1 _ ih _ this with h | ⟨ks, h2, h3⟩
    · exact h
    · exact hnn ks h2 _ h3
theorem Tr.stray {ns : List Nd} (h : Tr ns) (h1 : 1 ≤ ns.length) : ((tms ns.length (kidsOf ns)).zip (depthsP ns)).any strayB = false := by
  rw [List.any_eq_false]
  intro x hx
  obtain ⟨j, hj⟩ := List.mem_iff_getElem?.1 hx
  obtain ⟨hlt, he⟩ := List.getElem?_eq_some_iff.1 hj
  have hjm : j < ns.length := by have := hlt; simp [tms_len] at this; omega
  have hk0 : ∀ z ∈ kidsOf ns, 0 ≤ z := fun z hz => by
    obtain ⟨a, ha, hz'⟩ := List.mem_flatMap.1 hz
    have := h.link a ha z hz'; omega
  have ht := tms_get ns.length (kidsOf ns) hk0 j hjm
  have htl : j < (tms ns.length (kidsOf ns)).length := by rw [tms_len]; exact hjm
  have hdl : j < (depthsP ns).length := by unfold depthsP; rw [depL_len]; exact hjm
  rw [List.getElem?_eq_getElem htl] at ht
  simp only [Option.getD_some] at ht
  have hone : (tms ns.length (kidsOf ns))[j] = 1 := by
    rw [ht]
    by_cases h0 : j = 0
    · subst h0
      rw [if_pos rfl, List.count_eq_zero_of_not_mem]
      · rfl
      · intro hm
        obtain ⟨a, ha, hz'⟩ := List.mem_flatMap.1 hm
        have := h.link a ha _ hz'; omega
    · rw [if_neg h0, h.once j (by omega) hjm]; rfl
  -- its depth
  have hki := kids_in h.link
  obtain ⟨vis, st, hr, hn⟩ := walk_facts h1 hki
  have hg := hr.good h1 hki
  have hvis := hr.vis
  obtain ⟨d, hd⟩ := reach_met h1 h.link (h.met j hjm)
  have hnd : ((walkL ns.length (kfOf ns)).map Prod.fst).Nodup := by have := hg.nd; rw [hvis] at this; exact (List.reverse_perm _).nodup_iff.1 this
  have hrng : ∀ x ∈ walkL ns.length (kfOf ns), 0 ≤ x.1 := fun x hx => (hg.vrng x.1 (by rw [hvis]; simp; exact ⟨x.2, hx⟩)).1
  have hset := set_get ns.length (List.replicate ns.length 0) (by simp) (walkL ns.length (kfOf ns)) hrng j hjm d (fun y hy ey => by
    have := count_unique (P := walkL ns.length (kfOf ns)) (z := (j : Int)) (by rw [hnd.count, if_pos (List.mem_map.2 ⟨_, hd, rfl⟩)]) y hy _ hd ey rfl
    rw [this])
  rw [if_pos ⟨_, hd, rfl⟩] at hset
  have hd1 := (hr.one _ hd).1
  have hdep : (depthsP ns)[j] ≠ 0 := by
    have h2 : (depthsP ns)[j]?.getD 0 = (d : Int) := hset
    rw [List.getElem?_eq_getElem hdl] at h2
    simp only [Option.getD_some] at h2
    rw [h2]; omega
  rw [← he, List.getElem_zip]
  simp [strayB, hone, hdep]
theorem Fine.tr {ns : List Nd} (F : Fine ns) : Tr ns := by
  have hz : ∀ j, j < ns.length → (tms ns.length (kidsOf ns))[j]?.getD 0 = 1 := fun j hj => by
    have hs := F.stray
    rw [List.any_eq_false] at hs
    have hl : j < (tms ns.length (kidsOf ns)).length := by rw [tms_len]; exact hj
    have hd : j < (depthsP ns).length := by unfold depthsP; rw [depL_len]; exact hj
    have := hs ((tms ns.length (kidsOf ns))[j], (depthsP ns)[j]) (List.mem_iff_getElem?.2 ⟨j, by rw [List.getElem?_eq_getElem (by simp; omega)]; simp⟩)
    simp [strayB] at this
    rw [List.getElem?_eq_getElem hl]
    simpa using this.1
  have hk0 : ∀ z ∈ kidsOf ns, 0 ≤ z := fun z hz => by
    obtain ⟨a, ha, hz'⟩ := List.mem_flatMap.1 hz
    have := F.link a ha z hz'; omega
  refine ⟨⟨F.link, fun j h1 h2 => ?_⟩, fun j hj => ?_⟩
  · have ht := tms_get ns.length (kidsOf ns) hk0 j h2
    rw [hz j h2, if_neg (by omega)] at ht
    omega
  · have hO := ords F
    -- met by the walk, and so reached
    have hki := kids_in F.link
    obtain ⟨vis, st, hr, hn⟩ := walk_facts F.len1 hki
    have hup := hr.up
    have hall : ∀ (i : Nat) (z : Int) (d : Nat), (walkL ns.length (kfOf ns))[i]? = some (z, d) → 0 ≤ z ∧ Reach ns z.toNat := by
      intro i
      induction i using Nat.strongRecOn with
      | _ i ih =>
        intro z d hz
        rcases hup i z d hz with ⟨_, rfl, _⟩ | ⟨a, q, e, hai, hq, hzq, _⟩
        · exact ⟨by omega, .root⟩
        · obtain ⟨hq0, hqr⟩ := ih a hai q e hq
          have hmem : ∃ n, ns[q.toNat]? = some n ∧ z ∈ n.ks := by
            unfold kfOf at hzq
            cases hnq : ns[q.toNat]? with
            | none => rw [hnq] at hzq; simp at hzq
            | some n => rw [hnq] at hzq; exact ⟨n, rfl, by simpa using hzq⟩
          obtain ⟨n, hn1, hn2⟩ := hmem
          have hzl := F.link n (List.mem_iff_getElem?.2 ⟨_, hn1⟩) z hn2
          exact ⟨by omega, .kid hqr hn1 (by rw [Int.toNat_of_nonneg (by omega)]; exact hn2)⟩
    have hdn : (depthsP ns)[j]?.getD 0 ≠ 0 := by
      have hs := F.stray
      rw [List.any_eq_false] at hs
      have hl : j < (tms ns.length (kidsOf ns)).length := by rw [tms_len]; exact hj
      have hd : j < (depthsP ns).length := by unfold depthsP; rw [depL_len]; exact hj
      have := hs ((tms ns.length (kidsOf ns))[j], (depthsP ns)[j]) (List.mem_iff_getElem?.2 ⟨j, by rw [List.getElem?_eq_getElem (by simp; omega)]; simp⟩)
      simp [strayB] at this
      rw [List.getElem?_eq_getElem hd]
      simpa using this.2
    have hex : ∃ x ∈ walkL ns.length (kfOf ns), x.1 = (j : Int) := by
      by_cases hx : ∃ x ∈ walkL ns.length (kfOf ns), x.1 = (j : Int)
      · exact hx
      · exfalso
        have hrng : ∀ x ∈ walkL ns.length (kfOf ns), 0 ≤ x.1 := fun x hx' => by
          obtain ⟨i, hi⟩ := List.mem_iff_getElem?.1 hx'
          exact (hall i x.1 x.2 hi).1
        have hset := set_get ns.length (List.replicate ns.length 0) (by simp) (walkL ns.length (kfOf ns)) hrng j hj 0 (fun y hy ey => absurd ⟨y, hy, ey⟩ hx)
        rw [if_neg hx] at hset
        have h2 : (depthsP ns)[j]?.getD 0 = (List.replicate ns.length (0 : Int))[j]?.getD 0 := hset
        rw [h2] at hdn
        simp [hj] at hdn
    obtain ⟨x, hx, ex⟩ := hex
    obtain ⟨i, hi⟩ := List.mem_iff_getElem?.1 hx
    have := (hall i x.1 x.2 hi).2
    rwa [ex, Int.toNat_natCast] at this
end Go.Proofs.Ytecnapecmioamaa