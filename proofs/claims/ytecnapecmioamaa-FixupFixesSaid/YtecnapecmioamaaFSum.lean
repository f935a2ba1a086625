/- A page that is fixed, as plain data: how many nodes there may come to be; what stays true of each page on the way. -/
import Derived.Test.YtecnapecmioamaaFPlain
namespace Go.Proofs.Ytecnapecmioamaa
open Go.RowKit Go.Shelf
set_option linter.unusedVariables false

/-- a wrong kid goes into just one run, in order -/
theorem FK_flat (p : Int → Bool) (n : Nat) (ks : List Int) : (FK p n ks).2.1.flatten = ks.filter (fun z => !p z) := by
  suffices ∀ (b : List Int) (st : List Int × List (List Int) × Bool), (st.2.2 = true → st.2.1 ≠ []) → (b.foldl (stepK p n) st).2.1.flatten = st.2.1.flatten ++ b.filter (fun z => !p z) by
    have := this ks ([], [], false) (by simp)
    simpa [FK] using this
  intro b
  induction b with
  | nil => intro st _; simp
  | cons a b ih =>
    intro st hst
    rw [List.foldl_cons]
    by_cases hp : p a = true
    · have e : stepK p n st a = (st.1 ++ [a], st.2.1, false) := by unfold stepK; rw [if_pos hp]
      rw [e, ih _ (by simp)]
      simp [hp]
    · by_cases ho : st.2.2 = true
      · have hne := hst ho
        have e : stepK p n st a = (st.1, st.2.1.dropLast ++ [st.2.1.getLast?.getD [] ++ [a]], true) := by unfold stepK; rw [if_neg hp, if_pos ho]
        rw [e, ih _ (by simp)]
        have hs := List.dropLast_concat_getLast hne
        rw [List.getLast?_eq_some_getLast hne]
        have : st.2.1.flatten = st.2.1.dropLast.flatten ++ st.2.1.getLast hne := by
          conv => lhs; rw [← hs]
          simp
        rw [this]
        simp [hp]
      · have e : stepK p n st a = (st.1 ++ [((n + st.2.1.length : Nat) : Int)], st.2.1 ++ [[a]], true) := by unfold stepK; rw [if_neg hp, if_neg ho]
        rw [e, ih _ (by simp)]
        simp [hp]
theorem FK_ne (p : Int → Bool) (n : Nat) (ks : List Int) : ∀ run ∈ (FK p n ks).2.1, run ≠ [] := by
  suffices ∀ (b : List Int) (st : List Int × List (List Int) × Bool), (∀ run ∈ st.2.1, run ≠ []) → ∀ run ∈ (b.foldl (stepK p n) st).2.1, run ≠ [] from this ks _ (by simp)
  intro b
  induction b with
  | nil => intro st h; exact h
  | cons a b ih =>
    intro st h
    rw [List.foldl_cons]
    refine ih _ fun run hr => ?_
    unfold stepK at hr
    split at hr
    · exact h run hr
    · split at hr
      · rcases List.mem_append.1 hr with hr | hr
        · exact h run (List.dropLast_subset _ hr)
        · simp at hr; subst hr; simp
      · rcases List.mem_append.1 hr with hr | hr
        · exact h run hr
        · simp at hr; subst hr; simp
theorem FK_kids (p : Int → Bool) (n : Nat) (ks : List Int) : ∀ z ∈ (FK p n ks).1, (z ∈ ks ∧ p z = true) ∨ ∃ j, j < (FK p n ks).2.1.length ∧ z = ((n + j : Nat) : Int) := by
  suffices ∀ (b : List Int) (st : List Int × List (List Int) × Bool) (P : Int → Prop), (∀ z, P z → p z = true) → (∀ z ∈ b, p z = true → P z) → (∀ z ∈ st.1, P z ∨ ∃ j, j < st.2.1.length ∧ z = ((n + j : Nat) : Int)) → (st.2.2 = true → st.2.1 ≠ []) →
      ∀ z ∈ (b.foldl (stepK p n) st).1, P z ∨ ∃ j, j < (b.foldl (stepK p n) st).2.1.length ∧ z = ((n + j : Nat) : Int) from
    this ks ([], [], false) (fun z => z ∈ ks ∧ p z = true) (fun z h => h.2) (fun z hz hp => ⟨hz, hp⟩) (by simp) (by simp)
  intro b
  induction b with
  | nil => intro st P _ _ h _; exact h
  | cons a b ih =>
    intro st P h1 h2 h3 h4
    rw [List.foldl_cons]
    have hmono : ∀ (st' : List Int × List (List Int) × Bool), True := fun _ => trivial
    refine ih (stepK p n st a) P h1 (fun z hz hp => h2 z (by simp [hz]) hp) ?_ ?_
    · intro z hz
      unfold stepK at hz ⊢
      split at hz
      · rename_i hp
        rw [if_pos hp]
        rcases List.mem_append.1 hz with hz | hz
        · exact h3 z hz
        · obtain rfl : z = a := by simpa using hz
          exact .inl (h2 z (by simp) hp)
      · rename_i hp
        rw [if_neg hp]
        split at hz
        · rename_i ho
          rw [if_pos ho]
          have hne := h4 ho
          have : 0 < st.2.1.length := List.length_pos_iff.2 hne
          rcases h3 z hz with h | ⟨j, hj, e⟩
          · exact .inl h
          · exact .inr ⟨j, by simp; omega, e⟩
        · rename_i ho
          rw [if_neg ho]
          rcases List.mem_append.1 hz with hz | hz
          · rcases h3 z hz with h | ⟨j, hj, e⟩
            · exact .inl h
            · exact .inr ⟨j, by simp; omega, e⟩
          · exact .inr ⟨st.2.1.length, by simp, by simpa using hz⟩
    · unfold stepK
      split
      · simp
      · split <;> simp
theorem FK_run (p : Int → Bool) (n : Nat) (ks : List Int) : ∀ run ∈ (FK p n ks).2.1, run.length ≤ ks.length ∧ ∀ z ∈ run, z ∈ ks ∧ p z = false := fun run hr => by
  have hf := FK_flat p n ks
  have hsub : run.Sublist (FK p n ks).2.1.flatten := List.sublist_flatten_of_mem hr
  rw [hf] at hsub
  refine ⟨Nat.le_trans hsub.length_le (List.length_filter_le _ _), fun z hz => ?_⟩
  have := hsub.subset hz
  simpa using this
theorem news_le (p : Int → Bool) (n : Nat) (ks : List Int) : (FK p n ks).2.1.length ≤ (ks.filter (fun z => !p z)).length := by
  rw [← FK_flat p n ks]
  have hne := FK_ne p n ks
  generalize (FK p n ks).2.1 = L at hne
  induction L with
  | nil => simp
  | cons a L ih =>
    have ha : 0 < a.length := List.length_pos_iff.2 (hne a (by simp))
    have := ih (fun r hr => hne r (by simp [hr]))
    simp at this ⊢; omega

/-- how many new nodes come between a node of the kind k and a kid of the kind j, at most -/
def wt (k j : Int) : Nat := if mayP k j then 0 else if mayP (aroundP k) j then 1 else if mayP (aroundP (aroundP k)) j then 2 else 3
theorem wt_le (k j : Int) : wt k j ≤ 3 := by
  unfold wt
  repeat' split
  all_goals omega
set_option maxRecDepth 100000 in
theorem wt_tab : ∀ k ∈ [0, 2, 3, 4, 6, 7, 8, 9, 10], ∀ j ∈ [0, 1, 2, 3, 4, 5, 6, 7, 8, 9, 10], mayP k j = false → wt (aroundP k) j + 1 ≤ wt k j ∧ (aroundP k = 2 ∨ aroundP k = 9 ∨ aroundP k = 10) ∧ mayP k (aroundP k) = true := by decide +kernel
theorem wt_step {k j : Int} (h0 : 0 ≤ k) (h1 : k ≤ 10) (h2 : k ≠ 1) (h3 : k ≠ 5) (g0 : 0 ≤ j) (g1 : j ≤ 10) (hm : mayP k j = false) : wt (aroundP k) j + 1 ≤ wt k j ∧ (aroundP k = 2 ∨ aroundP k = 9 ∨ aroundP k = 10) ∧ mayP k (aroundP k) = true := by
  refine wt_tab k ?_ j ?_ hm
  · simp only [List.mem_cons, List.not_mem_nil, or_false]; omega
  · simp only [List.mem_cons, List.not_mem_nil, or_false]; omega
/-- what is still owed by the nodes of a list -/
def owe (kd : Int → Int) (l : List Nd) : Nat := (l.map fun n => (n.ks.map fun z => wt n.k (kd z)).sum).sum
theorem owe_append (kd : Int → Int) (a b : List Nd) : owe kd (a ++ b) = owe kd a + owe kd b := by simp [owe]
theorem owe_congr {kd kd' : Int → Int} {l : List Nd} (h : ∀ n ∈ l, ∀ z ∈ n.ks, kd z = kd' z) : owe kd l = owe kd' l := by
  unfold owe
  congr 1
  apply List.map_congr_left
  intro n hn
  congr 1
  apply List.map_congr_left
  intro z hz
  rw [h n hn z hz]
/-- a page on the way -/
structure Way (ns : List Nd) : Prop where
  kind : ∀ n ∈ ns, 0 ≤ n.k ∧ n.k ≤ 10
  none : ∀ n ∈ ns, n.k = 1 ∨ n.k = 5 → n.ks = []
  kids : ∀ n ∈ ns, ∀ z ∈ n.ks, 0 ≤ z ∧ z < (ns.length : Int)
  few : ∀ n ∈ ns, n.ks.length ≤ 70000
theorem Way.kd {ns : List Nd} (h : Way ns) (i : Nat) : 0 ≤ kdOf ns i ∧ kdOf ns i ≤ 10 := by
  unfold kdOf
  cases hi : ns[i]? with
  | none => simp
  | some n => exact h.kind n (List.mem_iff_getElem?.2 ⟨i, hi⟩)
theorem kdOf_set (ns : List Nd) (i : Nat) (n : Nd) (ks : List Int) (h : ns[i]? = some n) (l : List Nd) (j : Nat) (hj : j < ns.length) : kdOf (ns.set i { n with ks := ks } ++ l) j = kdOf ns j := by
  rw [kdOf_append _ _ _ (by simpa using hj)]
  unfold kdOf
  by_cases e : i = j
  · subst e
    rw [List.getElem?_set_self hj, h]; rfl
  · rw [List.getElem?_set_ne e]
theorem Way.fix {ns : List Nd} (h : Way ns) (i : Nat) : Way (fixB ns i) := by
  unfold fixB
  cases hi : ns[i]? with
  | none => exact h
  | some n =>
    have hn := List.mem_iff_getElem?.2 ⟨i, hi⟩
    obtain ⟨st, hst⟩ : ∃ st, FK (mayAt n.k ns) ns.length n.ks = st := ⟨_, rfl⟩
    have hl := FK_len (mayAt n.k ns) ns.length n.ks
    have hk := FK_kids (mayAt n.k ns) ns.length n.ks
    have hr := FK_run (mayAt n.k ns) ns.length n.ks
    rw [hst] at hl hk hr
    simp only
    rw [hst]
    have hmem : ∀ a ∈ ns.set i { n with ks := st.1 } ++ st.2.1.map (newNd n.k), a ∈ ns ∨ a = { n with ks := st.1 } ∨ ∃ run ∈ st.2.1, a = newNd n.k run := fun a ha => by
      rcases List.mem_append.1 ha with ha | ha
      · rcases List.mem_or_eq_of_mem_set ha with h | h
        · exact .inl h
        · exact .inr (.inl h)
      · obtain ⟨run, hr, rfl⟩ := List.mem_map.1 ha
        exact .inr (.inr ⟨run, hr, rfl⟩)
    have har : ∀ run ∈ st.2.1, run ≠ [] → aroundP n.k = 2 ∨ aroundP n.k = 9 ∨ aroundP n.k = 10 := fun run hr' hne => by
      obtain ⟨z, hz⟩ := List.exists_mem_of_ne_nil _ hne
      have hz2 := (hr run hr').2 z hz
      have hkd := h.kd z.toNat
      have h1 := h.kind n hn
      have h2 : n.k ≠ 1 := fun e => by have := h.none n hn (.inl e); rw [this] at hz2; simp at hz2
      have h3 : n.k ≠ 5 := fun e => by have := h.none n hn (.inr e); rw [this] at hz2; simp at hz2
      exact (wt_step h1.1 h1.2 h2 h3 hkd.1 hkd.2 hz2.2).2.1
    have hne := FK_ne (mayAt n.k ns) ns.length n.ks
    rw [hst] at hne
    refine ⟨fun a ha => ?_, fun a ha he => ?_, fun a ha z hz => ?_, fun a ha => ?_⟩
    · rcases hmem a ha with h' | rfl | ⟨run, hr', rfl⟩
      · exact h.kind a h'
      · exact h.kind n hn
      · have := har run hr' (hne run hr')
        show 0 ≤ aroundP n.k ∧ aroundP n.k ≤ 10
        omega
    · rcases hmem a ha with h' | rfl | ⟨run, hr', rfl⟩
      · exact h.none a h' he
      · have := h.none n hn he
        rw [this] at hst
        rw [← hst]; rfl
      · have := har run hr' (hne run hr')
        have he' : aroundP n.k = 1 ∨ aroundP n.k = 5 := he
        omega
    · have hlen : (ns.set i { n with ks := st.1 } ++ st.2.1.map (newNd n.k)).length = ns.length + st.2.1.length := by simp
      rw [hlen]
      rcases hmem a ha with h' | rfl | ⟨run, hr', rfl⟩
      · have := h.kids a h' z hz; omega
      · rcases hk z hz with ⟨h1, _⟩ | ⟨j, h1, h2⟩
        · have := h.kids n hn z h1; omega
        · omega
      · have h2 := ((hr run hr').2 z hz).1
        have := h.kids n hn z h2; omega
    · rcases hmem a ha with h' | rfl | ⟨run, hr', rfl⟩
      · exact h.few a h'
      · have := h.few n hn
        show st.1.length ≤ 70000
        omega
      · have h1 := (hr run hr').1
        have := h.few n hn
        show run.length ≤ 70000
        omega
theorem sum_le {α : Type} (f g : α → Nat) (l : List α) (h : ∀ x ∈ l, f x ≤ g x) : (l.map f).sum ≤ (l.map g).sum := by
  induction l with
  | nil => simp
  | cons a l ih =>
    have h1 := h a (by simp)
    have h2 := ih (fun x hx => h x (by simp [hx]))
    simp; omega
theorem sum_filter_le {α : Type} (f : α → Nat) (p : α → Bool) (l : List α) : ((l.filter p).map f).sum ≤ (l.map f).sum := by
  induction l with
  | nil => simp
  | cons a l ih =>
    rw [List.filter_cons]
    split
    · simp; omega
    · simp; omega
theorem sum_flat (f : Int → Nat) (L : List (List Int)) : (L.map fun r => (r.map f).sum).sum = (L.flatten.map f).sum := by
  induction L with
  | nil => rfl
  | cons a L ih => simp at ih ⊢; rw [ih]
/-- a node is fixed: what comes is no more than what it owed -/
theorem owe_fix {ns : List Nd} (h : Way ns) (i : Nat) (hi : i < ns.length) :
    (fixB ns i).length + owe (fun z => kdOf (fixB ns i) z.toNat) ((fixB ns i).drop (i + 1)) ≤ ns.length + owe (fun z => kdOf ns z.toNat) (ns.drop i) := by
  obtain ⟨n, hn⟩ : ∃ n, ns[i]? = some n := ⟨_, List.getElem?_eq_getElem hi⟩
  have hmem := List.mem_iff_getElem?.2 ⟨i, hn⟩
  have hk := h.kind n hmem
  have e0 : fixB ns i = ns.set i { n with ks := (FK (mayAt n.k ns) ns.length n.ks).1 } ++ (FK (mayAt n.k ns) ns.length n.ks).2.1.map (newNd n.k) := by unfold fixB; rw [hn]
  have hkd : ∀ z : Int, 0 ≤ z → z < (ns.length : Int) → kdOf (fixB ns i) z.toNat = kdOf ns z.toNat := fun z h0 h1 => by
    rw [e0]; exact kdOf_set ns i n _ hn _ _ (by omega)
  have hd : (fixB ns i).drop (i + 1) = ns.drop (i + 1) ++ (FK (mayAt n.k ns) ns.length n.ks).2.1.map (newNd n.k) := by
    rw [e0, List.drop_append_of_le_length (by simp; omega), List.drop_set_of_lt (by omega)]
  have hdi : ns.drop i = n :: ns.drop (i + 1) := by
    rw [List.drop_eq_getElem_cons hi]
    congr 1
    rw [List.getElem?_eq_getElem hi] at hn
    injection hn
  have hrun := FK_run (mayAt n.k ns) ns.length n.ks
  have hlen : (fixB ns i).length = ns.length + (FK (mayAt n.k ns) ns.length n.ks).2.1.length := by rw [e0]; simp
  have e1 : owe (fun z => kdOf (fixB ns i) z.toNat) ((fixB ns i).drop (i + 1)) = owe (fun z => kdOf ns z.toNat) (ns.drop (i + 1)) + owe (fun z => kdOf ns z.toNat) ((FK (mayAt n.k ns) ns.length n.ks).2.1.map (newNd n.k)) := by
    rw [hd, owe_append]
    congr 1
    · exact owe_congr fun a ha z hz => by
        have := h.kids a (List.mem_of_mem_drop ha) z hz
        exact hkd z this.1 this.2
    · exact owe_congr fun a ha z hz => by
        obtain ⟨run, hr, rfl⟩ := List.mem_map.1 ha
        have := h.kids n hmem z ((hrun run hr).2 z hz).1
        exact hkd z this.1 this.2
  have e2 : owe (fun z => kdOf ns z.toNat) ((FK (mayAt n.k ns) ns.length n.ks).2.1.map (newNd n.k)) = ((n.ks.filter fun z => !mayAt n.k ns z).map fun z => wt (aroundP n.k) (kdOf ns z.toNat)).sum := by
    rw [← FK_flat (mayAt n.k ns) ns.length n.ks, ← sum_flat]
    unfold owe
    rw [List.map_map]
    rfl
  have e3 : owe (fun z => kdOf ns z.toNat) (ns.drop i) = (n.ks.map fun z => wt n.k (kdOf ns z.toNat)).sum + owe (fun z => kdOf ns z.toNat) (ns.drop (i + 1)) := by
    rw [hdi]
    simp [owe]
  have e4 : ((n.ks.filter fun z => !mayAt n.k ns z).map fun z => wt (aroundP n.k) (kdOf ns z.toNat)).sum + (n.ks.filter fun z => !mayAt n.k ns z).length ≤ ((n.ks.filter fun z => !mayAt n.k ns z).map fun z => wt n.k (kdOf ns z.toNat)).sum := by
    have : ∀ l : List Int, (∀ z ∈ l, wt (aroundP n.k) (kdOf ns z.toNat) + 1 ≤ wt n.k (kdOf ns z.toNat)) → (l.map fun z => wt (aroundP n.k) (kdOf ns z.toNat)).sum + l.length ≤ (l.map fun z => wt n.k (kdOf ns z.toNat)).sum := by
      intro l
      induction l with
      | nil => simp
      | cons a l ih =>
        intro hl
        have h1 := hl a (by simp)
        have h2 := ih (fun z hz => hl z (by simp [hz]))
        simp; omega
    refine this _ fun z hz => ?_
    obtain ⟨hz1, hz2⟩ := List.mem_filter.1 hz
    have hz2' : mayP n.k (kdOf ns z.toNat) = false := by simpa [mayAt] using hz2
    have hkz := h.kd z.toNat
    refine (wt_step hk.1 hk.2 (fun e => ?_) (fun e => ?_) hkz.1 hkz.2 hz2').1
    · have := h.none n hmem (.inl e); rw [this] at hz1; cases hz1
    · have := h.none n hmem (.inr e); rw [this] at hz1; cases hz1
  have e5 := sum_filter_le (fun z => wt n.k (kdOf ns z.toNat)) (fun z => !mayAt n.k ns z) n.ks
  have e6 := news_le (mayAt n.k ns) ns.length n.ks
  rw [e1, e2, e3, hlen]
  omega
/-- the pages on the way: node by node -/
def iterB (ns : List Nd) : Nat → List Nd
  | 0 => ns
  | i + 1 => fixB (iterB ns i) i
theorem Way.iter {ns : List Nd} (h : Way ns) : ∀ i, Way (iterB ns i)
  | 0 => h
  | i + 1 => (h.iter i).fix i
theorem fixB_len (ns : List Nd) (i : Nat) : ns.length ≤ (fixB ns i).length := by
  unfold fixB
  split <;> simp
theorem iter_len (ns : List Nd) : ∀ i j, i ≤ j → (iterB ns i).length ≤ (iterB ns j).length := by
  intro i j
  induction j with
  | zero => intro h; obtain rfl : i = 0 := by omega
            exact Nat.le_refl _
  | succ j ih =>
    intro h
    by_cases e : i = j + 1
    · rw [e]; exact Nat.le_refl _
    · exact Nat.le_trans (ih (by omega)) (fixB_len _ _)
theorem owe_iter {ns : List Nd} (h : Way ns) : ∀ i, i ≤ (iterB ns i).length → (iterB ns i).length + owe (fun z => kdOf (iterB ns i) z.toNat) ((iterB ns i).drop i) ≤ ns.length + owe (fun z => kdOf ns z.toNat) ns := by
  intro i
  induction i with
  | zero => intro _; simp [iterB]
  | succ i ih =>
    intro hi
    by_cases hlt : i < (iterB ns i).length
    · exact Nat.le_trans (owe_fix (h.iter i) i hlt) (ih (by omega))
    · exfalso
      have e : iterB ns (i + 1) = iterB ns i := by
        show fixB (iterB ns i) i = _
        unfold fixB
        rw [List.getElem?_eq_none (by omega)]
      rw [e] at hi; omega
theorem owe_le (kd : Int → Int) (l : List Nd) : owe kd l ≤ 3 * (kidsOf l).length := by
  unfold owe kidsOf
  induction l with
  | nil => simp
  | cons a l ih =>
    have : (a.ks.map fun z => wt a.k (kd z)).sum ≤ 3 * a.ks.length := by
      have key : ∀ l : List Int, (l.map fun z => wt a.k (kd z)).sum ≤ 3 * l.length := by
        intro l
        induction l with
        | nil => simp
        | cons b l ih' => have := wt_le a.k (kd b); simp at ih' ⊢; omega
      exact key a.ks
    simp at ih ⊢; omega
/-- all nodes are done before four times as many as there were -/
theorem iter_bound {ns : List Nd} (h : Way ns) (hk : (kidsOf ns).length ≤ ns.length) (i : Nat) (hi : i ≤ (iterB ns i).length) : (iterB ns i).length ≤ ns.length + 3 * (kidsOf ns).length := by
  have h1 := owe_iter h i hi
  have h2 := owe_le (fun z => kdOf ns z.toNat) ns
  omega
/-- once all are done nothing changes any more -/
theorem iter_stay (ns : List Nd) (i : Nat) (hi : (iterB ns i).length ≤ i) : ∀ j, i ≤ j → iterB ns j = iterB ns i := by
  intro j
  induction j with
  | zero => intro h; obtain rfl : i = 0 := by omega
            rfl
  | succ j ih =>
    intro h
    by_cases e : i = j + 1
    · rw [e]
    · show fixB (iterB ns j) j = _
      have e2 := ih (by omega)
      rw [e2]
      unfold fixB
      rw [List.getElem?_eq_none (by omega)]
/-- the page, fixed -/
def fixP (ns : List Nd) : List Nd := iterB ns (ns.length + 3 * (kidsOf ns).length)
theorem fixP_of {ns : List Nd} (h : Way ns) (hk : (kidsOf ns).length ≤ ns.length) (i : Nat) (hi : i = (iterB ns i).length) : fixP ns = iterB ns i := by
  have hb := iter_bound h hk i (by omega)
  exact iter_stay ns i (by omega) _ (by omega)
end Go.Proofs.Ytecnapecmioamaa
