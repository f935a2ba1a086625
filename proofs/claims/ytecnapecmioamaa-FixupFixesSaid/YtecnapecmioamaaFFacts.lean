/- What holds of a page that is fixed: how many nodes and kids there are, that each kid may stand where it does. Plain data. -/
import Derived.Test.YtecnapecmioamaaFFix
import Derived.Test.YtecnapecmioamaaTOrds
namespace Go.Proofs.Ytecnapecmioamaa
open Go.RowKit Go.Shelf
set_option linter.unusedVariables false

theorem fixP_ex {ns : List Nd} (h : Way ns) (hk : (kidsOf ns).length ≤ ns.length) : ∃ i, i = (iterB ns i).length ∧ fixP ns = iterB ns i := by
  have key : ∀ N, (∀ i, i < N → i < (iterB ns i).length) ∨ ∃ i, i = (iterB ns i).length := by
    intro N
    induction N with
    | zero => exact .inl fun i h => by omega
    | succ N ih =>
      rcases ih with ih | h
      · by_cases hN : N < (iterB ns N).length
        · exact .inl fun i hi => by
            by_cases e : i = N
            · subst e; exact hN
            · exact ih i (by omega)
        · refine .inr ⟨N, ?_⟩
          cases N with
          | zero => omega
          | succ M =>
            have h1 := ih M (by omega)
            have h2 := iter_len ns M (M + 1) (by omega)
            omega
      · exact .inr h
  rcases key (ns.length + 3 * (kidsOf ns).length + 1) with h1 | ⟨i, hi⟩
  · have h2 := h1 (ns.length + 3 * (kidsOf ns).length) (by omega)
    have := iter_bound h hk (ns.length + 3 * (kidsOf ns).length) (by omega)
    omega
  · exact ⟨i, hi, fixP_of h hk i hi⟩
theorem FK_count (p : Int → Bool) (n : Nat) (ks : List Int) : (FK p n ks).1.length = (ks.filter p).length + (FK p n ks).2.1.length := by
  suffices ∀ (b : List Int) (st : List Int × List (List Int) × Bool) (c : Nat), st.1.length = c + st.2.1.length → (st.2.2 = true → st.2.1 ≠ []) → (b.foldl (stepK p n) st).1.length = c + (b.filter p).length + (b.foldl (stepK p n) st).2.1.length by
    have := this ks ([], [], false) 0 (by simp) (by simp)
    simpa [FK] using this
  intro b
  induction b with
  | nil => intro st c h _; simpa using h
  | cons a b ih =>
    intro st c h h2
    rw [List.foldl_cons]
    by_cases hp : p a = true
    · have e : stepK p n st a = (st.1 ++ [a], st.2.1, false) := by unfold stepK; rw [if_pos hp]
      rw [e, ih _ (c + 1) (by simp; omega) (by simp)]
      simp [hp]; omega
    · by_cases ho : st.2.2 = true
      · have hne := List.length_pos_iff.2 (h2 ho)
        have e : stepK p n st a = (st.1, st.2.1.dropLast ++ [st.2.1.getLast?.getD [] ++ [a]], true) := by unfold stepK; rw [if_neg hp, if_pos ho]
        rw [e, ih _ c (by simp; omega) (by simp)]
        simp [hp]
      · have e : stepK p n st a = (st.1 ++ [((n + st.2.1.length : Nat) : Int)], st.2.1 ++ [[a]], true) := by unfold stepK; rw [if_neg hp, if_neg ho]
        rw [e, ih _ c (by simp; omega) (by simp)]
        simp [hp]
theorem kids_set (ns : List Nd) (i : Nat) (n : Nd) (ks : List Int) (h : ns[i]? = some n) : (kidsOf (ns.set i { n with ks := ks })).length + n.ks.length = (kidsOf ns).length + ks.length := by
  induction ns generalizing i with
  | nil => simp at h
  | cons a ns ih =>
    cases i with
    | zero =>
      simp at h
      subst h
      simp [kidsOf]; omega
    | succ i =>
      simp at h
      have := ih i h
      simp [kidsOf] at this ⊢; omega
theorem filter_len (p : Int → Bool) (l : List Int) : (l.filter p).length + (l.filter fun z => !p z).length = l.length := by
  induction l with
  | nil => rfl
  | cons a l ih =>
    rw [List.filter_cons, List.filter_cons]
    cases h : p a <;> simp <;> omega
theorem kids_fix {ns : List Nd} (i : Nat) : (kidsOf (fixB ns i)).length + ns.length = (kidsOf ns).length + (fixB ns i).length := by
  unfold fixB
  cases hi : ns[i]? with
  | none => rfl
  | some n =>
    simp only
    have h1 := kids_set ns i n (FK (mayAt n.k ns) ns.length n.ks).1 hi
    have h2 := FK_count (mayAt n.k ns) ns.length n.ks
    have h3 := filter_len (mayAt n.k ns) n.ks
    have h4 : (kidsOf ((FK (mayAt n.k ns) ns.length n.ks).2.1.map (newNd n.k))).length = (n.ks.filter fun z => !mayAt n.k ns z).length := by
      rw [← FK_flat (mayAt n.k ns) ns.length n.ks]
      unfold kidsOf
      rw [List.flatMap_map, List.flatMap_def]
      congr 2
      exact List.map_id _
    have h5 : ∀ a b : List Nd, (kidsOf (a ++ b)).length = (kidsOf a).length + (kidsOf b).length := fun a b => by simp [kidsOf]
    rw [h5, h4]
    simp only [List.length_append, List.length_set, List.length_map]
    omega
theorem kids_iter (ns : List Nd) : ∀ i, (kidsOf (iterB ns i)).length + ns.length = (kidsOf ns).length + (iterB ns i).length
  | 0 => rfl
  | i + 1 => by
    have h1 := kids_iter ns i
    have h2 := kids_fix (ns := iterB ns i) i
    show (kidsOf (fixB (iterB ns i) i)).length + _ = _ + (fixB (iterB ns i) i).length
    omega
theorem Fine.kids_eq {ns : List Nd} (F : Fine ns) : (kidsOf ns).length + 1 = ns.length := by
  have hl1 := F.len1
  have hrng : ∀ z ∈ kidsOf ns, 1 ≤ z ∧ z < (ns.length : Int) := fun z hz => by
    unfold kidsOf at hz
    obtain ⟨n, hn, hz'⟩ := List.mem_flatMap.1 hz
    exact F.link n hn z hz'
  have hcnt : ∀ j : Nat, 1 ≤ j → j < ns.length → (kidsOf ns).count (j : Int) = 1 := fun j h1 h2 => by
    have ht := tms_get ns.length (kidsOf ns) (fun z hz => by have := hrng z hz; omega) j h2
    have hs := F.stray
    rw [List.any_eq_false] at hs
    have hl : j < (tms ns.length (kidsOf ns)).length := by rw [tms_len]; omega
    have hd : j < (depthsP ns).length := by unfold depthsP; rw [depL_len]; omega
    have := hs ((tms ns.length (kidsOf ns))[j], (depthsP ns)[j]) (List.mem_iff_getElem?.2 ⟨j, by rw [List.getElem?_eq_getElem (by simp; omega)]; simp⟩)
    rw [List.getElem?_eq_getElem hl] at ht
    simp only [Option.getD_some] at ht
    simp [strayB] at this
    rw [ht, if_neg (by omega)] at this
    omega
  have hnd : (kidsOf ns).Nodup := by
    rw [List.nodup_iff_count]
    intro z
    by_cases hz : z ∈ kidsOf ns
    · have hb := hrng z hz
      obtain ⟨j, rfl⟩ : ∃ j : Nat, z = (j : Int) := ⟨z.toNat, by omega⟩
      rw [hcnt j (by omega) (by omega)]; omega
    · rw [List.count_eq_zero_of_not_mem hz]; omega
  have hL : (((List.range (ns.length - 1)).map fun i => ((i + 1 : Nat) : Int))).Nodup := by
    rw [List.nodup_iff_pairwise_ne, List.pairwise_map]
    exact List.nodup_range.imp fun h => by omega
  have h1 := nodup_sub (kidsOf ns) ((List.range (ns.length - 1)).map fun i => ((i + 1 : Nat) : Int)) hnd fun z hz => by
    have := hrng z hz
    exact List.mem_map.2 ⟨z.toNat - 1, List.mem_range.2 (by omega), by omega⟩
  have h2 := nodup_sub _ (kidsOf ns) hL fun z hz => by
    obtain ⟨i, hi, rfl⟩ := List.mem_map.1 hz
    have := List.mem_range.1 hi
    exact List.count_pos_iff.1 (by rw [hcnt (i + 1) (by omega) (by omega)]; omega)
  simp at h1 h2
  omega
theorem fixPg_more {ns : List Nd} (F : Fine ns) (hK : ∀ n ∈ ns, n.ks.length ≤ 70000) : (fixPg ns).length ≤ 4 * ns.length ∧ (kidsOf (fixPg ns)).length + 1 = (fixPg ns).length := by
  have hW := F.way hK
  have hkk : (kidsOf (ns.map compB)).length ≤ (ns.map compB).length := by rw [kids_comp, List.length_map]; exact F.nodup
  obtain ⟨i, hi, he⟩ := fixP_ex hW hkk
  have hb := iter_bound hW hkk i (by omega)
  have hc := kids_iter (ns.map compB) i
  have hq := F.kids_eq
  unfold fixPg
  rw [he]
  rw [kids_comp, List.length_map] at *
  omega
/-- kids of the nodes that are done may stand where they do -/
theorem may_fix {ns : List Nd} (h : Way ns) (i : Nat) (hd : ∀ j n, j < i → ns[j]? = some n → ∀ z ∈ n.ks, mayAt n.k ns z = true) : ∀ j n, j < i + 1 → (fixB ns i)[j]? = some n → ∀ z ∈ n.ks, mayAt n.k (fixB ns i) z = true := by
  cases hi : ns[i]? with
  | none =>
    have e : fixB ns i = ns := by unfold fixB; rw [hi]
    rw [e]
    intro j n hj hn z hz
    by_cases hji : j = i
    · subst hji; rw [hi] at hn; cases hn
    · exact hd j n (by omega) hn z hz
  | some a =>
    have hil := (List.getElem?_eq_some_iff.1 hi).1
    have ha := List.mem_iff_getElem?.2 ⟨i, hi⟩
    have e : fixB ns i = ns.set i { a with ks := (FK (mayAt a.k ns) ns.length a.ks).1 } ++ (FK (mayAt a.k ns) ns.length a.ks).2.1.map (newNd a.k) := by unfold fixB; rw [hi]
    have hkd : ∀ z : Int, 0 ≤ z → z < (ns.length : Int) → kdOf (fixB ns i) z.toNat = kdOf ns z.toNat := fun z h0 h1 => by
      rw [e]; exact kdOf_set ns i a _ hi _ _ (by omega)
    intro j n hj hn z hz
    by_cases hji : j = i
    · subst hji
      rw [e, List.getElem?_append_left (by simpa using hil), List.getElem?_set_self hil] at hn
      injection hn with hn
      subst hn
      rcases FK_kids _ _ _ z hz with ⟨h1, h2⟩ | ⟨q, h1, h2⟩
      · have := h.kids a ha z h1
        unfold mayAt at h2 ⊢
        rw [hkd z this.1 this.2]; exact h2
      · subst h2
        have hk : kdOf (fixB ns j) (((ns.length + q : Nat) : Int)).toNat = aroundP a.k := by
          unfold kdOf
          rw [e, Int.toNat_natCast, List.getElem?_append_right (by simp), List.getElem?_map]
          simp only [List.length_set, Nat.add_sub_cancel_left]
          rw [List.getElem?_eq_getElem h1]; rfl
        unfold mayAt
        rw [hk]
        obtain ⟨run, hr⟩ : ∃ run, (FK (mayAt a.k ns) ns.length a.ks).2.1[q]? = some run := ⟨_, List.getElem?_eq_getElem h1⟩
        have hrm := List.mem_iff_getElem?.2 ⟨q, hr⟩
        obtain ⟨y, hy⟩ := List.exists_mem_of_ne_nil _ (FK_ne _ _ _ run hrm)
        have hy2 := (FK_run _ _ _ run hrm).2 y hy
        have hka := h.kind a ha
        have hky := h.kd y.toNat
        refine (wt_step hka.1 hka.2 (fun e => ?_) (fun e => ?_) hky.1 hky.2 hy2.2).2.2
        · have := h.none a ha (.inl e); rw [this] at hy2; simp at hy2
        · have := h.none a ha (.inr e); rw [this] at hy2; simp at hy2
    · rw [e, List.getElem?_append_left (by simp; omega), List.getElem?_set_ne (fun e => hji e.symm)] at hn
      have := h.kids n (List.mem_iff_getElem?.2 ⟨j, hn⟩) z hz
      have h2 := hd j n (by omega) hn z hz
      unfold mayAt at h2 ⊢
      rw [hkd z this.1 this.2]; exact h2
theorem may_iter {ns : List Nd} (h : Way ns) : ∀ i j n, j < i → (iterB ns i)[j]? = some n → ∀ z ∈ n.ks, mayAt n.k (iterB ns i) z = true
  | 0 => fun j n hj => by omega
  | i + 1 => may_fix (h.iter i) i (may_iter h i)
theorem fixPg_stands {ns : List Nd} (F : Fine ns) (hK : ∀ n ∈ ns, n.ks.length ≤ 70000) : Way (fixPg ns) ∧ ∀ n ∈ fixPg ns, ∀ z ∈ n.ks, mayAt n.k (fixPg ns) z = true := by
  have hW := F.way hK
  have hkk : (kidsOf (ns.map compB)).length ≤ (ns.map compB).length := by rw [kids_comp, List.length_map]; exact F.nodup
  obtain ⟨i, hi, he⟩ := fixP_ex hW hkk
  unfold fixPg
  rw [he]
  refine ⟨hW.iter i, fun n hn z hz => ?_⟩
  obtain ⟨j, hj⟩ := List.mem_iff_getElem?.1 hn
  have hl := (List.getElem?_eq_some_iff.1 hj).1
  exact may_iter hW i j n (by omega) hj z hz
end Go.Proofs.Ytecnapecmioamaa
