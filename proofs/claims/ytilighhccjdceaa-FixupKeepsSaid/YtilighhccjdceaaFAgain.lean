/- A page that is fixed is a tree, too: each place is a kid once, and is reached; it may be too deep. Plain data. -/
/- A page that is fixed: Check lets it be or finds it too deep; fixed again it is the same. Plain data. -/
import Derived.Test.YtilighhccjdceaaFFan
import Derived.Test.YtilighhccjdceaaTTr
import Derived.Test.YtilighhccjdceaaFFixed
namespace Go.Proofs.Ytilighhccjdceaa
open Go.RowKit Go.Shelf
set_option linter.unusedVariables false

/-- places of new nodes -/
def newC (n L : Nat) (z : Int) : Nat := ((List.range L).map fun i => ((n + i : Nat) : Int)).count z
theorem newC_succ (n L : Nat) (z : Int) : newC n (L + 1) z = newC n L z + [((n + L : Nat) : Int)].count z := by
  unfold newC
  rw [List.range_succ, List.map_append, List.count_append]; rfl
theorem newC_out {n L : Nat} {z : Int} (h : ¬ ((n : Int) ≤ z ∧ z < (n : Int) + L)) : newC n L z = 0 := by
  unfold newC
  apply List.count_eq_zero_of_not_mem
  intro hm
  obtain ⟨i, hi, e⟩ := List.mem_map.1 hm
  have := List.mem_range.1 hi
  omega
theorem newC_in {n L q : Nat} (h : q < L) : newC n L ((n + q : Nat) : Int) = 1 := by
  induction L with
  | zero => omega
  | succ L ih =>
    rw [newC_succ]
    by_cases e : q = L
    · subst e
      rw [newC_out (by omega)]; simp
    · rw [ih (by omega), List.count_eq_zero_of_not_mem (by simp; omega)]
theorem FK_cnt (p : Int → Bool) (n : Nat) (ks : List Int) (z : Int) : (FK p n ks).1.count z = (ks.filter p).count z + newC n (FK p n ks).2.1.length z := by
  suffices ∀ (b : List Int) (st : List Int × List (List Int) × Bool) (a : List Int), (st.2.2 = true → st.2.1 ≠ []) → st.1.count z = a.count z + newC n st.2.1.length z →
      (b.foldl (stepK p n) st).1.count z = (a ++ b.filter p).count z + newC n (b.foldl (stepK p n) st).2.1.length z from
    this ks ([], [], false) [] (by simp) rfl
  intro b
  induction b with
  | nil => intro st a _ h; rw [List.filter_nil, List.append_nil]; exact h
  | cons c b ih =>
    intro st a hst h
    rw [List.foldl_cons]
    by_cases hp : p c = true
    · have e : stepK p n st c = (st.1 ++ [c], st.2.1, false) := by unfold stepK; rw [if_pos hp]
      rw [e, ih _ (a ++ [c]) (by simp) (by dsimp only; rw [List.count_append, List.count_append, h]; omega), List.filter_cons, if_pos hp, List.append_assoc]; rfl
    · have ef : (c :: b).filter p = b.filter p := by rw [List.filter_cons, if_neg hp]
      by_cases ho : st.2.2 = true
      · have hne := List.length_pos_iff.2 (hst ho)
        have e : stepK p n st c = (st.1, st.2.1.dropLast ++ [st.2.1.getLast?.getD [] ++ [c]], true) := by unfold stepK; rw [if_neg hp, if_pos ho]
        have el : (st.2.1.dropLast ++ [st.2.1.getLast?.getD [] ++ [c]]).length = st.2.1.length := by simp; omega
        rw [e, ih _ a (by simp) (by rw [el]; exact h), ef]
      · have e : stepK p n st c = (st.1 ++ [((n + st.2.1.length : Nat) : Int)], st.2.1 ++ [[c]], true) := by unfold stepK; rw [if_neg hp, if_neg ho]
        rw [e, ih _ a (by simp) ?_, ef]
        rw [List.count_append, h, List.length_append, show [[c]].length = 1 from rfl, newC_succ]; omega
theorem count_set (ns : List Nd) (i : Nat) (n : Nd) (ks : List Int) (z : Int) (h : ns[i]? = some n) : (kidsOf (ns.set i { n with ks := ks })).count z + n.ks.count z = (kidsOf ns).count z + ks.count z := by
  induction ns generalizing i with
  | nil => simp at h
  | cons a ns ih =>
    cases i with
    | zero =>
      simp at h
      subst h
      simp [kidsOf]; omega
    | succ i =>
      simp at h
      have := ih i h
      simp [kidsOf] at this ⊢; omega
theorem count_filter (p : Int → Bool) (l : List Int) (z : Int) : (l.filter p).count z + (l.filter fun z => !p z).count z = l.count z := by
  induction l with
  | nil => rfl
  | cons a l ih =>
    rw [List.filter_cons, List.filter_cons, List.count_cons]
    cases h : p a <;> simp [List.count_cons] <;> omega
theorem Tr.fix {ns : List Nd} (h : Tr ns) (i : Nat) : Tr (fixB ns i) := by
  cases hi : ns[i]? with
  | none =>
    have : fixB ns i = ns := by unfold fixB; rw [hi]
    rw [this]; exact h
  | some n =>
    have hil := (List.getElem?_eq_some_iff.1 hi).1
    have hn := List.mem_iff_getElem?.2 ⟨i, hi⟩
    have e : fixB ns i = ns.set i { n with ks := (FK (mayAt n.k ns) ns.length n.ks).1 } ++ (FK (mayAt n.k ns) ns.length n.ks).2.1.map (newNd n.k) := by unfold fixB; rw [hi]
    have hks : ∀ y ∈ n.ks, y < (ns.length : Int) := fun y hy => (h.link n hn y hy).2
    have hcnt := FK_cnt (mayAt n.k ns) ns.length n.ks
    have hkids := FK_kids (mayAt n.k ns) ns.length n.ks
    have hrun := FK_run (mayAt n.k ns) ns.length n.ks
    have hfl := FK_flat (mayAt n.k ns) ns.length n.ks
    obtain ⟨st, hst⟩ : ∃ st, FK (mayAt n.k ns) ns.length n.ks = st := ⟨_, rfl⟩
    rw [hst] at e hcnt hkids hrun hfl
    have hlen : (fixB ns i).length = ns.length + st.2.1.length := by rw [e]; simp
    have hcount : ∀ z : Int, (kidsOf (fixB ns i)).count z = (kidsOf ns).count z + newC ns.length st.2.1.length z := fun z => by
      have h1 := count_set ns i n st.1 z hi
      have h2 := count_filter (mayAt n.k ns) n.ks z
      have h3 : (kidsOf (st.2.1.map (newNd n.k))).count z = (n.ks.filter fun z => !mayAt n.k ns z).count z := by
        rw [← hfl]
        unfold kidsOf
        rw [List.flatMap_map, List.flatMap_def]
        congr 2
        exact List.map_id _
      have h4 : ∀ a b : List Nd, (kidsOf (a ++ b)).count z = (kidsOf a).count z + (kidsOf b).count z := fun a b => by simp [kidsOf]
      have h5 := hcnt z
      rw [e, h4, h3]
      omega
    have hget : ∀ j, j < ns.length → j ≠ i → (fixB ns i)[j]? = ns[j]? := fun j hj hji => by
      rw [e, List.getElem?_append_left (by simpa using hj), List.getElem?_set_ne (fun e => hji e.symm)]
    have hgi : (fixB ns i)[i]? = some { n with ks := st.1 } := by
      rw [e, List.getElem?_append_left (by simpa using hil), List.getElem?_set_self hil]
    have hnew : ∀ q run, st.2.1[q]? = some run → (fixB ns i)[ns.length + q]? = some (newNd n.k run) := fun q run hq => by
      rw [e, List.getElem?_append_right (by simp)]
      simp only [List.length_set, Nat.add_sub_cancel_left]
      rw [List.getElem?_map, hq]; rfl
    have hin : ∀ q, q < st.2.1.length → (((ns.length + q : Nat) : Int)) ∈ st.1 := fun q hq => by
      have h5 := hcnt ((ns.length + q : Nat) : Int)
      rw [newC_in hq] at h5
      exact List.count_pos_iff.1 (by omega)
    have hold : ∀ j, Reach ns j → Reach (fixB ns i) j := fun j hj => by
      induction hj with
      | root => exact .root
      | @kid p j m hp hm hj ih =>
        have hpl := (List.getElem?_eq_some_iff.1 hm).1
        by_cases hpi : p = i
        · subst hpi
          rw [hi] at hm
          injection hm with hm
          subst hm
          by_cases hmay : mayAt n.k ns (j : Int) = true
          · refine .kid ih hgi (List.count_pos_iff.1 ?_)
            have h5 := hcnt (j : Int)
            have : 0 < (n.ks.filter (mayAt n.k ns)).count (j : Int) := List.count_pos_iff.2 (List.mem_filter.2 ⟨hj, hmay⟩)
            show 0 < st.1.count (j : Int)
            omega
          · have hjf : (j : Int) ∈ st.2.1.flatten := by
              rw [hfl]
              exact List.mem_filter.2 ⟨hj, by simpa using hmay⟩
            obtain ⟨run, hr, hjr⟩ := List.mem_flatten.1 hjf
            obtain ⟨q, hq⟩ := List.mem_iff_getElem?.1 hr
            have hql := (List.getElem?_eq_some_iff.1 hq).1
            exact .kid (.kid ih hgi (hin q hql)) (hnew q run hq) hjr
        · exact .kid ih (by rw [hget p hpl hpi]; exact hm) hj
    refine ⟨⟨fun a ha z hz => ?_, fun j h1 h2 => ?_⟩, fun j hj => ?_⟩
    · rw [hlen]
      have hmem : a ∈ ns ∨ a = { n with ks := st.1 } ∨ ∃ run ∈ st.2.1, a = newNd n.k run := by
        rw [e] at ha
        rcases List.mem_append.1 ha with ha | ha
        · rcases List.mem_or_eq_of_mem_set ha with h | h
          · exact .inl h
          · exact .inr (.inl h)
        · obtain ⟨run, hr, rfl⟩ := List.mem_map.1 ha
          exact .inr (.inr ⟨run, hr, rfl⟩)
      rcases hmem with h' | rfl | ⟨run, hr', rfl⟩
      · have := h.link a h' z hz; omega
      · rcases hkids z hz with ⟨h1, _⟩ | ⟨j, h1, h2⟩
        · have := h.link n hn z h1; omega
        · omega
      · have h2 := ((hrun run hr').2 z hz).1
        have := h.link n hn z h2; omega
    · rw [hcount (j : Int)]
      by_cases hj : j < ns.length
      · rw [h.once j h1 hj, newC_out (by omega)]
      · obtain ⟨q, rfl⟩ : ∃ q, j = ns.length + q := ⟨j - ns.length, by omega⟩
        rw [newC_in (by omega), List.count_eq_zero_of_not_mem]
        intro hm
        obtain ⟨a, ha, hz⟩ := List.mem_flatMap.1 hm
        have := h.link a ha _ hz; omega
    · by_cases hjl : j < ns.length
      · exact hold j (h.met j hjl)
      · obtain ⟨q, rfl⟩ : ∃ q, j = ns.length + q := ⟨j - ns.length, by omega⟩
        exact .kid (hold i (h.met i hil)) hgi (hin q (by omega))
theorem Tr.iter {ns : List Nd} (h : Tr ns) : ∀ i, Tr (iterB ns i)
  | 0 => h
  | i + 1 => (h.iter i).fix i
theorem Tr.comp {ns : List Nd} (h : Tr ns) : Tr (ns.map compB) := by
  refine ⟨⟨fun a ha z hz => ?_, fun j h1 h2 => ?_⟩, fun j hj => ?_⟩
  · obtain ⟨n, hn, rfl⟩ := List.mem_map.1 ha
    rw [List.length_map]; exact h.link n hn z hz
  · rw [kids_comp]; exact h.once j h1 (by simpa using h2)
  · have := h.met j (by simpa using hj)
    clear hj
    induction this with
    | root => exact .root
    | @kid p j n hp hn hj ih => exact .kid (n := compB n) ih (by rw [List.getElem?_map, hn]; rfl) hj
end Go.Proofs.Ytilighhccjdceaa

namespace Go.Proofs.Ytilighhccjdceaa
open Go.RowKit Go.Shelf
set_option linter.unusedVariables false

def GoodN (n : Nd) : Prop := wrongN n = false ∧ compS n.s = n.s
theorem new_valid : validS newSty = true := by decide +kernel
theorem new_comp : compS newSty = newSty := by
  unfold compS newSty
  simp [Sty.zero, compN, compSd_zero]
theorem good_new (k : Int) (run : List Int) (h : aroundP k = 2 ∨ aroundP k = 9 ∨ aroundP k = 10) : GoodN (newNd k run) := by
  refine ⟨?_, new_comp⟩
  have hk : (newNd k run).k = aroundP k := rfl
  have hs : (newNd k run).s = newSty := rfl
  have ht : hasT (newNd k run) = false := rfl
  unfold wrongN
  rw [hk, hs, ht, new_valid, if_neg (by omega), if_neg (by omega)]
  simp; omega
theorem good_set {n : Nd} (ks : List Int) (h : GoodN n) (hk : n.k = 1 ∨ n.k = 5 → ks = []) : GoodN { n with ks := ks } := by
  refine ⟨?_, h.2⟩
  have hw := h.1
  unfold wrongN at hw ⊢
  simp only [Bool.or_eq_false_iff] at hw ⊢
  obtain ⟨h1, h2, h3⟩ := hw
  refine ⟨h1, h2, ?_⟩
  by_cases e1 : n.k = 1
  · rw [if_pos e1] at h3 ⊢
    simp only [Bool.or_eq_false_iff] at h3 ⊢
    exact ⟨by rw [hk (.inl e1)]; rfl, h3.2⟩
  · rw [if_neg e1] at h3 ⊢
    by_cases e5 : n.k = 5
    · rw [if_pos e5] at h3 ⊢
      simp only [Bool.or_eq_false_iff] at h3 ⊢
      exact ⟨by rw [hk (.inr e5)]; rfl, h3.2⟩
    · rw [if_neg e5] at h3 ⊢
      exact h3
theorem good_comp {n : Nd} (hw : wrongN n = false) : GoodN (compB n) :=
  ⟨CompOf.wrong (n := n) (n' := compB n) ⟨rfl, rfl, rfl, rfl, rfl, rfl⟩ hw, comp_again (wrong_valid hw)⟩
theorem good_fix {ns : List Nd} (h : Way ns) (hg : ∀ n ∈ ns, GoodN n) (i : Nat) : ∀ n ∈ fixB ns i, GoodN n := by
  unfold fixB
  cases hi : ns[i]? with
  | none => exact hg
  | some n =>
    have hn := List.mem_iff_getElem?.2 ⟨i, hi⟩
    obtain ⟨st, hst⟩ : ∃ st, FK (mayAt n.k ns) ns.length n.ks = st := ⟨_, rfl⟩
    have hr := FK_run (mayAt n.k ns) ns.length n.ks
    have hne := FK_ne (mayAt n.k ns) ns.length n.ks
    rw [hst] at hr hne
    simp only
    rw [hst]
    intro a ha
    rcases List.mem_append.1 ha with ha | ha
    · rcases List.mem_or_eq_of_mem_set ha with h' | h'
      · exact hg a h'
      · subst h'
        refine good_set st.1 (hg n hn) (fun e => ?_)
        rw [h.none n hn e] at hst
        rw [← hst]; rfl
    · obtain ⟨run, hr', rfl⟩ := List.mem_map.1 ha
      refine good_new _ _ ?_
      obtain ⟨z, hz⟩ := List.exists_mem_of_ne_nil _ (hne run hr')
      have hz2 := (hr run hr').2 z hz
      have hkd := h.kd z.toNat
      have h1 := h.kind n hn
      have h2 : n.k ≠ 1 := fun e => by have := h.none n hn (.inl e); rw [this] at hz2; simp at hz2
      have h3 : n.k ≠ 5 := fun e => by have := h.none n hn (.inr e); rw [this] at hz2; simp at hz2
      exact (wt_step h1.1 h1.2 h2 h3 hkd.1 hkd.2 hz2.2).2.1
theorem good_iter {ns : List Nd} (h : Way ns) (hg : ∀ n ∈ ns, GoodN n) : ∀ i, ∀ n ∈ iterB ns i, GoodN n
  | 0 => hg
  | i + 1 => good_fix (h.iter i) (good_iter h hg i) i
theorem FK_all (p : Int → Bool) (n : Nat) (ks : List Int) (h : ∀ z ∈ ks, p z = true) : (FK p n ks).1 = ks ∧ (FK p n ks).2.1 = [] := by
  unfold FK
  by_cases e : ks = []
  · subst e; exact ⟨rfl, rfl⟩
  · rw [fold_true p n ks ([], [], false) h e]; exact ⟨rfl, rfl⟩
theorem fixB_stay {ns : List Nd} (h : ∀ n ∈ ns, ∀ z ∈ n.ks, mayAt n.k ns z = true) (i : Nat) : fixB ns i = ns := by
  unfold fixB
  cases hi : ns[i]? with
  | none => rfl
  | some n =>
    have hn := List.mem_iff_getElem?.2 ⟨i, hi⟩
    have hf := FK_all (mayAt n.k ns) ns.length n.ks (h n hn)
    simp only
    rw [hf.1, hf.2, List.map_nil, List.append_nil]
    apply List.ext_getElem?
    intro j
    rw [List.getElem?_set]
    split
    · rename_i e
      subst e
      rw [hi]
      rw [if_pos (List.getElem?_eq_some_iff.1 hi).1]
    · rfl
theorem iter_same {ns : List Nd} (h : ∀ n ∈ ns, ∀ z ∈ n.ks, mayAt n.k ns z = true) : ∀ i, iterB ns i = ns
  | 0 => rfl
  | i + 1 => by
    show fixB (iterB ns i) i = ns
    rw [iter_same h i, fixB_stay h]
theorem Tr.unbare {ns : List Nd} (h : Tr (ns.map Nd.bare)) : Tr ns := by
  refine ⟨⟨fun n hn z hz => ?_, fun j h1 h2 => ?_⟩, fun j hj => ?_⟩
  · have := h.link n.bare (List.mem_map.2 ⟨n, hn, rfl⟩) z hz
    rwa [List.length_map] at this
  · have := h.once j h1 (by simpa using h2)
    rwa [kids_bare] at this
  · have := h.met j (by simpa using hj)
    clear hj
    induction this with
    | root => exact .root
    | @kid p j n hp hn hj ih =>
      rw [List.getElem?_map] at hn
      cases hq : ns[p]? with
      | none => rw [hq] at hn; cases hn
      | some a =>
        rw [hq] at hn
        injection hn with hn
        exact .kid (n := a) ih hq (by rw [← hn] at hj; exact hj)
theorem check_tr {ns : List Nd} (h : Tr ns) (hw : ∀ n ∈ ns, wrongN n = false) (h1 : 1 ≤ ns.length) (h2 : ns.length ≤ 65536) : (checkP ns).2 = 0 ∨ (checkP ns).2 = 42 := by
  have hw' : ns.any wrongN = false := by
    rw [List.any_eq_false]; intro n hn; simp [hw n hn]
  have h3 : ns.any (unlinkedN ns.length) = false := by
    rw [List.any_eq_false]
    intro n hn
    unfold unlinkedN
    rw [Bool.not_eq_true, List.any_eq_false]
    intro z hz
    have := h.link n hn z hz
    rw [outB_in (by omega) (by omega)]; simp
  have e2 := idxI_none _ _ hw'
  have e3 := idxI_none _ _ h3
  have e4 : strayP ns = -1 := idxI_none _ _ (h.stray h1)
  unfold checkP
  rw [if_neg (by omega), e2, e3, e4, if_neg (by omega), if_neg (by omega), if_neg (by omega)]
  split
  · exact .inr rfl
  · exact .inl rfl
theorem good_ws {n : Nd} (hw : wrongN n = false) : n.ws.length ≤ 70000 := by
  unfold wrongN at hw
  simp only [Bool.or_eq_false_iff] at hw
  obtain ⟨_, _, h3⟩ := hw
  have ht : hasT n = false → n.ws.length ≤ 70000 := fun h => by
    unfold hasT at h
    simp only [Bool.or_eq_false_iff] at h
    have := h.1
    simp at this
    rw [this]; simp
  by_cases e1 : n.k = 1
  · rw [if_pos e1] at h3
    unfold wrongT at h3
    simp only [Bool.or_eq_false_iff] at h3
    have := h3.2.1
    simp at this
    omega
  · rw [if_neg e1] at h3
    by_cases e5 : n.k = 5
    · rw [if_pos e5] at h3
      simp only [Bool.or_eq_false_iff] at h3
      exact ht h3.2
    · rw [if_neg e5] at h3
      exact ht h3
structure AgainP (ms ns3 : List Nd) : Prop where
  len1 : 1 ≤ ns3.length
  len2 : ns3.length ≤ 65536
  chk : (checkP ns3).2 = 0 ∨ (checkP ns3).2 = 42
  fixed : fixedB ns3 = true
  same : fixPg ns3 = ns3.map Nd.bare
  few : ∀ n ∈ ns3, n.ks.length ≤ 70000 ∧ n.ws.length ≤ 70000
  len : fixedB ms = true → ns3.length = ms.length
theorem again_of {ms ns3 : List Nd} (F : Fine ms) (hK : ∀ n ∈ ms, n.ks.length ≤ 70000) (hm : ms.length ≤ 150) (hb : ns3.map Nd.bare = fixPg ms) : AgainP ms ns3 := by
  have hW := F.way hK
  have hmore := fixPg_more F hK
  have hst := fixPg_stands F hK
  have hlen : ns3.length = (fixPg ms).length := by rw [← hb, List.length_map]
  have hT : Tr ns3 := by
    apply Tr.unbare
    rw [hb]
    exact F.tr.comp.iter _
  have hw0 := F.wrong
  rw [List.any_eq_false] at hw0
  have hG : ∀ n ∈ fixPg ms, GoodN n := good_iter hW (fun a ha => by
    obtain ⟨n, hn, rfl⟩ := List.mem_map.1 ha
    exact good_comp (by simpa using hw0 n hn)) _
  have hG3 : ∀ n ∈ ns3, GoodN n.bare := fun n hn => hG _ (by rw [← hb]; exact List.mem_map.2 ⟨n, hn, rfl⟩)
  have hw3 : ∀ n ∈ ns3, wrongN n = false := fun n hn => (hG3 n hn).1
  have h1 : 1 ≤ ns3.length := by rw [hlen]; have := hmore.2; omega
  have h2 : ns3.length ≤ 65536 := by rw [hlen]; have := hmore.1; omega
  have hmay : ∀ n ∈ ns3, ∀ z ∈ n.ks, mayAt n.k ns3 z = true := fun n hn z hz => by
    have h := hst.2 n.bare (by rw [← hb]; exact List.mem_map.2 ⟨n, hn, rfl⟩) z hz
    unfold mayAt at h ⊢
    rw [← hb, kdOf_bare] at h
    exact h
  refine ⟨h1, h2, check_tr hT hw3 h1 h2, ?_, ?_, fun n hn => ⟨?_, good_ws (hw3 n hn)⟩, fun hf => ?_⟩
  · unfold fixedB
    rw [List.all_eq_true]
    intro n hn
    rw [List.all_eq_true]
    exact hmay n hn
  · have e : ns3.map compB = ns3.map Nd.bare := by
      apply List.map_congr_left
      intro n hn
      have := (hG3 n hn).2
      unfold compB
      have e2 : compS n.s = n.bare.s := this
      rw [e2]
    show iterB (ns3.map compB) _ = _
    rw [e]
    apply iter_same
    intro a ha z hz
    obtain ⟨n, hn, rfl⟩ := List.mem_map.1 ha
    have := hmay n hn z hz
    unfold mayAt at this ⊢
    rw [kdOf_bare]
    exact this
  · exact hst.1.few n.bare (by rw [← hb]; exact List.mem_map.2 ⟨n, hn, rfl⟩)
  · rw [hlen]
    have e : fixPg ms = ms.map compB := by
      show iterB (ms.map compB) _ = _
      apply iter_same
      intro a ha z hz
      obtain ⟨n, hn, rfl⟩ := List.mem_map.1 ha
      unfold fixedB at hf
      rw [List.all_eq_true] at hf
      have := hf n hn
      rw [List.all_eq_true] at this
      have := this z hz
      unfold mayAt at this ⊢
      have ek : kdOf (ms.map compB) z.toNat = kdOf ms z.toNat := by
        unfold kdOf
        rw [List.getElem?_map]
        cases ms[z.toNat]? <;> rfl
      rw [ek]
      exact this
    rw [e, List.length_map]
theorem same_of {ns3 ns4 : List Nd} (h : ns4.map Nd.bare = ns3.map Nd.bare) : ns4.length = ns3.length ∧ ∀ (i : Nat) (a b : Nd), ns3[i]? = some a → ns4[i]? = some b → SameNd a b := by
  refine ⟨by have := congrArg List.length h; simpa using this, fun i a b ha hb => ?_⟩
  have := congrArg (fun l => l[i]?) h
  simp only [List.getElem?_map, ha, hb, Option.map_some, Option.some.injEq] at this
  unfold Nd.bare at this
  rw [Nd.mk.injEq] at this
  obtain ⟨e1, _, e2, e3, _, e4, e5, e6⟩ := this
  exact ⟨e1, e2, e3, e4, e5, e6⟩
end Go.Proofs.Ytilighhccjdceaa
