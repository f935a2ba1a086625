/- A page that is fixed: Check lets it be or finds it too deep; fixed again it is the same. Plain data. -/
import Derived.Test.YtdnnbkkfmjdboaaFFixed
import Derived.Test.YtdnnbkkfmjdboaaFTree
import Derived.Test.YtdnnbkkfmjdboaaFLaw
namespace Go.Proofs.Ytdnnbkkfmjdboaa
open Go.RowKit Go.Shelf
set_option linter.unusedVariables false

def GoodN (n : Nd) : Prop := wrongN n = false ∧ compS n.s = n.s
theorem new_valid : validS newSty = true := by decide +kernel
theorem new_comp : compS newSty = newSty := by
  unfold compS newSty
  simp [Sty.zero, compN, compSd_zero]
theorem good_new (k : Int) (run : List Int) (h : aroundP k = 2 ∨ aroundP k = 9 ∨ aroundP k = 10) : GoodN (newNd k run) := by
  refine ⟨?_, new_comp⟩
  have hk : (newNd k run).k = aroundP k := rfl
  have hs : (newNd k run).s = newSty := rfl
  have ht : hasT (newNd k run) = false := rfl
  unfold wrongN
  rw [hk, hs, ht, new_valid, if_neg (by omega), if_neg (by omega)]
  simp; omega
theorem good_set {n : Nd} (ks : List Int) (h : GoodN n) (hk : n.k = 1 ∨ n.k = 5 → ks = []) : GoodN { n with ks := ks } := by
  refine ⟨?_, h.2⟩
  have hw := h.1
  unfold wrongN at hw ⊢
  simp only [Bool.or_eq_false_iff] at hw ⊢
  obtain ⟨h1, h2, h3⟩ := hw
  refine ⟨h1, h2, ?_⟩
  by_cases e1 : n.k = 1
  · rw [if_pos e1] at h3 ⊢
    simp only [Bool.or_eq_false_iff] at h3 ⊢
    exact ⟨by rw [hk (.inl e1)]; rfl, h3.2⟩
  · rw [if_neg e1] at h3 ⊢
    by_cases e5 : n.k = 5
    · rw [if_pos e5] at h3 ⊢
      simp only [Bool.or_eq_false_iff] at h3 ⊢
      exact ⟨by rw [hk (.inr e5)]; rfl, h3.2⟩
    · rw [if_neg e5] at h3 ⊢
      exact h3
theorem good_comp {n : Nd} (hw : wrongN n = false) : GoodN (compB n) :=
  ⟨CompOf.wrong (n := n) (n' := compB n) ⟨rfl, rfl, rfl, rfl, rfl, rfl⟩ hw, comp_again (wrong_valid hw)⟩
theorem good_fix {ns : List Nd} (h : Way ns) (hg : ∀ n ∈ ns, GoodN n) (i : Nat) : ∀ n ∈ fixB ns i, GoodN n := by
  unfold fixB
  cases hi : ns[i]? with
  | none => exact hg
  | some n =>
    have hn := List.mem_iff_getElem?.2 ⟨i, hi⟩
    obtain ⟨st, hst⟩ : ∃ st, FK (mayAt n.k ns) ns.length n.ks = st := ⟨_, rfl⟩
    have hr := FK_run (mayAt n.k ns) ns.length n.ks
    have hne := FK_ne (mayAt n.k ns) ns.length n.ks
    rw [hst] at hr hne
    simp only
    rw [hst]
    intro a ha
    rcases List.mem_append.1 ha with ha | ha
    · rcases List.mem_or_eq_of_mem_set ha with h' | h'
      · exact hg a h'
      · subst h'
        refine good_set st.1 (hg n hn) (fun e => ?_)
        rw [h.none n hn e] at hst
        rw [← hst]; rfl
    · obtain ⟨run, hr', rfl⟩ := List.mem_map.1 ha
      refine good_new _ _ ?_
      obtain ⟨z, hz⟩ := List.exists_mem_of_ne_nil _ (hne run hr')
      have hz2 := (hr run hr').2 z hz
      have hkd := h.kd z.toNat
      have h1 := h.kind n hn
      have h2 : n.k ≠ 1 := fun e => by have := h.none n hn (.inl e); rw [this] at hz2; simp at hz2
      have h3 : n.k ≠ 5 := fun e => by have := h.none n hn (.inr e); rw [this] at hz2; simp at hz2
      exact (wt_step h1.1 h1.2 h2 h3 hkd.1 hkd.2 hz2.2).2.1
theorem good_iter {ns : List Nd} (h : Way ns) (hg : ∀ n ∈ ns, GoodN n) : ∀ i, ∀ n ∈ iterB ns i, GoodN n
  | 0 => hg
  | i + 1 => good_fix (h.iter i) (good_iter h hg i) i
theorem FK_all (p : Int → Bool) (n : Nat) (ks : List Int) (h : ∀ z ∈ ks, p z = true) : (FK p n ks).1 = ks ∧ (FK p n ks).2.1 = [] := by
  unfold FK
  by_cases e : ks = []
  · subst e; exact ⟨rfl, rfl⟩
  · rw [fold_true p n ks ([], [], false) h e]; exact ⟨rfl, rfl⟩
theorem fixB_stay {ns : List Nd} (h : ∀ n ∈ ns, ∀ z ∈ n.ks, mayAt n.k ns z = true) (i : Nat) : fixB ns i = ns := by
  unfold fixB
  cases hi : ns[i]? with
  | none => rfl
  | some n =>
    have hn := List.mem_iff_getElem?.2 ⟨i, hi⟩
    have hf := FK_all (mayAt n.k ns) ns.length n.ks (h n hn)
    simp only
    rw [hf.1, hf.2, List.map_nil, List.append_nil]
    apply List.ext_getElem?
    intro j
    rw [List.getElem?_set]
    split
    · rename_i e
      subst e
      rw [hi]
      rw [if_pos (List.getElem?_eq_some_iff.1 hi).1]
    · rfl
theorem iter_same {ns : List Nd} (h : ∀ n ∈ ns, ∀ z ∈ n.ks, mayAt n.k ns z = true) : ∀ i, iterB ns i = ns
  | 0 => rfl
  | i + 1 => by
    show fixB (iterB ns i) i = ns
    rw [iter_same h i, fixB_stay h]
theorem Tr.unbare {ns : List Nd} (h : Tr (ns.map Nd.bare)) : Tr ns := by
  refine ⟨fun n hn z hz => ?_, fun j h1 h2 => ?_, fun j hj => ?_⟩
  · have := h.link n.bare (List.mem_map.2 ⟨n, hn, rfl⟩) z hz
    rwa [List.length_map] at this
  · have := h.once j h1 (by simpa using h2)
    rwa [kids_bare] at this
  · have := h.met j (by simpa using hj)
    clear hj
    induction this with
    | root => exact .root
    | @kid p j n hp hn hj ih =>
      rw [List.getElem?_map] at hn
      cases hq : ns[p]? with
      | none => rw [hq] at hn; cases hn
      | some a =>
        rw [hq] at hn
        injection hn with hn
        exact .kid (n := a) ih hq (by rw [← hn] at hj; exact hj)
theorem check_tr {ns : List Nd} (h : Tr ns) (hw : ∀ n ∈ ns, wrongN n = false) (h1 : 1 ≤ ns.length) (h2 : ns.length ≤ 65536) : (checkP ns).2 = 0 ∨ (checkP ns).2 = 42 := by
  have hw' : ns.any wrongN = false := by
    rw [List.any_eq_false]; intro n hn; simp [hw n hn]
  have h3 : ns.any (unlinkedN ns.length) = false := by
    rw [List.any_eq_false]
    intro n hn
    unfold unlinkedN
    rw [Bool.not_eq_true, List.any_eq_false]
    intro z hz
    have := h.link n hn z hz
    rw [outB_in (by omega) (by omega)]; simp
  have e2 := idxI_none _ _ hw'
  have e3 := idxI_none _ _ h3
  have e4 : strayP ns = -1 := idxI_none _ _ (h.stray h1)
  unfold checkP
  rw [if_neg (by omega), e2, e3, e4, if_neg (by omega), if_neg (by omega), if_neg (by omega)]
  split
  · exact .inr rfl
  · exact .inl rfl
theorem good_ws {n : Nd} (hw : wrongN n = false) : n.ws.length ≤ 70000 := by
  unfold wrongN at hw
  simp only [Bool.or_eq_false_iff] at hw
  obtain ⟨_, _, h3⟩ := hw
  have ht : hasT n = false → n.ws.length ≤ 70000 := fun h => by
    unfold hasT at h
    simp only [Bool.or_eq_false_iff] at h
    have := h.1
    simp at this
    rw [this]; simp
  by_cases e1 : n.k = 1
  · rw [if_pos e1] at h3
    unfold wrongT at h3
    simp only [Bool.or_eq_false_iff] at h3
    have := h3.2.1
    simp at this
    omega
  · rw [if_neg e1] at h3
    by_cases e5 : n.k = 5
    · rw [if_pos e5] at h3
      simp only [Bool.or_eq_false_iff] at h3
      exact ht h3.2
    · rw [if_neg e5] at h3
      exact ht h3
structure AgainP (ms ns3 : List Nd) : Prop where
  len1 : 1 ≤ ns3.length
  len2 : ns3.length ≤ 65536
  chk : (checkP ns3).2 = 0 ∨ (checkP ns3).2 = 42
  fixed : fixedB ns3 = true
  same : fixPg ns3 = ns3.map Nd.bare
  few : ∀ n ∈ ns3, n.ks.length ≤ 70000 ∧ n.ws.length ≤ 70000
  len : fixedB ms = true → ns3.length = ms.length
theorem again_of {ms ns3 : List Nd} (F : Fine ms) (hK : ∀ n ∈ ms, n.ks.length ≤ 70000) (hm : ms.length ≤ 150) (hb : ns3.map Nd.bare = fixPg ms) : AgainP ms ns3 := by
  have hW := F.way hK
  have hmore := fixPg_more F hK
  have hst := fixPg_stands F hK
  have hlen : ns3.length = (fixPg ms).length := by rw [← hb, List.length_map]
  have hT : Tr ns3 := by
    apply Tr.unbare
    rw [hb]
    exact F.tr.comp.iter _
  have hw0 := F.wrong
  rw [List.any_eq_false] at hw0
  have hG : ∀ n ∈ fixPg ms, GoodN n := good_iter hW (fun a ha => by
    obtain ⟨n, hn, rfl⟩ := List.mem_map.1 ha
    exact good_comp (by simpa using hw0 n hn)) _
  have hG3 : ∀ n ∈ ns3, GoodN n.bare := fun n hn => hG _ (by rw [← hb]; exact List.mem_map.2 ⟨n, hn, rfl⟩)
  have hw3 : ∀ n ∈ ns3, wrongN n = false := fun n hn => (hG3 n hn).1
  have h1 : 1 ≤ ns3.length := by rw [hlen]; have := hmore.2; omega
  have h2 : ns3.length ≤ 65536 := by rw [hlen]; have := hmore.1; omega
  have hmay : ∀ n ∈ ns3, ∀ z ∈ n.ks, mayAt n.k ns3 z = true := fun n hn z hz => by
    have h := hst.2 n.bare (by rw [← hb]; exact List.mem_map.2 ⟨n, hn, rfl⟩) z hz
    unfold mayAt at h ⊢
    rw [← hb, kdOf_bare] at h
    exact h
  refine ⟨h1, h2, check_tr hT hw3 h1 h2, ?_, ?_, fun n hn => ⟨?_, good_ws (hw3 n hn)⟩, fun hf => ?_⟩
  · unfold fixedB
    rw [List.all_eq_true]
    intro n hn
    rw [List.all_eq_true]
    exact hmay n hn
  · have e : ns3.map compB = ns3.map Nd.bare := by
      apply List.map_congr_left
      intro n hn
      have := (hG3 n hn).2
      unfold compB
      have e2 : compS n.s = n.bare.s := this
      rw [e2]
    show iterB (ns3.map compB) _ = _
    rw [e]
    apply iter_same
    intro a ha z hz
    obtain ⟨n, hn, rfl⟩ := List.mem_map.1 ha
    have := hmay n hn z hz
    unfold mayAt at this ⊢
    rw [kdOf_bare]
    exact this
  · exact hst.1.few n.bare (by rw [← hb]; exact List.mem_map.2 ⟨n, hn, rfl⟩)
  · rw [hlen]
    have e : fixPg ms = ms.map compB := by
      show iterB (ms.map compB) _ = _
      apply iter_same
      intro a ha z hz
      obtain ⟨n, hn, rfl⟩ := List.mem_map.1 ha
      unfold fixedB at hf
      rw [List.all_eq_true] at hf
      have := hf n hn
      rw [List.all_eq_true] at this
      have := this z hz
      unfold mayAt at this ⊢
      have ek : kdOf (ms.map compB) z.toNat = kdOf ms z.toNat := by
        unfold kdOf
        rw [List.getElem?_map]
        cases ms[z.toNat]? <;> rfl
      rw [ek]
      exact this
    rw [e, List.length_map]
theorem same_of {ns3 ns4 : List Nd} (h : ns4.map Nd.bare = ns3.map Nd.bare) : ns4.length = ns3.length ∧ ∀ (i : Nat) (a b : Nd), ns3[i]? = some a → ns4[i]? = some b → SameNd a b := by
  refine ⟨by have := congrArg List.length h; simpa using this, fun i a b ha hb => ?_⟩
  have := congrArg (fun l => l[i]?) h
  simp only [List.getElem?_map, ha, hb, Option.map_some, Option.some.injEq] at this
  unfold Nd.bare at this
  rw [Nd.mk.injEq] at this
  obtain ⟨e1, _, e2, e3, _, e4, e5, e6⟩ := this
  exact ⟨e1, e2, e3, e4, e5, e6⟩
end Go.Proofs.Ytdnnbkkfmjdboaa
