/- A computed page: what Check asks of it is what it asked of the page; computed again it is the same. Plain data. -/
import Derived.Test.YtgaclepoipaecaaTOrder
namespace Go.Proofs.Ytgaclepoipaecaa
open Go.RowKit Go.Shelf
set_option linter.unusedVariables false

/-- n' is n, computed (its slices may lie elsewhere) -/
structure CompOf (n n' : Nd) : Prop where
  k : n'.k = n.k
  ks : n'.ks = n.ks
  s : n'.s = compS n.s
  ws : n'.ws = n.ws
  b : n'.b = n.b
  h : n'.h = n.h
structure CompPg (ns ns' : List Nd) : Prop where
  len : ns'.length = ns.length
  of : ∀ (i : Nat) (n n' : Nd), ns[i]? = some n → ns'[i]? = some n' → CompOf n n'
theorem CompPg.nil : CompPg [] [] := ⟨rfl, fun i n n' h => by simp at h⟩
theorem CompPg.snoc {ns ns' : List Nd} {n n' : Nd} (h : CompPg ns ns') (hn : CompOf n n') : CompPg (ns ++ [n]) (ns' ++ [n']) := by
  refine ⟨by simp [h.len], fun i a a' ha ha' => ?_⟩
  by_cases hi : i < ns.length
  · rw [List.getElem?_append_left hi] at ha
    rw [List.getElem?_append_left (by have := h.len; omega)] at ha'
    exact h.of i a a' ha ha'
  · rw [List.getElem?_append_right (by omega)] at ha
    rw [List.getElem?_append_right (by have := h.len; omega)] at ha'
    have e : i - ns.length = 0 := by have := (List.getElem?_eq_some_iff.1 ha).1; simp at this; omega
    rw [e] at ha
    rw [h.len, e] at ha'
    simp at ha ha'
    subst ha ha'
    exact hn
theorem CompPg.get {ns ns' : List Nd} (h : CompPg ns ns') (i : Nat) : (ns[i]? = none ∧ ns'[i]? = none) ∨ ∃ n n', ns[i]? = some n ∧ ns'[i]? = some n' ∧ CompOf n n' := by
  by_cases hi : i < ns.length
  · have h1 := List.getElem?_eq_getElem hi
    have h2 := List.getElem?_eq_getElem (show i < ns'.length by have := h.len; omega)
    exact .inr ⟨_, _, h1, h2, h.of i _ _ h1 h2⟩
  · exact .inl ⟨List.getElem?_eq_none (by omega), List.getElem?_eq_none (by have := h.len; omega)⟩
theorem CompPg.back {ns ns' : List Nd} (h : CompPg ns ns') {n' : Nd} (hn : n' ∈ ns') : ∃ n ∈ ns, CompOf n n' := by
  obtain ⟨i, hi⟩ := List.mem_iff_getElem?.1 hn
  rcases h.get i with ⟨_, h2⟩ | ⟨n, n'', h1, h2, h3⟩
  · rw [hi] at h2; cases h2
  · rw [hi] at h2; cases h2
    exact ⟨n, List.mem_iff_getElem?.2 ⟨i, h1⟩, h3⟩
theorem CompPg.kss {ns ns' : List Nd} (h : CompPg ns ns') : ns'.map Nd.ks = ns.map Nd.ks := by
  apply List.ext_getElem?
  intro i
  rw [List.getElem?_map, List.getElem?_map]
  rcases h.get i with ⟨h1, h2⟩ | ⟨n, n', h1, h2, h3⟩
  · rw [h1, h2]
  · rw [h1, h2]; simp [h3.ks]
theorem CompPg.kids {ns ns' : List Nd} (h : CompPg ns ns') : kidsOf ns' = kidsOf ns := by
  unfold kidsOf
  rw [List.flatMap_def, List.flatMap_def]
  exact congrArg List.flatten h.kss
theorem CompPg.kf {ns ns' : List Nd} (h : CompPg ns ns') : kfOf ns' = kfOf ns := by
  funext y
  unfold kfOf
  rcases h.get y.toNat with ⟨h1, h2⟩ | ⟨n, n', h1, h2, h3⟩
  · rw [h1, h2]
  · rw [h1, h2]; simp [h3.ks]
theorem CompPg.depths {ns ns' : List Nd} (h : CompPg ns ns') : depthsP ns' = depthsP ns := by
  unfold depthsP
  rw [h.kf, h.len]
theorem CompOf.wrong {n n' : Nd} (h : CompOf n n') (hw : wrongN n = false) : wrongN n' = false := by
  have hv : validS n.s = true := by
    unfold wrongN at hw
    cases hq : validS n.s with
    | true => rfl
    | false => rw [hq] at hw; simp at hw
  have hv' : validS n'.s = true := by rw [h.s]; exact comp_valid hv
  unfold wrongN at hw ⊢
  unfold hasT wrongT at hw ⊢
  rw [hv] at hw
  rw [hv', h.k, h.ks, h.ws, h.b, h.h]
  exact hw
theorem wrong_valid {n : Nd} (hw : wrongN n = false) : validS n.s = true := by
  unfold wrongN at hw
  cases hq : validS n.s with
  | true => rfl
  | false => rw [hq] at hw; simp at hw
theorem CompPg.fine {ns ns' : List Nd} (h : CompPg ns ns') (F : Fine ns) : Fine ns' := by
  refine ⟨by rw [h.len]; exact F.len1, by rw [h.len]; exact F.len2, ?_, ?_, by rw [h.len, h.kids, h.depths]; exact F.stray, by rw [h.depths]; exact F.deep⟩
  · rw [List.any_eq_false]
    intro n' hn'
    obtain ⟨n, hn, hc⟩ := h.back hn'
    have := F.wrong
    rw [List.any_eq_false] at this
    have hw : wrongN n = false := by simpa using this n hn
    simp [hc.wrong hw]
  · intro n' hn' z hz
    obtain ⟨n, hn, hc⟩ := h.back hn'
    rw [h.len]
    exact F.link n hn z (by rw [← hc.ks]; exact hz)
/-- two nodes, the same but for where their slices lie -/
structure SameNd (n n' : Nd) : Prop where
  k : n'.k = n.k
  ks : n'.ks = n.ks
  s : n'.s = n.s
  ws : n'.ws = n.ws
  b : n'.b = n.b
  h : n'.h = n.h
theorem CompPg.again {ns ns' ns'' : List Nd} (h : CompPg ns ns') (h' : CompPg ns' ns'') (F : Fine ns) : ns''.length = ns'.length ∧ ∀ (i : Nat) (a b : Nd), ns'[i]? = some a → ns''[i]? = some b → SameNd a b := by
  refine ⟨h'.len, fun i a b ha hb => ?_⟩
  have c2 := h'.of i a b ha hb
  obtain ⟨n, hn, c1⟩ := h.back (List.mem_iff_getElem?.2 ⟨i, ha⟩)
  have hw := F.wrong
  rw [List.any_eq_false] at hw
  have hv := wrong_valid (n := n) (by simpa using hw n hn)
  exact ⟨c2.k, c2.ks, by rw [c2.s, c1.s, comp_again hv], c2.ws, c2.b, c2.h⟩
end Go.Proofs.Ytgaclepoipaecaa
