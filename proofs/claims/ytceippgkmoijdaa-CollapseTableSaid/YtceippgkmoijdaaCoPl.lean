/- What claims come to, in plain data: winners of lists of sides, and what covers bands. Nothing of memory. -/
import Derived.Test.YtceippgkmoijdaaCoAs
import Derived.Test.YtceippgkmoijdaaCoCnt
namespace Go.Proofs.Ytceippgkmoijdaa
open Go.RowKit Go.Shelf Go.Sort
set_option linter.unusedVariables false
set_option linter.unusedSimpArgs false

theorem winR_cons (s : Si) (r : List Si) (h : ∀ x ∈ s :: r, rightS x = true) : winR (s :: r) = (winF s r, 0) := by
  show (if (s :: r).all rightS = true then _ else _) = _
  rw [if_pos (List.all_eq_true.2 h)]
theorem winR_in {L : List Si} (h : ∀ x ∈ L, rightS x = true) (hne : L ≠ []) : (winR L).1 ∈ L ∧ ∀ s ∈ L, ¬ cmpS s (winR L).1 < 0 := by
  cases L with
  | nil => exact absurd rfl hne
  | cons s r =>
    have e : winR (s :: r) = (winF s r, 0) := winR_cons s r h
    rw [e]; exact ⟨winF_mem s r, winF_best s r⟩
theorem winR_eq {L : List Si} {x : Si} (h : ∀ x ∈ L, rightS x = true) (hx : x ∈ L) (hb : ∀ s ∈ L, ¬ cmpS s x < 0) : (winR L).1 = x := by
  obtain ⟨h1, h2⟩ := winR_in h (List.ne_nil_of_mem hx)
  exact cmpS_anti (hb _ h1) (h2 x hx)
/-- the winner hangs on who is there alone -/
theorem win_set {L M : List Si} (h : ∀ x ∈ L, rightS x = true) (hs : ∀ s, s ∈ L ↔ s ∈ M) : (winR L).1 = (winR M).1 := by
  by_cases hne : M = []
  · subst hne
    have : L = [] := List.eq_nil_iff_forall_not_mem.2 fun s hsm => by simpa using (hs s).1 hsm
    rw [this]
  · have hM : ∀ x ∈ M, rightS x = true := fun x hx => h x ((hs x).2 hx)
    obtain ⟨h1, h2⟩ := winR_in hM hne
    exact winR_eq h ((hs _).2 h1) fun s hsL => h2 s ((hs s).1 hsL)
/-- a claim of a list -/
structure Bs (c : Cl) (L : List Si) : Prop where
  won : c.won = (winR L).1
  pos : 0 < c.n ↔ L ≠ []
  nn : 0 ≤ c.n
theorem tgN_cons (c : Cl) (l : List Cl) : tgN (c :: l) = (if 0 < c.n then c.n else 0) + tgN l := by
  unfold tgN
  rw [List.filter_cons]
  by_cases h : 0 < c.n
  · rw [if_pos (by simpa using h), if_pos h, List.map_cons, List.sum_cons]
  · rw [if_neg (by simpa using h), if_neg h]; omega
theorem tgN_nn (l : List Cl) : 0 ≤ tgN l := by
  induction l with
  | nil => simp [tgN]
  | cons c l ih => rw [tgN_cons]; split <;> omega
theorem tgN_pos (l : List Cl) : 0 < tgN l ↔ ∃ c ∈ l, 0 < c.n := by
  induction l with
  | nil => simp [tgN]
  | cons c l ih =>
    have := tgN_nn l
    rw [tgN_cons]
    constructor
    · intro h
      by_cases hc : 0 < c.n
      · exact ⟨c, by simp, hc⟩
      · rw [if_neg hc] at h
        obtain ⟨d, hd, hn⟩ := ih.1 (by omega)
        exact ⟨d, by simp [hd], hn⟩
    · rintro ⟨d, hd, hn⟩
      rcases List.mem_cons.1 hd with rfl | hd
      · rw [if_pos hn]; omega
      · have := ih.2 ⟨d, hd, hn⟩
        split <;> omega
theorem tgY_mem (l : List Cl) (s : Si) : s ∈ tgY l ↔ ∃ c ∈ l, 0 < c.n ∧ s = c.won := by
  unfold tgY
  simp only [List.mem_map, List.mem_filter, decide_eq_true_eq]
  constructor
  · rintro ⟨c, ⟨h1, h2⟩, rfl⟩; exact ⟨c, h1, h2, rfl⟩
  · rintro ⟨c, h1, h2, rfl⟩; exact ⟨c, ⟨h1, h2⟩, rfl⟩
/-- what some claims come to is what all their sides come to -/
theorem tog_bs (ps : List (Cl × List Si)) (h : ∀ p ∈ ps, Bs p.1 p.2) (hr : ∀ x ∈ ps.flatMap (·.2), rightS x = true) : Bs (togP (ps.map (·.1))) (ps.flatMap (·.2)) := by
  have hin : ∀ p ∈ ps, ∀ x ∈ p.2, x ∈ ps.flatMap (·.2) := fun p hp x hx => List.mem_flatMap.2 ⟨p, hp, hx⟩
  have hy : ∀ s, s ∈ tgY (ps.map (·.1)) ↔ ∃ p ∈ ps, p.2 ≠ [] ∧ s = (winR p.2).1 := fun s => by
    rw [tgY_mem]
    constructor
    · rintro ⟨c, hc, hn, rfl⟩
      obtain ⟨p, hp, rfl⟩ := List.mem_map.1 hc
      exact ⟨p, hp, (h p hp).pos.1 hn, (h p hp).won⟩
    · rintro ⟨p, hp, hn, rfl⟩
      exact ⟨p.1, List.mem_map.2 ⟨p, hp, rfl⟩, (h p hp).pos.2 hn, (h p hp).won.symm⟩
  have hyr : ∀ s ∈ tgY (ps.map (·.1)), s ∈ ps.flatMap (·.2) := fun s hs => by
    obtain ⟨p, hp, hn, rfl⟩ := (hy s).1 hs
    exact hin p hp _ (winR_in (fun x hx => hr x (hin p hp x hx)) hn).1
  refine ⟨?_, ?_, tgN_nn _⟩
  · show (winR (tgY (ps.map (·.1)))).1 = _
    by_cases hne : ps.flatMap (·.2) = []
    · have : tgY (ps.map (·.1)) = [] := List.eq_nil_iff_forall_not_mem.2 fun s hs => by have := hyr s hs; rw [hne] at this; simp at this
      rw [this, hne]
    · obtain ⟨h1, h2⟩ := winR_in hr hne
      obtain ⟨p, hp, hx⟩ := List.mem_flatMap.1 h1
      have e : (winR p.2).1 = (winR (ps.flatMap (·.2))).1 := winR_eq (fun x hx => hr x (hin p hp x hx)) hx fun s hs => h2 s (hin p hp s hs)
      refine winR_eq (fun x hx => hr x (hyr x hx)) ((hy _).2 ⟨p, hp, List.ne_nil_of_mem hx, e.symm⟩) fun s hs => h2 s (hyr s hs)
  · show 0 < tgN (ps.map (·.1)) ↔ _
    rw [tgN_pos]
    constructor
    · rintro ⟨c, hc, hn⟩
      obtain ⟨p, hp, rfl⟩ := List.mem_map.1 hc
      obtain ⟨x, hx⟩ := List.exists_mem_of_ne_nil _ ((h p hp).pos.1 hn)
      exact List.ne_nil_of_mem (hin p hp x hx)
    · intro hne
      obtain ⟨x, hx⟩ := List.exists_mem_of_ne_nil _ hne
      obtain ⟨p, hp, hxp⟩ := List.mem_flatMap.1 hx
      exact ⟨p.1, List.mem_map.2 ⟨p, hp, rfl⟩, (h p hp).pos.2 (List.ne_nil_of_mem hxp)⟩
/-- what a list of sides comes to -/
def clOf (L : List Si) : Cl := ⟨(winR L).1, L.length⟩
theorem clOf_bs (L : List Si) : Bs (clOf L) L := ⟨rfl, by show (0 : Int) < (L.length : Int) ↔ _; rw [← List.length_pos_iff]; omega, by show (0 : Int) ≤ (L.length : Int); omega⟩
theorem clOf_nil : clOf [] = Cl.zero := rfl
theorem clOf_n (L : List Si) : (clOf L).n = L.length := rfl
theorem tgN_cl (Ls : List (List Si)) : tgN (Ls.map clOf) = (Ls.flatten.length : Int) := by
  induction Ls with
  | nil => simp [tgN]
  | cons L Ls ih =>
    rw [List.map_cons, tgN_cons, ih, List.flatten_cons, List.length_append, clOf_n]
    split <;> omega
theorem tog_cl (Ls : List (List Si)) (hr : ∀ x ∈ Ls.flatten, rightS x = true) : togP (Ls.map clOf) = clOf Ls.flatten := by
  have h := tog_bs (Ls.map fun L => (clOf L, L)) (fun p hp => by obtain ⟨L, _, rfl⟩ := List.mem_map.1 hp; exact clOf_bs L)
  have e1 : (Ls.map fun L => (clOf L, L)).map (·.1) = Ls.map clOf := by rw [List.map_map]; rfl
  have e2 : (Ls.map fun L => (clOf L, L)).flatMap (·.2) = Ls.flatten := by
    clear h hr e1
    induction Ls with
    | nil => rfl
    | cons L Ls ih => rw [List.map_cons, List.flatMap_cons, ih, List.flatten_cons]
  rw [e1, e2] at h
  have h := h hr
  have hw := h.won
  have hn := tgN_cl Ls
  show (⟨(winR (tgY (Ls.map clOf))).1, tgN (Ls.map clOf)⟩ : Cl) = ⟨_, _⟩
  rw [hn]
  have : (winR (tgY (Ls.map clOf))).1 = (winR Ls.flatten).1 := hw
  rw [this]
/-- a stretch's side -/
def Sr.sd (k : Nat) (s : Sr) : Si := (s.claim k).won
theorem Sr.claim_cl (s : Sr) (k : Nat) (h : rightS (s.sd k) = true) : s.claim k = clOf [s.sd k] := by
  have e : winR [s.sd k] = (winF (s.sd k) [], 0) := winR_cons _ _ (by simpa using h)
  show _ = (⟨(winR [s.sd k]).1, ((1 : Nat) : Int)⟩ : Cl)
  rw [e]; rfl
/-- a stretch is within so many bands -/
def SrOk (n : Nat) (s : Sr) : Prop := 0 ≤ s.run.fr ∧ s.run.fr ≤ s.run.to ∧ s.run.to ≤ (n : Int)
/-- claims of ranges of bands, so wide -/
structure CvI (k n : Nat) (ss : List Sr) (w : Nat) (done : Sr → Prop) (M : Int) (cs : List Cl) (L : Nat → List Si) : Prop where
  len : cs.length = n
  bs : ∀ i c, cs[i]? = some c → Bs c (L i) ∧ c.n ≤ M
  out : ∀ i, n ≤ i → L i = []
  snd : ∀ i x, x ∈ L i → ∃ s ∈ ss, x = s.sd k ∧ s.run.fr ≤ (i : Int) ∧ (i : Int) + w ≤ s.run.to
  all : ∀ s ∈ ss, done s → ∀ x : Nat, s.run.fr ≤ (x : Int) → (x : Int) < s.run.to → ∃ b, b ≤ x ∧ x < b + w ∧ s.sd k ∈ L b
theorem CvI.mono {k n w : Nat} {ss : List Sr} {done done' : Sr → Prop} {M M' : Int} {cs : List Cl} {L : Nat → List Si} (h : CvI k n ss w done M cs L) (hd : ∀ s ∈ ss, done' s → done s) (hM : M ≤ M') : CvI k n ss w done' M' cs L :=
  ⟨h.len, fun i c hc => ⟨(h.bs i c hc).1, by have := (h.bs i c hc).2; omega⟩, h.out, h.snd, fun s hs hd' => h.all s hs (hd s hs hd')⟩
theorem CvI.start (k n w : Nat) (ss : List Sr) (hs : ∀ s ∈ ss, SrOk n s) (hw : n < w) : CvI k n ss w (fun s => w ≤ s.run.to - s.run.fr) 0 (List.replicate n Cl.zero) (fun _ => []) := by
  refine ⟨List.length_replicate .., fun i c hc => ?_, fun _ _ => rfl, fun i x hx => by simp at hx, fun s h hd => ?_⟩
  · have := List.mem_of_getElem? hc
    obtain rfl := List.eq_of_mem_replicate this
    exact ⟨clOf_nil ▸ clOf_bs [], Int.le_refl _⟩
  · obtain ⟨h1, h2, h3⟩ := hs s h
    have : (w : Int) ≤ s.run.to - s.run.fr := hd
    omega
/-- the sides of all stretches are right -/
def AllR (k : Nat) (ss : List Sr) : Prop := ∀ s ∈ ss, rightS (s.sd k) = true
theorem CvI.right {k n w : Nat} {ss : List Sr} {done : Sr → Prop} {M : Int} {cs : List Cl} {L : Nat → List Si} (h : CvI k n ss w done M cs L) (hr : AllR k ss) (i : Nat) : ∀ x ∈ L i, rightS x = true := fun x hx => by
  obtain ⟨s, hs, rfl, _⟩ := h.snd i x hx
  exact hr s hs
/-- what halving makes of claims -/
def halvP (cs : List Cl) (w b : Nat) : List Cl := (List.range cs.length).map fun i => if w ≤ i ∧ i - w < b ∧ 0 < (cs.getD (i - w) Cl.zero).n then togP [cs.getD i Cl.zero, cs.getD (i - w) Cl.zero] else cs.getD i Cl.zero
theorem halvP_len (cs : List Cl) (w b : Nat) : (halvP cs w b).length = cs.length := by simp [halvP]
theorem halvP_get (cs : List Cl) (w b i : Nat) (h : i < cs.length) : (halvP cs w b)[i]? = some (if w ≤ i ∧ i - w < b ∧ 0 < (cs.getD (i - w) Cl.zero).n then togP [cs.getD i Cl.zero, cs.getD (i - w) Cl.zero] else cs.getD i Cl.zero) := by simp [halvP, h]
theorem halvP_zero (cs : List Cl) (w : Nat) : halvP cs w 0 = cs := by
  apply List.ext_getElem?
  intro i
  by_cases h : i < cs.length
  · rw [halvP_get _ _ _ _ h, if_neg (by omega)]; simp [h]
  · rw [List.getElem?_eq_none (by rw [halvP_len]; omega), List.getElem?_eq_none (by omega)]
theorem halvP_skip (cs : List Cl) (w b : Nat) (h : ¬ 0 < (cs.getD b Cl.zero).n) : halvP cs w (b + 1) = halvP cs w b := by
  apply List.ext_getElem?
  intro i
  by_cases hi : i < cs.length
  · rw [halvP_get _ _ _ _ hi, halvP_get _ _ _ _ hi]
    by_cases e : w ≤ i ∧ i - w = b
    · rw [if_neg (by rintro ⟨_, _, h3⟩; rw [e.2] at h3; exact h h3), if_neg (by rintro ⟨_, h2, _⟩; omega)]
    · congr 2
      apply propext
      constructor
      · rintro ⟨h1, h2, h3⟩; exact ⟨h1, by omega, h3⟩
      · rintro ⟨h1, h2, h3⟩; exact ⟨h1, by omega, h3⟩
  · rw [List.getElem?_eq_none (by rw [halvP_len]; omega), List.getElem?_eq_none (by rw [halvP_len]; omega)]
theorem halvP_step (cs : List Cl) (w b : Nat) (hw : 1 ≤ w) (h : 0 < (cs.getD b Cl.zero).n) (hb : b + w < cs.length) : (halvP cs w b)[b + w]? = some (cs.getD (b + w) Cl.zero) ∧ (halvP cs w b).set (b + w) (togP [cs.getD (b + w) Cl.zero, cs.getD b Cl.zero]) = halvP cs w (b + 1) := by
  refine ⟨by rw [halvP_get _ _ _ _ hb, if_neg (by omega)], ?_⟩
  apply List.ext_getElem?
  intro i
  by_cases hi : i < cs.length
  · rw [halvP_get _ _ _ _ hi]
    by_cases e : i = b + w
    · subst e
      rw [List.getElem?_set_self (by rw [halvP_len]; exact hi), if_pos ⟨by omega, by omega, by rw [Nat.add_sub_cancel]; exact h⟩, Nat.add_sub_cancel]
    · rw [List.getElem?_set_ne (Ne.symm e), halvP_get _ _ _ _ hi]
      congr 2
      apply propext
      constructor
      · rintro ⟨h1, h2, h3⟩; exact ⟨h1, by omega, h3⟩
      · rintro ⟨h1, h2, h3⟩; exact ⟨h1, by omega, h3⟩
  · rw [List.getElem?_eq_none (by rw [List.length_set, halvP_len]; omega), List.getElem?_eq_none (by rw [halvP_len]; omega)]
theorem getD_get (cs : List Cl) (i : Nat) (h : i < cs.length) : cs[i]? = some (cs.getD i Cl.zero) := by simp [h]
/-- ranges of half the width -/
theorem CvI.halve {k n w : Nat} {ss : List Sr} {done : Sr → Prop} {M : Int} {cs : List Cl} {L : Nat → List Si} (h : CvI k n ss (2 * w) done M cs L) (hw : 1 ≤ w) (hs : ∀ s ∈ ss, SrOk n s) (hr : AllR k ss) :
    CvI k n ss w done (2 * M) (halvP cs w n) (fun i => L i ++ (if w ≤ i then L (i - w) else [])) := by
  refine ⟨by rw [halvP_len, h.len], fun i c hc => ?_, fun i hi => ?_, fun i x hx => ?_, fun s hs1 hd x h1 h2 => ?_⟩
  · have hi : i < cs.length := by have := (List.getElem?_eq_some_iff.1 hc).1; rwa [halvP_len] at this
    rw [halvP_get _ _ _ _ hi, Option.some.injEq] at hc
    have ci := h.bs i _ (getD_get cs i hi)
    have hn := ci.1.nn
    by_cases hwi : w ≤ i
    · have cj := h.bs (i - w) _ (getD_get cs (i - w) (by omega))
      have hnj := cj.1.nn
      rw [if_pos hwi]
      by_cases hp : 0 < (cs.getD (i - w) Cl.zero).n
      · rw [if_pos ⟨hwi, by have := h.len; omega, hp⟩] at hc
        subst hc
        have := tog_bs [(cs.getD i Cl.zero, L i), (cs.getD (i - w) Cl.zero, L (i - w))] (fun p hp => by
          rcases List.mem_cons.1 hp with rfl | hp
          · exact ci.1
          · rcases List.mem_cons.1 hp with rfl | hp
            · exact cj.1
            · simp at hp) (fun x hx => by
              simp only [List.flatMap_cons, List.flatMap_nil, List.append_nil, List.mem_append] at hx
              rcases hx with hx | hx
              · exact h.right hr i x hx
              · exact h.right hr (i - w) x hx)
        simp only [List.flatMap_cons, List.flatMap_nil, List.append_nil, List.map_cons, List.map_nil] at this
        refine ⟨this, ?_⟩
        show tgN _ ≤ _
        rw [tgN_cons, tgN_cons]
        have e : tgN [] = 0 := rfl
        have := ci.2
        have := cj.2
        split <;> (try split) <;> omega
      · rw [if_neg (fun x => hp x.2.2)] at hc
        subst hc
        have e : L (i - w) = [] := by
          by_cases e : L (i - w) = []
          · exact e
          · exact absurd (cj.1.pos.2 e) hp
        rw [e, List.append_nil]
        exact ⟨ci.1, by have := ci.2; omega⟩
    · rw [if_neg (fun x => hwi x.1)] at hc
      subst hc
      rw [if_neg hwi, List.append_nil]
      exact ⟨ci.1, by have := ci.2; omega⟩
  · show L i ++ _ = []
    rw [h.out i hi, List.nil_append]
    split
    · apply List.eq_nil_iff_forall_not_mem.2
      intro x hx
      obtain ⟨s, hs1, _, h2, h3⟩ := h.snd _ x hx
      have := hs s hs1
      have := this.2.2
      omega
    · rfl
  · rcases List.mem_append.1 hx with hx | hx
    · obtain ⟨s, hs1, e, h2, h3⟩ := h.snd i x hx
      exact ⟨s, hs1, e, h2, by omega⟩
    · by_cases hwi : w ≤ i
      · rw [if_pos hwi] at hx
        obtain ⟨s, hs1, e, h2, h3⟩ := h.snd _ x hx
        exact ⟨s, hs1, e, by omega, by omega⟩
      · rw [if_neg hwi] at hx; simp at hx
  · obtain ⟨b, b1, b2, b3⟩ := h.all s hs1 hd x h1 h2
    by_cases hx : x < b + w
    · exact ⟨b, b1, hx, List.mem_append.2 (.inl b3)⟩
    · refine ⟨b + w, by omega, by omega, List.mem_append.2 (.inr ?_)⟩
      rw [if_pos (by omega), Nat.add_sub_cancel]
      exact b3
/-- a stretch is put into a range -/
theorem CvI.put {k n w : Nat} {ss : List Sr} {done : Sr → Prop} {M : Int} {cs : List Cl} {L : Nat → List Si} (h : CvI k n ss w done M cs L) (hw : 1 ≤ w) (hr : AllR k ss) (s : Sr) (hsm : s ∈ ss) (hs : SrOk n s) (i : Nat) (h1 : s.run.fr ≤ (i : Int)) (h2 : (i : Int) + w ≤ s.run.to) :
    CvI k n ss w done (M + 1) (cs.set i (togP [cs.getD i Cl.zero, s.claim k])) (fun b => if b = i then L b ++ [s.sd k] else L b) := by
  have hin : i < cs.length := by have := hs.2.2; have := h.len; omega
  refine ⟨by rw [List.length_set, h.len], fun j c hc => ?_, fun j hj => ?_, fun j x hx => ?_, fun s1 hs1 hd x x1 x2 => ?_⟩
  · by_cases e : j = i
    · subst e
      rw [List.getElem?_set_self hin, Option.some.injEq] at hc
      subst hc
      rw [if_pos rfl]
      have ci := h.bs j _ (getD_get cs j hin)
      have := tog_bs [(cs.getD j Cl.zero, L j), (s.claim k, [s.sd k])] (fun p hp => by
          rcases List.mem_cons.1 hp with rfl | hp
          · exact ci.1
          · rcases List.mem_cons.1 hp with rfl | hp
            · show Bs (s.claim k) [s.sd k]
              rw [Sr.claim_cl s k (hr s hsm)]; exact clOf_bs _
            · simp at hp) (fun x hx => by
              simp only [List.flatMap_cons, List.flatMap_nil, List.append_nil, List.mem_append] at hx
              rcases hx with hx | hx
              · exact h.right hr j x hx
              · obtain rfl := List.mem_singleton.1 hx
                exact hr s hsm)
      simp only [List.flatMap_cons, List.flatMap_nil, List.append_nil, List.map_cons, List.map_nil] at this
      refine ⟨this, ?_⟩
      show tgN _ ≤ _
      rw [tgN_cons, tgN_cons]
      have e : tgN [] = 0 := rfl
      have e2 : (s.claim k).n = 1 := rfl
      have := ci.2
      have := ci.1.nn
      rw [e2]
      split <;> (try split) <;> omega
    · rw [List.getElem?_set_ne (Ne.symm e)] at hc
      rw [if_neg e]
      exact ⟨(h.bs j c hc).1, by have := (h.bs j c hc).2; omega⟩
  · show (if j = i then _ else _) = []
    rw [if_neg (by have := h.len; omega)]
    exact h.out j hj
  · by_cases e : j = i
    · subst e
      replace hx : x ∈ L j ++ [s.sd k] := by simpa using hx
      rcases List.mem_append.1 hx with hx | hx
      · exact h.snd j x hx
      · obtain rfl := List.mem_singleton.1 hx
        exact ⟨s, hsm, rfl, h1, h2⟩
    · replace hx : x ∈ L j := by simpa [e] using hx
      exact h.snd j x hx
  · obtain ⟨b, b1, b2, b3⟩ := h.all s1 hs1 hd x x1 x2
    refine ⟨b, b1, b2, ?_⟩
    show _ ∈ if b = i then _ else _
    split
    · exact List.mem_append.2 (.inl b3)
    · exact b3
/-- a stretch is put into its two ranges -/
theorem CvI.two {k n w : Nat} {ss : List Sr} {done : Sr → Prop} {M : Int} {cs : List Cl} {L : Nat → List Si} (h : CvI k n ss w done M cs L) (hw : 1 ≤ w) (hr : AllR k ss) (s : Sr) (hsm : s ∈ ss) (hs : SrOk n s) (f t : Nat) (hf : s.run.fr = (f : Int)) (ht : s.run.to = (t : Int)) (h1 : f + w ≤ t) (h2 : t < f + 2 * w) :
    ∃ L', CvI k n ss w (fun x => done x ∨ x = s) (M + 2) ((cs.set f (togP [cs.getD f Cl.zero, s.claim k])).set (t - w) (togP [(cs.set f (togP [cs.getD f Cl.zero, s.claim k])).getD (t - w) Cl.zero, s.claim k])) L' := by
  have p1 := h.put hw hr s hsm hs f (by omega) (by omega)
  have p2 := p1.put hw hr s hsm hs (t - w) (by omega) (by omega)
  refine ⟨_, p2.len, fun i c hc => ⟨(p2.bs i c hc).1, by have := (p2.bs i c hc).2; omega⟩, p2.out, p2.snd, fun s1 hs1 hd x x1 x2 => ?_⟩
  rcases hd with hd | rfl
  · exact p2.all s1 hs1 hd x x1 x2
  · by_cases hx : x < f + w
    · refine ⟨f, by omega, hx, ?_⟩
      show _ ∈ if f = t - w then _ else _
      split <;> simp
    · refine ⟨t - w, by omega, by omega, ?_⟩
      show _ ∈ if t - w = t - w then _ else _
      simp
/-- what has been put at a width when so many stretches have been seen -/
def dnP (ss : List Sr) (w j : Nat) (s : Sr) : Prop := (2 * w : Int) ≤ s.run.to - s.run.fr ∨ ((w : Int) ≤ s.run.to - s.run.fr ∧ s ∈ ss.take j)
theorem dn_step {ss : List Sr} {w j : Nat} {s x : Sr} (hj : ss[j]? = some s) (h : dnP ss w (j + 1) x) : dnP ss w j x ∨ x = s := by
  rcases h with h | ⟨h1, h2⟩
  · exact .inl (.inl h)
  · rw [List.take_add_one, hj] at h2
    rcases List.mem_append.1 h2 with h2 | h2
    · exact .inl (.inr ⟨h1, h2⟩)
    · exact .inr (by simpa using h2)
theorem dn_skip {ss : List Sr} {w j : Nat} {s x : Sr} (hj : ss[j]? = some s) (hn : ¬ ((w : Int) ≤ s.run.to - s.run.fr ∧ s.run.to - s.run.fr < 2 * w)) (h : dnP ss w (j + 1) x) : dnP ss w j x := by
  rcases dn_step hj h with h' | rfl
  · exact h'
  · rcases h with h | ⟨h1, _⟩
    · exact .inl h
    · exact .inl (by omega)
theorem dn_zero {ss : List Sr} {w : Nat} {x : Sr} (hx : x ∈ ss) (h : dnP ss w 0 x) : dnP ss (2 * w) ss.length x := by
  rcases h with h | ⟨_, h⟩
  · exact .inr ⟨by push_cast; exact h, by rw [List.take_length]; exact hx⟩
  · simp at h
/-- the stretches that have a band -/
def hasL (ss : List Sr) (i : Nat) : List Sr := ss.filter fun s => decide (s.run.fr ≤ (i : Int)) && decide ((i : Int) < s.run.to)
/-- what covers each band -/
def covP (k : Nat) (ss : List Sr) (n : Nat) : List Cl := (List.range n).map fun i => clOf ((hasL ss i).map (Sr.sd k))
theorem covP_len (k : Nat) (ss : List Sr) (n : Nat) : (covP k ss n).length = n := by simp [covP]
theorem covP_get (k : Nat) (ss : List Sr) (n i : Nat) (h : i < n) : (covP k ss n)[i]? = some (clOf ((hasL ss i).map (Sr.sd k))) := by simp [covP, h]
/-- in the end each band has the winner of those that cover it -/
theorem CvI.fin {k n : Nat} {ss : List Sr} {M : Int} {cs : List Cl} {L : Nat → List Si} (h : CvI k n ss 1 (dnP ss 1 ss.length) M cs L) (hr : AllR k ss) (i : Nat) (c : Cl) (hc : cs[i]? = some c) : c.won = (winR ((hasL ss i).map (Sr.sd k))).1 := by
  rw [(h.bs i c hc).1.won]
  refine win_set (h.right hr i) fun x => ?_
  constructor
  · intro hx
    obtain ⟨s, hs, rfl, h1, h2⟩ := h.snd i x hx
    exact List.mem_map.2 ⟨s, List.mem_filter.2 ⟨hs, by simp; omega⟩, rfl⟩
  · intro hx
    obtain ⟨s, hs, rfl⟩ := List.mem_map.1 hx
    obtain ⟨h1, h2⟩ := List.mem_filter.1 hs
    simp only [Bool.and_eq_true, decide_eq_true_eq] at h2
    obtain ⟨b, b1, b2, b3⟩ := h.all s h1 (.inr ⟨by push_cast; omega, by rw [List.take_length]; exact h1⟩) i h2.1 h2.2
    obtain rfl : b = i := by omega
    exact b3
theorem pv_has (ss : List Sr) (i : Nat) (h : ∀ s ∈ ss, s.run.fr ≤ s.run.to) : pv ss i = ((hasL ss i).length : Int) := by
  unfold pv cntF hasL
  induction ss with
  | nil => rfl
  | cons s ss ih =>
    have ih := ih fun x hx => h x (by simp [hx])
    have hs := h s (by simp)
    simp only [List.filter_cons]
    by_cases h1 : s.run.fr ≤ (i : Int)
    · by_cases h2 : s.run.to ≤ (i : Int)
      · rw [if_pos (by simpa using h1), if_pos (by simpa using h2), if_neg (by simp; omega)]; simp only [List.length_cons]; omega
      · rw [if_pos (by simpa using h1), if_neg (by simpa using h2), if_pos (by simp; omega)]; simp only [List.length_cons]; omega
    · rw [if_neg (by simpa using h1), if_neg (by simp; omega), if_neg (by simp; omega)]; omega
/-- while the numbers are set: the first bands are done -/
def covS (k : Nat) (ss : List Sr) (cs : List Cl) (b : Nat) : List Cl := (List.range cs.length).map fun i => if i < b then clOf ((hasL ss i).map (Sr.sd k)) else cs.getD i Cl.zero
theorem covS_len (k : Nat) (ss : List Sr) (cs : List Cl) (b : Nat) : (covS k ss cs b).length = cs.length := by simp [covS]
theorem covS_get (k : Nat) (ss : List Sr) (cs : List Cl) (b i : Nat) (h : i < cs.length) : (covS k ss cs b)[i]? = some (if i < b then clOf ((hasL ss i).map (Sr.sd k)) else cs.getD i Cl.zero) := by simp [covS, h]
theorem covS_zero (k : Nat) (ss : List Sr) (cs : List Cl) : covS k ss cs 0 = cs := by
  apply List.ext_getElem?
  intro i
  by_cases h : i < cs.length
  · rw [covS_get _ _ _ _ _ h, if_neg (by omega)]; simp [h]
  · rw [List.getElem?_eq_none (by rw [covS_len]; omega), List.getElem?_eq_none (by omega)]
theorem covS_step (k : Nat) (ss : List Sr) (cs : List Cl) (b : Nat) (hb : b < cs.length) (hc : (cs.getD b Cl.zero).won = (winR ((hasL ss b).map (Sr.sd k))).1) (hs : ∀ s ∈ ss, s.run.fr ≤ s.run.to) : (covS k ss cs b).set b ⟨(cs.getD b Cl.zero).won, pv ss b⟩ = covS k ss cs (b + 1) := by
  apply List.ext_getElem?
  intro i
  by_cases hi : i < cs.length
  · rw [covS_get _ _ _ _ _ hi]
    by_cases e : i = b
    · subst e
      rw [List.getElem?_set_self (by rw [covS_len]; exact hi), if_pos (by omega), hc, pv_has ss i hs]
      unfold clOf
      rw [List.length_map]
    · rw [List.getElem?_set_ne (Ne.symm e), covS_get _ _ _ _ _ hi]
      by_cases h2 : i < b
      · rw [if_pos h2, if_pos (by omega)]
      · rw [if_neg h2, if_neg (by omega)]
  · rw [List.getElem?_eq_none (by rw [List.length_set, covS_len]; omega), List.getElem?_eq_none (by rw [covS_len]; omega)]
theorem covS_end (k : Nat) (ss : List Sr) (cs : List Cl) (n : Nat) (h : cs.length = n) : covS k ss cs n = covP k ss n := by
  unfold covS covP
  rw [h]
  exact List.map_congr_left fun i hi => by rw [if_pos (List.mem_range.1 hi)]
end Go.Proofs.Ytceippgkmoijdaa
