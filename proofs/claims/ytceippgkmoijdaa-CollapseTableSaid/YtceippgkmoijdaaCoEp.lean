/- What is asked for at edges, in plain data: lists of sides. Nothing of memory. -/
import Derived.Test.YtceippgkmoijdaaCoWon
namespace Go.Proofs.Ytceippgkmoijdaa
open Go.RowKit Go.Shelf Go.Sort Go.Maps
set_option linter.unusedVariables false
set_option linter.unusedSimpArgs false

/-- colours fit -/
def Fr.hue (f : Fr) : Prop := ∀ x ∈ f.list, 0 ≤ x.co ∧ x.co ≤ 4294967295
theorem Fr.at_mem (f : Fr) {k : Nat} (h : k < 4) : f.at k ∈ f.list := by
  obtain rfl | rfl | rfl | rfl : k = 0 ∨ k = 1 ∨ k = 2 ∨ k = 3 := by omega
  all_goals simp [Fr.at, Fr.list]
theorem Fr.at_right {f : Fr} (h : frB f = true) {k : Nat} (hk : k < 4) : liB (f.at k) = true := List.all_eq_true.1 h _ (f.at_mem hk)
theorem side_right {x : Li} (h : liB x = true) {b r c : Int} (hb : 0 ≤ b ∧ b ≤ 5) (hr : 0 ≤ r ∧ r ≤ 1000000) (hc : 0 ≤ c ∧ c ≤ 1000000) : rightS ⟨x.st, x.wd, x.co, b, r, c⟩ = true := by
  unfold liB at h
  rw [rightS_iff] at h ⊢
  exact ⟨h.1, h.2.1, hb, hr, hc⟩
/-- the framings' stretches -/
def rwSt (f : Fm) : List Sr := strP 0 f.rr ++ strP 1 f.rg
def clSt (f : Fm) : List Sr := strP 2 f.cr ++ strP 3 f.cg
def parS (l : Bool) (f : Fm) : List Sr := if l then rwSt f else clSt f
def aloS (l : Bool) (f : Fm) : List Sr := if l then clSt f else rwSt f
/-- a framing whose colours fit, of few bands and runs -/
structure HueF (f : Fm) (rn kn : Nat) : Prop where
  rows : f.rows = (rn : Int)
  cols : f.cols = (kn : Int)
  rl : rn ≤ 100
  kl : kn ≤ 100
  cs : ∀ c ∈ f.cs, c.hue
  rr : ∀ r ∈ f.rr ++ f.rg, r.ln.hue
  cr : ∀ r ∈ f.cr ++ f.cg, r.ln.hue
  tb : f.tb.hue
  lr : (f.rr ++ f.rg).length ≤ 400
  lc : (f.cr ++ f.cg).length ≤ 400
/-- what holds of a stretch of so many bands -/
structure GoodS (n : Nat) (s : Sr) : Prop where
  lo : 0 ≤ s.run.fr
  lt : s.run.fr < s.run.to
  hi : s.run.to ≤ (n : Int)
  rt : ∀ k, k < 4 → rightS (s.sd k) = true
  hu : ∀ k, k < 4 → (s.sd k).hue
theorem good_str {n : Nat} (hn : n ≤ 100) {w : Nat} {r : Rn} (h : rnB (n : Int) r = true) (hh : r.ln.hue) : GoodS n ⟨r, asP w r.fr⟩ := by
  unfold rnB at h
  simp only [Bool.and_eq_true, decide_eq_true_eq] at h
  obtain ⟨h1, h2, h3, h4⟩ := h
  refine ⟨h1, h3, h2, fun k hk => ?_, fun k hk => hh _ (Fr.at_mem _ hk)⟩
  have hl := Fr.at_right h4 hk
  show rightS ⟨_, _, _, (asP w r.fr).bb, (asP w r.fr).ro, (asP w r.fr).cl⟩ = true
  refine side_right hl ?_ ?_ ?_ <;> (unfold asP; split; · (simp; try omega)) <;> (split; · (simp; try omega)) <;> (split <;> (simp; try omega))
theorem rwSt_good {f : Fm} {rn kn : Nat} (h : okF f) (hh : HueF f rn kn) : ∀ s ∈ rwSt f, GoodS rn s := fun s hs => by
  have ha := h.rows
  rw [hh.rows, List.all_eq_true] at ha
  rcases List.mem_append.1 hs with hs | hs <;> obtain ⟨r, hr, rfl⟩ := List.mem_map.1 hs
  · exact good_str hh.rl (ha r (List.mem_append.2 (.inl hr))) (hh.rr r (List.mem_append.2 (.inl hr)))
  · exact good_str hh.rl (ha r (List.mem_append.2 (.inr hr))) (hh.rr r (List.mem_append.2 (.inr hr)))
theorem clSt_good {f : Fm} {rn kn : Nat} (h : okF f) (hh : HueF f rn kn) : ∀ s ∈ clSt f, GoodS kn s := fun s hs => by
  have ha := h.cols
  rw [hh.cols, List.all_eq_true] at ha
  rcases List.mem_append.1 hs with hs | hs <;> obtain ⟨r, hr, rfl⟩ := List.mem_map.1 hs
  · exact good_str hh.kl (ha r (List.mem_append.2 (.inl hr))) (hh.cr r (List.mem_append.2 (.inl hr)))
  · exact good_str hh.kl (ha r (List.mem_append.2 (.inr hr))) (hh.cr r (List.mem_append.2 (.inr hr)))
theorem parS_good {f : Fm} {rn kn : Nat} (l : Bool) (h : okF f) (hh : HueF f rn kn) : ∀ s ∈ parS l f, GoodS (parN l rn kn) s := by
  cases l
  · exact clSt_good h hh
  · exact rwSt_good h hh
theorem aloS_good {f : Fm} {rn kn : Nat} (l : Bool) (h : okF f) (hh : HueF f rn kn) : ∀ s ∈ aloS l f, GoodS (aloN l rn kn) s := by
  cases l
  · exact rwSt_good h hh
  · exact clSt_good h hh
theorem rwSt_len (f : Fm) : (rwSt f).length = (f.rr ++ f.rg).length := by simp [rwSt, strP]
theorem clSt_len (f : Fm) : (clSt f).length = (f.cr ++ f.cg).length := by simp [clSt, strP]
theorem parS_len {f : Fm} {rn kn : Nat} (l : Bool) (hh : HueF f rn kn) : (parS l f).length ≤ 400 := by
  cases l
  · show (clSt f).length ≤ 400; rw [clSt_len]; exact hh.lc
  · show (rwSt f).length ≤ 400; rw [rwSt_len]; exact hh.lr
theorem aloS_len {f : Fm} {rn kn : Nat} (l : Bool) (hh : HueF f rn kn) : (aloS l f).length ≤ 400 := by
  cases l
  · show (rwSt f).length ≤ 400; rw [rwSt_len]; exact hh.lr
  · show (clSt f).length ≤ 400; rw [clSt_len]; exact hh.lc
theorem whole_right {f : Fm} {rn kn : Nat} (h : okF f) (hh : HueF f rn kn) (n k : Nat) (hk : k < 4) : rightS ((wholeP n f.tb).sd k) = true ∧ ((wholeP n f.tb).sd k).hue :=
  ⟨side_right (b := 5) (r := 0) (c := 0) (Fr.at_right h.tb hk) ⟨by omega, by omega⟩ ⟨by omega, by omega⟩ ⟨by omega, by omega⟩, hh.tb _ (Fr.at_mem _ hk)⟩
/-- what the cell of a slot asks for -/
def cellL (ps : List Pz) (cs : List Fr) (ow : Int) (k : Nat) : List Si := if ow < 0 then [] else [⟨((cs.getD ow.toNat default).at k).st, ((cs.getD ow.toNat default).at k).wd, ((cs.getD ow.toNat default).at k).co, 0, (ps.getD ow.toNat ⟨0, 0, 0, 0, 0⟩).r, (ps.getD ow.toNat ⟨0, 0, 0, 0, 0⟩).c⟩]
theorem cellL_right {f : Fm} {rn kn : Nat} (h : okF f) (hh : HueF f rn kn) {ow : Int} (ho : OwN f.ps.length ow) {k : Nat} (hk : k < 4) : ∀ x ∈ cellL f.ps f.cs ow k, rightS x = true ∧ x.hue := fun x hx => by
  unfold cellL at hx
  split at hx
  · simp at hx
  · rename_i hn
    rcases ho with rfl | ⟨i, hi, rfl⟩
    · exact absurd (by omega) hn
    · obtain rfl := List.mem_singleton.1 hx
      have hc : i < f.cs.length := by rw [h.len]; exact hi
      have ec : f.cs.getD i default = f.cs[i] := by simp [hc]
      have ep : f.ps.getD i ⟨0, 0, 0, 0, 0⟩ = f.ps[i] := by simp [hi]
      simp only [Int.toNat_natCast]
      rw [ec, ep]
      have hr := List.all_eq_true.1 h.cs _ (List.getElem_mem hc)
      have hp := h.own.1 _ (List.getElem_mem hi)
      unfold placeB liesB at hp
      simp only [Bool.and_eq_true] at hp
      have hrn : f.rows.toNat ≤ 100 := by rw [hh.rows]; have := hh.rl; omega
      have hkn : f.cols.toNat ≤ 100 := by rw [hh.cols]; have := hh.kl; omega
      refine ⟨side_right (Fr.at_right hr hk) ⟨by decide, by decide⟩ ?_ ?_, hh.cs _ (List.getElem_mem hc) _ (Fr.at_mem _ hk)⟩
      · have := hp.1; simp at this; omega
      · have := hp.2; simp at this; omega
theorem cellP_cl {f : Fm} {rn kn : Nat} (h : okF f) (hh : HueF f rn kn) {ow : Int} (ho : OwN f.ps.length ow) {k : Nat} (hk : k < 4) : cellP f.ps f.cs ow k = clOf (cellL f.ps f.cs ow k) := by
  have hr := cellL_right h hh ho hk
  unfold cellP
  unfold cellL at hr ⊢
  split
  · rfl
  · rename_i hn
    rw [if_neg hn] at hr
    unfold clOf
    rw [winR_cons _ _ (fun x hx => (hr x hx).1)]
    rfl
/-- what is asked for at an edge: at a seam, along a band -/
def besL (l : Bool) (f : Fm) (rn kn s b : Nat) : List Si := seamL (forN l) (reaN l) (parS l f) s ++ (if s = 0 then (hasL (aloS l f ++ [wholeP (aloN l rn kn) f.tb]) b).map (Sr.sd (forN l)) else []) ++ (if s + 1 = parN l rn kn + 1 then (hasL (aloS l f ++ [wholeP (aloN l rn kn) f.tb]) b).map (Sr.sd (reaN l)) else [])
def reqL (l : Bool) (f : Fm) (rn kn : Nat) (x : Int × Int) : List Si := cellL f.ps f.cs (whoL l f.ps rn kn (x.1 - 1) x.2) (reaN l) ++ cellL f.ps f.cs (whoL l f.ps rn kn x.1 x.2) (forN l) ++ besL l f rn kn x.1.toNat x.2.toNat
def edgeP (l : Bool) (f : Fm) (rn kn : Nat) (x : Int × Int) : Ed := ⟨(turnP l x.1 x.2).1, (turnP l x.1 x.2).2, l, (winR (reqL l f rn kn x)).1, ((reqL l f rn kn x).length : Int)⟩
def courseE (l : Bool) (f : Fm) (rn kn : Nat) : List Ed := (edT (edF l f.ps rn kn) (edC l rn kn) (edR l rn kn) 0).map (edgeP l f rn kn)
def edgesP (f : Fm) (rn kn : Nat) : List Ed := courseE true f rn kn ++ courseE false f rn kn
theorem nk4 (l : Bool) : reaN l < 4 ∧ forN l < 4 := by cases l <;> simp [reaN, forN]
/-- the sides of what lies along a seam -/
theorem hasL_good {f : Fm} {rn kn : Nat} (l : Bool) (h : okF f) (hh : HueF f rn kn) (b : Nat) {k : Nat} (hk : k < 4) : (∀ x ∈ (hasL (aloS l f ++ [wholeP (aloN l rn kn) f.tb]) b).map (Sr.sd k), rightS x = true ∧ x.hue) ∧ ((hasL (aloS l f ++ [wholeP (aloN l rn kn) f.tb]) b).map (Sr.sd k)).length ≤ 401 := by
  refine ⟨fun x hx => ?_, ?_⟩
  · obtain ⟨s, hs, rfl⟩ := List.mem_map.1 hx
    rcases List.mem_append.1 (List.mem_filter.1 hs).1 with hs | hs
    · exact ⟨(aloS_good l h hh s hs).rt k hk, (aloS_good l h hh s hs).hu k hk⟩
    · obtain rfl := List.mem_singleton.1 hs
      exact whole_right h hh _ k hk
  · rw [List.length_map]
    refine Nat.le_trans (List.length_filter_le _ _) ?_
    rw [List.length_append]
    have := aloS_len l hh
    simp; omega
theorem seamL_good {f : Fm} {rn kn : Nat} (l : Bool) (h : okF f) (hh : HueF f rn kn) (s : Nat) : (∀ x ∈ seamL (forN l) (reaN l) (parS l f) s, rightS x = true ∧ x.hue) ∧ (seamL (forN l) (reaN l) (parS l f) s).length ≤ 800 := by
  refine ⟨fun x hx => ?_, ?_⟩
  · obtain ⟨a, ha, rfl | rfl⟩ := seamL_mem hx
    · exact ⟨(parS_good l h hh a ha).rt _ (nk4 l).2, (parS_good l h hh a ha).hu _ (nk4 l).2⟩
    · exact ⟨(parS_good l h hh a ha).rt _ (nk4 l).1, (parS_good l h hh a ha).hu _ (nk4 l).1⟩
  · have := seamL_len (forN l) (reaN l) (parS l f) s
    have := parS_len l hh
    omega
theorem besL_good {f : Fm} {rn kn : Nat} (l : Bool) (h : okF f) (hh : HueF f rn kn) (s b : Nat) : (∀ x ∈ besL l f rn kn s b, rightS x = true ∧ x.hue) ∧ (besL l f rn kn s b).length ≤ 2000 := by
  obtain ⟨a1, a2⟩ := seamL_good l h hh s
  obtain ⟨b1, b2⟩ := hasL_good l h hh b (nk4 l).2
  obtain ⟨c1, c2⟩ := hasL_good l h hh b (nk4 l).1
  unfold besL
  refine ⟨fun x hx => ?_, ?_⟩
  · rcases List.mem_append.1 hx with hx | hx
    · rcases List.mem_append.1 hx with hx | hx
      · exact a1 x hx
      · split at hx
        · exact b1 x hx
        · simp at hx
    · split at hx
      · exact c1 x hx
      · simp at hx
  · rw [List.length_append, List.length_append]
    have e1 : ∀ (p : Prop) [Decidable p] (L : List Si) (n : Nat), L.length ≤ n → (if p then L else []).length ≤ n := fun p _ L n hl => by split <;> simp [hl]
    have := e1 (s = 0) _ _ b2
    have := e1 (s + 1 = parN l rn kn + 1) _ _ c2
    omega
/-- what comes at a seam is what its list comes to -/
theorem at_cl {f : Fm} {rn kn : Nat} (l : Bool) (h : okF f) (hh : HueF f rn kn) (s b : Nat) (hs : s < parN l rn kn + 1) (hb : b < aloN l rn kn) :
    togP (atP (seamP (forN l) (reaN l) (parS l f) (parN l rn kn + 1)) (covP (forN l) (aloS l f ++ [wholeP (aloN l rn kn) f.tb]) (aloN l rn kn)) (covP (reaN l) (aloS l f ++ [wholeP (aloN l rn kn) f.tb]) (aloN l rn kn)) s b) = clOf (besL l f rn kn s b) := by
  have e1 : (seamP (forN l) (reaN l) (parS l f) (parN l rn kn + 1)).getD s Cl.zero = clOf (seamL (forN l) (reaN l) (parS l f) s) := by
    rw [List.getD_eq_getElem?_getD, seamP_get _ _ _ _ _ hs]; rfl
  have e2 : ∀ k, (covP k (aloS l f ++ [wholeP (aloN l rn kn) f.tb]) (aloN l rn kn)).getD b Cl.zero = clOf ((hasL (aloS l f ++ [wholeP (aloN l rn kn) f.tb]) b).map (Sr.sd k)) := fun k => by
    rw [List.getD_eq_getElem?_getD, covP_get _ _ _ _ hb]; rfl
  have hr := (besL_good l h hh s b).1
  unfold atP
  rw [e1, e2, e2, seamP_len]
  have e3 : ∀ (p : Prop) [Decidable p] (L : List Si), (if p then [clOf L] else []) = (if p then [L] else []).map clOf := fun p _ L => by split <;> rfl
  have e4 : ∀ (p : Prop) [Decidable p] (L : List Si), (if p then [L] else []).flatten = if p then L else [] := fun p _ L => by split <;> simp
  rw [e3, e3, show ∀ L : List Si, [clOf L] = [L].map clOf from fun _ => rfl, ← List.map_append, ← List.map_append]
  rw [tog_cl _ (fun x hx => ?_)]
  · rw [List.flatten_append, List.flatten_append, e4, e4]
    simp only [List.flatten_cons, List.flatten_nil, List.append_nil]
    rfl
  · rw [List.flatten_append, List.flatten_append, e4, e4] at hx
    simp only [List.flatten_cons, List.flatten_nil, List.append_nil] at hx
    exact (hr x hx).1
theorem all_cl {f : Fm} {rn kn : Nat} (l : Bool) (h : okF f) (hh : HueF f rn kn) (af : Nat → Nat → Cl) (haf : ∀ s b, s < parN l rn kn + 1 → b < aloN l rn kn → af s b = clOf (besL l f rn kn s b)) (s b : Nat) (hs : s < parN l rn kn + 1) (hb : b < aloN l rn kn) :
    allP l f.ps rn kn (cellP f.ps f.cs) af ((s : Int), (b : Int)) = clOf (reqL l f rn kn ((s : Int), (b : Int))) := by
  unfold allP reqL
  have o1 := whoL_num l f.ps rn kn ((s : Int) - 1) b
  have o2 := whoL_num l f.ps rn kn s b
  simp only [Int.toNat_natCast]
  rw [cellP_cl h hh o1 (nk4 l).1, cellP_cl h hh o2 (nk4 l).2, haf s b hs hb]
  have := tog_cl [cellL f.ps f.cs (whoL l f.ps rn kn ((s : Int) - 1) b) (reaN l), cellL f.ps f.cs (whoL l f.ps rn kn s b) (forN l), besL l f rn kn s b] (fun x hx => by
    simp only [List.flatten_cons, List.flatten_nil, List.append_nil, List.mem_append] at hx
    rcases hx with hx | hx | hx
    · exact (cellL_right h hh o1 (nk4 l).1 x hx).1
    · exact (cellL_right h hh o2 (nk4 l).2 x hx).1
    · exact ((besL_good l h hh s b).1 x hx).1)
  simp only [List.map_cons, List.map_nil, List.flatten_cons, List.flatten_nil, List.append_nil] at this
  rw [this, List.append_assoc]
/-- where the edges of a course are -/
theorem edT_at {l : Bool} {ps : List Pz} {rn kn : Nat} {x : Int × Int} (h : x ∈ edT (edF l ps rn kn) (edC l rn kn) (edR l rn kn) 0) : ∃ s b : Nat, x = ((s : Int), (b : Int)) ∧ s < parN l rn kn + 1 ∧ b < aloN l rn kn := by
  unfold edT at h
  simp only [List.range_zero, List.filterMap_nil, List.append_nil, List.mem_flatMap, List.mem_range, List.mem_filterMap] at h
  obtain ⟨i, hi, j, hj, hf⟩ := h
  have hx : x = turnP l i j := by
    unfold edF at hf
    split at hf
    · cases hf
    · injection hf with hf; exact hf.symm
  cases l
  · exact ⟨j, i, by rw [hx]; rfl, by simpa [parN, edC] using hj, by simpa [aloN, edR] using hi⟩
  · exact ⟨i, j, by rw [hx]; rfl, by simpa [parN, edR] using hi, by simpa [aloN, edC] using hj⟩
theorem won_course {f : Fm} {rn kn : Nat} (l : Bool) (h : okF f) (hh : HueF f rn kn) (af : Nat → Nat → Cl) (haf : ∀ s b, s < parN l rn kn + 1 → b < aloN l rn kn → af s b = clOf (besL l f rn kn s b)) :
    (edT (edF l f.ps rn kn) (edC l rn kn) (edR l rn kn) 0).map (wonP l f.ps rn kn (cellP f.ps f.cs) af) = courseE l f rn kn := by
  unfold courseE
  refine List.map_congr_left fun x hx => ?_
  obtain ⟨s, b, rfl, hs, hb⟩ := edT_at hx
  unfold wonP edgeP
  rw [all_cl l h hh af haf s b hs hb]
  rfl
end Go.Proofs.Ytceippgkmoijdaa
