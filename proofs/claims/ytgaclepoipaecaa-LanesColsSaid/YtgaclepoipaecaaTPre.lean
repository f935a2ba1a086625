/- Pages that are trees: each place is a kid once, and is reached; what the walk meets of them. Plain data. -/
/- The document's order of a page, by recursion: on a tree it is that of the walk. Plain data. -/
import Derived.Test.YtgaclepoipaecaaTOrds
namespace Go.Proofs.Ytgaclepoipaecaa
open Go.RowKit Go.Shelf
set_option linter.unusedVariables false

/-- places that are reached from the root -/
inductive Reach (ns : List Nd) : Nat → Prop
  | root : Reach ns 0
  | kid {p j : Nat} {n : Nd} : Reach ns p → ns[p]? = some n → (j : Int) ∈ n.ks → Reach ns j
/-- no place is a kid twice -/
structure Tr0 (ns : List Nd) : Prop where
  link : ∀ n ∈ ns, ∀ z ∈ n.ks, 1 ≤ z ∧ z < (ns.length : Int)
  once : ∀ j : Nat, 1 ≤ j → j < ns.length → (kidsOf ns).count (j : Int) = 1
structure Tr (ns : List Nd) : Prop extends Tr0 ns where
  met : ∀ j, j < ns.length → Reach ns j
theorem mem_take_while (p : Int → Bool) : ∀ (l : List Int), ∀ y ∈ l.takeWhile p, p y = true
  | [], y, h => by simp at h
  | a :: l, y, h => by
    rw [List.takeWhile_cons] at h
    split at h
    · rename_i ha
      rcases List.mem_cons.1 h with rfl | h
      · exact ha
      · exact mem_take_while p l y h
    · cases h
theorem drop_nil_mem (p : Int → Bool) (l : List Int) (h : l.dropWhile p = []) : ∀ y ∈ l, p y = true := fun y hy => by
  have hs := List.takeWhile_append_dropWhile (p := p) (l := l)
  rw [h, List.append_nil] at hs
  rw [← hs] at hy
  exact mem_take_while p l y hy
/-- what is met stays met, what is on the stack is met in the end -/
theorem nextD_keep {vis : List Int} : ∀ {st : List (List Int)} {z : Int} {d : Nat} {st' : List (List Int)}, nextD vis st = some (z, d, st') → ∀ ks ∈ st, ∀ y ∈ ks, y ∈ vis ∨ y = z ∨ ∃ ks' ∈ st', y ∈ ks'
  | [], z, d, st', h => by simp [nextD] at h
  | ks :: st, z, d, st', h => by
    unfold nextD at h
    cases hd : ks.dropWhile (fun z => vis.contains z) with
    | nil =>
      rw [hd] at h
      intro l hl y hy
      rcases List.mem_cons.1 hl with rfl | hl
      · have := drop_nil_mem _ _ hd y hy
        exact .inl (by simpa using this)
      · exact nextD_keep h l hl y hy
    | cons a r =>
      rw [hd] at h
      simp only [Option.some.injEq, Prod.mk.injEq] at h
      obtain ⟨rfl, rfl, rfl⟩ := h
      intro l hl y hy
      rcases List.mem_cons.1 hl with rfl | hl
      · have hs := List.takeWhile_append_dropWhile (p := fun z => vis.contains z) (l := l)
        rw [← hs, hd] at hy
        rcases List.mem_append.1 hy with hy | hy
        · have := mem_take_while _ _ y hy
          exact .inl (by simpa using this)
        · rcases List.mem_cons.1 hy with rfl | hy
          · exact .inr (.inl rfl)
          · exact .inr (.inr ⟨r, by simp, hy⟩)
      · exact .inr (.inr ⟨l, by simp [hl], hy⟩)
theorem nextD_none {vis : List Int} : ∀ {st : List (List Int)}, nextD vis st = none → ∀ ks ∈ st, ∀ y ∈ ks, y ∈ vis
  | [], _ => fun ks hk => by cases hk
  | ks :: st, h => by
    unfold nextD at h
    cases hd : ks.dropWhile (fun z => vis.contains z) with
    | nil =>
      rw [hd] at h
      intro l hl y hy
      rcases List.mem_cons.1 hl with rfl | hl
      · have := drop_nil_mem _ _ hd y hy
        simpa using this
      · exact nextD_none h l hl y hy
    | cons a r => rw [hd] at h; simp at h
theorem Runs.closed {kf : Int → List Int} {pre : List (Int × Nat)} {vis : List Int} {st : List (List Int)} (h : Runs kf pre vis st) : ((0 : Int) ∈ vis ∨ ∃ ks ∈ st, (0 : Int) ∈ ks) ∧ ∀ z ∈ vis, ∀ y ∈ kf z, y ∈ vis ∨ ∃ ks ∈ st, y ∈ ks := by
  induction h with
  | nil => exact ⟨.inr ⟨[0], by simp, by simp⟩, fun z hz => by cases hz⟩
  | @step pre vis st z d st' h hn ih =>
    have hk := nextD_keep hn
    have key : ∀ y, (y ∈ vis ∨ ∃ ks ∈ st, y ∈ ks) → y ∈ z :: vis ∨ ∃ ks ∈ kf z :: st', y ∈ ks := fun y hy => by
      rcases hy with hy | ⟨ks, h1, h2⟩
      · exact .inl (by simp [hy])
      · rcases hk ks h1 y h2 with h | rfl | ⟨ks', h3, h4⟩
        · exact .inl (by simp [h])
        · exact .inl (by simp)
        · exact .inr ⟨ks', by simp [h3], h4⟩
    refine ⟨key 0 ih.1, fun x hx y hy => ?_⟩
    rcases List.mem_cons.1 hx with rfl | hx
    · exact .inr ⟨kf x, by simp, hy⟩
    · exact key y (ih.2 x hx y hy)
/-- what is reached is met by the walk -/
theorem reach_met {ns : List Nd} (h1 : 1 ≤ ns.length) (hl : ∀ n ∈ ns, ∀ z ∈ n.ks, 1 ≤ z ∧ z < (ns.length : Int)) {j : Nat} (hj : Reach ns j) : ∃ d, ((j : Int), d) ∈ walkL ns.length (kfOf ns) := by
  have hki := kids_in hl
  obtain ⟨vis, st, hr, hn⟩ := walk_facts h1 hki
  obtain ⟨c0, c1⟩ := hr.closed
  have hnn := nextD_none hn
  have hvis := hr.vis
  suffices (j : Int) ∈ vis by
    rw [hvis] at this
    obtain ⟨x, hx, e⟩ := List.mem_map.1 (List.mem_reverse.1 this)
    exact ⟨x.2, by rw [← e]; exact hx⟩
  induction hj with
  | root => rcases c0 with h | ⟨ks, h2, h3⟩
            · exact h
            · exact hnn ks h2 _ h3
  | @kid p j n hp hnp hjk ih =>
    have : (j : Int) ∈ kfOf ns (p : Int) := by
      unfold kfOf
      rw [Int.toNat_natCast, hnp]; exact hjk
    rcases c1 _ ih _ this with h | ⟨ks, h2, h3⟩
    · exact h
    · exact hnn ks h2 _ h3
theorem Tr.stray {ns : List Nd} (h : Tr ns) (h1 : 1 ≤ ns.length) : ((tms ns.length (kidsOf ns)).zip (depthsP ns)).any strayB = false := by
  rw [List.any_eq_false]
  intro x hx
  obtain ⟨j, hj⟩ := List.mem_iff_getElem?.1 hx
  obtain ⟨hlt, he⟩ := List.getElem?_eq_some_iff.1 hj
  have hjm : j < ns.length := by have := hlt; simp [tms_len] at this; omega
  have hk0 : ∀ z ∈ kidsOf ns, 0 ≤ z := fun z hz => by
    obtain ⟨a, ha, hz'⟩ := List.mem_flatMap.1 hz
    have := h.link a ha z hz'; omega
  have ht := tms_get ns.length (kidsOf ns) hk0 j hjm
  have htl : j < (tms ns.length (kidsOf ns)).length := by rw [tms_len]; exact hjm
  have hdl : j < (depthsP ns).length := by unfold depthsP; rw [depL_len]; exact hjm
  rw [List.getElem?_eq_getElem htl] at ht
  simp only [Option.getD_some] at ht
  have hone : (tms ns.length (kidsOf ns))[j] = 1 := by
    rw [ht]
    by_cases h0 : j = 0
    · subst h0
      rw [if_pos rfl, List.count_eq_zero_of_not_mem]
      · rfl
      · intro hm
        obtain ⟨a, ha, hz'⟩ := List.mem_flatMap.1 hm
        have := h.link a ha _ hz'; omega
    · rw [if_neg h0, h.once j (by omega) hjm]; rfl
  -- its depth
  have hki := kids_in h.link
  obtain ⟨vis, st, hr, hn⟩ := walk_facts h1 hki
  have hg := hr.good h1 hki
  have hvis := hr.vis
  obtain ⟨d, hd⟩ := reach_met h1 h.link (h.met j hjm)
  have hnd : ((walkL ns.length (kfOf ns)).map Prod.fst).Nodup := by have := hg.nd; rw [hvis] at this; exact (List.reverse_perm _).nodup_iff.1 this
  have hrng : ∀ x ∈ walkL ns.length (kfOf ns), 0 ≤ x.1 := fun x hx => (hg.vrng x.1 (by rw [hvis]; simp; exact ⟨x.2, hx⟩)).1
  have hset := set_get ns.length (List.replicate ns.length 0) (by simp) (walkL ns.length (kfOf ns)) hrng j hjm d (fun y hy ey => by
    have := count_unique (P := walkL ns.length (kfOf ns)) (z := (j : Int)) (by rw [hnd.count, if_pos (List.mem_map.2 ⟨_, hd, rfl⟩)]) y hy _ hd ey rfl
    rw [this])
  rw [if_pos ⟨_, hd, rfl⟩] at hset
  have hd1 := (hr.one _ hd).1
  have hdep : (depthsP ns)[j] ≠ 0 := by
    have h2 : (depthsP ns)[j]?.getD 0 = (d : Int) := hset
    rw [List.getElem?_eq_getElem hdl] at h2
    simp only [Option.getD_some] at h2
    rw [h2]; omega
  rw [← he, List.getElem_zip]
  simp [strayB, hone, hdep]
theorem Fine.tr {ns : List Nd} (F : Fine ns) : Tr ns := by
  have hz : ∀ j, j < ns.length → (tms ns.length (kidsOf ns))[j]?.getD 0 = 1 := fun j hj => by
    have hs := F.stray
    rw [List.any_eq_false] at hs
    have hl : j < (tms ns.length (kidsOf ns)).length := by rw [tms_len]; exact hj
    have hd : j < (depthsP ns).length := by unfold depthsP; rw [depL_len]; exact hj
    have := hs ((tms ns.length (kidsOf ns))[j], (depthsP ns)[j]) (List.mem_iff_getElem?.2 ⟨j, by rw [List.getElem?_eq_getElem (by simp; omega)]; simp⟩)
    simp [strayB] at this
    rw [List.getElem?_eq_getElem hl]
    simpa using this.1
  have hk0 : ∀ z ∈ kidsOf ns, 0 ≤ z := fun z hz => by
    obtain ⟨a, ha, hz'⟩ := List.mem_flatMap.1 hz
    have := F.link a ha z hz'; omega
  refine ⟨⟨F.link, fun j h1 h2 => ?_⟩, fun j hj => ?_⟩
  · have ht := tms_get ns.length (kidsOf ns) hk0 j h2
    rw [hz j h2, if_neg (by omega)] at ht
    omega
  · have hO := ords F
    -- met by the walk, and so reached
    have hki := kids_in F.link
    obtain ⟨vis, st, hr, hn⟩ := walk_facts F.len1 hki
    have hup := hr.up
    have hall : ∀ (i : Nat) (z : Int) (d : Nat), (walkL ns.length (kfOf ns))[i]? = some (z, d) → 0 ≤ z ∧ Reach ns z.toNat := by
      intro i
      induction i using Nat.strongRecOn with
      | _ i ih =>
        intro z d hz
        rcases hup i z d hz with ⟨_, rfl, _⟩ | ⟨a, q, e, hai, hq, hzq, _⟩
        · exact ⟨by omega, .root⟩
        · obtain ⟨hq0, hqr⟩ := ih a hai q e hq
          have hmem : ∃ n, ns[q.toNat]? = some n ∧ z ∈ n.ks := by
            unfold kfOf at hzq
            cases hnq : ns[q.toNat]? with
            | none => rw [hnq] at hzq; simp at hzq
            | some n => rw [hnq] at hzq; exact ⟨n, rfl, by simpa using hzq⟩
          obtain ⟨n, hn1, hn2⟩ := hmem
          have hzl := F.link n (List.mem_iff_getElem?.2 ⟨_, hn1⟩) z hn2
          exact ⟨by omega, .kid hqr hn1 (by rw [Int.toNat_of_nonneg (by omega)]; exact hn2)⟩
    have hdn : (depthsP ns)[j]?.getD 0 ≠ 0 := by
      have hs := F.stray
      rw [List.any_eq_false] at hs
      have hl : j < (tms ns.length (kidsOf ns)).length := by rw [tms_len]; exact hj
      have hd : j < (depthsP ns).length := by unfold depthsP; rw [depL_len]; exact hj
      have := hs ((tms ns.length (kidsOf ns))[j], (depthsP ns)[j]) (List.mem_iff_getElem?.2 ⟨j, by rw [List.getElem?_eq_getElem (by simp; omega)]; simp⟩)
      simp [strayB] at this
      rw [List.getElem?_eq_getElem hd]
      simpa using this.2
    have hex : ∃ x ∈ walkL ns.length (kfOf ns), x.1 = (j : Int) := by
      by_cases hx : ∃ x ∈ walkL ns.length (kfOf ns), x.1 = (j : Int)
      · exact hx
      · exfalso
        have hrng : ∀ x ∈ walkL ns.length (kfOf ns), 0 ≤ x.1 := fun x hx' => by
          obtain ⟨i, hi⟩ := List.mem_iff_getElem?.1 hx'
          exact (hall i x.1 x.2 hi).1
        have hset := set_get ns.length (List.replicate ns.length 0) (by simp) (walkL ns.length (kfOf ns)) hrng j hj 0 (fun y hy ey => absurd ⟨y, hy, ey⟩ hx)
        rw [if_neg hx] at hset
        have h2 : (depthsP ns)[j]?.getD 0 = (List.replicate ns.length (0 : Int))[j]?.getD 0 := hset
        rw [h2] at hdn
        simp [hj] at hdn
    obtain ⟨x, hx, ex⟩ := hex
    obtain ⟨i, hi⟩ := List.mem_iff_getElem?.1 hx
    have := (hall i x.1 x.2 hi).2
    rwa [ex, Int.toNat_natCast] at this
end Go.Proofs.Ytgaclepoipaecaa

namespace Go.Proofs.Ytgaclepoipaecaa
open Go.RowKit Go.Shelf
set_option linter.unusedVariables false

def ordD (kf : Int → List Int) (m : Nat) : Nat → Int → List Int → List Int
  | 0, _, out => out
  | f + 1, z, out => if m < out.length then out else (kf z).foldl (fun o y => ordD kf m f y o) (out ++ [z])
theorem fold_mono (g : Int → List Int → List Int) (hg : ∀ z out, out.length ≤ (g z out).length) : ∀ (ks out : List Int), out.length ≤ (ks.foldl (fun o y => g y o) out).length
  | [], out => Nat.le_refl _
  | y :: ks, out => by
    rw [List.foldl_cons]
    exact Nat.le_trans (hg y out) (fold_mono g hg ks _)
theorem ordD_mono (kf : Int → List Int) (m : Nat) : ∀ (f : Nat) (z : Int) (out : List Int), out.length ≤ (ordD kf m f z out).length
  | 0, z, out => Nat.le_refl _
  | f + 1, z, out => by
    unfold ordD
    split
    · exact Nat.le_refl _
    · exact Nat.le_trans (by simp) (fold_mono _ (ordD_mono kf m f) (kf z) (out ++ [z]))
theorem fold_congr (g g' : Int → List Int → List Int) (b : Nat) (hm : ∀ z out, out.length ≤ (g z out).length) (hg : ∀ z out, b ≤ out.length → g z out = g' z out) : ∀ (ks out : List Int), b ≤ out.length → ks.foldl (fun o y => g y o) out = ks.foldl (fun o y => g' y o) out
  | [], out, _ => rfl
  | y :: ks, out, h => by
    rw [List.foldl_cons, List.foldl_cons, ← hg y out h]
    exact fold_congr g g' b hm hg ks _ (Nat.le_trans h (hm y out))
theorem ordD_fuel (kf : Int → List Int) (m : Nat) : ∀ (f f' : Nat) (z : Int) (out : List Int), m + 2 ≤ f + out.length → m + 2 ≤ f' + out.length → ordD kf m f z out = ordD kf m f' z out
  | 0, 0, z, out, _, _ => rfl
  | 0, f' + 1, z, out, h, _ => by
    rw [ordD, ordD, if_pos (by omega)]
  | f + 1, 0, z, out, _, h => by
    rw [ordD, ordD, if_pos (by omega)]
  | f + 1, f' + 1, z, out, h, h' => by
    rw [ordD, ordD]
    split
    · rfl
    · refine fold_congr (ordD kf m f) (ordD kf m f') (out.length + 1) (ordD_mono kf m f) (fun z o ho => ordD_fuel kf m f f' z o (by omega) (by omega)) (kf z) (out ++ [z]) (by simp)
/-- the document's order, from a place on -/
def ordN (kf : Int → List Int) (m : Nat) (z : Int) (out : List Int) : List Int := ordD kf m (m + 2 - out.length) z out
theorem ordN_mono (kf : Int → List Int) (m : Nat) (z : Int) (out : List Int) : out.length ≤ (ordN kf m z out).length := ordD_mono _ _ _ _ _
theorem ordN_eq (kf : Int → List Int) (m : Nat) (z : Int) (out : List Int) : ordN kf m z out = if m < out.length then out else (kf z).foldl (fun o y => ordN kf m y o) (out ++ [z]) := by
  by_cases h : m < out.length
  · rw [if_pos h]
    unfold ordN
    rw [ordD_fuel kf m _ 1 z out (by omega) (by omega), ordD, if_pos h]
  · rw [if_neg h]
    unfold ordN
    obtain ⟨f, hf⟩ : ∃ f, m + 2 - out.length = f + 1 := ⟨m + 1 - out.length, by omega⟩
    rw [hf, ordD, if_neg h]
    exact fold_congr (ordD kf m f) (fun y o => ordD kf m (m + 2 - o.length) y o) (out.length + 1) (ordD_mono kf m f) (fun z o ho => ordD_fuel kf m f _ z o (by omega) (by omega)) (kf z) (out ++ [z]) (by simp)
/-- a stack of rows of places, worked off -/
def foldS (kf : Int → List Int) (m : Nat) (st : List (List Int)) (out : List Int) : List Int := st.foldl (fun o ks => ks.foldl (fun o y => ordN kf m y o) o) out
theorem nextD_fresh {kf : Int → List Int} {m : Nat} {vis : List Int} : ∀ {st : List (List Int)} {z : Int} {d : Nat} {st' : List (List Int)}, (∀ ks ∈ st, ∀ y ∈ ks, vis.contains y = false) → nextD vis st = some (z, d, st') →
    st.flatten = z :: st'.flatten ∧ ∀ out, foldS kf m st out = foldS kf m st' (ordN kf m z out)
  | [], z, d, st', _, h => by simp [nextD] at h
  | [] :: st, z, d, st', hf, h => by
    unfold nextD at h
    simp only [List.dropWhile_nil] at h
    have := nextD_fresh (kf := kf) (m := m) (fun ks hk => hf ks (by simp [hk])) h
    exact ⟨by rw [List.flatten_cons, List.nil_append]; exact this.1, fun out => by rw [← this.2 out]; rfl⟩
  | (a :: r) :: st, z, d, st', hf, h => by
    have ha := hf (a :: r) (by simp) a (by simp)
    unfold nextD at h
    simp only [List.dropWhile_cons, ha] at h
    simp only [Bool.false_eq_true, if_false, Option.some.injEq, Prod.mk.injEq] at h
    obtain ⟨rfl, rfl, rfl⟩ := h
    exact ⟨by simp, fun out => rfl⟩
theorem nextD_fresh_none {kf : Int → List Int} {m : Nat} {vis : List Int} : ∀ {st : List (List Int)}, (∀ ks ∈ st, ∀ y ∈ ks, vis.contains y = false) → nextD vis st = none → ∀ out, foldS kf m st out = out
  | [], _, _, out => rfl
  | [] :: st, hf, h, out => by
    unfold nextD at h
    simp only [List.dropWhile_nil] at h
    exact nextD_fresh_none (kf := kf) (m := m) (st := st) (fun ks hk => hf ks (by simp [hk])) h out
  | (a :: r) :: st, hf, h, out => by
    have ha := hf (a :: r) (by simp) a (by simp)
    unfold nextD at h
    rw [List.dropWhile_cons, ha] at h
    simp only [Bool.false_eq_true, if_false] at h
    cases h
theorem kids_part (ns : List Nd) (i : Nat) (n : Nd) (h : ns[i]? = some n) (y : Int) : (kidsOf ns).count y = (kidsOf (ns.take i)).count y + (n.ks.count y + (kidsOf (ns.drop (i + 1))).count y) := by
  have hl := (List.getElem?_eq_some_iff.1 h).1
  have e : ns = ns.take i ++ n :: ns.drop (i + 1) := by
    have h1 : ns.drop i = n :: ns.drop (i + 1) := by
      rw [List.drop_eq_getElem_cons hl]
      congr 1
      exact (List.getElem?_eq_some_iff.1 h).2
    rw [← h1, List.take_append_drop]
  conv => lhs; rw [e]
  simp [kidsOf]
theorem Tr0.one {ns : List Nd} (h : Tr0 ns) {i : Nat} {n : Nd} (hn : ns[i]? = some n) (y : Int) : n.ks.count y ≤ 1 := by
  by_cases hy : y ∈ n.ks
  · have hr := h.link n (List.mem_iff_getElem?.2 ⟨i, hn⟩) y hy
    have h1 := h.once y.toNat (by omega) (by omega)
    rw [show ((y.toNat : Nat) : Int) = y by omega, kids_part ns i n hn y] at h1
    omega
  · rw [List.count_eq_zero_of_not_mem hy]; omega
theorem Tr0.up {ns : List Nd} (h : Tr0 ns) {i j : Nat} {n n' : Nd} (hn : ns[i]? = some n) (hn' : ns[j]? = some n') {y : Int} (hy : y ∈ n.ks) (hy' : y ∈ n'.ks) : i = j := by
  have key : ∀ (i j : Nat) (n n' : Nd), ns[i]? = some n → ns[j]? = some n' → y ∈ n.ks → y ∈ n'.ks → ¬ i < j := fun i j n n' hn hn' hy hy' hij => by
    have hr := h.link n (List.mem_iff_getElem?.2 ⟨i, hn⟩) y hy
    have h1 := h.once y.toNat (by omega) (by omega)
    rw [show ((y.toNat : Nat) : Int) = y by omega, kids_part ns i n hn y] at h1
    have c1 := List.count_pos_iff.2 hy
    have c2 : 0 < (kidsOf (ns.drop (i + 1))).count y := List.count_pos_iff.2 (by
      unfold kidsOf
      refine List.mem_flatMap.2 ⟨n', List.mem_iff_getElem?.2 ⟨j - (i + 1), ?_⟩, hy'⟩
      rw [List.getElem?_drop, show i + 1 + (j - (i + 1)) = j by omega]; exact hn')
    omega
  have a := key i j n n' hn hn' hy hy'
  have b := key j i n' n hn' hn hy' hy
  omega
theorem kf_mem {ns : List Nd} {z y : Int} (h : y ∈ kfOf ns z) : ∃ n, ns[z.toNat]? = some n ∧ y ∈ n.ks := by
  unfold kfOf at h
  cases hq : ns[z.toNat]? with
  | none => rw [hq] at h; cases h
  | some n => rw [hq] at h; exact ⟨n, rfl, h⟩
theorem Tr0.rows {ns : List Nd} (h : Tr0 ns) (y : Int) : ∀ vis : List Int, vis.Nodup → (∀ z ∈ vis, 0 ≤ z) → (vis.flatMap (kfOf ns)).count y ≤ 1
  | [], _, _ => by simp
  | z :: vis, hd, hz => by
    rw [List.flatMap_cons, List.count_append]
    have hd' := List.nodup_cons.1 hd
    have ih := h.rows y vis hd'.2 (fun z hz' => hz z (by simp [hz']))
    by_cases hy : y ∈ kfOf ns z
    · obtain ⟨n, hn, hyn⟩ := kf_mem hy
      have h1 : (kfOf ns z).count y ≤ 1 := by
        unfold kfOf
        rw [hn]; exact h.one hn y
      have h2 : (vis.flatMap (kfOf ns)).count y = 0 := List.count_eq_zero_of_not_mem (fun hm => by
        obtain ⟨z', hz', hy'⟩ := List.mem_flatMap.1 hm
        obtain ⟨n', hn', hyn'⟩ := kf_mem hy'
        have := h.up hn hn' hyn hyn'
        have a := hz z (by simp)
        have b := hz z' (by simp [hz'])
        have : z = z' := by omega
        exact hd'.1 (this ▸ hz'))
      omega
    · rw [List.count_eq_zero_of_not_mem hy]; omega
theorem Tr0.runs {ns : List Nd} (h : Tr0 ns) (h1 : 1 ≤ ns.length) {pre : List (Int × Nat)} {vis : List Int} {st : List (List Int)} (hr : Runs (kfOf ns) pre vis st) :
    (∀ ks ∈ st, ∀ y ∈ ks, vis.contains y = false) ∧ (∀ y, vis.count y + st.flatten.count y = [(0 : Int)].count y + (vis.flatMap (kfOf ns)).count y) ∧ foldS (kfOf ns) ns.length [[0]] [] = foldS (kfOf ns) ns.length st (pre.map Prod.fst) := by
  have hki := kids_in h.link
  have fresh : ∀ {pre : List (Int × Nat)} {vis : List Int} {st : List (List Int)}, Runs (kfOf ns) pre vis st → (∀ y, vis.count y + st.flatten.count y = [(0 : Int)].count y + (vis.flatMap (kfOf ns)).count y) → ∀ ks ∈ st, ∀ y ∈ ks, vis.contains y = false := fun {pre vis st} hr hc ks hks y hy => by
    cases hv : vis.contains y with
    | false => rfl
    | true =>
      exfalso
      have hg := hr.good h1 hki
      have hyv : y ∈ vis := by simpa using hv
      have c1 := List.count_pos_iff.2 hyv
      have c2 : 0 < st.flatten.count y := List.count_pos_iff.2 (List.mem_flatten.2 ⟨ks, hks, hy⟩)
      have c3 := hc y
      have c4 := h.rows y vis hg.nd (fun z hz => (hg.vrng z hz).1)
      by_cases h0 : y = 0
      · have : (vis.flatMap (kfOf ns)).count y = 0 := List.count_eq_zero_of_not_mem (fun hm => by
          obtain ⟨z', hz', hy'⟩ := List.mem_flatMap.1 hm
          obtain ⟨n', hn', hyn'⟩ := kf_mem hy'
          have := h.link n' (List.mem_iff_getElem?.2 ⟨_, hn'⟩) y hyn'
          omega)
        have : [(0 : Int)].count y ≤ 1 := List.count_le_length
        omega
      · have : [(0 : Int)].count y = 0 := List.count_eq_zero_of_not_mem (by simpa using h0)
        omega
  induction hr with
  | nil => exact ⟨fun ks _ y _ => rfl, fun y => by simp, rfl⟩
  | @step pre vis st z d st' hr hn ih =>
    obtain ⟨i1, i2, i3⟩ := ih
    have hx := nextD_fresh (kf := kfOf ns) (m := ns.length) i1 hn
    have hc : ∀ y, (z :: vis).count y + (kfOf ns z :: st').flatten.count y = [(0 : Int)].count y + ((z :: vis).flatMap (kfOf ns)).count y := fun y => by
      have h2 := i2 y
      rw [hx.1, List.count_cons] at h2
      rw [List.count_cons, List.flatten_cons, List.count_append, List.flatMap_cons, List.count_append]
      omega
    refine ⟨fresh (hr.step hn) hc, hc, ?_⟩
    rw [i3, hx.2, ordN_eq, if_neg ?_]
    · rw [List.map_append]; rfl
    · have := (hr.good h1 hki).vlen
      have := hr.len
      simp; omega
/-- where no place is a kid twice, the document's order is the walk's -/
theorem ord_walk {ns : List Nd} (h : Tr0 ns) (h1 : 1 ≤ ns.length) : ordN (kfOf ns) ns.length 0 [] = (walkL ns.length (kfOf ns)).map Prod.fst := by
  obtain ⟨vis, st, hr, hn⟩ := walk_facts h1 (kids_in h.link)
  have := h.runs h1 hr
  have e := nextD_fresh_none (kf := kfOf ns) (m := ns.length) this.1 hn ((walkL ns.length (kfOf ns)).map Prod.fst)
  rw [← e, ← this.2.2]; rfl
end Go.Proofs.Ytgaclepoipaecaa
