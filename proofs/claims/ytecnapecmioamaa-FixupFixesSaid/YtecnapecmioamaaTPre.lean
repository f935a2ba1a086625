/- The document's order of a page, by recursion: on a tree it is that of the walk. Plain data. -/
import Derived.Test.YtecnapecmioamaaTTr
namespace Go.Proofs.Ytecnapecmioamaa
open Go.RowKit Go.Shelf
set_option linter.unusedVariables false

def ordD (kf : Int → List Int) (m : Nat) : Nat → Int → List Int → List Int
  | 0, _, out => out
  | f + 1, z, out => if m < out.length then out else (kf z).foldl (fun o y => ordD kf m f y o) (out ++ [z])
theorem fold_mono (g : Int → List Int → List Int) (hg : ∀ z out, out.length ≤ (g z out).length) : ∀ (ks out : List Int), out.length ≤ (ks.foldl (fun o y => g y o) out).length
  | [], out => Nat.le_refl _
  | y :: ks, out => by
    rw [List.foldl_cons]
    exact Nat.le_trans (hg y out) (fold_mono g hg ks _)
theorem ordD_mono (kf : Int → List Int) (m : Nat) : ∀ (f : Nat) (z : Int) (out : List Int), out.length ≤ (ordD kf m f z out).length
  | 0, z, out => Nat.le_refl _
  | f + 1, z, out => by
    unfold ordD
    split
    · exact Nat.le_refl _
    · exact Nat.le_trans (by simp) (fold_mono _ (ordD_mono kf m f) (kf z) (out ++ [z]))
theorem fold_congr (g g' : Int → List Int → List Int) (b : Nat) (hm : ∀ z out, out.length ≤ (g z out).length) (hg : ∀ z out, b ≤ out.length → g z out = g' z out) : ∀ (ks out : List Int), b ≤ out.length → ks.foldl (fun o y => g y o) out = ks.foldl (fun o y => g' y o) out
  | [], out, _ => rfl
  | y :: ks, out, h => by
    rw [List.foldl_cons, List.foldl_cons, ← hg y out h]
    exact fold_congr g g' b hm hg ks _ (Nat.le_trans h (hm y out))
theorem ordD_fuel (kf : Int → List Int) (m : Nat) : ∀ (f f' : Nat) (z : Int) (out : List Int), m + 2 ≤ f + out.length → m + 2 ≤ f' + out.length → ordD kf m f z out = ordD kf m f' z out
  | 0, 0, z, out, _, _ => rfl
  | 0, f' + 1, z, out, h, _ => by
    rw [ordD, ordD, if_pos (by omega)]
  | f + 1, 0, z, out, _, h => by
    rw [ordD, ordD, if_pos (by omega)]
  | f + 1, f' + 1, z, out, h, h' => by
    rw [ordD, ordD]
    split
    · rfl
    · refine fold_congr (ordD kf m f) (ordD kf m f') (out.length + 1) (ordD_mono kf m f) (fun z o ho => ordD_fuel kf m f f' z o (by omega) (by omega)) (kf z) (out ++ [z]) (by simp)
/-- the document's order, from a place on -/
def ordN (kf : Int → List Int) (m : Nat) (z : Int) (out : List Int) : List Int := ordD kf m (m + 2 - out.length) z out
theorem ordN_mono (kf : Int → List Int) (m : Nat) (z : Int) (out : List Int) : out.length ≤ (ordN kf m z out).length := ordD_mono _ _ _ _ _
theorem ordN_eq (kf : Int → List Int) (m : Nat) (z : Int) (out : List Int) : ordN kf m z out = if m < out.length then out else (kf z).foldl (fun o y => ordN kf m y o) (out ++ [z]) := by
  by_cases h : m < out.length
  · rw [if_pos h]
    unfold ordN
    rw [ordD_fuel kf m _ 1 z out (by omega) (by omega), ordD, if_pos h]
  · rw [if_neg h]
    unfold ordN
    obtain ⟨f, hf⟩ : ∃ f, m + 2 - out.length = f + 1 := ⟨m + 1 - out.length, by omega⟩
    rw [hf, ordD, if_neg h]
    exact fold_congr (ordD kf m f) (fun y o => ordD kf m (m + 2 - o.length) y o) (out.length + 1) (ordD_mono kf m f) (fun z o ho => ordD_fuel kf m f _ z o (by omega) (by omega)) (kf z) (out ++ [z]) (by simp)
/-- a stack of rows of places, worked off -/
def foldS (kf : Int → List Int) (m : Nat) (st : List (List Int)) (out : List Int) : List Int := st.foldl (fun o ks => ks.foldl (fun o y => ordN kf m y o) o) out
theorem nextD_fresh {kf : Int → List Int} {m : Nat} {vis : List Int} : ∀ {st : List (List Int)} {z : Int} {d : Nat} {st' : List (List Int)}, (∀ ks ∈ st, ∀ y ∈ ks, vis.contains y = false) → nextD vis st = some (z, d, st') →
    st.flatten = z :: st'.flatten ∧ ∀ out, foldS kf m st out = foldS kf m st' (ordN kf m z out)
  | [], z, d, st', _, h => by simp [nextD] at h
  | [] :: st, z, d, st', hf, h => by
    unfold nextD at h
    simp only [List.dropWhile_nil] at h
    have := nextD_fresh (kf := kf) (m := m) (fun ks hk => hf ks (by simp [hk])) h
    exact ⟨by rw [List.flatten_cons, List.nil_append]; exact this.1, fun out => by rw [← this.2 out]; rfl⟩
  | (a :: r) :: st, z, d, st', hf, h => by
    have ha := hf (a :: r) (by simp) a (by simp)
    unfold nextD at h
    simp only [List.dropWhile_cons, ha] at h
    simp only [Bool.false_eq_true, if_false, Option.some.injEq, Prod.mk.injEq] at h
    obtain ⟨rfl, rfl, rfl⟩ := h
    exact ⟨by simp, fun out => rfl⟩
theorem nextD_fresh_none {kf : Int → List Int} {m : Nat} {vis : List Int} : ∀ {st : List (List Int)}, (∀ ks ∈ st, ∀ y ∈ ks, vis.contains y = false) → nextD vis st = none → ∀ out, foldS kf m st out = out
  | [], _, _, out => rfl
  | [] :: st, hf, h, out => by
    unfold nextD at h
    simp only [List.dropWhile_nil] at h
    exact nextD_fresh_none (kf := kf) (m := m) (st := st) (fun ks hk => hf ks (by simp [hk])) h out
  | (a :: r) :: st, hf, h, out => by
    have ha := hf (a :: r) (by simp) a (by simp)
    unfold nextD at h
    rw [List.dropWhile_cons, ha] at h
    simp only [Bool.false_eq_true, if_false] at h
    cases h
theorem kids_part (ns : List Nd) (i : Nat) (n : Nd) (h : ns[i]? = some n) (y : Int) : (kidsOf ns).count y = (kidsOf (ns.take i)).count y + (n.ks.count y + (kidsOf (ns.drop (i + 1))).count y) := by
  have hl := (List.getElem?_eq_some_iff.1 h).1
  have e : ns = ns.take i ++ n :: ns.drop (i + 1) := by
    have h1 : ns.drop i = n :: ns.drop (i + 1) := by
      rw [List.drop_eq_getElem_cons hl]
      congr 1
      exact (List.getElem?_eq_some_iff.1 h).2
    rw [← h1, List.take_append_drop]
  conv => lhs; rw [e]
  simp [kidsOf]
theorem Tr0.one {ns : List Nd} (h : Tr0 ns) {i : Nat} {n : Nd} (hn : ns[i]? = some n) (y : Int) : n.ks.count y ≤ 1 := by
  by_cases hy : y ∈ n.ks
  · have hr := h.link n (List.mem_iff_getElem?.2 ⟨i, hn⟩) y hy
    have h1 := h.once y.toNat (by omega) (by omega)
    rw [show ((y.toNat : Nat) : Int) = y by omega, kids_part ns i n hn y] at h1
    omega
  · rw [List.count_eq_zero_of_not_mem hy]; omega
theorem Tr0.up {ns : List Nd} (h : Tr0 ns) {i j : Nat} {n n' : Nd} (hn : ns[i]? = some n) (hn' : ns[j]? = some n') {y : Int} (hy : y ∈ n.ks) (hy' : y ∈ n'.ks) : i = j := by
  have key : ∀ (i j : Nat) (n n' : Nd), ns[i]? = some n → ns[j]? = some n' → y ∈ n.ks → y ∈ n'.ks → ¬ i < j := fun i j n n' hn hn' hy hy' hij => by
    have hr := h.link n (List.mem_iff_getElem?.2 ⟨i, hn⟩) y hy
    have h1 := h.once y.toNat (by omega) (by omega)
    rw [show ((y.toNat : Nat) : Int) = y by omega, kids_part ns i n hn y] at h1
    have c1 := List.count_pos_iff.2 hy
    have c2 : 0 < (kidsOf (ns.drop (i + 1))).count y := List.count_pos_iff.2 (by
      unfold kidsOf
      refine List.mem_flatMap.2 ⟨n', List.mem_iff_getElem?.2 ⟨j - (i + 1), ?_⟩, hy'⟩
      rw [List.getElem?_drop, show i + 1 + (j - (i + 1)) = j by omega]; exact hn')
    omega
  have a := key i j n n' hn hn' hy hy'
  have b := key j i n' n hn' hn hy' hy
  omega
theorem kf_mem {ns : List Nd} {z y : Int} (h : y ∈ kfOf ns z) : ∃ n, ns[z.toNat]? = some n ∧ y ∈ n.ks := by
  unfold kfOf at h
  cases hq : ns[z.toNat]? with
  | none => rw [hq] at h; cases h
  | some n => rw [hq] at h; exact ⟨n, rfl, h⟩
theorem Tr0.rows {ns : List Nd} (h : Tr0 ns) (y : Int) : ∀ vis : List Int, vis.Nodup → (∀ z ∈ vis, 0 ≤ z) → (vis.flatMap (kfOf ns)).count y ≤ 1
  | [], _, _ => by simp
  | z :: vis, hd, hz => by
    rw [List.flatMap_cons, List.count_append]
    have hd' := List.nodup_cons.1 hd
    have ih := h.rows y vis hd'.2 (fun z hz' => hz z (by simp [hz']))
    by_cases hy : y ∈ kfOf ns z
    · obtain ⟨n, hn, hyn⟩ := kf_mem hy
      have h1 : (kfOf ns z).count y ≤ 1 := by
        unfold kfOf
        rw [hn]; exact h.one hn y
      have h2 : (vis.flatMap (kfOf ns)).count y = 0 := List.count_eq_zero_of_not_mem (fun hm => by
        obtain ⟨z', hz', hy'⟩ := List.mem_flatMap.1 hm
        obtain ⟨n', hn', hyn'⟩ := kf_mem hy'
        have := h.up hn hn' hyn hyn'
        have a := hz z (by simp)
        have b := hz z' (by simp [hz'])
        have : z = z' := by omega
        exact hd'.1 (this ▸ hz'))
      omega
    · rw [List.count_eq_zero_of_not_mem hy]; omega
theorem Tr0.runs {ns : List Nd} (h : Tr0 ns) (h1 : 1 ≤ ns.length) {pre : List (Int × Nat)} {vis : List Int} {st : List (List Int)} (hr : Runs (kfOf ns) pre vis st) :
    (∀ ks ∈ st, ∀ y ∈ ks, vis.contains y = false) ∧ (∀ y, vis.count y + st.flatten.count y = [(0 : Int)].count y + (vis.flatMap (kfOf ns)).count y) ∧ foldS (kfOf ns) ns.length [[0]] [] = foldS (kfOf ns) ns.length st (pre.map Prod.fst) := by
  have hki := kids_in h.link
  have fresh : ∀ {pre : List (Int × Nat)} {vis : List Int} {st : List (List Int)}, Runs (kfOf ns) pre vis st → (∀ y, vis.count y + st.flatten.count y = [(0 : Int)].count y + (vis.flatMap (kfOf ns)).count y) → ∀ ks ∈ st, ∀ y ∈ ks, vis.contains y = false := fun {pre vis st} hr hc ks hks y hy => by
    cases hv : vis.contains y with
    | false => rfl
    | true =>
      exfalso
      have hg := hr.good h1 hki
      have hyv : y ∈ vis := by simpa using hv
      have c1 := List.count_pos_iff.2 hyv
      have c2 : 0 < st.flatten.count y := List.count_pos_iff.2 (List.mem_flatten.2 ⟨ks, hks, hy⟩)
      have c3 := hc y
      have c4 := h.rows y vis hg.nd (fun z hz => (hg.vrng z hz).1)
      by_cases h0 : y = 0
      · have : (vis.flatMap (kfOf ns)).count y = 0 := List.count_eq_zero_of_not_mem (fun hm => by
          obtain ⟨z', hz', hy'⟩ := List.mem_flatMap.1 hm
          obtain ⟨n', hn', hyn'⟩ := kf_mem hy'
          have := h.link n' (List.mem_iff_getElem?.2 ⟨_, hn'⟩) y hyn'
          omega)
        have : [(0 : Int)].count y ≤ 1 := List.count_le_length
        omega
      · have : [(0 : Int)].count y = 0 := List.count_eq_zero_of_not_mem (by simpa using h0)
        omega
  induction hr with
  | nil => exact ⟨fun ks _ y _ => rfl, fun y => by simp, rfl⟩
  | @step pre vis st z d st' hr hn ih =>
    obtain ⟨i1, i2, i3⟩ := ih
    have hx := nextD_fresh (kf := kfOf ns) (m := ns.length) i1 hn
    have hc : ∀ y, (z :: vis).count y + (kfOf ns z :: st').flatten.count y = [(0 : Int)].count y + ((z :: vis).flatMap (kfOf ns)).count y := fun y => by
      have h2 := i2 y
      rw [hx.1, List.count_cons] at h2
      rw [List.count_cons, List.flatten_cons, List.count_append, List.flatMap_cons, List.count_append]
      omega
    refine ⟨fresh (hr.step hn) hc, hc, ?_⟩
    rw [i3, hx.2, ordN_eq, if_neg ?_]
    · rw [List.map_append]; rfl
    · have := (hr.good h1 hki).vlen
      have := hr.len
      simp; omega
/-- where no place is a kid twice, the document's order is the walk's -/
theorem ord_walk {ns : List Nd} (h : Tr0 ns) (h1 : 1 ≤ ns.length) : ordN (kfOf ns) ns.length 0 [] = (walkL ns.length (kfOf ns)).map Prod.fst := by
  obtain ⟨vis, st, hr, hn⟩ := walk_facts h1 (kids_in h.link)
  have := h.runs h1 hr
  have e := nextD_fresh_none (kf := kfOf ns) (m := ns.length) this.1 hn ((walkL ns.length (kfOf ns)).map Prod.fst)
  rw [← e, ← this.2.2]; rfl
end Go.Proofs.Ytecnapecmioamaa
