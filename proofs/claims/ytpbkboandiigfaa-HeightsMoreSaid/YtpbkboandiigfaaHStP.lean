/- Stretched rows, in plain data. Nothing of the program. -/
import Derived.Test.YtpbkboandiigfaaHStr
namespace Go.Proofs.Ytpbkboandiigfaa
set_option linter.unusedVariables false
set_option linter.unusedSimpArgs false

/-- shares added to the chosen rows, the first so many of them -/
def addTo (L ch sh : List Int) : Nat → List Int
  | 0 => L
  | k + 1 => (addTo L ch sh k).set (ch[k]?.getD 0).toNat ((addTo L ch sh k)[(ch[k]?.getD 0).toNat]?.getD 0 + sh[k]?.getD 0)
theorem addTo_len (L ch sh : List Int) (k : Nat) : (addTo L ch sh k).length = L.length := by
  induction k with
  | zero => rfl
  | succ k ih => show (List.set _ _ _).length = _; rw [List.length_set, ih]
theorem addTo_out (L ch sh : List Int) (k i : Nat) (h : ∀ j, j < k → (ch[j]?.getD 0).toNat ≠ i) : (addTo L ch sh k)[i]? = L[i]? := by
  induction k with
  | zero => rfl
  | succ k ih =>
    show (List.set _ _ _)[i]? = _
    rw [List.getElem?_set_ne (h k (by omega)), ih fun j hj => h j (by omega)]
/-- chosen rows: each once -/
structure ChOk (n : Nat) (ch : List Int) : Prop where
  rng : ∀ k, k < ch.length → 0 ≤ ch[k]?.getD 0 ∧ ch[k]?.getD 0 < (n : Int)
  inc : ∀ j k, j < k → k < ch.length → ch[j]?.getD 0 < ch[k]?.getD 0
theorem ChOk.ne {n : Nat} {ch : List Int} (h : ChOk n ch) {j k : Nat} (hj : j < k) (hk : k < ch.length) : (ch[j]?.getD 0).toNat ≠ (ch[k]?.getD 0).toNat := by
  have := h.inc j k hj hk
  have := h.rng j (by omega)
  have := h.rng k hk
  omega
theorem addTo_at {n : Nat} {L ch sh : List Int} (h : ChOk n ch) (k : Nat) (hk : k < ch.length) : (addTo L ch sh k)[(ch[k]?.getD 0).toNat]? = L[(ch[k]?.getD 0).toNat]? :=
  addTo_out L ch sh k _ fun j hj => h.ne hj hk
theorem addTo_in {n : Nat} {L ch sh : List Int} (h : ChOk n ch) (hl : L.length = n) (k : Nat) (hk : k ≤ ch.length) (j : Nat) (hj : j < k) : (addTo L ch sh k)[(ch[j]?.getD 0).toNat]?.getD 0 = L[(ch[j]?.getD 0).toNat]?.getD 0 + sh[j]?.getD 0 := by
  induction k with
  | zero => omega
  | succ k ih =>
    show (List.set _ _ _)[_]?.getD 0 = _
    by_cases e : j = k
    · subst e
      have hr := h.rng j (by omega)
      rw [List.getElem?_set_self (by rw [addTo_len, hl]; omega), Option.getD_some, addTo_at h j (by omega)]
    · rw [List.getElem?_set_ne (Ne.symm (h.ne (by omega) (by omega))), ih (by omega) (by omega)]
theorem sumZ_setH (L : List Int) (i : Nat) (z : Int) (h : i < L.length) : sumZ (L.set i (L[i]?.getD 0 + z)) = sumZ L + z := by
  induction L generalizing i with
  | nil => simp at h
  | cons x L ih =>
    cases i with
    | zero => simp only [List.set_cons_zero, List.getElem?_cons_zero, Option.getD_some]; rw [sumZ_cons, sumZ_cons]; omega
    | succ i =>
      simp only [List.set_cons_succ, List.getElem?_cons_succ]
      rw [sumZ_cons, sumZ_cons, ih i (by simpa using h)]; omega
theorem sumZ_take (sh : List Int) (k : Nat) : sumZ (sh.take (k + 1)) = sumZ (sh.take k) + sh[k]?.getD 0 := by
  induction sh generalizing k with
  | nil => simp [sumZ]
  | cons x sh ih =>
    cases k with
    | zero => simp [sumZ_cons]; simp [sumZ]
    | succ k =>
      simp only [List.take_succ_cons, List.getElem?_cons_succ]
      rw [sumZ_cons, sumZ_cons, ih]; omega
theorem addTo_sum {n : Nat} {L ch sh : List Int} (h : ChOk n ch) (hl : L.length = n) (k : Nat) (hk : k ≤ ch.length) : sumZ (addTo L ch sh k) = sumZ L + sumZ (sh.take k) := by
  induction k with
  | zero => simp [addTo, sumZ]
  | succ k ih =>
    show sumZ (List.set _ _ _) = _
    have hr := h.rng k (by omega)
    rw [sumZ_setH _ _ _ (by rw [addTo_len, hl]; omega), ih (by omega), sumZ_take]; omega
theorem addTo_ge {L ch sh : List Int} (h : ∀ z ∈ sh, 0 ≤ z) (k i : Nat) : L[i]?.getD 0 ≤ (addTo L ch sh k)[i]?.getD 0 := by
  induction k with
  | zero => exact Int.le_refl _
  | succ k ih =>
    show _ ≤ (List.set _ _ _)[i]?.getD 0
    have h0 : 0 ≤ sh[k]?.getD 0 := by
      by_cases hk : k < sh.length
      · rw [List.getElem?_eq_getElem hk]; exact h _ (List.getElem_mem hk)
      · rw [List.getElem?_eq_none (by omega)]; simp
    rw [List.getElem?_set]
    split
    · rename_i e
      subst e
      split
      · rw [Option.getD_some]; omega
      · rename_i hlt
        rw [addTo_len] at hlt
        rw [List.getElem?_eq_none (by omega)]
        simp
    · exact ih
theorem addTo_zero {L ch sh : List Int} (h : ∀ z ∈ sh, z = 0) (k : Nat) : addTo L ch sh k = L := by
  induction k with
  | zero => rfl
  | succ k ih =>
    show List.set _ _ _ = L
    have h0 : sh[k]?.getD 0 = 0 := by
      by_cases hk : k < sh.length
      · rw [List.getElem?_eq_getElem hk]; exact h _ (List.getElem_mem hk)
      · rw [List.getElem?_eq_none (by omega)]; rfl
    rw [ih, h0, Int.add_zero]
    apply List.ext_getElem?
    intro i
    rw [List.getElem?_set]
    split
    · rename_i e
      subst e
      split
      · rename_i hlt; simp [hlt]
      · rename_i hlt; rw [List.getElem?_eq_none (by omega)]
    · rfl
theorem leI_ok (ws : List Int) (q : Int) (j : Nat) : ChOk j (leI ws q j) := by
  have hp : ((List.range j).filter fun i => decide (ws[i]?.getD 0 ≤ q)).Pairwise (· < ·) := List.Pairwise.filter _ List.pairwise_lt_range
  have hm : ∀ k, k < (leI ws q j).length → ∃ i : Nat, ((List.range j).filter fun i => decide (ws[i]?.getD 0 ≤ q))[k]? = some i ∧ (leI ws q j)[k]?.getD 0 = (i : Int) ∧ i < j := fun k hk => by
    have hk' : k < ((List.range j).filter fun i => decide (ws[i]?.getD 0 ≤ q)).length := by simpa [leI] using hk
    refine ⟨_, List.getElem?_eq_getElem hk', ?_, List.mem_range.1 (List.mem_filter.1 (List.getElem_mem hk')).1⟩
    simp [leI, hk']
  refine ⟨fun k hk => ?_, fun a b hab hb => ?_⟩
  · obtain ⟨i, _, e, hi⟩ := hm k hk
    rw [e]; omega
  · obtain ⟨i, h1, e1, _⟩ := hm a (by omega)
    obtain ⟨i', h2, e2, _⟩ := hm b hb
    rw [e1, e2]
    have ha := (List.getElem?_eq_some_iff.1 h1)
    have hb' := (List.getElem?_eq_some_iff.1 h2)
    obtain ⟨ha1, ha2⟩ := ha
    obtain ⟨hb1, hb2⟩ := hb'
    have := List.pairwise_iff_getElem.1 hp a b ha1 hb1 hab
    rw [ha2, hb2] at this
    omega
theorem choP_ok (ws : List Int) : ChOk ws.length (choP ws) := by
  unfold choP
  split <;> exact leI_ok _ _ _
theorem choP_pos (ws : List Int) (h1 : 1 ≤ ws.length) (hv : ∀ z ∈ ws, z ≤ 1073741824) : 1 ≤ (choP ws).length := by
  unfold choP
  split
  · rw [leI_all ws _ hv _ (Nat.le_refl _)]; simp; omega
  · rename_i h
    cases he : leI ws (-1) ws.length with
    | nil => exact absurd he h
    | cons a l => simp
theorem choP_len (ws : List Int) : (choP ws).length ≤ ws.length := by
  unfold choP
  split <;> exact leI_len _ _ _
/-- the weights of chosen rows -/
def wtP (rows ch : List Int) : List Int := ch.map fun i => rows[i.toNat]?.getD 0
theorem wtP_len (rows ch : List Int) : (wtP rows ch).length = ch.length := by simp [wtP]
theorem wtP_snoc (rows ch : List Int) (k : Nat) (i : Int) (h : ch[k]? = some i) : wtP rows (ch.take (k + 1)) = wtP rows (ch.take k) ++ [rows[i.toNat]?.getD 0] := by
  unfold wtP
  rw [List.take_add_one, h]; simp
theorem wtP_ok (rows ch : List Int) (h : OkW rows) : OkW (wtP rows ch) := fun z hz => by
  obtain ⟨i, _, rfl⟩ := List.mem_map.1 hz
  exact okW_get rows h _
/-- stretched rows -/
def strE (rows : List Int) (total : Int) : Int := max 0 (total - sumZ rows)
def strS (rows ws : List Int) (total : Int) : List Int := shrW (strE rows total) (wtP rows (choP ws))
def stretchP (rows ws : List Int) (total : Int) : List Int := addTo rows (choP ws) (strS rows ws total) (choP ws).length
/-- are rows, requested heights, a total right? -/
structure StrOk (rows ws : List Int) (total : Int) : Prop where
  r1 : 1 ≤ rows.length
  r2 : rows.length ≤ 10000
  wl : ws.length = rows.length
  wk : ∀ z ∈ ws, -1 ≤ z ∧ z ≤ 1073741824
  rk : OkW rows
  t0 : 0 ≤ total
  t1 : total ≤ 576460752303423488
theorem StrOk.e0 {rows ws : List Int} {total : Int} (h : StrOk rows ws total) : 0 ≤ strE rows total ∧ strE rows total ≤ 576460752303423488 := by
  have := sumZ_nn rows h.rk
  have := h.t1
  unfold strE
  omega
theorem StrOk.c1 {rows ws : List Int} {total : Int} (h : StrOk rows ws total) : 1 ≤ (choP ws).length := choP_pos ws (by rw [h.wl]; exact h.r1) fun z hz => (h.wk z hz).2
theorem StrOk.c2 {rows ws : List Int} {total : Int} (h : StrOk rows ws total) : (choP ws).length ≤ rows.length := by have := choP_len ws; have := h.wl; omega
theorem StrOk.ch {rows ws : List Int} {total : Int} (h : StrOk rows ws total) : ChOk rows.length (choP ws) := by have := choP_ok ws; rwa [h.wl] at this
theorem StrOk.sl {rows ws : List Int} {total : Int} (h : StrOk rows ws total) : (strS rows ws total).length = (choP ws).length := by
  unfold strS
  rw [shrW_len _ _ h.e0.1 (wtP_ok _ _ h.rk) (by rw [wtP_len]; exact h.c1), wtP_len]
theorem StrOk.sb {rows ws : List Int} {total : Int} (h : StrOk rows ws total) : ∀ z ∈ strS rows ws total, 0 ≤ z ∧ z ≤ strE rows total :=
  shrW_bd _ _ h.e0.1 (wtP_ok _ _ h.rk) (by rw [wtP_len]; exact h.c1)
theorem StrOk.ss {rows ws : List Int} {total : Int} (h : StrOk rows ws total) : sumZ (strS rows ws total) = strE rows total :=
  (shrW_shr _ _ h.e0.1 (wtP_ok _ _ h.rk) (by rw [wtP_len]; exact h.c1)).sum
theorem StrOk.len {rows ws : List Int} {total : Int} (h : StrOk rows ws total) : (stretchP rows ws total).length = rows.length := addTo_len _ _ _ _
theorem StrOk.sum {rows ws : List Int} {total : Int} (h : StrOk rows ws total) : sumZ (stretchP rows ws total) = max (sumZ rows) total := by
  unfold stretchP
  rw [addTo_sum h.ch rfl _ (Nat.le_refl _), List.take_of_length_le (by rw [h.sl]; exact Nat.le_refl _), h.ss]
  unfold strE; omega
theorem StrOk.ge {rows ws : List Int} {total : Int} (h : StrOk rows ws total) (i : Nat) : rows[i]?.getD 0 ≤ (stretchP rows ws total)[i]?.getD 0 := addTo_ge (fun z hz => (h.sb z hz).1) _ i
theorem StrOk.stay {rows ws : List Int} {total : Int} (h : StrOk rows ws total) (ht : total ≤ sumZ rows) : stretchP rows ws total = rows :=
  addTo_zero (fun z hz => by have := h.sb z hz; have e : strE rows total = 0 := (by unfold strE; omega); omega) _
/-- those that ask for something keep what they have, if others do not -/
theorem StrOk.keep {rows ws : List Int} {total : Int} (h : StrOk rows ws total) (hf : ∃ i : Nat, i < ws.length ∧ ws[i]?.getD 0 = -1) (i : Nat) (hi : 0 ≤ ws[i]?.getD 0) : (stretchP rows ws total)[i]? = rows[i]? := by
  have hne : leI ws (-1) ws.length ≠ [] := by
    obtain ⟨k, hk, e⟩ := hf
    intro h0
    have : (k : Int) ∈ leI ws (-1) ws.length := List.mem_map.2 ⟨k, List.mem_filter.2 ⟨List.mem_range.2 hk, by simp [e]⟩, rfl⟩
    rw [h0] at this; simp at this
  refine addTo_out _ _ _ _ _ fun j hj e => ?_
  unfold choP at hj e
  rw [if_neg hne] at hj e
  have hm : (leI ws (-1) ws.length)[j]?.getD 0 ∈ leI ws (-1) ws.length := by rw [List.getElem?_eq_getElem hj]; exact List.getElem_mem hj
  obtain ⟨k, hk, e2⟩ := List.mem_map.1 hm
  have := (List.mem_filter.1 hk).2
  rw [← e2, Int.toNat_natCast] at e
  subst e
  simp at this
  omega
end Go.Proofs.Ytpbkboandiigfaa
