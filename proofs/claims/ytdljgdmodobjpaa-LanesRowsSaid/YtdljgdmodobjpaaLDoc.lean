/- The document's rows of a table, as it lists them, are the rows that the program finds. Plain data. -/
import Derived.Test.YtdljgdmodobjpaaLRef
namespace Go.Proofs.Ytdljgdmodobjpaa
open Go.RowKit Go.Shelf
set_option linter.unusedVariables false

/-- head, body, foot; how many heads and feet -/
structure DR where
  head : List (Int × Int)
  body : List (Int × Int)
  foot : List (Int × Int)
  nh : Nat
  nf : Nat
def DR.zero : DR := ⟨[], [], [], 0, 0⟩
def drStep (ns : List Nd) (s : DR) (z : Int) : DR :=
  if kdOf ns z.toNat = 9 then { s with body := s.body ++ [(z, -1)] }
  else if kdOf ns z.toNat = 6 then (if s.nh = 0 then { s with head := fndP ns 9 [z], nh := s.nh + 1 } else { s with body := s.body ++ fndP ns 9 [z], nh := s.nh + 1 })
  else if kdOf ns z.toNat = 8 then (if s.nf = 0 then { s with foot := fndP ns 9 [z], nf := s.nf + 1 } else { s with body := s.body ++ fndP ns 9 [z], nf := s.nf + 1 })
  else if kdOf ns z.toNat = 7 then { s with body := s.body ++ fndP ns 9 [z] } else s
def drOf (ns : List Nd) (ks : List Int) : DR := ks.foldl (drStep ns) DR.zero
theorem dr_snoc (ns : List Nd) (ks : List Int) (k : Nat) (z : Int) (h : ks[k]? = some z) : drOf ns (ks.take (k + 1)) = drStep ns (drOf ns (ks.take k)) z := by
  rw [List.take_add_one, h]; simp [drOf, List.foldl_append]
def kF (ns : List Nd) (k : Int) (ks : List Int) : List Int := ks.filter fun z => decide (kdOf ns z.toNat = k)
theorem kF_snoc (ns : List Nd) (k : Int) (pre : List Int) (z : Int) : kF ns k (pre ++ [z]) = kF ns k pre ++ (if kdOf ns z.toNat = k then [z] else []) := by
  unfold kF
  rw [List.filter_append]
  by_cases hz : kdOf ns z.toNat = k <;> simp [hz]
theorem fnd_nil (ns : List Nd) (k : Int) : fndP ns k [] = [] := rfl
theorem dr_pre (ns : List Nd) (ks : List Int) (hd : ks.Nodup) : ∀ (pre suf : List Int), ks = pre ++ suf →
    (drOf ns pre).head = fndP ns 9 ((kF ns 6 pre).take 1) ∧ (drOf ns pre).foot = fndP ns 9 ((kF ns 8 pre).take 1) ∧ ((drOf ns pre).nh = (kF ns 6 pre).length) ∧ ((drOf ns pre).nf = (kF ns 8 pre).length) ∧
    (drOf ns pre).body = pre.flatMap (oneR ns ((kF ns 6 ks).take 1 ++ (kF ns 8 ks).take 1)) := by
  suffices ∀ (n : Nat) (pre suf : List Int), pre.length = n → ks = pre ++ suf →
    (drOf ns pre).head = fndP ns 9 ((kF ns 6 pre).take 1) ∧ (drOf ns pre).foot = fndP ns 9 ((kF ns 8 pre).take 1) ∧ ((drOf ns pre).nh = (kF ns 6 pre).length) ∧ ((drOf ns pre).nf = (kF ns 8 pre).length) ∧
    (drOf ns pre).body = pre.flatMap (oneR ns ((kF ns 6 ks).take 1 ++ (kF ns 8 ks).take 1)) from fun pre suf h => this pre.length pre suf rfl h
  intro n
  induction n with
  | zero =>
    intro pre suf hl h
    obtain rfl : pre = [] := List.eq_nil_of_length_eq_zero hl
    exact ⟨rfl, rfl, rfl, rfl, rfl⟩
  | succ n ih =>
    intro pre suf hl h
    obtain ⟨pre, z, rfl⟩ : ∃ p z, pre = p ++ [z] := ⟨pre.dropLast, pre.getLast (by intro e; rw [e] at hl; simp at hl), (List.dropLast_concat_getLast _).symm⟩
    simp at hl
    obtain ⟨i1, i2, i3, i4, i5⟩ := ih pre (z :: suf) hl (by rw [h]; simp)
    have hs : drOf ns (pre ++ [z]) = drStep ns (drOf ns pre) z := by simp [drOf, List.foldl_append]
    have hzp : z ∉ pre := by
      intro hz
      rw [h, List.append_assoc] at hd
      exact (List.nodup_append.1 hd).2.2 z hz z (by simp) rfl
    have first : ∀ k : Int, kdOf ns z.toNat = k → (kF ns k ks).take 1 = if (kF ns k pre).length = 0 then [z] else (kF ns k pre).take 1 := fun k hk => by
      have e : kF ns k ks = kF ns k pre ++ z :: kF ns k suf := by
        rw [h]; unfold kF
        rw [List.filter_append, List.filter_append]
        simp [hk]
      rw [e]
      cases hq : kF ns k pre with
      | nil => simp
      | cons y t => simp
    have other : ∀ k k' : Int, kdOf ns z.toNat = k → k ≠ k' → z ∉ (kF ns k' ks).take 1 := fun k k' hk hne hz => by
      have := (List.mem_filter.1 (List.mem_of_mem_take hz)).2
      simp at this
      exact hne (hk.symm.trans this)
    have hone : oneR ns ((kF ns 6 ks).take 1 ++ (kF ns 8 ks).take 1) z = if kdOf ns z.toNat = 9 then [(z, -1)] else if kdOf ns z.toNat = 6 then (if (kF ns 6 pre).length = 0 then [] else fndP ns 9 [z]) else if kdOf ns z.toNat = 8 then (if (kF ns 8 pre).length = 0 then [] else fndP ns 9 [z]) else if kdOf ns z.toNat = 7 then fndP ns 9 [z] else [] := by
      have notin : ∀ k : Int, (kF ns k pre).length ≠ 0 → z ∉ (kF ns k pre).take 1 := fun k _ hz => hzp (List.mem_filter.1 (List.mem_of_mem_take hz)).1
      unfold oneR
      by_cases k9 : kdOf ns z.toNat = 9
      · rw [if_pos k9, if_pos k9]
      · rw [if_neg k9, if_neg k9]
        by_cases k6 : kdOf ns z.toNat = 6
        · rw [if_pos (.inl k6), if_pos k6, first 6 k6]
          by_cases h0 : (kF ns 6 pre).length = 0
          · rw [if_pos h0, if_pos h0, if_pos (by simp)]
          · rw [if_neg h0, if_neg h0, if_neg]
            simp only [List.contains_iff_mem, List.mem_append, not_or]
            exact ⟨notin 6 h0, other 6 8 k6 (by decide)⟩
        · rw [if_neg k6]
          by_cases k8 : kdOf ns z.toNat = 8
          · rw [if_pos (.inr k8), if_pos k8, first 8 k8]
            by_cases h0 : (kF ns 8 pre).length = 0
            · rw [if_pos h0, if_pos h0, if_pos (by simp)]
            · rw [if_neg h0, if_neg h0, if_neg]
              simp only [List.contains_iff_mem, List.mem_append, not_or]
              exact ⟨other 8 6 k8 (by decide), notin 8 h0⟩
          · rw [if_neg (fun h => h.elim k6 k8), if_neg k8]
    rw [hs, kF_snoc, kF_snoc, List.flatMap_append]
    simp only [List.flatMap_cons, List.flatMap_nil, List.append_nil]
    rw [hone, ← i5]
    unfold drStep
    by_cases k9 : kdOf ns z.toNat = 9
    · simp [k9, i1, i2, i3, i4]
    · by_cases k6 : kdOf ns z.toNat = 6
      · rw [i3]
        by_cases h0 : (kF ns 6 pre).length = 0
        · have e0 : kF ns 6 pre = [] := List.eq_nil_of_length_eq_zero h0
          simp [k6, e0, i2, i4]
        · have e1 : (kF ns 6 pre ++ [z]).take 1 = (kF ns 6 pre).take 1 := by
            cases hq : kF ns 6 pre with
            | nil => rw [hq] at h0; simp at h0
            | cons y t => simp
          have h0' : ¬ kF ns 6 pre = [] := fun e => h0 (by rw [e]; rfl)
          simp [k6, h0', i1, i2, i3, i4, e1]
      · by_cases k8 : kdOf ns z.toNat = 8
        · rw [i4]
          by_cases h0 : (kF ns 8 pre).length = 0
          · have e0 : kF ns 8 pre = [] := List.eq_nil_of_length_eq_zero h0
            simp [k8, e0, i1, i3]
          · have e1 : (kF ns 8 pre ++ [z]).take 1 = (kF ns 8 pre).take 1 := by
              cases hq : kF ns 8 pre with
              | nil => rw [hq] at h0; simp at h0
              | cons y t => simp
            have h0' : ¬ kF ns 8 pre = [] := fun e => h0 (by rw [e]; rfl)
            simp [k8, h0', i1, i2, i3, i4, e1]
        · by_cases k7 : kdOf ns z.toNat = 7
          · simp [k7, i1, i2, i3, i4]
          · simp [k9, k6, k8, k7, i1, i2, i3, i4]
theorem dr_rows (ns : List Nd) (p : Int) (hd : (kfOf ns p).Nodup) : (drOf ns (kfOf ns p)).head ++ (drOf ns (kfOf ns p)).body ++ (drOf ns (kfOf ns p)).foot = rowsP ns p := by
  obtain ⟨h1, h2, _, _, h5⟩ := dr_pre ns (kfOf ns p) hd (kfOf ns p) [] (by simp)
  rw [h1, h2, h5]
  rfl
end Go.Proofs.Ytdljgdmodobjpaa
