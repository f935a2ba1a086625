/- The library's stable sort beyond one block of twenty, in plain data: exchanging runs, rotating, merging by symmetric comparisons. -/
import Derived.Sort.LotA
namespace Go.Proofs.Ytpbkboandiigfaa
open Go.Sort
set_option linter.unusedVariables false
set_option linter.unusedSectionVars false
section
variable {α : Type} [Inhabited α]

/-- n places from a on are exchanged with n places from b on -/
structure SwR (d d' : Array α) (a b n : Nat) : Prop where
  perm : PermIn a (b + n) d d'
  lo : ∀ k, a ≤ k → k < a + n → d'[k]! = d[b + (k - a)]!
  hi : ∀ k, b ≤ k → k < b + n → d'[k]! = d[a + (k - b)]!
  mid : ∀ k, a + n ≤ k → k < b → d'[k]! = d[k]!
theorem SwR.zero (d : Array α) (a b : Nat) : SwR d d a b 0 :=
  ⟨permIn_refl _ _ _, fun k h1 h2 => by omega, fun k h1 h2 => by omega, fun k _ _ => rfl⟩
theorem SwR.size {d d' : Array α} {a b n : Nat} (h : SwR d d' a b n) : d'.size = d.size := h.perm.1
theorem SwR.out {d d' : Array α} {a b n : Nat} (h : SwR d d' a b n) (k : Nat) (hk : k < a ∨ b + n ≤ k) : d'[k]! = d[k]! := h.perm.2.1 k hk
theorem SwR.step {d dk : Array α} {a b i : Nat} (h : SwR d dk a b i) (hab : a + (i + 1) ≤ b) (hb : b + (i + 1) ≤ d.size) : SwR d (swp dk (a + i) (b + i)) a b (i + 1) := by
  have hs := h.size
  have g := swp_get dk (show a + i < dk.size by omega) (show b + i < dk.size by omega)
  refine ⟨?_, ?_, ?_, ?_⟩
  · refine permIn_trans _ _ _ _ _ (permIn_mono _ _ _ _ _ _ (Nat.le_refl a) (by omega) hb h.perm) ?_
    exact swp_permIn _ _ _ _ _ (by omega) (by omega) (by omega) (by omega) (by omega)
  · intro k h1 h2
    rw [g, if_neg (by omega)]
    by_cases e : k = a + i
    · subst e; rw [if_pos rfl, h.out _ (by omega), show b + (a + i - a) = b + i by omega]
    · rw [if_neg e]; exact h.lo k h1 (by omega)
  · intro k h1 h2
    rw [g]
    by_cases e : k = b + i
    · subst e; rw [if_pos rfl, h.mid _ (by omega) (by omega), show a + (b + i - b) = a + i by omega]
    · rw [if_neg e, if_neg (by omega)]; exact h.hi k h1 (by omega)
  · intro k h1 h2
    rw [g, if_neg (by omega), if_neg (by omega)]; exact h.mid k (by omega) h2

/-- the runs [a, m) and [m, b) are exchanged -/
structure Rot (d d' : Array α) (a m b : Nat) : Prop where
  perm : PermIn a b d d'
  lo : ∀ k, a ≤ k → k < a + (b - m) → d'[k]! = d[k + (m - a)]!
  hi : ∀ k, a + (b - m) ≤ k → k < b → d'[k]! = d[k - (b - m)]!
theorem Rot.none1 (d : Array α) (a b : Nat) : Rot d d a a b :=
  ⟨permIn_refl _ _ _, fun k _ _ => by rw [Nat.sub_self, Nat.add_zero], fun k _ _ => by omega⟩
theorem Rot.none2 (d : Array α) (a b : Nat) : Rot d d a b b :=
  ⟨permIn_refl _ _ _, fun k _ _ => by omega, fun k _ _ => by rw [Nat.sub_self, Nat.sub_zero]⟩
theorem Rot.size {d d' : Array α} {a m b : Nat} (h : Rot d d' a m b) : d'.size = d.size := h.perm.1
theorem Rot.out {d d' : Array α} {a m b : Nat} (h : Rot d d' a m b) (k : Nat) (hk : k < a ∨ b ≤ k) : d'[k]! = d[k]! := h.perm.2.1 k hk
theorem Rot.done {d d' : Array α} {A i : Nat} (h : SwR d d' A (A + i) i) : Rot d d' A (A + i) (A + i + i) :=
  ⟨h.perm, fun k h1 h2 => by rw [h.lo k h1 (by omega)]; congr 1; omega, fun k h1 h2 => by rw [h.hi k (by omega) (by omega)]; congr 1; omega⟩
theorem Rot.left {d d1 d' : Array α} {A i j : Nat} (h : SwR d d1 A (A + i) j) (hij : j < i) (hs : A + i + j ≤ d.size) (r : Rot d1 d' (A + j) (A + i) (A + i + j)) : Rot d d' A (A + i) (A + i + j) := by
  refine ⟨permIn_trans _ _ _ _ _ h.perm (permIn_mono _ _ _ _ _ _ (by omega) (Nat.le_refl _) (by rw [h.size]; exact hs) r.perm), ?_, ?_⟩
  · intro k h1 h2
    rw [r.out k (by omega), h.lo k h1 (by omega)]; congr 1; omega
  · intro k h1 h2
    by_cases e : k < A + j + j
    · rw [r.lo k (by omega) (by omega), h.hi _ (by omega) (by omega)]; congr 1; omega
    · rw [r.hi k (by omega) (by omega), h.mid _ (by omega) (by omega)]
theorem Rot.right {d d1 d' : Array α} {A i j : Nat} (h : SwR d d1 A (A + j) i) (hij : i < j) (hs : A + i + j ≤ d.size) (r : Rot d1 d' A (A + i) (A + j)) : Rot d d' A (A + i) (A + i + j) := by
  have hp := h.perm
  rw [show A + j + i = A + i + j by omega] at hp
  refine ⟨permIn_trans _ _ _ _ _ hp (permIn_mono _ _ _ _ _ _ (Nat.le_refl _) (by omega) (by rw [h.size]; exact hs) r.perm), ?_, ?_⟩
  · intro k h1 h2
    by_cases e : k < A + (j - i)
    · rw [r.lo k (by omega) (by omega), h.mid _ (by omega) (by omega)]
    · rw [r.hi k (by omega) (by omega), h.lo _ (by omega) (by omega)]; congr 1; omega
  · intro k h1 h2
    rw [r.out k (by omega), h.hi k (by omega) (by omega)]; congr 1; omega
/-- one place is carried on, step by step -/
theorem Rot.stepR {d dk : Array α} {a c : Nat} (h : Rot d dk a (a + 1) (c + 1)) (hac : a ≤ c) (hc : c + 1 < d.size) : Rot d (swp dk c (c + 1)) a (a + 1) (c + 2) := by
  have hs := h.size
  have g := swp_get dk (show c < dk.size by omega) (show c + 1 < dk.size by omega)
  refine ⟨permIn_trans _ _ _ _ _ (permIn_mono _ _ _ _ _ _ (Nat.le_refl _) (by omega) (by omega) h.perm) (swp_permIn _ _ _ _ _ (by omega) (by omega) (by omega) (by omega) (by omega)), ?_, ?_⟩
  · intro k h1 h2
    rw [g, if_neg (by omega)]
    by_cases e : k = c
    · subst e; rw [if_pos rfl, h.out _ (by omega)]; congr 1; omega
    · rw [if_neg e]; exact h.lo k h1 (by omega)
  · intro k h1 h2
    obtain rfl : k = c + 1 := by omega
    rw [g, if_pos rfl, h.hi c (by omega) (by omega)]; congr 1; omega
theorem Rot.stepL {d dk : Array α} {m c : Nat} (h : Rot d dk (c + 1) m (m + 1)) (hc : c + 1 ≤ m) (hm : m < d.size) : Rot d (swp dk (c + 1) c) c m (m + 1) := by
  have hs := h.size
  have g := swp_get dk (show c + 1 < dk.size by omega) (show c < dk.size by omega)
  refine ⟨permIn_trans _ _ _ _ _ (permIn_mono _ _ _ _ _ _ (by omega) (Nat.le_refl _) (by omega) h.perm) (swp_permIn _ _ _ _ _ (by omega) (by omega) (by omega) (by omega) (by omega)), ?_, ?_⟩
  · intro k h1 h2
    obtain rfl : k = c := by omega
    rw [g, if_pos rfl, h.lo (k + 1) (by omega) (by omega)]; congr 1; omega
  · intro k h1 h2
    rw [g, if_neg (by omega)]
    by_cases e : k = c + 1
    · subst e; rw [if_pos rfl, h.out _ (by omega)]; congr 1; omega
    · rw [if_neg e]; exact h.hi k (by omega) h2

/-- a strict order -/
structure Bf (bf : α → α → Prop) : Prop where
  irr : ∀ x, ¬ bf x x
  trans : ∀ x y z, bf x y → bf y z → bf x z
def Srt (bf : α → α → Prop) (a b : Nat) (d : Array α) : Prop := ∀ i j, a ≤ i → i < j → j < b → bf d[i]! d[j]!
/-- what the comparison says of one of the right run and one of the left run -/
def Crs (lt : α → α → Bool) (bf : α → α → Prop) (a m b : Nat) (d : Array α) : Prop :=
  ∀ i, a ≤ i → i < m → ∀ j, m ≤ j → j < b → (lt d[j]! d[i]! = true → bf d[j]! d[i]!) ∧ (lt d[j]! d[i]! = false → bf d[i]! d[j]!)
structure Mg (bf : α → α → Prop) (d d' : Array α) (a b : Nat) : Prop where
  perm : PermIn a b d d'
  srt : Srt bf a b d'
variable {lt : α → α → Bool} {bf : α → α → Prop}
theorem Srt.join {a m b : Nat} {d : Array α} (h1 : Srt bf a m d) (h2 : Srt bf m b d) (h : ∀ x, a ≤ x → x < m → ∀ y, m ≤ y → y < b → bf d[x]! d[y]!) : Srt bf a b d := by
  intro i j hi hij hj
  by_cases c1 : j < m
  · exact h1 i j hi hij c1
  · by_cases c2 : m ≤ i
    · exact h2 i j c2 hij hj
    · exact h i hi (by omega) j (by omega) hj
theorem Srt.part {a b a' b' : Nat} {d : Array α} (h : Srt bf a b d) (ha : a ≤ a') (hb : b' ≤ b) : Srt bf a' b' d := fun i j h1 h2 h3 => h i j (by omega) h2 (by omega)
theorem Srt.same {a b : Nat} {d d' : Array α} (h : Srt bf a b d) (e : ∀ k, a ≤ k → k < b → d'[k]! = d[k]!) : Srt bf a b d' := fun i j h1 h2 h3 => by
  rw [e i h1 (by omega), e j (by omega) h3]; exact h i j h1 h2 h3
theorem Crs.same {a m b : Nat} {d d' : Array α} (h : Crs lt bf a m b d) (e : ∀ k, a ≤ k → k < b → d'[k]! = d[k]!) : Crs lt bf a m b d' := fun i h1 h2 j h3 h4 => by
  rw [e i h1 (by omega), e j (by omega) h4]; exact h i h1 h2 j h3 h4
/-- who is less than one is less than those behind it, and so are those before -/
theorem Crs.up (hB : Bf bf) {a m b : Nat} {d : Array α} (h : Crs lt bf a m b d) (s1 : Srt bf a m d) (s2 : Srt bf m b d) {i j i' j' : Nat} (hi : a ≤ i) (hj : j < b) (hi' : i' < m) (hj' : m ≤ j') (h1 : i ≤ i') (h2 : j' ≤ j)
    (hl : lt d[j]! d[i]! = true) : lt d[j']! d[i']! = true := by
  cases e : lt d[j']! d[i']! with
  | true => rfl
  | false =>
    exfalso
    have q := (h i' (by omega) hi' j' hj' (by omega)).2 e
    have p := (h i hi (by omega) j (by omega) hj).1 hl
    have p1 : bf d[j]! d[i']! := by
      by_cases c : i = i'
      · rw [← c]; exact p
      · exact hB.trans _ _ _ p (s1 i i' hi (by omega) hi')
    have p2 : bf d[j']! d[i']! := by
      by_cases c : j' = j
      · rw [c]; exact p1
      · exact hB.trans _ _ _ (s2 j' j hj' (by omega) hj) p1
    exact hB.irr _ (hB.trans _ _ _ p2 q)
theorem Crs.down (hB : Bf bf) {a m b : Nat} {d : Array α} (h : Crs lt bf a m b d) (s1 : Srt bf a m d) (s2 : Srt bf m b d) {i j i' j' : Nat} (hi : i < m) (hj : m ≤ j) (hi' : a ≤ i') (hj' : j' < b) (h1 : i' ≤ i) (h2 : j ≤ j')
    (hl : lt d[j]! d[i]! = false) : lt d[j']! d[i']! = false := by
  cases e : lt d[j']! d[i']! with
  | false => rfl
  | true => rw [h.up hB s1 s2 hi' hj' hi hj h1 h2 e] at hl; cases hl

/-- what holds behind the rotation at a cut -/
structure Cut (lt : α → α → Bool) (bf : α → α → Prop) (d d' : Array α) (a st mid en b : Nat) : Prop where
  perm : PermIn a b d d'
  s1 : Srt bf a st d'
  s2 : Srt bf st mid d'
  s3 : Srt bf mid en d'
  s4 : Srt bf en b d'
  c1 : Crs lt bf a st mid d'
  c2 : Crs lt bf mid en b d'
  ap : ∀ x, a ≤ x → x < mid → ∀ y, mid ≤ y → y < b → bf d'[x]! d'[y]!
theorem Cut.of {d d' : Array α} {a st m en b mid : Nat} (h1 : Srt bf a m d) (h2 : Srt bf m b d) (hc : Crs lt bf a m b d) (b1 : a ≤ st) (b2 : st ≤ m) (b3 : m ≤ en) (b4 : en ≤ b) (hb : b ≤ d.size) (hm : mid = st + (en - m))
    (hA : ∀ x, a ≤ x → x < st → ∀ y, en ≤ y → y < b → bf d[x]! d[y]!) (hB : ∀ x, st ≤ x → x < m → ∀ y, m ≤ y → y < en → bf d[y]! d[x]!) (r : Rot d d' st m en) : Cut lt bf d d' a st mid en b := by
  subst hm
  have e1 : ∀ k, k < st → d'[k]! = d[k]! := fun k h => r.out k (by omega)
  have e2 : ∀ k, st ≤ k → k < st + (en - m) → d'[k]! = d[k + (m - st)]! := r.lo
  have e3 : ∀ k, st + (en - m) ≤ k → k < en → d'[k]! = d[k - (en - m)]! := r.hi
  have e4 : ∀ k, en ≤ k → d'[k]! = d[k]! := fun k h => r.out k (by omega)
  refine ⟨permIn_mono _ _ _ _ _ _ b1 b4 hb r.perm, ?_, ?_, ?_, ?_, ?_, ?_, ?_⟩
  · intro i j q1 q2 q3; rw [e1 i (by omega), e1 j q3]; exact h1 i j q1 q2 (by omega)
  · intro i j q1 q2 q3; rw [e2 i q1 (by omega), e2 j (by omega) q3]; exact h2 _ _ (by omega) (by omega) (by omega)
  · intro i j q1 q2 q3; rw [e3 i q1 (by omega), e3 j (by omega) q3]; exact h1 _ _ (by omega) (by omega) (by omega)
  · intro i j q1 q2 q3; rw [e4 i q1, e4 j (by omega)]; exact h2 _ _ (by omega) (by omega) (by omega)
  · intro i q1 q2 j q3 q4; rw [e1 i q2, e2 j q3 q4]; exact hc _ (by omega) (by omega) _ (by omega) (by omega)
  · intro i q1 q2 j q3 q4; rw [e3 i q1 q2, e4 j q3]; exact hc _ (by omega) (by omega) _ (by omega) (by omega)
  · intro x q1 q2 y q3 q4
    by_cases cx : x < st
    · by_cases cy : y < en
      · rw [e1 x cx, e3 y q3 cy]; exact h1 _ _ (by omega) (by omega) (by omega)
      · rw [e1 x cx, e4 y (by omega)]; exact hA x q1 cx y (by omega) q4
    · by_cases cy : y < en
      · rw [e2 x (by omega) q2, e3 y q3 cy]; exact hB _ (by omega) (by omega) _ (by omega) (by omega)
      · rw [e2 x (by omega) q2, e4 y (by omega)]; exact h2 _ _ (by omega) (by omega) (by omega)
theorem Cut.size {d d' : Array α} {a st mid en b : Nat} (h : Cut lt bf d d' a st mid en b) : d'.size = d.size := h.perm.1
/-- both halves are merged: all is -/
theorem Cut.merged {d d1 d2 d3 : Array α} {a st mid en b : Nat} (h : Cut lt bf d d1 a st mid en b) (b1 : a ≤ mid) (b2 : mid ≤ b) (hb : b ≤ d.size) (m1 : Mg bf d1 d2 a mid) (m2 : Mg bf d2 d3 mid b) : Mg bf d d3 a b := by
  have z1 := h.size
  have z2 := m1.perm.1
  have z3 := m2.perm.1
  refine ⟨permIn_trans _ _ _ _ _ h.perm (permIn_trans _ _ _ _ _ (permIn_mono _ _ _ _ _ _ (Nat.le_refl _) b2 (by omega) m1.perm) (permIn_mono _ _ _ _ _ _ b1 (Nat.le_refl _) (by omega) m2.perm)), ?_⟩
  refine Srt.join (m := mid) (m1.srt.same fun k q1 q2 => m2.perm.2.1 k (.inl q2)) m2.srt ?_
  intro x q1 q2 y q3 q4
  rw [m2.perm.2.1 x (.inl q2)]
  refine permIn_all d2 d3 mid b (fun v => bf d2[x]! v) (by omega) m2.perm ?_ y q3 q4
  intro y' q3' q4'
  rw [m1.perm.2.1 y' (.inr q3')]
  exact permIn_all d1 d2 a mid (fun v => bf v d1[y']!) (by omega) m1.perm (fun x' q1' q2' => h.ap x' q1' q2' y' q3' q4') x q1 q2
/-- of two runs one is empty, or both are merged already -/
theorem Mg.here {d : Array α} {a b : Nat} (h : Srt bf a b d) : Mg bf d d a b := ⟨permIn_refl _ _ _, h⟩
/-- behind the first half's merging the second half is as it was -/
theorem Cut.later {d d1 d2 : Array α} {a st mid en b : Nat} (h : Cut lt bf d d1 a st mid en b) (hme : mid ≤ en) (m1 : Mg bf d1 d2 a mid) : Srt bf mid en d2 ∧ Srt bf en b d2 ∧ Crs lt bf mid en b d2 := by
  have e : ∀ k, mid ≤ k → d2[k]! = d1[k]! := fun k hk => m1.perm.2.1 k (.inr hk)
  exact ⟨h.s3.same fun k q _ => e k q, h.s4.same fun k q _ => e k (by omega), h.c2.same fun k q _ => e k q⟩
theorem Mg.one {d d' : Array α} {a m b i : Nat} (hm : m = a + 1) (h2 : Srt bf m b d) (hc : Crs lt bf a m b d) (mi : m ≤ i) (ib : i ≤ b) (hb : b ≤ d.size) (lo : ∀ k, m ≤ k → k < i → lt d[k]! d[a]! = true) (hi : ∀ k, i ≤ k → k < b → lt d[k]! d[a]! = false) (r : Rot d d' a m i) : Mg bf d d' a b := by
  refine ⟨permIn_mono _ _ _ _ _ _ (Nat.le_refl _) ib hb r.perm, fun x y q1 q2 q3 => ?_⟩
  have e1 : ∀ k, a ≤ k → k < i - 1 → d'[k]! = d[k + 1]! := fun k p1 p2 => by rw [r.lo k p1 (by omega)]; congr 1; omega
  have e2 : d'[i - 1]! = d[a]! := by rw [r.hi (i - 1) (by omega) (by omega)]; congr 1; omega
  have e3 : ∀ k, i ≤ k → d'[k]! = d[k]! := fun k p => r.out k (.inr p)
  by_cases cx : x < i - 1
  · rw [e1 x q1 cx]
    by_cases cy : y < i - 1
    · rw [e1 y (by omega) cy]; exact h2 _ _ (by omega) (by omega) (by omega)
    · by_cases cy2 : y = i - 1
      · subst cy2; rw [e2]; exact (hc a (Nat.le_refl _) (by omega) (x + 1) (by omega) (by omega)).1 (lo _ (by omega) (by omega))
      · rw [e3 y (by omega)]; exact h2 _ _ (by omega) (by omega) q3
  · by_cases cx2 : x = i - 1
    · subst cx2; rw [e2, e3 y (by omega)]; exact (hc a (Nat.le_refl _) (by omega) y (by omega) q3).2 (hi y (by omega) q3)
    · rw [e3 x (by omega), e3 y (by omega)]; exact h2 _ _ (by omega) q2 q3
theorem Mg.last {d d' : Array α} {a m b i : Nat} (hm : b = m + 1) (h1 : Srt bf a m d) (hc : Crs lt bf a m b d) (ai : a ≤ i) (im : i ≤ m) (hb : b ≤ d.size) (lo : ∀ k, a ≤ k → k < i → lt d[m]! d[k]! = false) (hi : ∀ k, i ≤ k → k < m → lt d[m]! d[k]! = true) (r : Rot d d' i m b) : Mg bf d d' a b := by
  refine ⟨permIn_mono _ _ _ _ _ _ ai (Nat.le_refl _) hb r.perm, fun x y q1 q2 q3 => ?_⟩
  have e1 : ∀ k, k < i → d'[k]! = d[k]! := fun k p => r.out k (.inl p)
  have e2 : d'[i]! = d[m]! := by rw [r.lo i (by omega) (by omega)]; congr 1; omega
  have e3 : ∀ k, i < k → k < b → d'[k]! = d[k - 1]! := fun k p1 p2 => by rw [r.hi k (by omega) p2]; congr 1; omega
  by_cases cx : x < i
  · rw [e1 x cx]
    by_cases cy : y < i
    · rw [e1 y cy]; exact h1 _ _ q1 q2 (by omega)
    · by_cases cy2 : y = i
      · subst cy2; rw [e2]; exact (hc x q1 (by omega) m (by omega) (by omega)).2 (lo x q1 cx)
      · rw [e3 y (by omega) q3]; exact h1 _ _ q1 (by omega) (by omega)
  · by_cases cx2 : x = i
    · subst cx2; rw [e2, e3 y (by omega) q3]; exact (hc _ (by omega) (by omega) m (by omega) (by omega)).1 (hi _ (by omega) (by omega))
    · rw [e3 x (by omega) (by omega), e3 y (by omega) q3]; exact h1 _ _ (by omega) (by omega) (by omega)
end
end Go.Proofs.Ytpbkboandiigfaa
