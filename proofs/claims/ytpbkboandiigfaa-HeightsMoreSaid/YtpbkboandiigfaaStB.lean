/- The library's stable sort in plain data: blocks that are sorted, insertion sort by a comparison that agrees with a total order, blocks merged two by two. -/
import Derived.Test.YtpbkboandiigfaaStP
namespace Go.Proofs.Ytpbkboandiigfaa
open Go.Sort
set_option linter.unusedVariables false
set_option linter.unusedSectionVars false
section
variable {α : Type} [Inhabited α]
theorem insInner_perm (lt : α → α → Bool) (a b : Nat) : ∀ (j : Nat) (d : Array α), a ≤ j → j < b → b ≤ d.size → PermIn a b d (insInner lt a j d)
  | 0, d, _, _, _ => permIn_refl _ _ _
  | j + 1, d, h1, h2, h3 => by
    unfold insInner
    split
    · rename_i c
      simp only [gt_iff_lt, Bool.and_eq_true, decide_eq_true_eq] at c
      exact permIn_trans _ _ _ _ _ (swp_permIn d a b (j + 1) j h1 h2 (by omega) (by omega) h3) (insInner_perm lt a b j _ (by omega) (by omega) (by rw [size_swp]; exact h3))
    · exact permIn_refl _ _ _
theorem insInner_same (lt lt' : α → α → Bool) (a : Nat) : ∀ (j : Nat) (d : Array α), j < d.size → (∀ k, a ≤ k → k < j → lt d[j]! d[k]! = lt' d[j]! d[k]!) → insInner lt a j d = insInner lt' a j d
  | 0, d, _, _ => rfl
  | j + 1, d, hj, h => by
    unfold insInner
    by_cases c : j + 1 > a
    · rw [h j (by omega) (by omega)]
      split
      · have g := swp_get d hj (show j < d.size by omega)
        refine insInner_same lt lt' a j _ (by rw [size_swp]; omega) fun k h1 h2 => ?_
        rw [g, g, if_pos rfl, if_neg (by omega), if_neg (by omega)]
        exact h k h1 (by omega)
      · rfl
    · rw [if_neg (by simp [c]), if_neg (by simp [c])]
theorem insOuter_g (lt : α → α → Bool) (a b i : Nat) (d : Array α) (h : i < b) : insOuter lt a b i d = insOuter lt a b (i + 1) (insInner lt a i d) := by rw [insOuter, if_pos h]
theorem insOuter_s (lt : α → α → Bool) (a b i : Nat) (d : Array α) (h : ¬ i < b) : insOuter lt a b i d = d := by rw [insOuter, if_neg h]
theorem insOuter_same (lt lt' : α → α → Bool) (a b : Nat) : ∀ (n i : Nat) (d : Array α), b - i = n → a ≤ i → b ≤ d.size → (∀ k l, a ≤ k → k < l → i ≤ l → l < b → lt d[l]! d[k]! = lt' d[l]! d[k]!) → insOuter lt a b i d = insOuter lt' a b i d := by
  intro n
  induction n with
  | zero => intro i d h _ _ _; rw [insOuter_s lt _ _ _ _ (by omega), insOuter_s lt' _ _ _ _ (by omega)]
  | succ n ih =>
    intro i d h ha hb H
    rw [insOuter_g lt a b i d (by omega), insOuter_g lt' a b i d (by omega), insInner_same lt lt' a i d (by omega) (fun k h1 h2 => H k i h1 h2 (Nat.le_refl _) (by omega))]
    have hp := insInner_perm lt' a (i + 1) i d ha (by omega) (by omega)
    refine ih (i + 1) _ (by omega) (by omega) (by rw [hp.1]; exact hb) fun k l h1 h2 h3 h4 => ?_
    rw [hp.2.1 l (by omega)]
    by_cases c : k < i + 1
    · exact permIn_all d _ a (i + 1) (fun v => lt d[l]! v = lt' d[l]! v) (by omega) hp (fun k' q1 q2 => H k' l q1 (by omega) (by omega) h4) k h1 c
    · rw [hp.2.1 k (by omega)]; exact H k l h1 h2 (by omega) h4
theorem insertionSort_same (lt lt' : α → α → Bool) (d : Array α) (a b : Nat) (hb : b ≤ d.size) (H : ∀ k l, a ≤ k → k < l → l < b → lt d[l]! d[k]! = lt' d[l]! d[k]!) : insertionSort lt d a b = insertionSort lt' d a b :=
  insOuter_same lt lt' a b _ (a + 1) d rfl (by omega) hb fun k l h1 h2 _ h4 => H k l h1 h2 h4

theorem nodup_part (d : Array α) (n : Nat) (hn : n ≤ d.size) : (d.extract 0 n).toList.Nodup ↔ ∀ i j, i < n → j < n → i < j → d[i]! ≠ d[j]! := by
  unfold List.Nodup
  rw [extract_toList d 0 n hn, Nat.sub_zero, List.pairwise_iff_getElem]
  simp only [List.length_map, List.length_range', List.getElem_map, List.getElem_range', Nat.zero_add, Nat.one_mul]
theorem distinct_of_perm {d d' : Array α} {n : Nat} (hn : n ≤ d.size) (h : PermIn 0 n d d') (hd : ∀ i j, i < n → j < n → i ≠ j → d[i]! ≠ d[j]!) : ∀ i j, i < n → j < n → i ≠ j → d'[i]! ≠ d'[j]! := by
  have h1 := (nodup_part d n hn).2 fun i j hi hj hij => hd i j hi hj (by omega)
  have h2 := (nodup_part d' n (by rw [h.1]; exact hn)).1 (h.2.2.nodup_iff.2 h1)
  intro i j hi hj hij
  rcases Nat.lt_or_ge i j with c | c
  · exact h2 i j hi hj c
  · exact fun e => h2 j i hj hi (by omega) e.symm

/-- a total order that the comparison agrees with where the first of the two was ahead of the second -/
structure Agree (lt bfB : α → α → Bool) (og : α → Nat) : Prop where
  swo : SWO bfB
  tot : ∀ x y, x ≠ y → bfB x y = false → bfB y x = true
  eq : ∀ x y, og x < og y → lt y x = bfB y x
variable {lt bfB : α → α → Bool} {og : α → Nat}
theorem Agree.bf (h : Agree lt bfB og) : Bf (fun x y => bfB x y = true) := ⟨fun x e => (by rw [h.swo.irrefl] at e; cases e), h.swo.trans⟩
/-- a run that is sorted, of what was there -/
structure Seg (bfB : α → α → Bool) (og : α → Nat) (a b : Nat) (d : Array α) : Prop where
  srt : Srt (fun x y => bfB x y = true) a b d
  own : ∀ k, a ≤ k → k < b → a ≤ og d[k]! ∧ og d[k]! < b
theorem Seg.same {a b : Nat} {d d' : Array α} (h : Seg bfB og a b d) (e : ∀ k, a ≤ k → k < b → d'[k]! = d[k]!) : Seg bfB og a b d' :=
  ⟨h.srt.same e, fun k h1 h2 => by rw [e k h1 h2]; exact h.own k h1 h2⟩
theorem Seg.none (a : Nat) (d : Array α) : Seg bfB og a a d := ⟨fun i j h1 h2 h3 => by omega, fun k h1 h2 => by omega⟩
theorem Seg.crs (hA : Agree lt bfB og) {a m b : Nat} {d : Array α} (hb : b ≤ d.size) (hd : ∀ i j, i < d.size → j < d.size → i ≠ j → d[i]! ≠ d[j]!) (h1 : Seg bfB og a m d) (h2 : Seg bfB og m b d) : Crs lt (fun x y => bfB x y = true) a m b d := by
  intro i q1 q2 j q3 q4
  have o1 := (h1.own i q1 q2).2
  have o2 := (h2.own j q3 q4).1
  rw [hA.eq d[i]! d[j]! (by omega)]
  exact ⟨fun e => e, fun e => hA.tot _ _ (hd j i (by omega) (by omega) (by omega)) e⟩
theorem Seg.merge {a m b : Nat} {d d' : Array α} (hb : b ≤ d.size) (h1 : Seg bfB og a m d) (h2 : Seg bfB og m b d) (hm : Mg (fun x y => bfB x y = true) d d' a b) (ham : a ≤ m) (hmb : m ≤ b) : Seg bfB og a b d' :=
  ⟨hm.srt, fun k q1 q2 => permIn_all d d' a b (fun v => a ≤ og v ∧ og v < b) hb hm.perm (fun k' q1' q2' => by
    by_cases c : k' < m
    · have := h1.own k' q1' c; omega
    · have := h2.own k' (by omega) q2'; omega) k q1 q2⟩
/-- insertion sort of a run that nobody has touched -/
theorem Seg.ins (hA : Agree lt bfB og) {a b : Nat} {d : Array α} (hab : a ≤ b) (hb : b ≤ d.size) (hd : ∀ i j, i < d.size → j < d.size → i ≠ j → d[i]! ≠ d[j]!) (ho : ∀ k, a ≤ k → k < b → og d[k]! = k) :
    PermIn a b d (insertionSort lt d a b) ∧ Seg bfB og a b (insertionSort lt d a b) := by
  rw [insertionSort_same lt bfB d a b hb fun k l h1 h2 h3 => hA.eq _ _ (by rw [ho k h1 (by omega), ho l (by omega) h3]; exact h2)]
  obtain ⟨hp, hs⟩ := insertionSort_holds hA.swo d a b hab hb
  refine ⟨hp, fun i j h1 h2 h3 => ?_, fun k h1 h2 => permIn_all d _ a b (fun v => a ≤ og v ∧ og v < b) hb hp (fun k' q1 q2 => by rw [ho k' q1 q2]; omega) k h1 h2⟩
  have hp' : PermIn 0 d.size d (insertionSort bfB d a b) := permIn_mono _ _ _ _ _ _ (Nat.zero_le _) hb (Nat.le_refl _) hp
  have hd' := distinct_of_perm (Nat.le_refl _) hp' hd
  exact hA.tot _ _ (hd' j i (by omega) (by omega) (by omega)) (hs i j h1 h2 h3)

/-- all blocks of bs are sorted -/
def Good (bfB : α → α → Bool) (og : α → Nat) (bs n : Nat) (d : Array α) : Prop := ∀ q, q * bs < n → Seg bfB og (q * bs) (min (q * bs + bs) n) d
/-- what the array is: the first one, permuted -/
structure Pm (d0 d : Array α) : Prop where
  perm : PermIn 0 d0.size d0 d
theorem Pm.size {d0 d : Array α} (h : Pm d0 d) : d.size = d0.size := h.perm.1
theorem Pm.next {d0 d d' : Array α} {a b : Nat} (h : Pm d0 d) (hb : b ≤ d0.size) (p : PermIn a b d d') : Pm d0 d' :=
  ⟨permIn_trans _ _ _ _ _ h.perm (permIn_mono _ _ _ _ _ _ (Nat.zero_le _) hb (by rw [h.size]; exact Nat.le_refl _) p)⟩
theorem Pm.distinct {d0 d : Array α} (h : Pm d0 d) (hd : ∀ i j, i < d0.size → j < d0.size → i ≠ j → d0[i]! ≠ d0[j]!) : ∀ i j, i < d.size → j < d.size → i ≠ j → d[i]! ≠ d[j]! := by
  rw [h.size]; exact distinct_of_perm (Nat.le_refl _) h.perm hd

/-- blocks of twenty up to a, the rest as it was -/
structure InsI (bfB : α → α → Bool) (og : α → Nat) (d0 : Array α) (t : Nat) (d : Array α) : Prop where
  pm : Pm d0 d
  done : ∀ q, q < t → Seg bfB og (q * 20) (q * 20 + 20) d
  rest : ∀ k, t * 20 ≤ k → k < d0.size → d[k]! = d0[k]!
theorem InsI.start (d0 : Array α) : InsI bfB og d0 0 d0 := ⟨⟨permIn_refl _ _ _⟩, fun q h => by omega, fun k _ _ => rfl⟩
theorem InsI.step (hA : Agree lt bfB og) {d0 d : Array α} {t : Nat} (h : InsI bfB og d0 t d) (hd : ∀ i j, i < d0.size → j < d0.size → i ≠ j → d0[i]! ≠ d0[j]!) (ho : ∀ k, k < d0.size → og d0[k]! = k) (hb : t * 20 + 20 ≤ d0.size) :
    InsI bfB og d0 (t + 1) (insertionSort lt d (t * 20) (t * 20 + 20)) := by
  have hs := h.pm.size
  obtain ⟨p, s⟩ := Seg.ins hA (a := t * 20) (b := t * 20 + 20) (d := d) (by omega) (by omega) (h.pm.distinct hd) (fun k h1 h2 => by rw [h.rest k h1 (by omega)]; exact ho k (by omega))
  refine ⟨h.pm.next hb p, fun q hq => ?_, fun k h1 h2 => by rw [p.2.1 k (by omega)]; exact h.rest k (by omega) h2⟩
  by_cases c : q = t
  · subst c; exact s
  · exact (h.done q (by omega)).same fun k h1 h2 => p.2.1 k (.inl (by omega))
theorem InsI.last (hA : Agree lt bfB og) {d0 d : Array α} {t : Nat} (h : InsI bfB og d0 t d) (hd : ∀ i j, i < d0.size → j < d0.size → i ≠ j → d0[i]! ≠ d0[j]!) (ho : ∀ k, k < d0.size → og d0[k]! = k) (h1 : t * 20 ≤ d0.size) (h2 : d0.size < t * 20 + 20) :
    Pm d0 (insertionSort lt d (t * 20) d0.size) ∧ Good bfB og 20 d0.size (insertionSort lt d (t * 20) d0.size) := by
  have hs := h.pm.size
  obtain ⟨p, s⟩ := Seg.ins hA (a := t * 20) (b := d0.size) (d := d) h1 (by omega) (h.pm.distinct hd) (fun k h1 h2 => by rw [h.rest k h1 h2]; exact ho k h2)
  refine ⟨h.pm.next (Nat.le_refl _) p, fun q hq => ?_⟩
  by_cases c : q < t
  · rw [Nat.min_eq_left (by omega)]
    exact (h.done q c).same fun k h1 h2 => p.2.1 k (.inl (by omega))
  · obtain rfl : q = t := by omega
    rw [Nat.min_eq_right (by omega)]; exact s

/-- blocks of twice bs up to a, the rest in blocks of bs as it was -/
structure MrgI (bfB : α → α → Bool) (og : α → Nat) (d0 d1 : Array α) (bs t : Nat) (d : Array α) : Prop where
  pm : Pm d0 d
  done : ∀ q, q < t → Seg bfB og (q * (2 * bs)) (q * (2 * bs) + 2 * bs) d
  rest : ∀ k, t * (2 * bs) ≤ k → k < d0.size → d[k]! = d1[k]!
theorem MrgI.start {d0 d1 : Array α} {bs : Nat} (h : Pm d0 d1) : MrgI bfB og d0 d1 bs 0 d1 := ⟨h, fun q h => by omega, fun k _ _ => rfl⟩
theorem two_mul_bs (t bs : Nat) : (2 * t) * bs = t * (2 * bs) ∧ (2 * t + 1) * bs = t * (2 * bs) + bs := by
  have e : (2 * t) * bs = t * (2 * bs) := by rw [Nat.mul_comm 2 t, Nat.mul_assoc]
  exact ⟨e, by rw [Nat.succ_mul, e]⟩
theorem le_bs {q t bs : Nat} (h : q < t) : q * (2 * bs) + 2 * bs ≤ t * (2 * bs) := by
  have := Nat.mul_le_mul_right (2 * bs) h
  rw [Nat.succ_mul] at this; exact this
theorem MrgI.left {d0 d1 d : Array α} {bs t : Nat} (h : MrgI bfB og d0 d1 bs t d) (hg : Good bfB og bs d0.size d1) (hb : t * (2 * bs) + bs ≤ d0.size) (hbs : 0 < bs) : Seg bfB og (t * (2 * bs)) (t * (2 * bs) + bs) d := by
  have := hg (2 * t) (by rw [(two_mul_bs t bs).1]; omega)
  rw [(two_mul_bs t bs).1, Nat.min_eq_left hb] at this
  exact this.same fun k h1 h2 => h.rest k h1 (by omega)
theorem MrgI.right {d0 d1 d : Array α} {bs t e : Nat} (h : MrgI bfB og d0 d1 bs t d) (hg : Good bfB og bs d0.size d1) (hb : t * (2 * bs) + bs < d0.size) (he : e = min (t * (2 * bs) + 2 * bs) d0.size) : Seg bfB og (t * (2 * bs) + bs) e d := by
  have := hg (2 * t + 1) (by rw [(two_mul_bs t bs).2]; exact hb)
  rw [(two_mul_bs t bs).2, show t * (2 * bs) + bs + bs = t * (2 * bs) + 2 * bs by omega, ← he] at this
  exact this.same fun k h1 h2 => h.rest k (by omega) (by omega)
/-- the premises of a merge -/
theorem MrgI.pre (hA : Agree lt bfB og) {d0 d1 d : Array α} {bs t e : Nat} (h : MrgI bfB og d0 d1 bs t d) (hg : Good bfB og bs d0.size d1) (hd : ∀ i j, i < d0.size → j < d0.size → i ≠ j → d0[i]! ≠ d0[j]!) (hbs : 0 < bs) (hb : t * (2 * bs) + bs < d0.size) (he : e = min (t * (2 * bs) + 2 * bs) d0.size) :
    Srt (fun x y => bfB x y = true) (t * (2 * bs)) (t * (2 * bs) + bs) d ∧ Srt (fun x y => bfB x y = true) (t * (2 * bs) + bs) e d ∧ Crs lt (fun x y => bfB x y = true) (t * (2 * bs)) (t * (2 * bs) + bs) e d := by
  have s1 := h.left hg (by omega) hbs
  have s2 := h.right hg hb he
  exact ⟨s1.srt, s2.srt, Seg.crs hA (by rw [h.pm.size]; omega) (h.pm.distinct hd) s1 s2⟩
theorem MrgI.step {d0 d1 d d' : Array α} {bs t : Nat} (h : MrgI bfB og d0 d1 bs t d) (hg : Good bfB og bs d0.size d1) (hbs : 0 < bs) (hb : t * (2 * bs) + 2 * bs ≤ d0.size) (hm : Mg (fun x y => bfB x y = true) d d' (t * (2 * bs)) (t * (2 * bs) + 2 * bs)) : MrgI bfB og d0 d1 bs (t + 1) d' := by
  have hs := h.pm.size
  have s1 := h.left hg (by omega) hbs
  have s2 := h.right hg (by omega) (e := t * (2 * bs) + 2 * bs) (by omega)
  refine ⟨h.pm.next hb hm.perm, fun q hq => ?_, fun k h1 h2 => ?_⟩
  · by_cases c : q = t
    · subst c; exact Seg.merge (by omega) s1 s2 hm (by omega) (by omega)
    · have := le_bs (bs := bs) (show q < t by omega)
      exact (h.done q (by omega)).same fun k h1 h2 => hm.perm.2.1 k (.inl (by omega))
  · rw [Nat.succ_mul] at h1
    rw [hm.perm.2.1 k (by omega)]; exact h.rest k (by omega) h2
theorem MrgI.good {d0 d1 d d' : Array α} {bs t : Nat} (h : MrgI bfB og d0 d1 bs t d) (hta : t * (2 * bs) ≤ d0.size) (hle : d0.size < t * (2 * bs) + 2 * bs) (hp : Pm d0 d') (he : ∀ k, k < t * (2 * bs) → d'[k]! = d[k]!) (hl : t * (2 * bs) < d0.size → Seg bfB og (t * (2 * bs)) d0.size d') : Good bfB og (2 * bs) d0.size d' := by
  intro q hq
  by_cases c : q < t
  · have := le_bs (bs := bs) c
    rw [Nat.min_eq_left (by omega)]
    exact (h.done q c).same fun k h1 h2 => he k (by omega)
  · by_cases c2 : q = t
    · subst c2
      rw [Nat.min_eq_right (by omega)]; exact hl hq
    · have := le_bs (bs := bs) (show t < q by omega)
      omega
/-- the last of a pass: a merge, or none -/
theorem MrgI.last {d0 d1 d d' : Array α} {bs t : Nat} (h : MrgI bfB og d0 d1 bs t d) (hg : Good bfB og bs d0.size d1) (hbs : 0 < bs) (hle : d0.size < t * (2 * bs) + 2 * bs) (hb : t * (2 * bs) + bs < d0.size) (hm : Mg (fun x y => bfB x y = true) d d' (t * (2 * bs)) d0.size) : Pm d0 d' ∧ Good bfB og (2 * bs) d0.size d' := by
  have hs := h.pm.size
  have hp := h.pm.next (Nat.le_refl _) hm.perm
  exact ⟨hp, h.good (by omega) hle hp (fun k hk => hm.perm.2.1 k (.inl hk)) fun _ => Seg.merge (by omega) (h.left hg (by omega) hbs) (h.right hg hb (by omega)) hm (by omega) (by omega)⟩
theorem MrgI.lastN {d0 d1 d : Array α} {bs t : Nat} (h : MrgI bfB og d0 d1 bs t d) (hg : Good bfB og bs d0.size d1) (hta : t * (2 * bs) ≤ d0.size) (hle : d0.size < t * (2 * bs) + 2 * bs) (hb : d0.size ≤ t * (2 * bs) + bs) : Pm d0 d ∧ Good bfB og (2 * bs) d0.size d := by
  refine ⟨h.pm, h.good hta hle h.pm (fun k _ => rfl) fun hq => ?_⟩
  have := hg (2 * t) (by rw [(two_mul_bs t bs).1]; exact hq)
  rw [(two_mul_bs t bs).1, Nat.min_eq_right hb] at this
  exact this.same fun k h1 h2 => h.rest k h1 h2
theorem Good.all {n bs : Nat} {d : Array α} (h : Good bfB og bs n d) (hn : n ≤ bs) : Srt (fun x y => bfB x y = true) 0 n d := by
  by_cases c : 0 < n
  · have := h 0 (by omega)
    rw [Nat.zero_mul, Nat.zero_add, Nat.min_eq_right hn] at this
    exact this.srt
  · intro i j h1 h2 h3; omega
end
end Go.Proofs.Ytpbkboandiigfaa
