/- Adding up corners group by group: what the loop of rect.cancel comes to. Plain. -/
import Derived.Test.YtjdnhpbifblneaaRSortC
namespace Go.Proofs.Ytjdnhpbifblneaa
set_option linter.unusedVariables false

/-- how often the first k corners count -/
def psum (cs : List Cor) (k : Nat) : Int := ((cs.take k).map (·.t)).sum
def atC (c : Cor) : Fin 2048 × Fin 2048 := (c.i, c.j)
theorem psum_zero (cs : List Cor) : psum cs 0 = 0 := rfl
theorem psum_succ (cs : List Cor) (k : Nat) (c : Cor) (h : cs[k]? = some c) : psum cs (k + 1) = psum cs k + c.t := by
  unfold psum
  rw [List.take_add_one, h, List.map_append, List.sum_append]; simp
theorem psum_bd (cs : List Cor) (h : ∀ c ∈ cs, c.t = 1 ∨ c.t = -1) : ∀ k : Nat, -(k : Int) ≤ psum cs k ∧ psum cs k ≤ (k : Int) := by
  intro k
  induction k with
  | zero => exact ⟨by simp [psum_zero], by simp [psum_zero]⟩
  | succ k ih =>
    cases hk : cs[k]? with
    | none =>
      have : psum cs (k + 1) = psum cs k := by unfold psum; rw [List.take_add_one, hk]; simp
      omega
    | some c =>
      have hc := h c (List.mem_of_getElem? hk)
      rw [psum_succ cs k c hk]
      omega
/-- of the corners at one place how often they count -/
def net (cs : List Cor) (p : Fin 2048 × Fin 2048) : Int := ((cs.filter fun c => atC c == p).map (·.t)).sum
/-- nothing is left at any corner -/
def cancB (cs : List Cor) : Bool := cs.all fun c => net cs (atC c) == 0
theorem cancB_iff (cs : List Cor) : cancB cs = true ↔ ∀ p, net cs p = 0 := by
  unfold cancB
  rw [List.all_eq_true]
  constructor
  · intro h p
    by_cases hp : ∃ c ∈ cs, atC c = p
    · obtain ⟨c, hc, rfl⟩ := hp
      simpa using h c hc
    · unfold net
      rw [List.filter_eq_nil_iff.2 (by intro c hc; simp; exact fun e => hp ⟨c, hc, e⟩)]; rfl
  · intro h c hc; simpa using h (atC c)
theorem perm_sum {a b : List Int} (h : a.Perm b) : a.sum = b.sum := by
  induction h with
  | nil => rfl
  | cons x _ ih => simp [ih]
  | swap x y l => simp; omega
  | trans _ _ ih1 ih2 => exact ih1.trans ih2
theorem net_perm {cs ds : List Cor} (h : ds.Perm cs) (p : Fin 2048 × Fin 2048) : net ds p = net cs p := by
  unfold net
  exact perm_sum ((h.filter _).map _)
theorem cancB_perm {cs ds : List Cor} (h : ds.Perm cs) : cancB ds = cancB cs := by
  rw [Bool.eq_iff_iff, cancB_iff, cancB_iff]
  exact ⟨fun k p => by rw [← net_perm h]; exact k p, fun k p => by rw [net_perm h]; exact k p⟩
/-- so far each group that is over has come to nothing -/
def okTo (cs : List Cor) (k : Nat) : Prop := ∀ j a b, 1 ≤ j → j < k → cs[j - 1]? = some a → cs[j]? = some b → psum cs j = 0 ∨ atC b = atC a
theorem okTo_step {cs : List Cor} {k : Nat} (h : okTo cs k) (hk : ∀ a b, 1 ≤ k → cs[k - 1]? = some a → cs[k]? = some b → psum cs k = 0 ∨ atC b = atC a) : okTo cs (k + 1) := by
  intro j a b h1 hj ha hb
  by_cases e : j = k
  · subst e; exact hk a b h1 ha hb
  · exact h j a b h1 (by omega) ha hb
theorem le_of_sorted {cs : List Cor} (hs : SortedC cs) {i j : Nat} {a b : Cor} (hij : i ≤ j) (ha : cs[i]? = some a) (hb : cs[j]? = some b) : a.i.1 < b.i.1 ∨ (a.i.1 = b.i.1 ∧ a.j.1 ≤ b.j.1) := by
  by_cases e : i = j
  · subst e; rw [ha] at hb; cases hb; omega
  · have := hs i j a b (by omega) ha hb
    rw [corCmp_neg] at this; omega
theorem atC_eq {a b : Cor} : atC a = atC b ↔ a.i.1 = b.i.1 ∧ a.j.1 = b.j.1 := by
  unfold atC; rw [Prod.mk.injEq, Fin.ext_iff, Fin.ext_iff]
theorem net_snoc (l : List Cor) (c : Cor) (q : Fin 2048 × Fin 2048) : net (l ++ [c]) q = net l q + if atC c = q then c.t else 0 := by
  unfold net
  rw [List.filter_append, List.map_append, List.sum_append]
  by_cases h : atC c = q
  · rw [if_pos h, List.filter_cons_of_pos (by simpa using h)]; simp
  · rw [if_neg h, List.filter_cons_of_neg (by simpa using h)]; simp
theorem net_take_succ (cs : List Cor) (k : Nat) (c : Cor) (h : cs[k]? = some c) (q : Fin 2048 × Fin 2048) : net (cs.take (k + 1)) q = net (cs.take k) q + if atC c = q then c.t else 0 := by
  rw [List.take_add_one, h]; exact net_snoc _ _ _
theorem net_none (l : List Cor) (q : Fin 2048 × Fin 2048) (h : ∀ c ∈ l, atC c ≠ q) : net l q = 0 := by
  unfold net
  rw [List.filter_eq_nil_iff.2 (by intro c hc; simpa using h c hc)]; rfl
theorem okTo_pred {cs : List Cor} {k : Nat} (h : okTo cs (k + 1)) : okTo cs k := fun j a b h1 hj ha hb => h j a b h1 (by omega) ha hb
/-- a corner that lies elsewhere than the one ahead of it lies elsewhere than all ahead of it -/
theorem fresh {cs : List Cor} (hs : SortedC cs) {k : Nat} {p c : Cor} (hk : 1 ≤ k) (hp : cs[k - 1]? = some p) (hc : cs[k]? = some c) (hne : atC c ≠ atC p) : net (cs.take k) (atC c) = 0 := by
  refine net_none _ _ fun d hd e => ?_
  obtain ⟨i, hi⟩ := List.mem_iff_getElem?.1 hd
  have hik : i < k := by have := (List.getElem?_eq_some_iff.1 hi).1; rw [List.length_take] at this; omega
  rw [List.getElem?_take_of_lt hik] at hi
  have h1 := le_of_sorted hs (by omega : i ≤ k - 1) hi hp
  have h2 := le_of_sorted hs (by omega : k - 1 ≤ k) hp hc
  rw [atC_eq] at e
  exact hne (atC_eq.2 (by omega))
theorem okTo_iff {cs : List Cor} (hs : SortedC cs) : ∀ (k : Nat) (p : Cor), 1 ≤ k → cs[k - 1]? = some p →
    (okTo cs k ↔ ∀ q, q ≠ atC p → net (cs.take k) q = 0) ∧ ((∀ q, q ≠ atC p → net (cs.take k) q = 0) → psum cs k = net (cs.take k) (atC p)) := by
  intro k
  induction k with
  | zero => intro p h; omega
  | succ k ih =>
    intro c _ hc
    rw [Nat.add_sub_cancel] at hc
    have hn := net_take_succ cs k c hc
    have hps := psum_succ cs k c hc
    by_cases hk : k = 0
    · subst hk
      have h0 : ∀ q, net (cs.take 0) q = 0 := fun q => by simp [net]
      refine ⟨⟨fun _ q hq => by rw [hn, h0, if_neg (fun e => hq e.symm)]; rfl, fun _ j a b h1 h2 => by omega⟩, fun _ => ?_⟩
      rw [hps, hn, h0, if_pos rfl, psum_zero]
    · obtain ⟨p, hp⟩ : ∃ p, cs[k - 1]? = some p := by
        have : k < cs.length := (List.getElem?_eq_some_iff.1 hc).1
        exact ⟨cs[k - 1], List.getElem?_eq_getElem (by omega)⟩
      obtain ⟨i1, i2⟩ := ih p (by omega) hp
      have hq : ∀ q, q ≠ atC c → net (cs.take (k + 1)) q = net (cs.take k) q := fun q h => by rw [hn, if_neg (fun e => h e.symm)]; omega
      by_cases he : atC c = atC p
      · refine ⟨⟨fun h q hqc => ?_, fun h => ?_⟩, fun h => ?_⟩
        · rw [hq q hqc]; exact i1.1 (okTo_pred h) q (by rw [← he]; exact hqc)
        · refine okTo_step (i1.2 fun q hqp => ?_) fun a b _ ha hb => ?_
          · rw [← hq q (by rw [he]; exact hqp)]; exact h q (by rw [he]; exact hqp)
          · rw [hp] at ha; rw [hc] at hb; cases ha; cases hb; exact .inr he
        · have := i2 fun q hqp => by rw [← hq q (by rw [he]; exact hqp)]; exact h q (by rw [he]; exact hqp)
          rw [hps, hn, if_pos rfl, this, he]
      · have hf := fresh hs (by omega) hp hc he
        have all : (∀ q, q ≠ atC c → net (cs.take (k + 1)) q = 0) → ∀ q, net (cs.take k) q = 0 := fun h q => by
          by_cases e : q = atC c
          · rw [e]; exact hf
          · rw [← hq q e]; exact h q e
        refine ⟨⟨fun h q hqc => ?_, fun h => ?_⟩, fun h => ?_⟩
        · have hk := okTo_pred h
          have hz : psum cs k = 0 := (h k p c (by omega) (by omega) hp hc).resolve_right he
          have z := i1.1 hk
          rw [hq q hqc]
          by_cases e : q = atC p
          · rw [e, ← i2 z]; exact hz
          · exact z q e
        · have a := all h
          refine okTo_step (i1.2 fun q _ => a q) fun x y _ hx hy => ?_
          rw [hp] at hx; cases hx
          exact .inl (by rw [i2 fun q _ => a q]; exact a _)
        · have a := all h
          rw [hps, hn, if_pos rfl, i2 fun q _ => a q, a, a]
/-- what the loop comes to -/
theorem canc_end {cs : List Cor} (hs : SortedC cs) (h1 : 1 ≤ cs.length) (h : okTo cs cs.length) : (psum cs cs.length == 0) = cancB cs := by
  obtain ⟨p, hp⟩ : ∃ p, cs[cs.length - 1]? = some p := ⟨cs[cs.length - 1], List.getElem?_eq_getElem (by omega)⟩
  obtain ⟨i1, i2⟩ := okTo_iff hs cs.length p h1 hp
  have z := i1.1 h
  have e := i2 z
  rw [List.take_length] at z e
  rw [Bool.eq_iff_iff, cancB_iff, beq_iff_eq, e]
  exact ⟨fun k q => by by_cases hq : q = atC p; · rw [hq]; exact k
                       · exact z q hq, fun k => k _⟩
theorem canc_stop {cs : List Cor} (hs : SortedC cs) {k : Nat} {a b : Cor} (h1 : 1 ≤ k) (ha : cs[k - 1]? = some a) (hb : cs[k]? = some b) (hz : psum cs k ≠ 0) (hne : atC b ≠ atC a) : cancB cs = false := by
  rw [Bool.eq_false_iff, ne_eq, cancB_iff]
  intro h
  -- all groups come to nothing: so does what has been added so far
  have hk : k < cs.length := (List.getElem?_eq_some_iff.1 hb).1
  obtain ⟨p, hp⟩ : ∃ p, cs[cs.length - 1]? = some p := ⟨cs[cs.length - 1], List.getElem?_eq_getElem (by omega)⟩
  obtain ⟨i1, i2⟩ := okTo_iff hs cs.length p (by omega) hp
  have hok : okTo cs cs.length := i1.2 fun q _ => by rw [List.take_length]; exact h q
  exact (hok k a b h1 hk ha hb).elim hz hne
end Go.Proofs.Ytjdnhpbifblneaa
