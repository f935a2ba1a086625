/- Spread in plain data: a length distributed over others, needs in their turn, what they make of bands. Nothing of the program. -/
import Derived.Test.YtpbkboandiigfaaStL
import Derived.Test.YtpbkboandiigfaaKPlain
namespace Go.Proofs.Ytpbkboandiigfaa
set_option linter.unusedVariables false
set_option linter.unusedSimpArgs false

/-- a length, shared out by weights -/
def shrW (t : Int) (ws : List Int) : List Int := shareS t (counted ws)
theorem shrW_shr (t : Int) (ws : List Int) (t0 : 0 ≤ t) (hw : OkW ws) (hn : 1 ≤ ws.length) : Shr t (counted ws) (shrW t ws) :=
  shareS_shr t (counted ws) t0 (fun z hz => (counted_ok ws hw z hz).1) (counted_pos ws hw hn) (by rw [counted_length]; exact hn)
theorem shrW_len (t : Int) (ws : List Int) (t0 : 0 ≤ t) (hw : OkW ws) (hn : 1 ≤ ws.length) : (shrW t ws).length = ws.length := by
  rw [(shrW_shr t ws t0 hw hn).len, counted_length]
theorem le_sum_of (l : List Int) (h : ∀ z ∈ l, 0 ≤ z) : ∀ z ∈ l, z ≤ sumZ l := le_sumZ l h
theorem shrW_bd (t : Int) (ws : List Int) (t0 : 0 ≤ t) (hw : OkW ws) (hn : 1 ≤ ws.length) : ∀ z ∈ shrW t ws, 0 ≤ z ∧ z ≤ t := by
  have h := shrW_shr t ws t0 hw hn
  have hp : ∀ z ∈ shrW t ws, 0 ≤ z := fun z hz => by
    obtain ⟨i, hi⟩ := List.mem_iff_getElem?.1 hz
    have := h.ge i
    rw [hi] at this
    simpa using this
  intro z hz
  have := le_sum_of _ hp z hz
  rw [h.sum] at this
  exact ⟨hp z hz, this⟩
theorem shrW_zero (ws : List Int) (hw : OkW ws) (hn : 1 ≤ ws.length) : shrW 0 ws = List.replicate ws.length 0 := by
  have hb := shrW_bd 0 ws (Int.le_refl _) hw hn
  have hl := shrW_len 0 ws (Int.le_refl _) hw hn
  rw [List.eq_replicate_iff]
  exact ⟨hl, fun z hz => by have := hb z hz; omega⟩
def addL (a b : List Int) : List Int := List.zipWith (· + ·) a b
theorem addL_len (a b : List Int) (h : a.length = b.length) : (addL a b).length = a.length := by simp [addL, h]
theorem addL_get (a b : List Int) (h : a.length = b.length) (i : Nat) : (addL a b)[i]?.getD 0 = a[i]?.getD 0 + b[i]?.getD 0 := by
  unfold addL
  rw [List.getElem?_zipWith]
  by_cases hi : i < a.length
  · rw [List.getElem?_eq_getElem hi, List.getElem?_eq_getElem (by omega : i < b.length)]; simp
  · rw [List.getElem?_eq_none (by omega : a.length ≤ i), List.getElem?_eq_none (by omega : b.length ≤ i)]; simp
theorem addL_sum : ∀ (a b : List Int), a.length = b.length → sumZ (addL a b) = sumZ a + sumZ b
  | [], [], _ => by simp [addL, sumZ]
  | x :: a, y :: b, h => by
    have ih := addL_sum a b (by simpa using h)
    show sumZ ((x + y) :: addL a b) = _
    rw [sumZ_cons, sumZ_cons, sumZ_cons, ih]; omega
theorem addL_zero (b : List Int) : addL (List.replicate b.length 0) b = b := by
  apply List.ext_getElem?
  intro i
  unfold addL
  rw [List.getElem?_zipWith]
  by_cases hi : i < b.length
  · rw [List.getElem?_eq_getElem hi]; simp [hi]
  · rw [List.getElem?_eq_none (by omega : b.length ≤ i)]; simp
theorem mem_addL (a b : List Int) (h : a.length = b.length) (z : Int) (hz : z ∈ addL a b) : ∃ i, i < a.length ∧ z = a[i]?.getD 0 + b[i]?.getD 0 := by
  obtain ⟨i, hi⟩ := List.mem_iff_getElem?.1 hz
  have hl := (List.getElem?_eq_some_iff.1 hi).1
  rw [addL_len a b h] at hl
  refine ⟨i, hl, ?_⟩
  rw [← addL_get a b h, hi]; rfl
theorem okW_get (l : List Int) (h : OkW l) (i : Nat) : 0 ≤ l[i]?.getD 0 ∧ l[i]?.getD 0 ≤ 1125899906842623 := by
  by_cases hi : i < l.length
  · rw [List.getElem?_eq_getElem hi]; exact h _ (List.getElem_mem hi)
  · rw [List.getElem?_eq_none (by omega)]; simp
theorem okW_of (l : List Int) (h : ∀ i : Nat, i < l.length → 0 ≤ l[i]?.getD 0 ∧ l[i]?.getD 0 ≤ 1125899906842623) : OkW l := fun z hz => by
  obtain ⟨i, hi⟩ := List.mem_iff_getElem?.1 hz
  have := h i (List.getElem?_eq_some_iff.1 hi).1
  rw [hi] at this; exact this
theorem sumZ_nn (l : List Int) (h : OkW l) : 0 ≤ sumZ l := sumZ_nonneg l fun z hz => (h z hz).1

/-- n, distributed over l by the weights ws -/
def overP (n : Int) (l ws : List Int) : List Int := addL (shrW (max 0 (n - sumZ l)) ws) l
structure OverOk (n : Int) (l ws : List Int) : Prop where
  n0 : 0 ≤ n
  n1 : n ≤ 1125899906842623
  l1 : 1 ≤ l.length
  l2 : l.length ≤ 10000
  wl : ws.length = l.length
  lo : OkW l
  wo : OkW ws
theorem OverOk.shl {n : Int} {l ws : List Int} (h : OverOk n l ws) : (shrW (max 0 (n - sumZ l)) ws).length = l.length := by
  rw [shrW_len _ _ (by omega) h.wo (by have := h.wl; have := h.l1; omega), h.wl]
theorem OverOk.len {n : Int} {l ws : List Int} (h : OverOk n l ws) : (overP n l ws).length = l.length := by
  unfold overP; rw [addL_len _ _ h.shl, h.shl]
theorem OverOk.sum {n : Int} {l ws : List Int} (h : OverOk n l ws) : sumZ (overP n l ws) = max (sumZ l) n := by
  unfold overP
  rw [addL_sum _ _ h.shl, (shrW_shr _ _ (by omega) h.wo (by have := h.wl; have := h.l1; omega)).sum]; omega
theorem OverOk.get {n : Int} {l ws : List Int} (h : OverOk n l ws) (i : Nat) : ∃ d : Int, 0 ≤ d ∧ d ≤ max 0 (n - sumZ l) ∧ (overP n l ws)[i]?.getD 0 = l[i]?.getD 0 + d := by
  unfold overP
  rw [addL_get _ _ h.shl]
  have hb := shrW_bd (max 0 (n - sumZ l)) ws (by omega) h.wo (by have := h.wl; have := h.l1; omega)
  refine ⟨(shrW (max 0 (n - sumZ l)) ws)[i]?.getD 0, ?_, ?_, by omega⟩
  · by_cases hi : i < (shrW (max 0 (n - sumZ l)) ws).length
    · rw [List.getElem?_eq_getElem hi]; exact (hb _ (List.getElem_mem hi)).1
    · rw [List.getElem?_eq_none (by omega)]; simp
  · by_cases hi : i < (shrW (max 0 (n - sumZ l)) ws).length
    · rw [List.getElem?_eq_getElem hi]; exact (hb _ (List.getElem_mem hi)).2
    · rw [List.getElem?_eq_none (by omega)]; simp; omega
theorem OverOk.ge {n : Int} {l ws : List Int} (h : OverOk n l ws) (i : Nat) : l[i]?.getD 0 ≤ (overP n l ws)[i]?.getD 0 := by
  obtain ⟨d, h1, h2, e⟩ := h.get i; omega
theorem OverOk.ok {n : Int} {l ws : List Int} (h : OverOk n l ws) : OkW (overP n l ws) := okW_of _ fun i hi => by
  obtain ⟨d, h1, h2, e⟩ := h.get i
  have hl : i < l.length := by rw [h.len] at hi; exact hi
  have hm : l[i]?.getD 0 ≤ sumZ l := by
    rw [List.getElem?_eq_getElem hl]; exact le_sum_of l (fun z hz => (h.lo z hz).1) _ (List.getElem_mem hl)
  have := okW_get l h.lo i
  have := h.n1
  rw [e]; omega
theorem OverOk.same {n : Int} {l ws : List Int} (h : OverOk n l ws) (hn : n ≤ sumZ l) : overP n l ws = l := by
  unfold overP
  rw [show max 0 (n - sumZ l) = 0 by omega, shrW_zero _ h.wo (by have := h.wl; have := h.l1; omega), h.wl, addL_zero]

/-- a cell's columns' part of a length -/
def partP (n gap cols : Int) : Int := if cols < 1 then n else max 0 (sat (n - sat (gap * (cols - 1))))
theorem partP_in (n gap cols : Int) (n0 : 0 ≤ n) (n1 : n ≤ 1125899906842623) (g0 : 0 ≤ gap) (g1 : gap ≤ 1073741824) (c0 : 1 ≤ cols) (c1 : cols ≤ 10000) : partP n gap cols = max 0 (n - gap * (cols - 1)) := by
  unfold partP
  have hp : 0 ≤ gap * (cols - 1) := Int.mul_nonneg g0 (by omega)
  have hq : gap * (cols - 1) ≤ 1073741824 * 10000 := Int.mul_le_mul g1 (by omega) (by omega) (by omega)
  rw [if_neg (by omega), sat_in (x := gap * (cols - 1)) (by omega) (by omega), sat_in (by omega) (by omega)]
theorem partP_bd (n gap cols : Int) (n0 : 0 ≤ n) (n1 : n ≤ 1125899906842623) (g0 : 0 ≤ gap) (g1 : gap ≤ 1073741824) (c0 : 1 ≤ cols) (c1 : cols ≤ 10000) : 0 ≤ partP n gap cols ∧ partP n gap cols ≤ n ∧ n - gap * (cols - 1) ≤ partP n gap cols := by
  rw [partP_in n gap cols n0 n1 g0 g1 c0 c1]
  have hp : 0 ≤ gap * (cols - 1) := Int.mul_nonneg g0 (by omega)
  omega

/-! a part of a list, and a list with another part -/
def seg (l : List Int) (c k : Nat) : List Int := (l.drop c).take k
def spl (l : List Int) (c : Nat) (m : List Int) : List Int := l.take c ++ m ++ l.drop (c + m.length)
theorem seg_len (l : List Int) (c k : Nat) (h : c + k ≤ l.length) : (seg l c k).length = k := by simp [seg]; omega
theorem seg_get (l : List Int) (c k i : Nat) (hi : i < k) : (seg l c k)[i]? = l[c + i]? := by
  unfold seg; rw [List.getElem?_take_of_lt hi, List.getElem?_drop]
theorem spl_len (l : List Int) (c : Nat) (m : List Int) (h : c + m.length ≤ l.length) : (spl l c m).length = l.length := by simp [spl]; omega
theorem spl_in (l : List Int) (c : Nat) (m : List Int) (h : c + m.length ≤ l.length) (i : Nat) (hi : i < m.length) : (spl l c m)[c + i]? = m[i]? := by
  unfold spl
  rw [List.append_assoc, List.getElem?_append_right (by simp; omega), List.length_take, Nat.min_eq_left (by omega), Nat.add_sub_cancel_left, List.getElem?_append_left hi]
theorem spl_out (l : List Int) (c : Nat) (m : List Int) (h : c + m.length ≤ l.length) (j : Nat) (hj : j < c ∨ c + m.length ≤ j) : (spl l c m)[j]? = l[j]? := by
  unfold spl
  rcases hj with hj | hj
  · rw [List.append_assoc, List.getElem?_append_left (by simp; omega), List.getElem?_take_of_lt hj]
  · rw [List.getElem?_append_right (by simp; omega), List.getElem?_drop]
    congr 1; simp; omega
theorem spl_seg (l : List Int) (c k : Nat) (h : c + k ≤ l.length) : spl l c (seg l c k) = l := by
  unfold spl
  rw [seg_len l c k h]
  unfold seg
  conv => rhs; rw [← List.take_append_drop c l, ← List.take_append_drop k (l.drop c)]
  rw [List.drop_drop, List.append_assoc]
theorem seg_ok (l : List Int) (c k : Nat) (h : OkW l) : OkW (seg l c k) := fun z hz => h z (List.mem_of_mem_drop (List.mem_of_mem_take hz))
theorem spl_ok (l : List Int) (c : Nat) (m : List Int) (h : OkW l) (h' : OkW m) : OkW (spl l c m) := fun z hz => by
  unfold spl at hz
  rcases List.mem_append.1 hz with hz | hz
  · rcases List.mem_append.1 hz with hz | hz
    · exact h z (List.mem_of_mem_take hz)
    · exact h' z hz
  · exact h z (List.mem_of_mem_drop hz)
theorem seg_spl (l : List Int) (c : Nat) (m : List Int) (h : c + m.length ≤ l.length) : seg (spl l c m) c m.length = m := by
  apply List.ext_getElem?
  intro i
  by_cases hi : i < m.length
  · rw [seg_get _ _ _ _ hi, spl_in l c m h i hi]
  · rw [List.getElem?_eq_none (l := m) (by omega), List.getElem?_eq_none (by rw [seg_len _ _ _ (by rw [spl_len l c m h]; exact h)]; omega)]
theorem sumZ_mono : ∀ (a b : List Int), a.length = b.length → (∀ i : Nat, a[i]?.getD 0 ≤ b[i]?.getD 0) → sumZ a ≤ sumZ b
  | [], [], _, _ => Int.le_refl _
  | x :: a, y :: b, h, hm => by
    have h0 := hm 0
    have ih := sumZ_mono a b (by simpa using h) fun i => by have := hm (i + 1); simpa using this
    rw [sumZ_cons, sumZ_cons]
    simp only [List.getElem?_cons_zero, Option.getD_some] at h0
    omega

/-- what is greater, of two -/
def maxL (a b : List Int) : List Int := List.zipWith max a b
theorem maxL_len (a b : List Int) (h : a.length = b.length) : (maxL a b).length = a.length := by simp [maxL, h]
theorem maxL_get (a b : List Int) (h : a.length = b.length) (i : Nat) : (maxL a b)[i]?.getD 0 = max (a[i]?.getD 0) (b[i]?.getD 0) := by
  unfold maxL
  rw [List.getElem?_zipWith]
  by_cases hi : i < a.length
  · rw [List.getElem?_eq_getElem hi, List.getElem?_eq_getElem (by omega : i < b.length)]; simp
  · rw [List.getElem?_eq_none (by omega : a.length ≤ i), List.getElem?_eq_none (by omega : b.length ≤ i)]; simp
theorem maxL_ok (a b : List Int) (h : a.length = b.length) (ha : OkW a) (hb : OkW b) : OkW (maxL a b) := okW_of _ fun i hi => by
  rw [maxL_get a b h]; have := okW_get a ha i; have := okW_get b hb i; omega
theorem maxL_same (a b : List Int) (h : a.length = b.length) (hm : ∀ i : Nat, b[i]?.getD 0 ≤ a[i]?.getD 0) : maxL a b = a := by
  apply List.ext_getElem?
  intro i
  by_cases hi : i < a.length
  · have := maxL_get a b h i
    have h2 := hm i
    have hl : i < (maxL a b).length := by rw [maxL_len a b h]; exact hi
    rw [List.getElem?_eq_getElem hl, List.getElem?_eq_getElem hi] at *
    simp only [Option.getD_some] at *
    rw [this]; congr 1; omega
  · rw [List.getElem?_eq_none (by rw [maxL_len a b h]; omega), List.getElem?_eq_none (by omega)]

/-- the Mins and the Maxs of bands -/
structure Wd where
  lo : List Int
  hi : List Int
structure WdOk (m : Nat) (w : Wd) : Prop where
  ll : w.lo.length = m
  hl : w.hi.length = m
  lk : OkW w.lo
  hk : OkW w.hi
  le : ∀ i : Nat, w.lo[i]?.getD 0 ≤ w.hi[i]?.getD 0
/-- what a need makes of the Mins and the Maxs of its own columns -/
def lo1 (gap : Int) (s : Ne) (a b : List Int) : List Int := overP (partP s.mn gap s.cs) a b
def hi1 (gap : Int) (s : Ne) (a b : List Int) : List Int := maxL b (lo1 gap s a b)
def hi2 (gap : Int) (s : Ne) (a b : List Int) : List Int := overP (partP s.mx gap s.cs) (hi1 gap s a b) (hi1 gap s a b)
/-- a need, distributed -/
def meetP (gap : Int) (w : Wd) (s : Ne) : Wd :=
  ⟨spl w.lo s.co.toNat (lo1 gap s (seg w.lo s.co.toNat s.cs.toNat) (seg w.hi s.co.toNat s.cs.toNat)), spl w.hi s.co.toNat (hi2 gap s (seg w.lo s.co.toNat s.cs.toNat) (seg w.hi s.co.toNat s.cs.toNat))⟩
/-- a need's columns' Mins and Maxs are right -/
structure SegOk (gap : Int) (s : Ne) (k : Nat) (a b : List Int) : Prop where
  g0 : 0 ≤ gap
  g1 : gap ≤ 1073741824
  k1 : 1 ≤ k
  k2 : k ≤ 10000
  sk : s.cs = k
  mn0 : 0 ≤ s.mn
  mnx : s.mn ≤ s.mx
  mx1 : s.mx ≤ 1125899906842623
  al : a.length = k
  bl : b.length = k
  ak : OkW a
  bk : OkW b
theorem SegOk.pn {gap : Int} {s : Ne} {k : Nat} {a b : List Int} (h : SegOk gap s k a b) : 0 ≤ partP s.mn gap s.cs ∧ partP s.mn gap s.cs ≤ 1125899906842623 ∧ s.mn - gap * (s.cs - 1) ≤ partP s.mn gap s.cs := by
  have := h.mnx; have := h.mx1; have := h.sk; have := h.k1; have := h.k2
  have := partP_bd s.mn gap s.cs h.mn0 (by omega) h.g0 h.g1 (by omega) (by omega); omega
theorem SegOk.px {gap : Int} {s : Ne} {k : Nat} {a b : List Int} (h : SegOk gap s k a b) : 0 ≤ partP s.mx gap s.cs ∧ partP s.mx gap s.cs ≤ 1125899906842623 ∧ s.mx - gap * (s.cs - 1) ≤ partP s.mx gap s.cs := by
  have := h.mnx; have := h.mx1; have := h.sk; have := h.k1; have := h.k2; have := h.mn0
  have := partP_bd s.mx gap s.cs (by omega) h.mx1 h.g0 h.g1 (by omega) (by omega); omega
theorem SegOk.o1 {gap : Int} {s : Ne} {k : Nat} {a b : List Int} (h : SegOk gap s k a b) : OverOk (partP s.mn gap s.cs) a b :=
  ⟨h.pn.1, h.pn.2.1, by rw [h.al]; exact h.k1, by rw [h.al]; exact h.k2, by rw [h.al, h.bl], h.ak, h.bk⟩
theorem SegOk.lol {gap : Int} {s : Ne} {k : Nat} {a b : List Int} (h : SegOk gap s k a b) : (lo1 gap s a b).length = k := by unfold lo1; rw [h.o1.len, h.al]
theorem SegOk.h1l {gap : Int} {s : Ne} {k : Nat} {a b : List Int} (h : SegOk gap s k a b) : (hi1 gap s a b).length = k := by unfold hi1; rw [maxL_len _ _ (by rw [h.bl, h.lol]), h.bl]
theorem SegOk.h1k {gap : Int} {s : Ne} {k : Nat} {a b : List Int} (h : SegOk gap s k a b) : OkW (hi1 gap s a b) := maxL_ok _ _ (by rw [h.bl, h.lol]) h.bk h.o1.ok
theorem SegOk.o2 {gap : Int} {s : Ne} {k : Nat} {a b : List Int} (h : SegOk gap s k a b) : OverOk (partP s.mx gap s.cs) (hi1 gap s a b) (hi1 gap s a b) :=
  ⟨h.px.1, h.px.2.1, by rw [h.h1l]; exact h.k1, by rw [h.h1l]; exact h.k2, rfl, h.h1k, h.h1k⟩
theorem SegOk.h2l {gap : Int} {s : Ne} {k : Nat} {a b : List Int} (h : SegOk gap s k a b) : (hi2 gap s a b).length = k := by unfold hi2; rw [h.o2.len, h.h1l]
theorem SegOk.lohi {gap : Int} {s : Ne} {k : Nat} {a b : List Int} (h : SegOk gap s k a b) (i : Nat) : (lo1 gap s a b)[i]?.getD 0 ≤ (hi2 gap s a b)[i]?.getD 0 := by
  have h1 := h.o2.ge i
  unfold hi2
  have h2 : (hi1 gap s a b)[i]?.getD 0 = max (b[i]?.getD 0) ((lo1 gap s a b)[i]?.getD 0) := maxL_get _ _ (by rw [h.bl, h.lol]) i
  omega
theorem SegOk.bhi {gap : Int} {s : Ne} {k : Nat} {a b : List Int} (h : SegOk gap s k a b) (i : Nat) : b[i]?.getD 0 ≤ (hi2 gap s a b)[i]?.getD 0 := by
  have h1 := h.o2.ge i
  unfold hi2
  have h2 : (hi1 gap s a b)[i]?.getD 0 = max (b[i]?.getD 0) ((lo1 gap s a b)[i]?.getD 0) := maxL_get _ _ (by rw [h.bl, h.lol]) i
  omega
/-- what a need asks is there -/
theorem SegOk.enough {gap : Int} {s : Ne} {k : Nat} {a b : List Int} (h : SegOk gap s k a b) : s.mn ≤ sumZ (lo1 gap s a b) + gap * (s.cs - 1) ∧ s.mx ≤ sumZ (hi2 gap s a b) + gap * (s.cs - 1) := by
  have h1 := h.o1.sum
  have h2 := h.o2.sum
  have := h.pn.2.2; have := h.px.2.2
  unfold lo1 hi2
  omega
/-- .. and if it was there, nothing changes -/
theorem SegOk.idle {gap : Int} {s : Ne} {k : Nat} {a b : List Int} (h : SegOk gap s k a b) (hab : ∀ i : Nat, a[i]?.getD 0 ≤ b[i]?.getD 0) (h1 : s.mn ≤ sumZ a + gap * (s.cs - 1)) (h2 : s.mx ≤ sumZ b + gap * (s.cs - 1)) : lo1 gap s a b = a ∧ hi2 gap s a b = b := by
  have q := h.k2; have q1 := h.k1; have q2 := h.sk
  have hn := partP_in s.mn gap s.cs h.mn0 (by have := h.mnx; have := h.mx1; omega) h.g0 h.g1 (by omega) (by omega)
  have hx := partP_in s.mx gap s.cs (by have := h.mnx; have := h.mn0; omega) h.mx1 h.g0 h.g1 (by omega) (by omega)
  have sa := sumZ_nn a h.ak
  have sb := sumZ_nn b h.bk
  have e1 : lo1 gap s a b = a := h.o1.same (by rw [hn]; omega)
  have e2 : hi1 gap s a b = b := by unfold hi1; rw [e1]; exact maxL_same b a (by rw [h.bl, h.al]) hab
  refine ⟨e1, ?_⟩
  have := h.o2.same (by rw [hx, e2]; omega)
  unfold hi2
  rw [this, e2]

/-- a need is right, of m columns, and has many -/
structure NdOk (gap : Int) (m : Nat) (s : Ne) : Prop where
  g0 : 0 ≤ gap
  g1 : gap ≤ 1073741824
  c0 : 0 ≤ s.co
  k1 : 1 ≤ s.cs
  cm : s.co.toNat + s.cs.toNat ≤ m
  k2 : s.cs ≤ 10000
  mn0 : 0 ≤ s.mn
  mnx : s.mn ≤ s.mx
  mx1 : s.mx ≤ 1125899906842623
theorem NdOk.of {gap : Int} {m : Nat} {s : Ne} (h : neB m s = true) (g0 : 0 ≤ gap) (g1 : gap ≤ 1073741824) (hm : m ≤ 10000) : NdOk gap m s := by
  have := (neB_iff m s).1 h
  exact ⟨g0, g1, by omega, by omega, by omega, by omega, by omega, by omega, by omega⟩
theorem NdOk.sg {gap : Int} {m : Nat} {s : Ne} {w : Wd} (h : NdOk gap m s) (hw : WdOk m w) : SegOk gap s s.cs.toNat (seg w.lo s.co.toNat s.cs.toNat) (seg w.hi s.co.toNat s.cs.toNat) := by
  have := h.k1; have := h.k2; have := h.cm
  exact ⟨h.g0, h.g1, by omega, by omega, by omega, h.mn0, h.mnx, h.mx1, seg_len _ _ _ (by rw [hw.ll]; exact h.cm), seg_len _ _ _ (by rw [hw.hl]; exact h.cm), seg_ok _ _ _ hw.lk, seg_ok _ _ _ hw.hk⟩
theorem NdOk.lo_get {gap : Int} {m : Nat} {s : Ne} {w : Wd} (h : NdOk gap m s) (hw : WdOk m w) (i : Nat) : w.lo[i]?.getD 0 ≤ (meetP gap w s).lo[i]?.getD 0 ∧ w.hi[i]?.getD 0 ≤ (meetP gap w s).hi[i]?.getD 0 ∧ (meetP gap w s).lo[i]?.getD 0 ≤ (meetP gap w s).hi[i]?.getD 0 := by
  have hs := h.sg hw
  have c1 : s.co.toNat + (lo1 gap s (seg w.lo s.co.toNat s.cs.toNat) (seg w.hi s.co.toNat s.cs.toNat)).length ≤ w.lo.length := by rw [hs.lol, hw.ll]; exact h.cm
  have c2 : s.co.toNat + (hi2 gap s (seg w.lo s.co.toNat s.cs.toNat) (seg w.hi s.co.toNat s.cs.toNat)).length ≤ w.hi.length := by rw [hs.h2l, hw.hl]; exact h.cm
  by_cases hi : s.co.toNat ≤ i ∧ i < s.co.toNat + s.cs.toNat
  · obtain ⟨j, rfl⟩ : ∃ j, i = s.co.toNat + j := ⟨i - s.co.toNat, by omega⟩
    have hj : j < s.cs.toNat := by omega
    have e1 := spl_in w.lo s.co.toNat _ c1 j (by rw [hs.lol]; exact hj)
    have e2 := spl_in w.hi s.co.toNat _ c2 j (by rw [hs.h2l]; exact hj)
    have g1 := hs.o1.ge j
    have g2 := hs.bhi j
    have g3 := hs.lohi j
    rw [seg_get _ _ _ _ hj] at g1 g2
    unfold meetP
    dsimp only
    rw [e1, e2]
    exact ⟨g1, g2, g3⟩
  · have e1 := spl_out w.lo s.co.toNat _ c1 i (by rw [hs.lol]; omega)
    have e2 := spl_out w.hi s.co.toNat _ c2 i (by rw [hs.h2l]; omega)
    have := hw.le i
    unfold meetP
    dsimp only
    rw [e1, e2]
    exact ⟨Int.le_refl _, Int.le_refl _, this⟩
theorem NdOk.ok {gap : Int} {m : Nat} {s : Ne} {w : Wd} (h : NdOk gap m s) (hw : WdOk m w) : WdOk m (meetP gap w s) := by
  have hs := h.sg hw
  refine ⟨?_, ?_, spl_ok _ _ _ hw.lk hs.o1.ok, spl_ok _ _ _ hw.hk hs.o2.ok, fun i => (h.lo_get hw i).2.2⟩
  · unfold meetP; rw [spl_len _ _ _ (by rw [hs.lol, hw.ll]; exact h.cm), hw.ll]
  · unfold meetP; rw [spl_len _ _ _ (by rw [hs.h2l, hw.hl]; exact h.cm), hw.hl]
/-- the columns of a need have what it asks -/
def Has (gap : Int) (s : Ne) (w : Wd) : Prop := s.mn ≤ sumZ (seg w.lo s.co.toNat s.cs.toNat) + gap * (s.cs - 1) ∧ s.mx ≤ sumZ (seg w.hi s.co.toNat s.cs.toNat) + gap * (s.cs - 1)
theorem NdOk.has {gap : Int} {m : Nat} {s : Ne} {w : Wd} (h : NdOk gap m s) (hw : WdOk m w) : Has gap s (meetP gap w s) := by
  have hs := h.sg hw
  have he := hs.enough
  have c1 := seg_spl w.lo s.co.toNat (lo1 gap s (seg w.lo s.co.toNat s.cs.toNat) (seg w.hi s.co.toNat s.cs.toNat)) (by rw [hs.lol, hw.ll]; exact h.cm)
  have c2 := seg_spl w.hi s.co.toNat (hi2 gap s (seg w.lo s.co.toNat s.cs.toNat) (seg w.hi s.co.toNat s.cs.toNat)) (by rw [hs.h2l, hw.hl]; exact h.cm)
  rw [hs.lol] at c1
  rw [hs.h2l] at c2
  unfold Has meetP
  dsimp only
  rw [c1, c2]
  exact he
theorem Has.mono {gap : Int} {m : Nat} {s : Ne} {w w' : Wd} (h : Has gap s w) (hs : NdOk gap m s) (hw : WdOk m w) (hw' : WdOk m w') (hl : ∀ i : Nat, w.lo[i]?.getD 0 ≤ w'.lo[i]?.getD 0) (hh : ∀ i : Nat, w.hi[i]?.getD 0 ≤ w'.hi[i]?.getD 0) : Has gap s w' := by
  have key : ∀ (a b : List Int), a.length = m → b.length = m → (∀ i : Nat, a[i]?.getD 0 ≤ b[i]?.getD 0) → sumZ (seg a s.co.toNat s.cs.toNat) ≤ sumZ (seg b s.co.toNat s.cs.toNat) := fun a b ha hb hab => by
    refine sumZ_mono _ _ (by rw [seg_len _ _ _ (by rw [ha]; exact hs.cm), seg_len _ _ _ (by rw [hb]; exact hs.cm)]) fun i => ?_
    by_cases hi : i < s.cs.toNat
    · rw [seg_get _ _ _ _ hi, seg_get _ _ _ _ hi]; exact hab _
    · rw [List.getElem?_eq_none (by rw [seg_len _ _ _ (by rw [ha]; exact hs.cm)]; omega), List.getElem?_eq_none (by rw [seg_len _ _ _ (by rw [hb]; exact hs.cm)]; omega)]; simp
  have k1 := key _ _ hw.ll hw'.ll hl
  have k2 := key _ _ hw.hl hw'.hl hh
  unfold Has at *
  omega
theorem NdOk.idle {gap : Int} {m : Nat} {s : Ne} {w : Wd} (h : NdOk gap m s) (hw : WdOk m w) (hh : Has gap s w) : meetP gap w s = w := by
  have hs := h.sg hw
  have ha : ∀ i : Nat, (seg w.lo s.co.toNat s.cs.toNat)[i]?.getD 0 ≤ (seg w.hi s.co.toNat s.cs.toNat)[i]?.getD 0 := fun i => by
    by_cases hi : i < s.cs.toNat
    · rw [seg_get _ _ _ _ hi, seg_get _ _ _ _ hi]; exact hw.le _
    · rw [List.getElem?_eq_none (by rw [hs.al]; omega), List.getElem?_eq_none (by rw [hs.bl]; omega)]; simp
  obtain ⟨e1, e2⟩ := hs.idle ha hh.1 hh.2
  unfold meetP
  rw [e1, e2, spl_seg _ _ _ (by rw [hw.ll]; exact h.cm), spl_seg _ _ _ (by rw [hw.hl]; exact h.cm)]

/-- needs, one after another -/
def meetsP (gap : Int) (w : Wd) (l : List Ne) : Wd := l.foldl (meetP gap) w
theorem meetsP_ok {gap : Int} {m : Nat} (l : List Ne) {w : Wd} (hw : WdOk m w) (hl : ∀ s ∈ l, NdOk gap m s) : WdOk m (meetsP gap w l) := by
  unfold meetsP
  induction l generalizing w with
  | nil => exact hw
  | cons s l ih => exact ih ((hl s (by simp)).ok hw) fun x hx => hl x (by simp [hx])
theorem meetsP_ge {gap : Int} {m : Nat} (l : List Ne) {w : Wd} (hw : WdOk m w) (hl : ∀ s ∈ l, NdOk gap m s) (i : Nat) : w.lo[i]?.getD 0 ≤ (meetsP gap w l).lo[i]?.getD 0 ∧ w.hi[i]?.getD 0 ≤ (meetsP gap w l).hi[i]?.getD 0 := by
  unfold meetsP
  induction l generalizing w with
  | nil => exact ⟨Int.le_refl _, Int.le_refl _⟩
  | cons s l ih =>
    have h1 := (hl s (by simp)).lo_get hw i
    have h2 := ih ((hl s (by simp)).ok hw) fun x hx => hl x (by simp [hx])
    rw [List.foldl_cons]; omega
theorem meetsP_has {gap : Int} {m : Nat} (l : List Ne) {w : Wd} (hw : WdOk m w) (hl : ∀ s ∈ l, NdOk gap m s) : ∀ s ∈ l, Has gap s (meetsP gap w l) := by
  unfold meetsP
  induction l generalizing w with
  | nil => intro s hs; cases hs
  | cons x l ih =>
    intro s hs
    have hx := hl x (by simp)
    have ho := hx.ok hw
    have hl' : ∀ s ∈ l, NdOk gap m s := fun y hy => hl y (by simp [hy])
    rw [List.foldl_cons]
    rcases List.mem_cons.1 hs with rfl | hs
    · exact (hx.has hw).mono hx ho (meetsP_ok l ho hl') (fun i => (meetsP_ge l ho hl' i).1) (fun i => (meetsP_ge l ho hl' i).2)
    · exact ih ho hl' s hs
theorem meetsP_idle {gap : Int} {m : Nat} (l : List Ne) {w : Wd} (hw : WdOk m w) (hl : ∀ s ∈ l, NdOk gap m s) (hh : ∀ s ∈ l, Has gap s w) : meetsP gap w l = w := by
  unfold meetsP
  induction l with
  | nil => rfl
  | cons x l ih =>
    rw [List.foldl_cons, (hl x (by simp)).idle hw (hh x (by simp))]
    exact ih (fun y hy => hl y (by simp [hy])) fun y hy => hh y (by simp [hy])

/-- the Mins and Maxs of bands; bands with others -/
def wdOf (bs : List Ba) : Wd := ⟨bs.map (·.mn), bs.map (·.mx)⟩
def wdIn (bs : List Ba) (w : Wd) : List Ba := bs.mapIdx fun i b => { b with mn := w.lo[i]?.getD 0, mx := w.hi[i]?.getD 0 }
theorem wdIn_len (bs : List Ba) (w : Wd) : (wdIn bs w).length = bs.length := by simp [wdIn]
theorem wdIn_get (bs : List Ba) (w : Wd) (i : Nat) : (wdIn bs w)[i]? = (bs[i]?).map fun b => { b with mn := w.lo[i]?.getD 0, mx := w.hi[i]?.getD 0 } := by simp [wdIn]
theorem map_getD (bs : List Ba) (f : Ba → Int) (i : Nat) (b : Ba) (h : bs[i]? = some b) : (bs.map f)[i]?.getD 0 = f b := by simp [h]
theorem wdIn_of (bs : List Ba) : wdIn bs (wdOf bs) = bs := by
  apply List.ext_getElem?
  intro i
  rw [wdIn_get]
  cases h : bs[i]? with
  | none => rfl
  | some b =>
    simp only [Option.map_some, Option.some.injEq]
    unfold wdOf
    dsimp only
    rw [map_getD bs _ i b h, map_getD bs _ i b h]
theorem wdOf_in {m : Nat} (bs : List Ba) (w : Wd) (hb : bs.length = m) (hw : WdOk m w) : wdOf (wdIn bs w) = w := by
  have key : ∀ (f : Ba → Int) (l : List Int), l.length = m → (∀ (i : Nat) (b : Ba), bs[i]? = some b → f ({ b with mn := w.lo[i]?.getD 0, mx := w.hi[i]?.getD 0 } : Ba) = l[i]?.getD 0) → (wdIn bs w).map f = l := fun f l hl h => by
    apply List.ext_getElem?
    intro i
    rw [List.getElem?_map, wdIn_get]
    by_cases hi : i < bs.length
    · rw [List.getElem?_eq_getElem hi, List.getElem?_eq_getElem (by omega : i < l.length)]
      have := h i bs[i] (List.getElem?_eq_getElem hi)
      rw [List.getElem?_eq_getElem (by omega : i < l.length)] at this
      simpa using this
    · rw [List.getElem?_eq_none (by omega : bs.length ≤ i), List.getElem?_eq_none (by omega : l.length ≤ i)]; rfl
  obtain ⟨lo, hi⟩ := w
  unfold wdOf
  congr 1
  · exact key _ lo hw.ll fun i b h => rfl
  · exact key _ hi hw.hl fun i b h => rfl
theorem baB_iff (b : Ba) : baB b = true ↔ 0 ≤ b.mn ∧ b.mn ≤ b.mx ∧ b.mx ≤ 1125899906842623 ∧ -1 ≤ b.sh ∧ b.sh ≤ 10000000 ∧ -1 ≤ b.wt ∧ b.wt ≤ 1073741824 ∧ (b.sh = -1 ∨ b.wt = -1) := by simp [baB]
theorem wdOf_ok {m : Nat} (bs : List Ba) (hb : bs.length = m) (hr : ∀ b ∈ bs, baB b = true) : WdOk m (wdOf bs) := by
  have hg : ∀ i, i < bs.length → ∃ b, bs[i]? = some b ∧ 0 ≤ b.mn ∧ b.mn ≤ b.mx ∧ b.mx ≤ 1125899906842623 := fun i hi => by
    have := (baB_iff _).1 (hr bs[i] (List.getElem_mem hi))
    exact ⟨_, List.getElem?_eq_getElem hi, this.1, this.2.1, this.2.2.1⟩
  refine ⟨by simp [wdOf, hb], by simp [wdOf, hb], okW_of _ fun i hi => ?_, okW_of _ fun i hi => ?_, fun i => ?_⟩
  · obtain ⟨b, h, h1, h2, h3⟩ := hg i (by simpa [wdOf] using hi)
    unfold wdOf; rw [map_getD bs _ i b h]; omega
  · obtain ⟨b, h, h1, h2, h3⟩ := hg i (by simpa [wdOf] using hi)
    unfold wdOf; rw [map_getD bs _ i b h]; omega
  · by_cases hi : i < bs.length
    · obtain ⟨b, h, h1, h2, h3⟩ := hg i hi
      unfold wdOf; rw [map_getD bs _ i b h, map_getD bs _ i b h]; exact h2
    · unfold wdOf; rw [List.getElem?_eq_none (by simp; omega), List.getElem?_eq_none (by simp; omega)]; simp
theorem wdIn_ok {m : Nat} (bs : List Ba) (w : Wd) (hb : bs.length = m) (hr : ∀ b ∈ bs, baB b = true) (hw : WdOk m w) : ∀ b ∈ wdIn bs w, baB b = true := fun b hm => by
  obtain ⟨i, hi⟩ := List.mem_iff_getElem?.1 hm
  rw [wdIn_get] at hi
  obtain ⟨b', hb', rfl⟩ := Option.map_eq_some_iff.1 hi
  have := (baB_iff b').1 (hr b' (List.mem_of_getElem? hb'))
  have h1 := okW_get w.lo hw.lk i
  have h2 := okW_get w.hi hw.hk i
  have h3 := hw.le i
  rw [baB_iff]
  dsimp only
  omega

/-- needs of many columns in their turn: those of fewer columns first -/
def turnL (m : Nat) (ns : List Ne) : List Ne := (List.range' 2 (m - 1)).flatMap fun (c : Nat) => ns.filter fun s => decide (s.cs = (c : Int))
theorem mem_turnL (m : Nat) (ns : List Ne) (s : Ne) : s ∈ turnL m ns ↔ s ∈ ns ∧ 2 ≤ s.cs ∧ s.cs ≤ m := by
  unfold turnL
  simp only [List.mem_flatMap, List.mem_range'_1, List.mem_filter, decide_eq_true_eq]
  constructor
  · rintro ⟨c, hc, hs, he⟩; exact ⟨hs, by omega, by omega⟩
  · rintro ⟨hs, h1, h2⟩; exact ⟨s.cs.toNat, by omega, hs, by omega⟩
/-- what spread.Needs makes of right bands -/
def spreadP (bs : List Ba) (ns : List Ne) (gap : Int) : List Ba := wdIn bs (meetsP gap (wdOf bs) (turnL bs.length ns))
/-- bands, needs, gap are right -/
def rightP (bs : List Ba) (ns : List Ne) (gap : Int) : Bool := (decide (bs.length ≤ 100) && decide (ns.length ≤ 1000) && (decide (0 ≤ gap) && decide (gap ≤ 1073741824))) && (bs.all baB && rightK (List.replicate bs.length ⟨0, 0⟩) ns)
theorem szB_zero : szB ⟨0, 0⟩ = true := by decide
theorem rightP_iff (bs : List Ba) (ns : List Ne) (gap : Int) : rightP bs ns gap = true ↔ bs.length ≤ 100 ∧ ns.length ≤ 1000 ∧ 0 ≤ gap ∧ gap ≤ 1073741824 ∧ (∀ b ∈ bs, baB b = true) ∧ ∀ n ∈ ns, neB bs.length n = true := by
  unfold rightP
  simp only [Bool.and_eq_true, decide_eq_true_eq, List.all_eq_true, rightK_iff, List.length_replicate]
  constructor
  · rintro ⟨⟨⟨a, b⟩, c, d⟩, e, f, g, h⟩; exact ⟨a, b, c, d, e, h⟩
  · rintro ⟨a, b, c, d, e, h⟩; exact ⟨⟨⟨a, b⟩, c, d⟩, e, by omega, fun s hs => by rw [List.eq_of_mem_replicate hs]; exact szB_zero, h⟩
theorem turnL_ok {bs : List Ba} {ns : List Ne} {gap : Int} (h : rightP bs ns gap = true) : ∀ s ∈ turnL bs.length ns, NdOk gap bs.length s := fun s hs => by
  obtain ⟨a, b, c, d, e, f⟩ := (rightP_iff _ _ _).1 h
  exact NdOk.of (f s ((mem_turnL _ _ _).1 hs).1) c d (by omega)
theorem spreadP_len (bs : List Ba) (ns : List Ne) (gap : Int) : (spreadP bs ns gap).length = bs.length := wdIn_len _ _
theorem spread_wd {bs : List Ba} {ns : List Ne} {gap : Int} (h : rightP bs ns gap = true) : WdOk bs.length (meetsP gap (wdOf bs) (turnL bs.length ns)) :=
  meetsP_ok _ (wdOf_ok bs rfl ((rightP_iff _ _ _).1 h).2.2.2.2.1) (turnL_ok h)
theorem spreadP_ok {bs : List Ba} {ns : List Ne} {gap : Int} (h : rightP bs ns gap = true) : ∀ b ∈ spreadP bs ns gap, baB b = true :=
  wdIn_ok bs _ rfl ((rightP_iff _ _ _).1 h).2.2.2.2.1 (spread_wd h)
theorem spreadP_right {bs : List Ba} {ns : List Ne} {gap : Int} (h : rightP bs ns gap = true) : rightP (spreadP bs ns gap) ns gap = true := by
  have h' := (rightP_iff _ _ _).1 h
  rw [rightP_iff, spreadP_len]
  exact ⟨h'.1, h'.2.1, h'.2.2.1, h'.2.2.2.1, spreadP_ok h, h'.2.2.2.2.2⟩
/-- spread again, it is the same -/
theorem spreadP_twice {bs : List Ba} {ns : List Ne} {gap : Int} (h : rightP bs ns gap = true) : spreadP (spreadP bs ns gap) ns gap = spreadP bs ns gap := by
  have hw := spread_wd h
  have hb := wdOf_ok bs rfl ((rightP_iff _ _ _).1 h).2.2.2.2.1
  have e : wdOf (spreadP bs ns gap) = meetsP gap (wdOf bs) (turnL bs.length ns) := wdOf_in bs _ rfl hw
  have hh := meetsP_has _ hb (turnL_ok h)
  have e2 := meetsP_idle (turnL bs.length ns) hw (turnL_ok h) hh
  show wdIn (spreadP bs ns gap) (meetsP gap (wdOf (spreadP bs ns gap)) (turnL (spreadP bs ns gap).length ns)) = _
  rw [spreadP_len, e, e2, ← e, wdIn_of]
/-- needs of no width change nothing -/
theorem spreadP_none {bs : List Ba} {ns : List Ne} {gap : Int} (h : rightP bs ns gap = true) (h0 : ∀ s ∈ ns, s.mn = 0 ∧ s.mx = 0) : spreadP bs ns gap = bs := by
  have hb := wdOf_ok bs rfl ((rightP_iff _ _ _).1 h).2.2.2.2.1
  have e2 := meetsP_idle (turnL bs.length ns) hb (turnL_ok h) fun s hs => by
    have hk := turnL_ok h s hs
    have hz := h0 s ((mem_turnL _ _ _).1 hs).1
    have sa := sumZ_nn _ (seg_ok (wdOf bs).lo s.co.toNat s.cs.toNat hb.lk)
    have sb := sumZ_nn _ (seg_ok (wdOf bs).hi s.co.toNat s.cs.toNat hb.hk)
    have hp : 0 ≤ gap * (s.cs - 1) := Int.mul_nonneg hk.g0 (by have := hk.k1; omega)
    unfold Has
    omega
  unfold spreadP
  rw [e2, wdIn_of]
theorem spreadP_get {bs : List Ba} {ns : List Ne} {gap : Int} (h : rightP bs ns gap = true) (i : Nat) (b : Ba) (hb : bs[i]? = some b) : ∃ b', (spreadP bs ns gap)[i]? = some b' ∧ b.mn ≤ b'.mn ∧ b.mx ≤ b'.mx ∧ b'.sh = b.sh ∧ b'.wt = b.wt := by
  have hw := wdOf_ok bs rfl ((rightP_iff _ _ _).1 h).2.2.2.2.1
  have hg := meetsP_ge _ hw (turnL_ok h) i
  unfold spreadP
  rw [wdIn_get, hb]
  refine ⟨_, rfl, ?_, ?_, rfl, rfl⟩
  · have := hg.1; unfold wdOf at this; rw [map_getD bs _ i b hb] at this; exact this
  · have := hg.2; unfold wdOf at this; rw [map_getD bs _ i b hb] at this; exact this
theorem spreadP_has {bs : List Ba} {ns : List Ne} {gap : Int} (h : rightP bs ns gap = true) (s : Ne) (hs : s ∈ ns) (h2 : 2 ≤ s.cs) : s.mn ≤ sumZ (seg ((spreadP bs ns gap).map (·.mn)) s.co.toNat s.cs.toNat) + gap * (s.cs - 1) ∧ s.mx ≤ sumZ (seg ((spreadP bs ns gap).map (·.mx)) s.co.toNat s.cs.toNat) + gap * (s.cs - 1) := by
  have hr := (rightP_iff _ _ _).1 h
  have hw := spread_wd h
  have hb := wdOf_ok bs rfl hr.2.2.2.2.1
  have hn := (neB_iff _ s).1 (hr.2.2.2.2.2 s hs)
  have e : wdOf (spreadP bs ns gap) = meetsP gap (wdOf bs) (turnL bs.length ns) := wdOf_in bs _ rfl hw
  have := meetsP_has _ hb (turnL_ok h) s ((mem_turnL _ _ _).2 ⟨hs, h2, by omega⟩)
  rw [← e] at this
  exact this

/-! needs sorted by turn, stably: first those of many columns in their turn, then those of one -/
def turnZ (s : Ne) : Int := if s.cs = 1 then 9223372036854775807 else s.cs
def tagL (ns : List Ne) : List (Nat × Ne) := ns.zipIdx.map fun p => (p.2, p.1)
theorem tagL_get (ns : List Ne) (i : Nat) : (tagL ns)[i]? = (ns[i]?).map fun s => (i, s) := by
  simp [tagL, List.getElem?_zipIdx, Function.comp_def]
theorem tagL_len (ns : List Ne) : (tagL ns).length = ns.length := by simp [tagL]
theorem tagL_val (ns : List Ne) : (tagL ns).map (·.2) = ns := by
  apply List.ext_getElem?
  intro i
  rw [List.getElem?_map, tagL_get]
  cases ns[i]? <;> rfl
theorem tagL_lt (ns : List Ne) : (tagL ns).Pairwise fun x y => x.1 < y.1 := by
  rw [List.pairwise_iff_getElem]
  intro i j hi hj hij
  have h1 := tagL_get ns i
  have h2 := tagL_get ns j
  rw [List.getElem?_eq_getElem hi] at h1
  rw [List.getElem?_eq_getElem hj] at h2
  obtain ⟨s, _, h1⟩ := Option.map_eq_some_iff.1 h1.symm
  obtain ⟨t, _, h2⟩ := Option.map_eq_some_iff.1 h2.symm
  rw [← h1, ← h2]; exact hij
/-- which need comes first -/
def bfT (x y : Nat × Ne) : Prop := turnZ x.2 < turnZ y.2 ∨ turnZ x.2 = turnZ y.2 ∧ x.1 < y.1
theorem bfT_irr (x : Nat × Ne) : ¬ bfT x x := by unfold bfT; omega
theorem bfT_trans (x y z : Nat × Ne) : bfT x y → bfT y z → bfT x z := by unfold bfT; omega
def turnT (m : Nat) (D : List (Nat × Ne)) : List (Nat × Ne) := ((List.range' 2 (m - 1)).flatMap fun (c : Nat) => D.filter fun x => decide (x.2.cs = (c : Int))) ++ D.filter fun x => decide (x.2.cs = 1)
theorem mem_turnT (m : Nat) (D : List (Nat × Ne)) (h : ∀ x ∈ D, 1 ≤ x.2.cs ∧ x.2.cs ≤ m) (x : Nat × Ne) : x ∈ turnT m D ↔ x ∈ D := by
  unfold turnT
  simp only [List.mem_append, List.mem_flatMap, List.mem_range'_1, List.mem_filter, decide_eq_true_eq]
  constructor
  · rintro (⟨c, _, hx, _⟩ | ⟨hx, _⟩) <;> exact hx
  · intro hx
    have := h x hx
    by_cases h1 : x.2.cs = 1
    · exact .inr ⟨hx, h1⟩
    · exact .inl ⟨x.2.cs.toNat, by omega, hx, by omega⟩
theorem turnT_sorted (m : Nat) (hm : m ≤ 10000) (D : List (Nat × Ne)) (hD : D.Pairwise fun x y => x.1 < y.1) : (turnT m D).Pairwise bfT := by
  have hf : ∀ c : Int, (D.filter fun x => decide (x.2.cs = c)).Pairwise bfT := fun c => by
    rw [List.pairwise_filter]
    refine hD.imp fun {x y} hxy h1 h2 => ?_
    simp only [decide_eq_true_eq] at h1 h2
    exact .inr ⟨by unfold turnZ; rw [h1, h2], hxy⟩
  unfold turnT
  rw [List.pairwise_append, List.pairwise_flatMap]
  refine ⟨⟨fun c _ => hf c, ?_⟩, hf 1, ?_⟩
  · rw [List.pairwise_iff_getElem]
    intro i j hi hj hij x hx y hy
    simp only [List.getElem_range', List.mem_filter, decide_eq_true_eq] at hx hy
    refine .inl ?_
    unfold turnZ
    rw [if_neg (by omega), if_neg (by omega)]; omega
  · intro x hx y hy
    simp only [List.mem_flatMap, List.mem_range'_1, List.mem_filter, decide_eq_true_eq] at hx hy
    obtain ⟨c, hc, _, hx⟩ := hx
    refine .inl ?_
    unfold turnZ
    rw [if_neg (by omega), if_pos hy.2]; omega
theorem nodup_of {R : Nat × Ne → Nat × Ne → Prop} (hR : ∀ x, ¬ R x x) {l : List (Nat × Ne)} (h : l.Pairwise R) : l.Nodup := by
  refine h.imp fun {x y} hxy e => ?_
  subst e; exact hR _ hxy
/-- whatever is a permutation of all, sorted, is that -/
theorem sorted_one (m : Nat) (hm : m ≤ 10000) (ns : List Ne) (h : ∀ s ∈ ns, 1 ≤ s.cs ∧ s.cs ≤ m) (L : List (Nat × Ne)) (hp : L.Perm (tagL ns)) (hs : L.Pairwise bfT) : L.map (·.2) = turnL m ns ++ ns.filter fun s => decide (s.cs = 1) := by
  have hD := tagL_lt ns
  have ht := turnT_sorted m hm _ hD
  have hmem : ∀ x ∈ tagL ns, 1 ≤ x.2.cs ∧ x.2.cs ≤ m := fun x hx => h x.2 (by rw [← tagL_val ns]; exact List.mem_map_of_mem hx)
  have hperm : (turnT m (tagL ns)).Perm (tagL ns) := (List.perm_ext_iff_of_nodup (nodup_of bfT_irr ht) (nodup_of (R := fun x y => x.1 < y.1) (fun x => Nat.lt_irrefl _) hD)).2 (mem_turnT m _ hmem)
  have e : L = turnT m (tagL ns) := List.Perm.eq_of_pairwise (le := bfT) (fun a b _ _ h1 h2 => absurd (bfT_trans a b a h1 h2) (bfT_irr a)) hs ht (hp.trans hperm.symm)
  rw [e]
  unfold turnT turnL
  rw [List.map_append, List.map_flatMap]
  have hf : ∀ c : Int, ((tagL ns).filter fun x => decide (x.2.cs = c)).map (·.2) = ns.filter fun s => decide (s.cs = c) := fun c => by
    conv => rhs; rw [← tagL_val ns, List.filter_map]
    rfl
  congr 1
  · congr 1
    funext c
    exact hf c
  · exact hf 1
end Go.Proofs.Ytpbkboandiigfaa
