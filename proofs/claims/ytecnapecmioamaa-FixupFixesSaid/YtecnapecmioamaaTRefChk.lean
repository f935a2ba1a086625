/- The document's Check answers what the program's Check answers, for every page. -/
import Derived.Test.YtecnapecmioamaaTRefCheck
namespace Go.Proofs.Ytecnapecmioamaa
open Go.RowKit Go.Shelf
set_option linter.unusedVariables false
set_option linter.unusedSimpArgs false
attribute [local go_sem] Oper.semAt_some

theorem first_hit {α : Type} (p : α → Bool) : ∀ l : List α, l.any p = true → ∃ (k : Nat) (x : α), l[k]? = some x ∧ p x = true ∧ ∀ (j : Nat) (y : α), j < k → l[j]? = some y → p y = false
  | [], h => by simp at h
  | a :: l, h => by
    cases ha : p a with
    | true => exact ⟨0, a, rfl, ha, fun j y hj => by omega⟩
    | false =>
      rw [List.any_cons, ha, Bool.false_or] at h
      obtain ⟨k, x, h1, h2, h3⟩ := first_hit p l h
      refine ⟨k + 1, x, by simpa using h1, h2, fun j y hj hy => ?_⟩
      cases j with
      | zero => simp at hy; rw [← hy]; exact ha
      | succ j => exact h3 j y (by omega) (by simpa using hy)
theorem idx_cases {α : Type} (p : α → Bool) (l : List α) : (l.any p = false ∧ idxI p l = -1) ∨ ∃ (k : Nat) (x : α), l[k]? = some x ∧ p x = true ∧ (∀ j y, j < k → l[j]? = some y → p y = false) ∧ idxI p l = (k : Int) := by
  cases h : l.any p with
  | false => exact .inl ⟨rfl, idxI_none p l h⟩
  | true =>
    obtain ⟨k, x, h1, h2, h3⟩ := first_hit p l h
    refine .inr ⟨k, x, h1, h2, h3, idxI_hit p l k x ?_ h1 h2⟩
    rw [List.any_eq_false]
    intro y hy
    obtain ⟨j, hj⟩ := List.mem_iff_getElem?.1 hy
    rw [List.getElem?_take] at hj
    by_cases e : j < k
    · rw [if_pos e] at hj; rw [h3 j y e hj]; simp
    · rw [if_neg e] at hj; cases hj
theorem least_of {P : Nat → Prop} : ∀ n, P n → ∃ k, P k ∧ k ≤ n ∧ ∀ j, j < k → ¬ P j := by
  intro n
  induction n using Nat.strongRecOn with
  | _ n ih =>
    intro hn
    by_cases h : ∃ j, j < n ∧ P j
    · obtain ⟨j, h1, h2⟩ := h
      obtain ⟨k, h3, h4, h5⟩ := ih j h1 h2
      exact ⟨k, h3, by omega, h5⟩
    · exact ⟨n, hn, by omega, fun j hj hp => h ⟨j, hj, hp⟩⟩
theorem dep_met {ns : List Nd} (h1 : 1 ≤ ns.length) (hl : ∀ n ∈ ns, ∀ z ∈ n.ks, 1 ≤ z ∧ z < (ns.length : Int)) (j : Nat) (hj : j < ns.length) : (depthsP ns)[j]?.getD 0 = 0 ↔ metB ns (j : Int) = false := by
  have hki := kids_in hl
  obtain ⟨vis, st, hr, hn⟩ := walk_facts h1 hki
  have hg := hr.good h1 hki
  have hvis := hr.vis
  have hrng : ∀ x ∈ walkL ns.length (kfOf ns), 0 ≤ x.1 := fun x hx => (hg.vrng x.1 (by rw [hvis]; simp; exact ⟨x.2, hx⟩)).1
  cases hm : metB ns (j : Int) with
  | false =>
    have hno : ¬ ∃ x ∈ walkL ns.length (kfOf ns), x.1 = (j : Int) := by
      rintro ⟨x, hx, e⟩
      have : metB ns (j : Int) = true := by
        simp only [metB, List.contains_iff_mem]
        exact List.mem_map.2 ⟨x, hx, e⟩
      rw [hm] at this; cases this
    have := set_get ns.length (List.replicate ns.length 0) (by simp) (walkL ns.length (kfOf ns)) hrng j hj 0 (fun y hy e => absurd ⟨y, hy, e⟩ hno)
    rw [if_neg hno] at this
    unfold depthsP depL
    rw [this]; simp [hj]
  | true =>
    obtain ⟨d, hd⟩ := reach_met h1 hl ((reach_iff h1 hl j).2 hm)
    have hnd : ((walkL ns.length (kfOf ns)).map Prod.fst).Nodup := by have := hg.nd; rw [hvis] at this; exact (List.reverse_perm _).nodup_iff.1 this
    have hset := set_get ns.length (List.replicate ns.length 0) (by simp) (walkL ns.length (kfOf ns)) hrng j hj d (fun y hy ey => by
      have := count_unique (P := walkL ns.length (kfOf ns)) (z := (j : Int)) (by rw [hnd.count, if_pos (List.mem_map.2 ⟨_, hd, rfl⟩)]) y hy _ hd ey rfl
      rw [this])
    rw [if_pos ⟨_, hd, rfl⟩] at hset
    have hd1 := (hr.one _ hd).1
    have h2 : (depthsP ns)[j]?.getD 0 = (d : Int) := hset
    rw [h2]
    constructor
    · intro h; omega
    · intro h; cases h
set_option maxRecDepth 100000 in
set_option maxHeartbeats 1000000 in
theorem refCheck_size (q : Option Addr) (m cap : Nat) (w : World) (hm : m < 1 ∨ 65536 < m) (hs : m ≤ 9223372036854775807) :
    Calls Try.prog 8 #[.slice q m cap] w fun e W' => e = .returned (.tuple #[.int .i64 0, .int .i64 43]) ∧ Below w.heap.size w W' := by
  by_cases h : m < 1
  · have d1 : decide ((m : Int) < 1) = true := by simp; omega
    clear hm
    go_enter Try.func8, Try.ntmps8
    go_wp2
    refine bodyPost_ret (v := .tuple #[.int .i64 0, .int .i64 43]) (by simp [results, Try.results8, go_sem]) rfl ⟨rfl, Below.refl _ _⟩
  · have d1 : decide ((m : Int) < 1) = false := by simp; omega
    have d2 : decide ((m : Int) > 65536) = true := by simp; omega
    clear hm
    go_enter Try.func8, Try.ntmps8
    go_wp2
    refine bodyPost_ret (v := .tuple #[.int .i64 0, .int .i64 43]) (by simp [results, Try.results8, go_sem]) rfl ⟨rfl, Below.refl _ _⟩
/-- the document's Check -/
theorem refCheck_any (lv : Value) (ns : List Nd) (w : World) (hP : PageAt w lv ns) (hK : ∀ n ∈ ns, n.ks.length ≤ 70000) :
    Calls Try.prog 8 #[lv] w fun e W' => e = .returned (.tuple #[.int .i64 (checkP ns).1, .int .i64 (checkP ns).2]) ∧ Below w.heap.size w W' := by
  obtain ⟨q, cap, rfl⟩ := hP.form
  by_cases hlen : ¬ (1 ≤ ns.length ∧ ns.length ≤ 65536)
  · have e : checkP ns = (0, 43) := by unfold checkP; rw [if_pos hlen]
    rw [e]
    exact refCheck_size q _ cap w (by omega) hP.1
  have h1 : 1 ≤ ns.length := by omega
  have h2 : ns.length ≤ 65536 := by omega
  obtain ⟨b, off, rfl, _, _⟩ := page_cells hP h1
  rcases idx_cases wrongN ns with ⟨hw, ew⟩ | ⟨I1, n1, w1, w2, w3, ew⟩
  case inr =>
    have e : checkP ns = ((I1 : Int), 50) := by unfold checkP; rw [if_neg hlen, ew, if_pos (by omega)]
    rw [e]
    exact refCheck_wrong b off cap _ ns w rfl h1 h2 hP hK I1 (List.getElem?_eq_some_iff.1 w1).1 (Lib.hid fun j n hj hn => by rw [w3 j n hj hn]; rfl) (Lib.hid fun n hn => by rw [w1] at hn; injection hn with hn; rw [← hn, w2]; rfl)
  have HW : Hid (∀ j n, j < ns.length → ns[j]? = some n → (!wrongN n) = true) := Lib.hid fun j n hj hn => by
    rw [List.any_eq_false] at hw
    simpa using hw n (List.mem_iff_getElem?.2 ⟨j, hn⟩)
  rcases idx_cases (unlinkedN ns.length) ns with ⟨hu, eu⟩ | ⟨I2, n2, u1, u2, u3, eu⟩
  case inr =>
    have e : checkP ns = ((I2 : Int), 40) := by unfold checkP; rw [if_neg hlen, ew, if_neg (by omega), eu, if_pos (by omega)]
    rw [e]
    refine refCheck_link b off cap _ ns w rfl h1 h2 hP hK HW I2 (List.getElem?_eq_some_iff.1 u1).1 (Lib.hid fun j n hj hn z hz => ?_) (Lib.hid fun n hn => ?_)
    · have h3 := u3 j n hj hn
      unfold unlinkedN at h3
      rw [List.any_eq_false] at h3
      have := outB_false (by simpa using h3 z hz)
      omega
    · rw [u1] at hn; injection hn with hn; subst hn
      unfold unlinkedN at u2
      obtain ⟨k, z, k1, k2, k3⟩ := first_hit _ _ u2
      refine ⟨k, z, k1, fun h => ?_, fun k' z' hk' hz' => ?_⟩
      · rw [outB_in (by omega) (by omega)] at k2; cases k2
      · have := outB_false (k3 k' z' hk' hz'); omega
  have hl := linked (m := ns.length) (ns := ns) (by rw [eu]; omega)
  have HL2 : Hid (∀ j n, j < ns.length → ns[j]? = some n → ∀ z ∈ n.ks, 1 ≤ z ∧ z < (ns.length : Int)) := Lib.hid fun j n _ hn => hl n (List.mem_iff_getElem?.2 ⟨j, hn⟩)
  have hk0 : ∀ z ∈ kidsOf ns, 0 ≤ z := fun z hz => by
    obtain ⟨a, ha, hz'⟩ := List.mem_flatMap.1 hz
    have := hl a ha z hz'; omega
  have hlz : ((tms ns.length (kidsOf ns)).zip (depthsP ns)).length = ns.length := by simp [tms_len, depthsP, depL_len]
  have hzip : ∀ j x, ((tms ns.length (kidsOf ns)).zip (depthsP ns))[j]? = some x → j < ns.length ∧ (strayB x = true ↔ (((kidsOf ns).count (j : Int) : Int) + if j = 0 then 1 else 0) ≠ 1 ∨ metB ns (j : Int) = false) := fun j x hx => by
    have hj : j < ns.length := by have := (List.getElem?_eq_some_iff.1 hx).1; rw [hlz] at this; exact this
    refine ⟨hj, ?_⟩
    have ht := tms_get ns.length (kidsOf ns) hk0 j hj
    have hd := dep_met h1 hl j hj
    have a1 : j < (tms ns.length (kidsOf ns)).length := by rw [tms_len]; exact hj
    have a2 : j < (depthsP ns).length := by unfold depthsP; rw [depL_len]; exact hj
    rw [List.getElem?_eq_getElem a1] at ht
    rw [List.getElem?_eq_getElem a2] at hd
    simp only [Option.getD_some] at ht hd
    have hx2 := (List.getElem?_eq_some_iff.1 hx).2
    rw [List.getElem_zip] at hx2
    rw [← hx2, ← ht, ← hd]
    simp [strayB]
  have h00 : (kidsOf ns).count (0 : Int) = 0 := List.count_eq_zero_of_not_mem (fun h => by
    obtain ⟨a, ha, hz'⟩ := List.mem_flatMap.1 h
    have := hl a ha _ hz'; omega)
  have hm0 : metB ns ((0 : Nat) : Int) = true := (reach_iff h1 hl 0).1 .root
  rcases idx_cases strayB ((tms ns.length (kidsOf ns)).zip (depthsP ns)) with ⟨hs, es⟩ | ⟨I, x, s1, s2, s3, es⟩
  case inr =>
    have e : checkP ns = ((I : Int), 41) := by unfold checkP; rw [if_neg hlen, ew, if_neg (by omega), eu, if_neg (by omega), show strayP ns = (I : Int) from es, if_pos (by omega)]
    rw [e]
    obtain ⟨hIm, hIs⟩ := hzip I x s1
    have hIs := hIs.1 s2
    have hI1 : 1 ≤ I := by
      apply Classical.byContradiction
      intro h
      obtain rfl : I = 0 := by omega
      rw [hm0] at hIs
      rcases hIs with h | h
      · rw [show ((0 : Nat) : Int) = 0 from rfl, h00] at h; simp at h
      · cases h
    rw [if_neg (by omega)] at hIs
    have hbefore : ∀ j : Nat, 1 ≤ j → j < I → (kidsOf ns).count (j : Int) = 1 ∧ metB ns (j : Int) = true := fun j hj1 hj => by
      obtain ⟨y, hy⟩ : ∃ y, ((tms ns.length (kidsOf ns)).zip (depthsP ns))[j]? = some y := ⟨_, List.getElem?_eq_getElem (by rw [hlz]; omega)⟩
      have h3 := s3 j y hj hy
      obtain ⟨_, h4⟩ := hzip j y hy
      rw [h3, if_neg (by omega)] at h4
      have h5 : ¬ ((((kidsOf ns).count (j : Int) : Int) + 0) ≠ 1 ∨ metB ns (j : Int) = false) := fun h => by have := h4.2 h; cases this
      refine ⟨?_, ?_⟩
      · apply Classical.byContradiction; intro h; exact h5 (.inl (by omega))
      · cases hmj : metB ns (j : Int) with
        | true => rfl
        | false => exact absurd (.inr hmj) h5
    by_cases hbad : ∃ j : Nat, 1 ≤ j ∧ j < ns.length ∧ (kidsOf ns).count (j : Int) ≠ 1
    · obtain ⟨j, hj⟩ := hbad
      obtain ⟨Z, ⟨z1, z2, z3⟩, _, z4⟩ := least_of (P := fun j : Nat => 1 ≤ j ∧ j < ns.length ∧ (kidsOf ns).count (j : Int) ≠ 1) j hj
      have hIZ : I ≤ Z := by
        apply Classical.byContradiction
        intro h
        exact z3 (hbefore Z z1 (by omega)).1
      refine refCheck_bad b off cap _ ns w rfl h1 h2 hP hK HW HL2 Z z1 z2 (Lib.hid z3) (Lib.hid fun j j1 j2 => ?_) I hI1 hIZ (Lib.hid hbefore) (Lib.hid ?_)
      · apply Classical.byContradiction; intro h; exact z4 j j2 ⟨j1, by omega, h⟩
      · rcases hIs with h | h
        · exact .inl (by omega)
        · exact .inr h
    · have hgood : ∀ j : Nat, 1 ≤ j → j < ns.length → (kidsOf ns).count (j : Int) = 1 := fun j j1 j2 => by
        apply Classical.byContradiction; intro h; exact hbad ⟨j, j1, j2, h⟩
      refine refCheck_stray b off cap _ ns w rfl h1 h2 hP hK HW HL2 (Lib.hid hgood) I hI1 hIm (Lib.hid fun j j1 j2 => (hbefore j j1 j2).2) (Lib.hid ?_)
      rcases hIs with h | h
      · exact absurd (by have := hgood I hI1 hIm; omega) h
      · exact h
  have F : NoStray ns := ⟨h1, hl, hs⟩
  have hgood : ∀ j : Nat, j < ns.length → ((((kidsOf ns).count (j : Int) : Nat) : Int) + (if j = 0 then 1 else 0)) = 1 ∧ metB ns (j : Int) = true := fun j hj => by
    obtain ⟨y, hy⟩ : ∃ y, ((tms ns.length (kidsOf ns)).zip (depthsP ns))[j]? = some y := ⟨_, List.getElem?_eq_getElem (by rw [hlz]; exact hj)⟩
    obtain ⟨_, h4⟩ := hzip j y hy
    have h3 : strayB y = false := by
      rw [List.any_eq_false] at hs
      simpa using hs y (List.mem_iff_getElem?.2 ⟨j, hy⟩)
    rw [h3] at h4
    refine ⟨?_, ?_⟩
    · apply Classical.byContradiction; intro h; have := h4.2 (.inl h); cases this
    · cases hmj : metB ns (j : Int) with
      | true => rfl
      | false => have := h4.2 (.inr hmj); cases this
  have HZB : Hid (∀ j : Nat, 1 ≤ j → j < ns.length → (kidsOf ns).count (j : Int) = 1) := Lib.hid fun j j1 j2 => by
    have := (hgood j j2).1
    rw [if_neg (by omega)] at this; omega
  have HS5 : Hid (∀ j : Nat, 1 ≤ j → j < ns.length → metB ns (j : Int) = true) := Lib.hid fun j _ j2 => (hgood j j2).2
  rcases idx_cases deepB (depthsP ns) with ⟨hd, ed⟩ | ⟨I6, z6, t1, t2, t3, ed⟩
  · have e : checkP ns = (0, 0) := by unfold checkP; rw [if_neg hlen, ew, if_neg (by omega), eu, if_neg (by omega), show strayP ns = -1 from es, if_neg (by omega), ed, if_neg (by omega)]
    rw [e]
    refine refCheck_fine b off cap _ ns w rfl h1 h2 hP hK HW HL2 HZB F HS5 (Lib.hid fun j z _ hz => ?_)
    rw [List.any_eq_false] at hd
    simpa using hd z (List.mem_iff_getElem?.2 ⟨j, hz⟩)
  · have e : checkP ns = ((I6 : Int), 42) := by unfold checkP; rw [if_neg hlen, ew, if_neg (by omega), eu, if_neg (by omega), show strayP ns = -1 from es, if_neg (by omega), ed, if_pos (by omega)]
    rw [e]
    exact refCheck_deep b off cap _ ns w rfl h1 h2 hP hK HW HL2 HZB F HS5 I6 (by have := (List.getElem?_eq_some_iff.1 t1).1; unfold depthsP at this; rw [depL_len] at this; exact this) (Lib.hid t3) (Lib.hid fun z hz => by rw [t1] at hz; injection hz with hz; rw [← hz]; exact t2)
end Go.Proofs.Ytecnapecmioamaa
