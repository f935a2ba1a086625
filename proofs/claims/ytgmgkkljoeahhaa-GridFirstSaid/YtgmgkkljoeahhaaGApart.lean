/- The places that Lay gives are apart: no slot belongs to two. Nothing of the program's code. -/
import Derived.Test.YtgmgkkljoeahhaaGOwners
import Derived.Test.YtgmgkkljoeahhaaGLay
namespace Go.Proofs.Ytgmgkkljoeahhaa
open Go.RowKit Go.Shelf
set_option linter.unusedVariables false

theorem slots_nodup (p : Pl) : (slotsL p).Nodup := by
  unfold slotsL rowsS rowS
  unfold List.Nodup
  rw [List.pairwise_flatMap]
  refine ⟨fun r hr => ?_, ?_⟩
  · rw [List.pairwise_map]
    exact (List.pairwise_lt_range' (s := 0) (n := p.w)).imp fun {a b} (hab : a < b) e => by injection e with e1 e2; omega
  · refine (List.pairwise_lt_range' (s := 0) (n := p.h)).imp fun {a b} (hab : a < b) x hx y hy e => ?_
    obtain ⟨c, _, rfl⟩ := List.mem_map.1 hx
    obtain ⟨d, _, rfl⟩ := List.mem_map.1 hy
    injection e with e1 e2
    omega
/-- what holds of the places so far -/
structure Fit7 (ends : List Int) (s : LS) : Prop where
  taken : ∀ p ∈ s.ps, ∀ c, p.c ≤ c → c < p.c + p.w → ∃ z, s.t[c]? = some z ∧ p.r + p.h ≤ z
  own : ((entL 0 (s.ps.map Pl.z)).map Prod.fst).Nodup
  wide : ∀ p ∈ s.ps, p.c + p.w ≤ s.t.length
theorem Fit7.zero (ends : List Int) : Fit7 ends LS.zero := ⟨fun p hp => (by cases hp), List.nodup_nil, fun p hp => (by cases hp)⟩
theorem ent_mem : ∀ (L : List Pl) (k : Nat) (s : Nat × Nat), s ∈ (entL k (L.map Pl.z)).map Prod.fst → ∃ p ∈ L, s ∈ slotsL p
  | [], k, s, h => by simp [entL] at h
  | p :: L, k, s, h => by
    simp only [List.map_cons, entL, List.map_append, List.mem_append] at h
    rcases h with h | h
    · obtain ⟨e, he, rfl⟩ := List.mem_map.1 h
      obtain ⟨u, hu, rfl⟩ := List.mem_map.1 he
      refine ⟨p, by simp, ?_⟩
      have : p.z.pl = p := by simp [Pl.z, Pz.pl]
      rw [this] at hu
      exact hu
    · obtain ⟨q, hq, hs⟩ := ent_mem L (k + 1) s h
      exact ⟨q, by simp [hq], hs⟩
theorem Fit7.step {ends : List Int} {s : LS} (h : Fit7 ends s) (hk : Okay s) (x : Nat × Sp) : Fit7 ends (stepP ends s x) := by
  obtain ⟨p, hp⟩ : ∃ p, placeP ends s x = p := ⟨_, rfl⟩
  have hc : p.c ≤ s.t.length := by rw [← hp]; exact place_col hk x
  have hr : p.r = x.1 := by rw [← hp]; rfl
  have hfree : ∀ j, j < p.w → freeB s.t p.r (p.c + j) = true := by
    rw [← hp]
    exact (wideF_spec s.t x.1 (firstF s.t x.1 (fromP s x.1)) x.2.c.toNat).2.1
  have hget := takeN_get s.t p.c (x.1 + p.h) hc p.w
  have hlen := takeN_len s.t p.c (x.1 + p.h) hc p.w
  unfold stepP
  rw [hp]
  refine ⟨fun q hq c h1 h2 => ?_, ?_, fun q hq => ?_⟩
  · show ∃ z, (takeN s.t p.c (x.1 + p.h) p.w)[c]? = some z ∧ q.r + q.h ≤ z
    rw [hget]
    rcases List.mem_append.1 hq with hq | hq
    · obtain ⟨z, hz, hle⟩ := h.taken q hq c h1 h2
      by_cases hin : p.c ≤ c ∧ c < p.c + p.w
      · rw [if_pos hin]
        have hf := hfree (c - p.c) (by omega)
        rw [show p.c + (c - p.c) = c by omega, freeB_at hz] at hf
        simp at hf
        exact ⟨_, rfl, by omega⟩
      · rw [if_neg hin]; exact ⟨z, hz, hle⟩
    · obtain rfl := List.mem_singleton.1 hq
      rw [if_pos ⟨h1, h2⟩]
      exact ⟨_, rfl, by omega⟩
  · show ((entL 0 ((s.ps ++ [p]).map Pl.z)).map Prod.fst).Nodup
    have hzp : p.z.pl = p := by simp [Pl.z, Pz.pl]
    rw [List.map_append, List.map_cons, List.map_nil, entL_snoc, List.map_append, List.nodup_append, hzp]
    have hmm : ((slotsL p).map fun u => (u, 0 + (s.ps.map Pl.z).length)).map Prod.fst = slotsL p := by rw [List.map_map]; exact List.map_id _
    rw [hmm]
    refine ⟨h.own, slots_nodup p, fun a ha b hb e => ?_⟩
    subst e
    obtain ⟨q, hq, ha'⟩ := ent_mem _ _ _ ha
    have m1 := slots_mem.1 ha'
    have m2 := slots_mem.1 hb
    obtain ⟨z, hz, hle⟩ := h.taken q hq a.2 m1.2.1 m1.2.2
    have hf := hfree (a.2 - p.c) (by omega)
    rw [show p.c + (a.2 - p.c) = a.2 by omega, freeB_at hz] at hf
    simp at hf
    omega
  · show q.c + q.w ≤ (takeN s.t p.c (x.1 + p.h) p.w).length
    rw [hlen]
    rcases List.mem_append.1 hq with hq | hq
    · have := h.wide q hq; omega
    · obtain rfl := List.mem_singleton.1 hq; omega
theorem run_fit {ends : List Int} : ∀ (l : List (Nat × Sp)) (s s' : LS), Okay s → Fit7 ends s → runP ends l s = some s' → Fit7 ends s'
  | [], s, s', _, h, hr => by cases hr; exact h
  | x :: l, s, s', hk, h, hr => by
    simp only [runP] at hr
    split at hr
    · cases hr
    · rename_i hl
      exact run_fit l _ s' (hk.step x hl) (h.step hk x) hr
/-- each place is of its cell -/
structure Of (ends : List Int) (x : Nat × Sp) (p : Pl) : Prop where
  n : p.n = x.2.n
  r : p.r = x.1
  h1 : 1 ≤ p.h
  w1 : 1 ≤ p.w
  wc : (p.w : Int) ≤ x.2.c
  end_ : p.r + p.h ≤ endP ends x.1
theorem place_of {ends : List Int} {s : LS} {x : Nat × Sp} (hc : okC x.2 = true) (he : x.1 + 1 ≤ endP ends x.1) : Of ends x (placeP ends s x) := by
  unfold okC at hc
  rw [within_one, within_one] at hc
  simp at hc
  have hw := wideF_spec s.t x.1 (firstF s.t x.1 (fromP s x.1)) x.2.c.toNat
  have hp := wideF_pos (t := s.t) (row := x.1) (c := firstF s.t x.1 (fromP s x.1)) (most := x.2.c.toNat) (by omega) (firstF_spec s.t x.1 (fromP s x.1)).2.2
  refine ⟨rfl, rfl, ?_, hp, ?_, ?_⟩
  · show 1 ≤ highF x.2.r (endP ends x.1 - x.1)
    unfold highF
    split
    · omega
    · omega
  · show ((wideF s.t x.1 (firstF s.t x.1 (fromP s x.1)) x.2.c.toNat : Nat) : Int) ≤ x.2.c
    have := hw.1
    omega
  · show x.1 + highF x.2.r (endP ends x.1 - x.1) ≤ endP ends x.1
    unfold highF
    split
    · omega
    · omega
end Go.Proofs.Ytgmgkkljoeahhaa
