/- What the law of orders calls: sides turned round, and whether two lists are the same; the winner hangs not on the order. -/
import Derived.Test.YtmcgieameodkbaaCSorted
namespace Go.Proofs.Ytmcgieameodkbaa
open Go.RowKit Go.Shelf Go.Sort Go.Lib
set_option linter.unusedVariables false
set_option linter.unusedSimpArgs false
attribute [local go_sem] Oper.semAt_some

/-- the place that comes as number i -/
def placeT (n at' : Nat) (back : Bool) (i : Nat) : Nat := if back then n - 1 - (i + at') % n else (i + at') % n
theorem placeT_lt {n at' i : Nat} (back : Bool) (hn : 0 < n) : placeT n at' back i < n := by
  have := Nat.mod_lt (i + at') hn
  unfold placeT; split <;> omega
/-- the first m of the sides, turned -/
def turnL (zs : List Si) (at' : Nat) (back : Bool) (m : Nat) : List Si := (List.range m).map fun i => zs[placeT zs.length at' back i]!
theorem turnL_succ (zs : List Si) (at' : Nat) (back : Bool) (m : Nat) : turnL zs at' back (m + 1) = turnL zs at' back m ++ [zs[placeT zs.length at' back m]!] := by simp [turnL, List.range_succ]
theorem turnL_len (zs : List Si) (at' : Nat) (back : Bool) (m : Nat) : (turnL zs at' back m).length = m := by simp [turnL]
theorem turn_fore (zs : List Si) (at' : Nat) : turnL zs at' false zs.length = zs.drop (at' % zs.length) ++ zs.take (at' % zs.length) := by
  by_cases h0 : zs.length = 0
  · have : zs = [] := List.length_eq_zero_iff.1 h0
    subst this
    simp [turnL]
  have hr := Nat.mod_lt at' (show 0 < zs.length by omega)
  generalize hrr : at' % zs.length = r at hr
  apply List.ext_getElem
  · simp [turnL]; omega
  · intro i h1 h2
    have hi : i < zs.length := by simpa [turnL] using h1
    have hp : placeT zs.length at' false i = if i + r < zs.length then i + r else i + r - zs.length := by
      unfold placeT
      simp only [Bool.false_eq_true, if_false]
      rw [Nat.add_mod, hrr, Nat.mod_eq_of_lt hi]
      split
      · exact Nat.mod_eq_of_lt (by assumption)
      · rw [Nat.mod_eq_sub_mod (by omega), Nat.mod_eq_of_lt (by omega)]
    have hlt := placeT_lt (at' := at') (i := i) false (show 0 < zs.length by omega)
    simp only [turnL, List.getElem_map, List.getElem_range]
    rw [getElem!_pos zs _ hlt]
    by_cases hc : i + r < zs.length
    · rw [List.getElem_append_left (by simp; omega), List.getElem_drop]
      simp only [hp, if_pos hc]
      congr 1; omega
    · rw [List.getElem_append_right (by simp; omega), List.getElem_take]
      simp only [hp, if_neg hc]
      congr 1; simp; omega
theorem turn_back (zs : List Si) (at' : Nat) : turnL zs at' true zs.length = turnL zs.reverse at' false zs.length := by
  by_cases h0 : zs.length = 0
  · have : zs = [] := List.length_eq_zero_iff.1 h0
    subst this; rfl
  unfold turnL
  apply List.map_congr_left
  intro i hi
  have hlt := Nat.mod_lt (i + at') (show 0 < zs.length by omega)
  unfold placeT
  simp only [if_true, Bool.false_eq_true, if_false, List.length_reverse]
  rw [getElem!_pos zs _ (by omega), getElem!_pos zs.reverse _ (by simpa using hlt), List.getElem_reverse]
theorem turn_perm (zs : List Si) (at' : Nat) (back : Bool) : (turnL zs at' back zs.length).Perm zs := by
  have h : ∀ zs : List Si, (turnL zs at' false zs.length).Perm zs := fun zs => by
    rw [turn_fore]
    exact List.perm_append_comm.trans (by rw [List.take_append_drop])
  cases back with
  | false => exact h zs
  | true =>
    rw [turn_back, show zs.length = zs.reverse.length by simp]
    exact (h zs.reverse).trans (List.reverse_perm zs)
theorem all_perm {zs zs' : List Si} (h : zs'.Perm zs) : zs'.all rightS = zs.all rightS := by
  rw [Bool.eq_iff_iff, List.all_eq_true, List.all_eq_true]
  exact ⟨fun k x hx => k x (h.mem_iff.2 hx), fun k x hx => k x (h.mem_iff.1 hx)⟩
/-- the winner hangs not on the order -/
theorem winR_perm {zs zs' : List Si} (h : zs'.Perm zs) : winR zs' = winR zs := by
  have ha := all_perm h
  cases zs with
  | nil => rw [List.perm_nil.1 h]
  | cons s r =>
    cases zs' with
    | nil => exact absurd h.symm (by simp)
    | cons t q =>
      unfold winR
      simp only [ha]
      split
      · congr 1
        refine cmpS_anti ?_ ?_
        · exact winF_best s r _ (h.mem_iff.1 (winF_mem t q))
        · exact winF_best t q _ (h.mem_iff.2 (winF_mem s r))
      · rfl
set_option maxRecDepth 100000 in
set_option maxHeartbeats 2000000 in
theorem turned_any (p : Option Addr) (m c at' : Nat) (back : Bool) (zs : List Si) (w : World) (hI : Sides w (.slice p m c) zs) (hm : zs.length = m) (hn : m ≤ 60) (ha : at' ≤ 60) :
    Calls Try.prog 24 #[.slice p m c, .int .i64 (at' : Int), .bool back] w fun e W' => ∃ v, e = .returned v ∧ W'.ownsRow w.heap.size 26 6 v m ((turnL zs at' back m).flatMap Si.cells) ∧ Below w.heap.size w W' := by
  obtain ⟨i0, hi, hz0, hz1, hz2⟩ := info_threeC Try.infoSide3
  have HI := Lib.hid hI
  have HM := Lib.hid hm
  clear hI hm
  go_enter Try.func24, Try.ntmps24
  go_wp2
  go_loopw [7, 8] (fun s7 s8 X => ∃ k : Nat, k ≤ m ∧ s8 = .int .i64 (k : Int) ∧ Hid (X.ownsRow w.heap.size 26 6 s7 k ((turnL zs at' back k).flatMap Si.cells)) ∧ Hid (Below w.heap.size w X)) (fun _ s8 _ => m - (intOf s8).toNat)
  case atStart => exact ⟨0, Nat.zero_le _, rfl, Lib.hid (World.ownsRow_nil _ _ _ _), Lib.hid (Below.refl _ _)⟩
  case round =>
    obtain ⟨k, hk, rfl, HO, HB⟩ := hrel
    by_cases hlt : k < m
    · have hpl := placeT_lt (at' := at') (i := k) back (show 0 < m by omega)
      obtain ⟨q, hq⟩ : ∃ q, placeT m at' back k = q := ⟨_, rfl⟩
      rw [hq] at hpl
      obtain ⟨s, hs⟩ : ∃ s, zs[q]? = some s := ⟨_, List.getElem?_eq_getElem (by have := HM.out; omega)⟩
      obtain ⟨b, off, rfl, hbl, hc⟩ := (HI.out.below HB.out).at q s hs
      obtain ⟨g, n0, c0, rfl⟩ := own_slice HO.out
      have hsn : Hid (turnL zs at' back (k + 1) = turnL zs at' back k ++ [s]) := Lib.hid (by
        rw [turnL_succ, HM.out, hq]
        congr 2
        simp [List.getElem!_eq_getElem?_getD, hs])
      obtain ⟨st, wd, co, bb, ro, cl⟩ := s
      have q0 : wr.cell? ⟨b, off + q * 6, none⟩ = some (.int .i64 st) := hc 0 _ rfl
      have q1 : wr.cell? ⟨b, off + q * 6 + 1, none⟩ = some (.int .i64 wd) := hc 1 _ rfl
      have q2 : wr.cell? ⟨b, off + q * 6 + 2, none⟩ = some (.int .u32 co) := hc 2 _ rfl
      have q3 : wr.cell? ⟨b, off + q * 6 + 3, none⟩ = some (.int .i64 bb) := hc 3 _ rfl
      have q4 : wr.cell? ⟨b, off + q * 6 + 4, none⟩ = some (.int .i64 ro) := hc 4 _ rfl
      have q5 : wr.cell? ⟨b, off + q * 6 + 5, none⟩ = some (.int .i64 cl) := hc 5 _ rfl
      have hmz : ((m : Int) == 0) = false := by simp; omega
      have hmod : ((k : Int) + (at' : Int)) % (m : Int) = (((k + at') % m : Nat) : Int) := by simp
      have hmlt := Nat.mod_lt (k + at') (show 0 < m by omega)
      obtain ⟨r, hr⟩ : ∃ r, (k + at') % m = r := ⟨_, rfl⟩
      rw [hr] at hmod hmlt
      have hbw : w.heap.size ≤ wr.heap.size := HB.out.size
      unfold placeT at hq
      rw [hr] at hq
      clear hc hs hr
      cases back with
      | false =>
        simp only [Bool.false_eq_true, if_false] at hq
        subst hq
        go_wp2_with (at_builtin; refine wpList_append_own_at _ rfl _ _ 33 rfl w.heap.size 26 i0 (.agg #[.int .i64 0, .int .i64 0, .int .u32 0, .int .i64 0, .int .i64 0, .int .i64 0]) 6 48 Try.underlying33 hi hz0 hz1 hz2 rfl (by decide) _ k _ rfl (HO.out.alloc _) ⟨wr.heap.size, 0, none⟩ 1 1 [.int .i64 st, .int .i64 wd, .int .u32 co, .int .i64 bb, .int .i64 ro, .int .i64 cl] rfl rfl (lay_newC _ _ _ _ rfl) (by simp [Value.oneCell']) (by unfold maxLen; omega) (by omega) (by simp <;> omega) ?_)
        intro v' w1 hown1 hgrow1 _ hf1
        have HO1 := Lib.hid hown1
        have HB1 := Lib.hid (own_below (HB.out.alloc HB.out.size _) (HO.out.alloc _) (Nat.le_refl _) hgrow1 (by simp <;> omega))
        clear q0 q1 q2 q3 q4 q5 hown1 hgrow1 hf1 HO HB
        go_wp2
        go_roundw
        case rel => exact ⟨k + 1, by omega, by go_num, Lib.hid (by rw [hsn.out, flat_snoc]; exact HO1.out), HB1⟩
        case measure => simp [intOf]; omega
      | true =>
        simp only [if_true] at hq
        have hsub : (m : Int) - 1 - (r : Int) = (q : Int) := by omega
        go_wp2_with (at_builtin; refine wpList_append_own_at _ rfl _ _ 33 rfl w.heap.size 26 i0 (.agg #[.int .i64 0, .int .i64 0, .int .u32 0, .int .i64 0, .int .i64 0, .int .i64 0]) 6 48 Try.underlying33 hi hz0 hz1 hz2 rfl (by decide) _ k _ rfl (HO.out.alloc _) ⟨wr.heap.size, 0, none⟩ 1 1 [.int .i64 st, .int .i64 wd, .int .u32 co, .int .i64 bb, .int .i64 ro, .int .i64 cl] rfl rfl (lay_newC _ _ _ _ rfl) (by simp [Value.oneCell']) (by unfold maxLen; omega) (by omega) (by simp <;> omega) ?_)
        intro v' w1 hown1 hgrow1 _ hf1
        have HO1 := Lib.hid hown1
        have HB1 := Lib.hid (own_below (HB.out.alloc HB.out.size _) (HO.out.alloc _) (Nat.le_refl _) hgrow1 (by simp <;> omega))
        clear q0 q1 q2 q3 q4 q5 hown1 hgrow1 hf1 HO HB
        go_wp2
        go_roundw
        case rel => exact ⟨k + 1, by omega, by go_num, Lib.hid (by rw [hsn.out, flat_snoc]; exact HO1.out), HB1⟩
        case measure => simp [intOf]; omega
    · obtain rfl : k = m := by omega
      go_wp2
      go_ret
      exact ⟨_, rfl, HO.out, HB.out⟩
theorem own_formC {W : World} {base n : Nat} {v : Value} {xs : List Value} (h : W.ownsRow base 26 6 v n xs) : ∃ p c, v = .slice p n c ∧ n ≤ c ∧ c ≤ 9223372036854775807 := by
  rcases h.2 with ⟨rfl, rfl⟩ | ⟨g, cap, cur, rfl, _, _, hnc, hcm, _⟩
  · exact ⟨none, 0, rfl, Nat.le_refl _, by omega⟩
  · exact ⟨_, cap, rfl, hnc, by unfold maxLen at hcm; omega⟩
theorem turn_hue {zs ds : List Si} (h : ds.Perm zs) (hh : ∀ x ∈ zs, x.hue) : ∀ x ∈ ds, x.hue := fun x hx => hh x (h.mem_iff.1 hx)
theorem u64_mod (a : Int) : ∃ n : Nat, IntKind.u64.wrap a % 61 = (n : Int) ∧ n ≤ 60 ∧ 0 ≤ IntKind.u64.wrap a ∧ IntKind.u64.wrap a ≤ 18446744073709551615 := by
  have h : 0 ≤ IntKind.u64.wrap a ∧ IntKind.u64.wrap a ≤ 18446744073709551615 := by simp [IntKind.wrap, IntKind.bits, IntKind.signed]; omega
  exact ⟨(IntKind.u64.wrap a % 61).toNat, by omega, by omega, h.1, h.2⟩
/-- two lists of the same sides are the same -/
theorem same_any (p q : Option Addr) (m c d : Nat) (zs : List Si) (w : World) (hx : Sides w (.slice p m c) zs) (hy : Sides w (.slice q m d) zs) (hm : zs.length = m) (hmm : m ≤ 1000000) :
    Calls Try.prog 21 #[.slice p m c, .slice q m d] w fun e w' => e = .returned (.bool true) ∧ ∃ n, w' = w.drewN n := by
  have HX := Lib.hid hx
  have HY := Lib.hid hy
  have HM := Lib.hid hm
  clear hx hy hm
  go_enter Try.func21, Try.ntmps21
  go_wp2
  go_loopw [5] (fun s5 X => ∃ k : Nat, k ≤ m ∧ s5 = .int .i64 (k : Int) ∧ Hid (∃ n, X = w.drewN n)) (fun s5 _ => m - (intOf s5).toNat)
  case atStart => exact ⟨0, Nat.zero_le _, rfl, Lib.hid ⟨0, rfl⟩⟩
  case round =>
    obtain ⟨k, hk, rfl, HW⟩ := hrel
    by_cases hlt : k < m
    · obtain ⟨n, hn⟩ := HW.out
      subst hn
      obtain ⟨s, hs⟩ : ∃ s, zs[k]? = some s := ⟨_, List.getElem?_eq_getElem (by have := HM.out; omega)⟩
      obtain ⟨b, off, rfl, hbl, hc⟩ := HX.out.at k s hs
      obtain ⟨b', off', rfl, hbl', hc'⟩ := HY.out.at k s hs
      obtain ⟨st, wd, co, bb, ro, cl⟩ := s
      have q0 : w.cell? ⟨b, off + k * 6, none⟩ = some (.int .i64 st) := hc 0 _ rfl
      have q1 : w.cell? ⟨b, off + k * 6 + 1, none⟩ = some (.int .i64 wd) := hc 1 _ rfl
      have q2 : w.cell? ⟨b, off + k * 6 + 2, none⟩ = some (.int .u32 co) := hc 2 _ rfl
      have q3 : w.cell? ⟨b, off + k * 6 + 3, none⟩ = some (.int .i64 bb) := hc 3 _ rfl
      have q4 : w.cell? ⟨b, off + k * 6 + 4, none⟩ = some (.int .i64 ro) := hc 4 _ rfl
      have q5 : w.cell? ⟨b, off + k * 6 + 5, none⟩ = some (.int .i64 cl) := hc 5 _ rfl
      have r0 : w.cell? ⟨b', off' + k * 6, none⟩ = some (.int .i64 st) := hc' 0 _ rfl
      have r1 : w.cell? ⟨b', off' + k * 6 + 1, none⟩ = some (.int .i64 wd) := hc' 1 _ rfl
      have r2 : w.cell? ⟨b', off' + k * 6 + 2, none⟩ = some (.int .u32 co) := hc' 2 _ rfl
      have r3 : w.cell? ⟨b', off' + k * 6 + 3, none⟩ = some (.int .i64 bb) := hc' 3 _ rfl
      have r4 : w.cell? ⟨b', off' + k * 6 + 4, none⟩ = some (.int .i64 ro) := hc' 4 _ rfl
      have r5 : w.cell? ⟨b', off' + k * 6 + 5, none⟩ = some (.int .i64 cl) := hc' 5 _ rfl
      clear hc hc' hs HW
      go_wp2
      go_quiet (fail)
      go_wp2
      go_roundw
      case rel => exact ⟨k + 1, by omega, by go_num, Lib.hid ⟨_, rfl⟩⟩
      case measure => simp [intOf]; omega
    · go_wp2
      go_ret
      exact ⟨rfl, HW.out⟩
end Go.Proofs.Ytmcgieameodkbaa
