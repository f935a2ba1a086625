/- Heights' cells sorted by their rows: contracts of inTurn's comparison, of the stable sort. Written by mk_HSort.py. -/
import Derived.Test.YtpbkboandiigfaaHP
import Derived.Test.YtpbkboandiigfaaSpMem
import Derived.Test.YtpbkboandiigfaaHsAll
import Derived.Test.YtpbkboandiigfaaKMem
import Derived.Shelf.SlSortCmp.NoneTotal
import Derived.Sort.AtCall
namespace Go.Proofs.Ytpbkboandiigfaa
open Go.RowKit Go.Shelf Go.Sort Go.Lib
set_option linter.unusedVariables false
set_option linter.unusedSimpArgs false
attribute [local go_sem] Oper.semAt_some

set_option maxHeartbeats 400000 in
theorem compareI_any (x y : Int) (w : World) : Calls Try.prog 40 #[.int .i64 x, .int .i64 y] w fun e w' => e = .returned (.int .i64 (cmpZ x y)) ∧ w = w' := by
  have hx : (x != x) = false := by simp
  have hy : (y != y) = false := by simp
  by_cases h1 : x < y
  · have hc := Lib.hid (show cmpZ x y = -1 from by unfold cmpZ; rw [if_pos h1])
    go_enter Try.func40, Try.ntmps40
    go_wp2
    go_ret
    exact ⟨by rw [hc.out]; simp, rfl⟩
  · by_cases h2 : y < x
    · have hc := Lib.hid (show cmpZ x y = 1 from by unfold cmpZ; rw [if_neg h1, if_pos h2])
      go_enter Try.func40, Try.ntmps40
      go_wp2
      go_ret
      exact ⟨by rw [hc.out]; simp, rfl⟩
    · have hc := Lib.hid (show cmpZ x y = 0 from by unfold cmpZ; rw [if_neg h1, if_neg h2])
      go_enter Try.func40, Try.ntmps40
      go_wp2
      go_ret
      exact ⟨by rw [hc.out]; simp, rfl⟩
set_option maxHeartbeats 1000000 in
theorem inTurnH_cmp (s t : Ht) (W : World) : Calls Try.prog 39 #[s.val, t.val] W fun e X => e = .returned (.int .i64 (cmpZ s.rs t.rs)) ∧ ∃ q os, X = grow (W.drewN q) os := by
  obtain ⟨nd, ro, co, rs, cs, hi⟩ := s
  obtain ⟨nd', ro', co', rs', cs', hi'⟩ := t
  unfold Ht.val
  dsimp only
  have HC := Lib.hid (fun X => compareI_any rs rs' X)
  go_enter Try.func39, Try.ntmps39
  go_wp2_with fail
  refine (HC.out _).mono ?_
  rintro e w1 ⟨rfl, rfl⟩
  go_wp2
  go_ret
  exact ⟨rfl, 0, #[.cells #[.int .i64 nd, .int .i64 ro, .int .i64 co, .int .i64 rs, .int .i64 cs, .int .i64 hi] 45, .cells #[.int .i64 nd', .int .i64 ro', .int .i64 co', .int .i64 rs', .int .i64 cs', .int .i64 hi'] 45], by rw [alloc_eq_grow, alloc_eq_grow, grow_grow]; rfl⟩
theorem flat_lenG {α : Type} (enc : α → List Value) (n : Nat) (hn : ∀ a, (enc a).length = n) (l : List α) : (l.flatMap enc).length = l.length * n := by
  induction l with
  | nil => simp
  | cons a l ih => rw [List.flatMap_cons, List.length_append, hn, ih, List.length_cons, Nat.add_mul, Nat.one_mul]; omega

theorem flat_encG {α : Type} [Inhabited α] (enc : α → List Value) (n : Nat) (h0 : 0 < n) (hn : ∀ a, (enc a).length = n) (d : Array α) : flatK enc n d = (d.toList.flatMap enc).toArray := by
  have hlen : (d.toList.flatMap enc).length = d.size * n := by rw [flat_lenG enc n hn]; simp
  refine ext_get! (by simp [hlen]) fun t ht => ?_
  have ht' : t < d.size * n := by simpa using ht
  rw [get_flatK _ _ _ _ ht']
  have hk : t / n < d.size := Nat.div_lt_of_lt_mul (by rw [Nat.mul_comm]; exact ht')
  have hr : t % n < n := Nat.mod_lt _ h0
  have h := flat_getK enc n hn d.toList (t / n) (t % n) hr (by simpa using hk)
  have e : t / n * n + t % n = t := by rw [Nat.mul_comm]; exact Nat.div_add_mod t n
  rw [e] at h
  have hlt : t < (d.toList.flatMap enc).length := by rw [hlen]; exact ht'
  have hd : d.toList[t / n]! = d[t / n]! := by rw [getElem!_pos d _ hk, getElem!_pos d.toList (t / n) (by simpa using hk)]; simp
  rw [hd] at h
  have h2 : t % n < (enc d[t / n]!).length := by rw [hn]; exact hr
  rw [List.getElem?_eq_getElem hlt, List.getElem?_eq_getElem h2] at h
  rw [getElem!_pos (enc d[t / n]!) _ h2, getElem!_pos (d.toList.flatMap enc).toArray t (by simpa using hlt)]
  injection h with h
  rw [← h]; simp

/-! needs, by their places -/
def nthH (ns : List Ht) (i : Nat) : Ht := ns[i]?.getD default
def encH (ns : List Ht) (m : Nat) (x : Fin (m + 1)) : List Value := (nthH ns x.val).cells
def cfH (ns : List Ht) (m : Nat) (x y : Fin (m + 1)) : Int := cmpZ ((nthH ns x.val).rs) ((nthH ns y.val).rs)
def bfH2 (ns : List Ht) (m : Nat) (x y : Fin (m + 1)) : Bool := decide ((nthH ns x.val).rs < (nthH ns y.val).rs ∨ (nthH ns x.val).rs = (nthH ns y.val).rs ∧ x.val < y.val)
theorem agree_hs (ns : List Ht) (m : Nat) : Agree (ltOf (cfH ns m)) (bfH2 ns m) (fun x => x.val) := by
  refine ⟨⟨fun x => by simp [bfH2], fun x y z h1 h2 => ?_, fun x y z h1 h2 => ?_⟩, fun x y hne h => ?_, fun x y h => ?_⟩
  · simp only [bfH2, decide_eq_true_eq] at *; omega
  · simp only [bfH2, decide_eq_false_iff_not] at *; omega
  · simp only [bfH2, decide_eq_false_iff_not, decide_eq_true_eq] at *
    have : x.val ≠ y.val := fun e => hne (Fin.ext e)
    omega
  · unfold ltOf cfH cmpZ bfH2
    rw [Bool.eq_iff_iff, decide_eq_true_eq, decide_eq_true_eq]
    split
    · omega
    · split <;> omega
theorem swo_hs (ns : List Ht) (m : Nat) : SWO (ltOf (cfH ns m)) := by
  have key : ∀ x y, ltOf (cfH ns m) x y = true ↔ (nthH ns x.val).rs < (nthH ns y.val).rs := fun x y => by
    unfold ltOf cfH cmpZ
    rw [decide_eq_true_eq]
    split
    · omega
    · split <;> omega
  have key2 : ∀ x y, ltOf (cfH ns m) x y = false ↔ ¬ (nthH ns x.val).rs < (nthH ns y.val).rs := fun x y => by rw [← key, Bool.not_eq_true]
  refine ⟨fun x => (key2 x x).2 (by omega), fun x y z h1 h2 => ?_, fun x y z h1 h2 => ?_⟩
  · rw [key] at *; omega
  · rw [key2] at *; omega
theorem lays_hs (ns : List Ht) (m blk off size : Nat) (w : World) : CmpLays Try.prog 39 #[] (encH ns m) 6 (cfH ns m) blk off size w := fun _ _ _ _ x y => inTurnH_cmp (nthH ns x.val) (nthH ns y.val) _
theorem encH_iota (ns : List Ht) (m : Nat) (h : ns.length = m + 1) : (iota (m + 1)).toList.flatMap (encH ns m) = ns.flatMap Ht.cells := by
  have e : (iota (m + 1)).toList.map (fun x => nthH ns x.val) = ns := by
    apply List.ext_getElem?
    intro i
    by_cases hi : i < m + 1
    · have h1 : i < (iota (m + 1)).size := by rw [iota_size]; exact hi
      have h2 := iota_get m i hi
      rw [getElem!_pos _ i h1] at h2
      rw [List.getElem?_map, Array.getElem?_toList, Array.getElem?_eq_getElem h1, Option.map_some, h2]
      unfold nthH
      rw [List.getElem?_eq_getElem (by omega : i < ns.length)]; rfl
    · rw [List.getElem?_eq_none (by simp [iota_size]; omega), List.getElem?_eq_none (by omega)]
  conv => rhs; rw [← e, List.flatMap_map]
  rfl
theorem sorted_finH (M : Nat) (hM : M ≤ 10000) (ns : List Ht) (m : Nat) (hl : ns.length = m + 1) (h : ∀ s ∈ ns, 1 ≤ s.rs ∧ s.rs ≤ M) (d' : Array (Fin (m + 1))) (hp : (d'.toList.map (·.val)).Perm (List.range (m + 1))) (hs : Srt (fun x y => bfH2 ns m x y = true) 0 (m + 1) d') (hsz : d'.size = m + 1) :
    d'.toList.map (fun x => nthH ns x.val) = htL M ns := by
  have e : (d'.toList.map fun x => (x.val, nthH ns x.val)).map (·.2) = d'.toList.map fun x => nthH ns x.val := by rw [List.map_map]; rfl
  rw [← e]
  refine sorted_oneH M ns h _ ?_ ?_
  · have h1 := hp.map (fun i => (i, nthH ns i))
    rw [List.map_map] at h1
    refine (show List.Perm (List.map (fun x : Fin (m + 1) => (x.val, nthH ns x.val)) d'.toList) _ from h1).trans ?_
    refine List.Perm.of_eq ?_
    apply List.ext_getElem?
    intro i
    rw [tagH_get, List.getElem?_map]
    by_cases hi : i < m + 1
    · rw [List.getElem?_range hi, List.getElem?_eq_getElem (by omega : i < ns.length)]
      simp only [Option.map_some, nthH]
      rw [List.getElem?_eq_getElem (by omega : i < ns.length)]; rfl
    · rw [List.getElem?_eq_none (by simp; omega), List.getElem?_eq_none (by omega)]; rfl
  · rw [List.pairwise_map, List.pairwise_iff_getElem]
    intro i j hi hj hij
    have hi' : i < d'.size := by simpa using hi
    have hj' : j < d'.size := by simpa using hj
    have := hs i j (Nat.zero_le _) hij (by omega)
    simp only [bfH2, decide_eq_true_eq] at this
    rw [getElem!_pos d' i hi', getElem!_pos d' j hj'] at this
    unfold bfH
    simpa using this

set_option maxHeartbeats 1000000 in
theorem sortH_own (M : Nat) (hM : M ≤ 10000) (base : Nat) (v : Value) (ns : List Ht) (W : World) (ho : W.ownsRow base 45 6 v ns.length (ns.flatMap Ht.cells)) (h : ∀ s ∈ ns, 1 ≤ s.rs ∧ s.rs ≤ M) (hn : 1 ≤ ns.length) (hn2 : ns.length ≤ 1000000) :
    Calls Try.prog 58 #[v, .func (.func 39) #[] #[]] W fun e W' => e = .returned (.tuple #[]) ∧ W'.ownsRow base 45 6 v ns.length ((htL M ns).flatMap Ht.cells) ∧ Below base W W' := by
  obtain ⟨m, hm⟩ : ∃ m, ns.length = m + 1 := ⟨ns.length - 1, by omega⟩
  obtain ⟨hl, ⟨_, hn0⟩ | ⟨g, cap, cur, rfl, hb, hg, hnc, hcm, hcs, htk⟩⟩ := ho
  · omega
  have eg : ∀ args w, (callFunc 39 args).run Try.prog w = .ok (.enter 39 args) w := enters_of Try.func39 (by kernel_rfl) rfl
  have hlt : g < W.heap.size := (Array.getElem?_eq_some_iff.1 hg).1
  have hfl : flatK (encH ns m) 6 (iota (m + 1)) = (ns.flatMap Ht.cells).toArray := by rw [flat_encG _ 6 (by omega) (fun _ => rfl), encH_iota ns m hm]
  have hnl : (ns.flatMap Ht.cells).length = (m + 1) * 6 := by rw [flat_lenG Ht.cells 6 (fun _ => rfl), hm]
  rw [hm] at hnc htk hl ⊢
  have hH : HoldsK (encH ns m) 6 W g 0 (iota (m + 1)) := by
    intro j hj
    rw [hfl] at hj ⊢
    have hj' : j < (ns.flatMap Ht.cells).length := by simpa using hj
    have hj2 : j < (m + 1) * 6 := by rw [hnl] at hj'; exact hj'
    refine ⟨?_, by simp [World.frozen?, hg]⟩
    have h1 : (cur.toList.take ((m + 1) * 6))[j]? = (ns.flatMap Ht.cells)[j]? := by rw [htk]
    rw [List.getElem?_take_of_lt hj2] at h1
    simp only [World.cell?, hg, Nat.zero_add]
    simp only [Option.isSome_none, Bool.false_eq_true, if_false]
    rw [← Array.getElem?_toList, h1]
    generalize ns.flatMap Ht.cells = F at hj' ⊢
    simp [hj']
  have hc := KS.sortStable_any (d0 := iota (m + 1)) (enc := encH ns m) (kc := 6) (cf := cfH ns m) (w0 := W) (blk := g) (off := 0) 39 #[] cap W eg (lays_hs ns m _ _ _ _) ⟨fun _ => rfl, fun x v hv => by simp [encH, Ht.cells] at hv; rcases hv with rfl | rfl | rfl | rfl | rfl | rfl <;> rfl, hH, hlt⟩ Try.sizeOf45
    (SWK.start hH) (agree_hs ns m) (swo_hs ns m) (fun i j hi hj hij e => hij (by rw [iota_size] at hi hj; have := congrArg Fin.val e; rw [iota_get m i hi, iota_get m j hj] at this; exact this)) (fun k hk => by rw [iota_size] at hk; exact iota_get m k hk) (by rw [iota_size]; omega)
  rw [iota_size] at hc
  refine (show Calls Try.prog 58 _ _ _ from hc).mono ?_
  rintro e W' ⟨he, d', hpm, hsr, n, os, rfl⟩
  have hsz : d'.size = m + 1 := hpm.size.trans (iota_size _)
  have hp3 : (d'.toList.map (·.val)).Perm (List.range (m + 1)) := by
    have hp2 := hpm.perm.2.2
    rw [extract_toList _ _ _ (by rw [hpm.size]; exact Nat.le_refl _), extract_toList _ _ _ (Nat.le_refl _), iota_size, Nat.sub_zero] at hp2
    have hp3 := hp2.map (·.val)
    have q1 : ((List.range' 0 (m + 1)).map fun i => d'[i]!).map (·.val) = d'.toList.map (·.val) := by
      congr 1
      apply List.ext_getElem
      · simp [hsz]
      · intro k k1 k2
        have hk : k < d'.size := by simpa using k2
        simp [getElem!_pos d' k hk]
    have q2 : ((List.range' 0 (m + 1)).map fun i => (iota (m + 1))[i]!).map (·.val) = List.range (m + 1) := by
      rw [List.range_eq_range', List.map_map]
      apply List.ext_getElem
      · simp
      · intro k k1 k2
        have hk : k < m + 1 := by simpa using k2
        simp [iota_get m k hk]
    rw [q1, q2] at hp3
    exact hp3
  have hds : d'.toList.flatMap (encH ns m) = (htL M ns).flatMap Ht.cells := by
    rw [← sorted_finH M hM ns m hm h d' hp3 hsr hsz, List.flatMap_map]; rfl
  have hfd : flatK (encH ns m) 6 d' = ((htL M ns).flatMap Ht.cells).toArray := by rw [flat_encG _ 6 (by omega) (fun _ => rfl), hds]
  have hfs : ((htL M ns).flatMap Ht.cells).length = (m + 1) * 6 := by
    have := congrArg Array.size hfd
    simp only [size_flatK, List.size_toArray] at this
    rw [← this, hsz]
  refine ⟨he, ⟨hfs, .inr ⟨g, cap, putCells id 0 (flatK (encH ns m) 6 d') cur, rfl, hb, ?_, hnc, hcm, ?_, ?_⟩⟩, ?_⟩
  · unfold sortWorldK
    rw [heap_grow_old _ _ (by simpa [putRowK] using hlt)]
    simp [putRowK, putRow, mapBlock, Sort.ahead, Array.getElem?_modify, hg, onCells]
  · simp [putCells, hcs]
  · apply List.ext_getElem?
    intro j
    by_cases hj : j < (m + 1) * 6
    · rw [List.getElem?_take_of_lt hj, Array.getElem?_toList, hfd]
      have hjj : j < ((htL M ns).flatMap Ht.cells).length := by omega
      generalize (htL M ns).flatMap Ht.cells = F at hjj ⊢
      simp [putCells, hjj, show j < cur.size by have := Nat.mul_le_mul_right 6 hnc; omega]
    · rw [List.getElem?_take_eq_none (by omega), List.getElem?_eq_none (by omega)]
  · refine ⟨rfl, rfl, rfl, by simp [sortWorldK, putRowK], fun k hk => ?_⟩
    unfold sortWorldK
    rw [heap_grow_old _ _ (by simp [putRowK, putRow, mapBlock, Sort.ahead]; omega)]
    have : g ≠ k := by omega
    simp [putRowK, putRow, mapBlock, Sort.ahead, Array.getElem?_modify, this]
end Go.Proofs.Ytpbkboandiigfaa
