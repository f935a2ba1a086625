/- Needs sorted by their turn: contracts of turn, of inTurn's comparison, of the stable sort of needs. -/
import Derived.Test.YtmljndggblfeiaaMul
import Derived.Test.YtmljndggblfeiaaNsAll
import Derived.Test.YtmljndggblfeiaaKBand
import Derived.Shelf.SlSortCmp.NoneTotal
import Derived.Sort.AtCall
namespace Go.Proofs.Ytmljndggblfeiaa
open Go.RowKit Go.Shelf Go.Sort Go.Lib
set_option linter.unusedVariables false
set_option linter.unusedSimpArgs false
attribute [local go_sem] Oper.semAt_some

set_option maxHeartbeats 1000000 in
theorem turn_any (s : Ne) (W : World) : Calls Try.prog 36 #[s.val] W fun e X => e = .returned (.int .i64 (turnZ s)) ∧ X = W.alloc (.cells s.cells.toArray 37) := by
  obtain ⟨nd, ro, co, rs, cs, mn, mx, ⟨wk, wn⟩⟩ := s
  dsimp only [Ne.val, Ne.cells]
  by_cases h : cs = 1
  · have HT : Hid (turnZ ⟨nd, ro, co, rs, cs, mn, mx, ⟨wk, wn⟩⟩ = 9223372036854775807) := Lib.hid (by unfold turnZ; rw [if_pos h])
    have hb : (cs == 1) = true := by simpa using h
    clear h
    go_enter Try.func36, Try.ntmps36
    go_wp2
    go_ret
    exact ⟨by rw [HT.out]; rfl, rfl⟩
  · have HT : Hid (turnZ ⟨nd, ro, co, rs, cs, mn, mx, ⟨wk, wn⟩⟩ = cs) := Lib.hid (by unfold turnZ; rw [if_neg h])
    have hb : (cs == 1) = false := by simpa using h
    clear h
    go_enter Try.func36, Try.ntmps36
    go_wp2
    go_ret
    exact ⟨by rw [HT.out]; rfl, rfl⟩
set_option maxHeartbeats 400000 in
theorem compareI_any (x y : Int) (w : World) : Calls Try.prog 35 #[.int .i64 x, .int .i64 y] w fun e w' => e = .returned (.int .i64 (cmpZ x y)) ∧ w = w' := by
  have hx : (x != x) = false := by simp
  have hy : (y != y) = false := by simp
  by_cases h1 : x < y
  · have hc := Lib.hid (show cmpZ x y = -1 from by unfold cmpZ; rw [if_pos h1])
    go_enter Try.func35, Try.ntmps35
    go_wp2
    go_ret
    exact ⟨by rw [hc.out]; simp, rfl⟩
  · by_cases h2 : y < x
    · have hc := Lib.hid (show cmpZ x y = 1 from by unfold cmpZ; rw [if_neg h1, if_pos h2])
      go_enter Try.func35, Try.ntmps35
      go_wp2
      go_ret
      exact ⟨by rw [hc.out]; simp, rfl⟩
    · have hc := Lib.hid (show cmpZ x y = 0 from by unfold cmpZ; rw [if_neg h1, if_neg h2])
      go_enter Try.func35, Try.ntmps35
      go_wp2
      go_ret
      exact ⟨by rw [hc.out]; simp, rfl⟩
theorem grow_load {W : World} {b : Nat} {kc : Nat} {cs : List Value} (hb : ∀ j u, cs[j]? = some u → W.cell? ⟨b, 0 + j, none⟩ = some u) (hl : b < W.heap.size) (hk : cs.length = kc) (n : Nat) (os : Array Obj) :
    Sem.run Try.prog (loadCellsFrom ⟨b, 0, none⟩ 0 kc #[]) (grow (W.drewN n) os) = .ok cs.toArray (grow (W.drewN n) os) :=
  run_loadCellsFrom_list Try.prog _ _ _ kc hk (fun j v hj => by
    rw [add_plainK, cell?_grow _ _ _ (by exact hl)]; exact hb j v hj)
set_option maxRecDepth 100000 in
set_option maxHeartbeats 1000000 in
theorem inTurn_cmp (s t : Ne) (W : World) : Calls Try.prog 34 #[s.val, t.val] W fun e X => e = .returned (.int .i64 (cmpZ (turnZ s) (turnZ t))) ∧ ∃ q os, X = grow (W.drewN q) os := by
  obtain ⟨kc, zE, hkc⟩ : ∃ kc, (∀ w, (Go.sizeOf 37).run Try.prog w = .ok kc w) ∧ kc = 9 := ⟨9, Try.sizeOf37, rfl⟩
  have hs1 : s.cells.toArray.size = kc := by rw [hkc]; rfl
  have ht1 : t.cells.toArray.size = kc := by rw [hkc]; rfl
  have aE : ∀ w, (isAgg 37).run Try.prog w = .ok true w := Try.isAgg37
  obtain ⟨W2, hW2⟩ : ∃ W2, (W.alloc (.cells s.cells.toArray 37)).alloc (.cells t.cells.toArray 37) = W2 := ⟨_, rfl⟩
  have k1 : Whole W2 W.heap.size 37 s.cells := by rw [← hW2]; exact (whole_new W s.cells _ _ rfl).alloc _
  have k2 : Whole W2 (W.heap.size + 1) 37 t.cells := by rw [← hW2]; exact whole_new _ t.cells _ _ (by simp)
  have l1 := grow_load (W := W2) (b := W.heap.size) (kc := kc) (cs := s.cells) (fun j u hj => by rw [Nat.zero_add, k1.cellAt]; exact hj) k1.lt (by simpa using hs1)
  have l2 := grow_load (W := W2) (b := W.heap.size + 1) (kc := kc) (cs := t.cells) (fun j u hj => by rw [Nat.zero_add, k2.cellAt]; exact hj) k2.lt (by simpa using ht1)
  have HG : Hid (W2 = grow W #[.cells s.cells.toArray 37, .cells t.cells.toArray 37]) := Lib.hid (by rw [← hW2, alloc_eq_grow, alloc_eq_grow, grow_grow]; rfl)
  have HTS : ∀ n os, Calls Try.prog 36 #[.agg s.cells.toArray] (grow (W2.drewN n) os) fun e X => e = .returned (.int .i64 (turnZ s)) ∧ ∃ q os', X = grow ((grow (W2.drewN n) os).drewN q) os' := fun n os =>
    (turn_any s _).mono fun e X ⟨h1, h2⟩ => ⟨h1, 0, #[.cells s.cells.toArray 37], by rw [h2, alloc_eq_grow]; rfl⟩
  have HTT : ∀ n os, Calls Try.prog 36 #[.agg t.cells.toArray] (grow (W2.drewN n) os) fun e X => e = .returned (.int .i64 (turnZ t)) ∧ ∃ q os', X = grow ((grow (W2.drewN n) os).drewN q) os' := fun n os =>
    (turn_any t _).mono fun e X ⟨h1, h2⟩ => ⟨h1, 0, #[.cells t.cells.toArray 37], by rw [h2, alloc_eq_grow]; rfl⟩
  have HCM : ∀ n os, Calls Try.prog 35 #[.int .i64 (turnZ s), .int .i64 (turnZ t)] (grow (W2.drewN n) os) fun e X => e = .returned (.int .i64 (cmpZ (turnZ s) (turnZ t))) ∧ ∃ q os', X = grow ((grow (W2.drewN n) os).drewN q) os' := fun n os =>
    (compareI_any _ _ _).mono fun e X ⟨h1, h2⟩ => ⟨h1, 0, #[], by rw [← h2, grow_empty]; rfl⟩
  have hv1 : s.val = .agg s.cells.toArray := rfl
  have hv2 : t.val = .agg t.cells.toArray := rfl
  rw [hv1, hv2]
  clear hv1 hv2 hkc k1 k2
  have mixed : Try.prog.follows Departure.mixedOrders = true := by kernel_rfl
  generalize cmpZ (turnZ s) (turnZ t) = q at *
  generalize turnZ s = ts at *
  generalize turnZ t = tt at *
  generalize s.cells.toArray = cs at *
  generalize t.cells.toArray = ct at *
  go_enter Try.func34, Try.ntmps34
  go_wp2_with fail
  try rw [hW2]
  clear hW2
  go_quiet_grown (first
    | (go_at_call 35; exact Calls.grown_of (HCM _ _))
    | (go_at_call_has 36 (Value.agg cs); exact Calls.grown_of (HTS _ _))
    | (go_at_call_has 36 (Value.agg ct); exact Calls.grown_of (HTT _ _)))
  go_wp2
  go_ret
  refine ⟨rfl, nq, #[.cells cs 37, .cells ct 37] ++ osq, ?_⟩
  rw [HG.out]
  show grow (grow (W.drewN nq) _) osq = _
  rw [grow_grow]

theorem flat_lenG {α : Type} (enc : α → List Value) (n : Nat) (hn : ∀ a, (enc a).length = n) (l : List α) : (l.flatMap enc).length = l.length * n := by
  induction l with
  | nil => simp
  | cons a l ih => rw [List.flatMap_cons, List.length_append, hn, ih, List.length_cons, Nat.add_mul, Nat.one_mul]; omega

theorem flat_encG {α : Type} [Inhabited α] (enc : α → List Value) (n : Nat) (h0 : 0 < n) (hn : ∀ a, (enc a).length = n) (d : Array α) : flatK enc n d = (d.toList.flatMap enc).toArray := by
  have hlen : (d.toList.flatMap enc).length = d.size * n := by rw [flat_lenG enc n hn]; simp
  refine ext_get! (by simp [hlen]) fun t ht => ?_
  have ht' : t < d.size * n := by simpa using ht
  rw [get_flatK _ _ _ _ ht']
  have hk : t / n < d.size := Nat.div_lt_of_lt_mul (by rw [Nat.mul_comm]; exact ht')
  have hr : t % n < n := Nat.mod_lt _ h0
  have h := flat_getK enc n hn d.toList (t / n) (t % n) hr (by simpa using hk)
  have e : t / n * n + t % n = t := by rw [Nat.mul_comm]; exact Nat.div_add_mod t n
  rw [e] at h
  have hlt : t < (d.toList.flatMap enc).length := by rw [hlen]; exact ht'
  have hd : d.toList[t / n]! = d[t / n]! := by rw [getElem!_pos d _ hk, getElem!_pos d.toList (t / n) (by simpa using hk)]; simp
  rw [hd] at h
  have h2 : t % n < (enc d[t / n]!).length := by rw [hn]; exact hr
  rw [List.getElem?_eq_getElem hlt, List.getElem?_eq_getElem h2] at h
  rw [getElem!_pos (enc d[t / n]!) _ h2, getElem!_pos (d.toList.flatMap enc).toArray t (by simpa using hlt)]
  injection h with h
  rw [← h]; simp

/-! needs, by their places -/
def nthN (ns : List Ne) (i : Nat) : Ne := ns[i]?.getD default
def encN (ns : List Ne) (m : Nat) (x : Fin (m + 1)) : List Value := (nthN ns x.val).cells
def cfN (ns : List Ne) (m : Nat) (x y : Fin (m + 1)) : Int := cmpZ (turnZ (nthN ns x.val)) (turnZ (nthN ns y.val))
def bfN (ns : List Ne) (m : Nat) (x y : Fin (m + 1)) : Bool := decide (turnZ (nthN ns x.val) < turnZ (nthN ns y.val) ∨ turnZ (nthN ns x.val) = turnZ (nthN ns y.val) ∧ x.val < y.val)
theorem agree_ns (ns : List Ne) (m : Nat) : Agree (ltOf (cfN ns m)) (bfN ns m) (fun x => x.val) := by
  refine ⟨⟨fun x => by simp [bfN], fun x y z h1 h2 => ?_, fun x y z h1 h2 => ?_⟩, fun x y hne h => ?_, fun x y h => ?_⟩
  · simp only [bfN, decide_eq_true_eq] at *; omega
  · simp only [bfN, decide_eq_false_iff_not] at *; omega
  · simp only [bfN, decide_eq_false_iff_not, decide_eq_true_eq] at *
    have : x.val ≠ y.val := fun e => hne (Fin.ext e)
    omega
  · unfold ltOf cfN cmpZ bfN
    rw [Bool.eq_iff_iff, decide_eq_true_eq, decide_eq_true_eq]
    split
    · omega
    · split <;> omega
theorem swo_ns (ns : List Ne) (m : Nat) : SWO (ltOf (cfN ns m)) := by
  have key : ∀ x y, ltOf (cfN ns m) x y = true ↔ turnZ (nthN ns x.val) < turnZ (nthN ns y.val) := fun x y => by
    unfold ltOf cfN cmpZ
    rw [decide_eq_true_eq]
    split
    · omega
    · split <;> omega
  have key2 : ∀ x y, ltOf (cfN ns m) x y = false ↔ ¬ turnZ (nthN ns x.val) < turnZ (nthN ns y.val) := fun x y => by rw [← key, Bool.not_eq_true]
  refine ⟨fun x => (key2 x x).2 (by omega), fun x y z h1 h2 => ?_, fun x y z h1 h2 => ?_⟩
  · rw [key] at *; omega
  · rw [key2] at *; omega
theorem lays_ns (ns : List Ne) (m blk off size : Nat) (w : World) : CmpLays Try.prog 34 #[] (encN ns m) 9 (cfN ns m) blk off size w := fun _ _ _ _ x y => inTurn_cmp (nthN ns x.val) (nthN ns y.val) _
theorem encN_iota (ns : List Ne) (m : Nat) (h : ns.length = m + 1) : (iota (m + 1)).toList.flatMap (encN ns m) = ns.flatMap Ne.cells := by
  have e : (iota (m + 1)).toList.map (fun x => nthN ns x.val) = ns := by
    apply List.ext_getElem?
    intro i
    by_cases hi : i < m + 1
    · have h1 : i < (iota (m + 1)).size := by rw [iota_size]; exact hi
      have h2 := iota_get m i hi
      rw [getElem!_pos _ i h1] at h2
      rw [List.getElem?_map, Array.getElem?_toList, Array.getElem?_eq_getElem h1, Option.map_some, h2]
      unfold nthN
      rw [List.getElem?_eq_getElem (by omega : i < ns.length)]; rfl
    · rw [List.getElem?_eq_none (by simp [iota_size]; omega), List.getElem?_eq_none (by omega)]
  conv => rhs; rw [← e, List.flatMap_map]
  rfl
/-- the needs in turn -/
def sortedL (m : Nat) (ns : List Ne) : List Ne := turnL m ns ++ ns.filter fun s => decide (s.cs = 1)
theorem sorted_fin (M : Nat) (hM : M ≤ 10000) (ns : List Ne) (m : Nat) (hl : ns.length = m + 1) (h : ∀ s ∈ ns, 1 ≤ s.cs ∧ s.cs ≤ M) (d' : Array (Fin (m + 1))) (hp : (d'.toList.map (·.val)).Perm (List.range (m + 1))) (hs : Srt (fun x y => bfN ns m x y = true) 0 (m + 1) d') (hsz : d'.size = m + 1) :
    d'.toList.map (fun x => nthN ns x.val) = sortedL M ns := by
  have e : (d'.toList.map fun x => (x.val, nthN ns x.val)).map (·.2) = d'.toList.map fun x => nthN ns x.val := by rw [List.map_map]; rfl
  rw [← e]
  refine sorted_one M hM ns h _ ?_ ?_
  · have h1 := hp.map (fun i => (i, nthN ns i))
    rw [List.map_map] at h1
    refine (show List.Perm (List.map (fun x : Fin (m + 1) => (x.val, nthN ns x.val)) d'.toList) _ from h1).trans ?_
    refine List.Perm.of_eq ?_
    apply List.ext_getElem?
    intro i
    rw [tagL_get, List.getElem?_map]
    by_cases hi : i < m + 1
    · rw [List.getElem?_range hi, List.getElem?_eq_getElem (by omega : i < ns.length)]
      simp only [Option.map_some, nthN]
      rw [List.getElem?_eq_getElem (by omega : i < ns.length)]; rfl
    · rw [List.getElem?_eq_none (by simp; omega), List.getElem?_eq_none (by omega)]; rfl
  · rw [List.pairwise_map, List.pairwise_iff_getElem]
    intro i j hi hj hij
    have hi' : i < d'.size := by simpa using hi
    have hj' : j < d'.size := by simpa using hj
    have := hs i j (Nat.zero_le _) hij (by omega)
    simp only [bfN, decide_eq_true_eq] at this
    rw [getElem!_pos d' i hi', getElem!_pos d' j hj'] at this
    unfold bfT
    simpa using this

set_option maxHeartbeats 1000000 in
theorem sortN_own (M : Nat) (hM : M ≤ 10000) (base : Nat) (v : Value) (ns : List Ne) (W : World) (ho : W.ownsRow base 37 9 v ns.length (ns.flatMap Ne.cells)) (h : ∀ s ∈ ns, 1 ≤ s.cs ∧ s.cs ≤ M) (hn : 1 ≤ ns.length) (hn2 : ns.length ≤ 1000000) :
    Calls Try.prog 55 #[v, .func (.func 34) #[] #[]] W fun e W' => e = .returned (.tuple #[]) ∧ W'.ownsRow base 37 9 v ns.length ((sortedL M ns).flatMap Ne.cells) ∧ Below base W W' := by
  obtain ⟨m, hm⟩ : ∃ m, ns.length = m + 1 := ⟨ns.length - 1, by omega⟩
  obtain ⟨hl, ⟨_, hn0⟩ | ⟨g, cap, cur, rfl, hb, hg, hnc, hcm, hcs, htk⟩⟩ := ho
  · omega
  have eg : ∀ args w, (callFunc 34 args).run Try.prog w = .ok (.enter 34 args) w := enters_of Try.func34 (by kernel_rfl) rfl
  have hlt : g < W.heap.size := (Array.getElem?_eq_some_iff.1 hg).1
  have hfl : flatK (encN ns m) 9 (iota (m + 1)) = (ns.flatMap Ne.cells).toArray := by rw [flat_encG _ 9 (by omega) (fun _ => rfl), encN_iota ns m hm]
  have hnl : (ns.flatMap Ne.cells).length = (m + 1) * 9 := by rw [flat_lenG Ne.cells 9 (fun _ => rfl), hm]
  rw [hm] at hnc htk hl ⊢
  have hH : HoldsK (encN ns m) 9 W g 0 (iota (m + 1)) := by
    intro j hj
    rw [hfl] at hj ⊢
    have hj' : j < (ns.flatMap Ne.cells).length := by simpa using hj
    have hj2 : j < (m + 1) * 9 := by rw [hnl] at hj'; exact hj'
    refine ⟨?_, by simp [World.frozen?, hg]⟩
    have h1 : (cur.toList.take ((m + 1) * 9))[j]? = (ns.flatMap Ne.cells)[j]? := by rw [htk]
    rw [List.getElem?_take_of_lt hj2] at h1
    simp only [World.cell?, hg, Nat.zero_add]
    simp only [Option.isSome_none, Bool.false_eq_true, if_false]
    rw [← Array.getElem?_toList, h1]
    generalize ns.flatMap Ne.cells = F at hj' ⊢
    simp [hj']
  have hc := KS.sortStable_any (d0 := iota (m + 1)) (enc := encN ns m) (kc := 9) (cf := cfN ns m) (w0 := W) (blk := g) (off := 0) 34 #[] cap W eg (lays_ns ns m _ _ _ _) ⟨fun _ => rfl, fun x v hv => by simp [encN, Ne.cells] at hv; rcases hv with rfl | rfl | rfl | rfl | rfl | rfl | rfl | rfl | rfl <;> rfl, hH, hlt⟩ Try.sizeOf37
    (SWK.start hH) (agree_ns ns m) (swo_ns ns m) (fun i j hi hj hij e => hij (by rw [iota_size] at hi hj; have := congrArg Fin.val e; rw [iota_get m i hi, iota_get m j hj] at this; exact this)) (fun k hk => by rw [iota_size] at hk; exact iota_get m k hk) (by rw [iota_size]; omega)
  rw [iota_size] at hc
  refine (show Calls Try.prog 55 _ _ _ from hc).mono ?_
  rintro e W' ⟨he, d', hpm, hsr, n, os, rfl⟩
  have hsz : d'.size = m + 1 := hpm.size.trans (iota_size _)
  have hp3 : (d'.toList.map (·.val)).Perm (List.range (m + 1)) := by
    have hp2 := hpm.perm.2.2
    rw [extract_toList _ _ _ (by rw [hpm.size]; exact Nat.le_refl _), extract_toList _ _ _ (Nat.le_refl _), iota_size, Nat.sub_zero] at hp2
    have hp3 := hp2.map (·.val)
    have q1 : ((List.range' 0 (m + 1)).map fun i => d'[i]!).map (·.val) = d'.toList.map (·.val) := by
      congr 1
      apply List.ext_getElem
      · simp [hsz]
      · intro k k1 k2
        have hk : k < d'.size := by simpa using k2
        simp [getElem!_pos d' k hk]
    have q2 : ((List.range' 0 (m + 1)).map fun i => (iota (m + 1))[i]!).map (·.val) = List.range (m + 1) := by
      rw [List.range_eq_range', List.map_map]
      apply List.ext_getElem
      · simp
      · intro k k1 k2
        have hk : k < m + 1 := by simpa using k2
        simp [iota_get m k hk]
    rw [q1, q2] at hp3
    exact hp3
  have hds : d'.toList.flatMap (encN ns m) = (sortedL M ns).flatMap Ne.cells := by
    rw [← sorted_fin M hM ns m hm h d' hp3 hsr hsz, List.flatMap_map]; rfl
  have hfd : flatK (encN ns m) 9 d' = ((sortedL M ns).flatMap Ne.cells).toArray := by rw [flat_encG _ 9 (by omega) (fun _ => rfl), hds]
  have hfs : ((sortedL M ns).flatMap Ne.cells).length = (m + 1) * 9 := by
    have := congrArg Array.size hfd
    simp only [size_flatK, List.size_toArray] at this
    rw [← this, hsz]
  refine ⟨he, ⟨hfs, .inr ⟨g, cap, putCells id 0 (flatK (encN ns m) 9 d') cur, rfl, hb, ?_, hnc, hcm, ?_, ?_⟩⟩, ?_⟩
  · unfold sortWorldK
    rw [heap_grow_old _ _ (by simpa [putRowK] using hlt)]
    simp [putRowK, putRow, mapBlock, Sort.ahead, Array.getElem?_modify, hg, onCells]
  · simp [putCells, hcs]
  · apply List.ext_getElem?
    intro j
    by_cases hj : j < (m + 1) * 9
    · rw [List.getElem?_take_of_lt hj, Array.getElem?_toList, hfd]
      have hjj : j < ((sortedL M ns).flatMap Ne.cells).length := by omega
      generalize (sortedL M ns).flatMap Ne.cells = F at hjj ⊢
      simp [putCells, hjj, show j < cur.size by have := Nat.mul_le_mul_right 9 hnc; omega]
    · rw [List.getElem?_take_eq_none (by omega), List.getElem?_eq_none (by omega)]
  · refine ⟨rfl, rfl, rfl, by simp [sortWorldK, putRowK], fun k hk => ?_⟩
    unfold sortWorldK
    rw [heap_grow_old _ _ (by simp [putRowK, putRow, mapBlock, Sort.ahead]; omega)]
    have : g ≠ k := by omega
    simp [putRowK, putRow, mapBlock, Sort.ahead, Array.getElem?_modify, this]
end Go.Proofs.Ytmljndggblfeiaa
