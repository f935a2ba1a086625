/- How many nodes there may be: for every number of them. -/
import Derived.Test.YtddbjfcdmilmkaaRows
import Derived.WalkKit
import Derived.ProofKit
import Derived.OpenShut
import Derived.Below
import Derived.Test.YtddbjfcdmilmkaaTBuild
import Derived.ShutString
namespace Go.Proofs.Ytddbjfcdmilmkaa.treeMany
open Go.ChangeShapes Go.WideShapes Go.ChangeAt Go.RowKit
open Go.ChangeMaps (open_string shut_string)
set_option linter.unusedVariables false      -- a walk need not use every 'w<i>' (that an integer argument fits its kind)

theorem own : ownKnob Try.prog.godebug = none := by kernel_rfl

theorem range'_map_nodup (k : Nat) : ((List.range' 1 k).map Int.ofNat).Nodup := by
  rw [List.nodup_iff_pairwise_ne, List.pairwise_map]
  exact (List.nodup_range' (s := 1) (n := k)).imp fun h e => h (by injection e)
theorem fan_mem (k j : Nat) : ((j : Int) ∈ (List.range' 1 k).map Int.ofNat) ↔ 1 ≤ j ∧ j < 1 + k := by
  constructor
  · intro h
    obtain ⟨a, ha, e⟩ := List.mem_map.1 h
    have := List.mem_range'_1.1 ha
    have : a = j := by injection e
    omega
  · intro h
    exact List.mem_map.2 ⟨j, List.mem_range'_1.2 h, rfl⟩
def fanK (k : Nat) (i : Nat) : List Int := if i = 0 then (List.range' 1 k).map Int.ofNat else []
def fanV (v : Value) (i : Nat) : Value := if i = 0 then v else .slice none 0 0
theorem fan_in {n : Nat} : ∀ i, i < n → ∀ z ∈ fanK (n - 1) i, 1 ≤ z ∧ z < (n : Int) := fun i hi z hz => by
  unfold fanK at hz
  split at hz
  · obtain ⟨a, ha, rfl⟩ := List.mem_map.1 hz
    simp at ha; simp; omega
  · cases hz
theorem fan_kids {n : Nat} (h1 : 1 ≤ n) (kvf : Nat → Value) : kidsOf (zeroPg n kvf (fanK (n - 1))) = (List.range' 1 (n - 1)).map Int.ofNat := by
  rw [zero_kids]
  have e : List.range n = 0 :: (List.range' 1 (n - 1)) := by
    obtain ⟨m, rfl⟩ : ∃ m, n = m + 1 := ⟨n - 1, by omega⟩
    rw [List.range_eq_range', List.range'_succ]; rfl
  rw [e, List.flatMap_cons]
  have : (List.range' 1 (n - 1)).flatMap (fanK (n - 1)) = [] := by
    rw [List.flatMap_eq_nil_iff]
    intro i hi
    simp at hi
    unfold fanK
    rw [if_neg (by omega)]
  rw [this, List.append_nil]; rfl
theorem fan_check {n : Nat} (h1 : 1 ≤ n) (h2 : n ≤ 65536) (kvf : Nat → Value) : checkP (zeroPg n kvf (fanK (n - 1))) = (0, 0) := by
  have hl := zero_link (kvf := kvf) (fan_in (n := n))
  have hw : walkL n (kfOf (zeroPg n kvf (fanK (n - 1)))) = inOrder (fun i => if i = 0 then 1 else 2) n := by
    refine fan_walk h1 (kids_in hl) ?_ ?_
    · have := zero_kf n kvf (fanK (n - 1)) 0 (by omega)
      rw [show ((0 : Nat) : Int) = 0 from rfl] at this
      rw [this]; rfl
    · intro i hi hn
      rw [zero_kf _ _ _ _ hn]
      unfold fanK
      rw [if_neg (by omega)]
  have hd : depthsP (zeroPg n kvf (fanK (n - 1))) = (List.range n).map (fun i => (((if i = 0 then 1 else 2 : Nat)) : Int)) := by
    unfold depthsP
    rw [zero_len, hw, depL_all]
  refine fine_check ⟨by rw [zero_len]; exact h1, by rw [zero_len]; exact h2, zero_wrong _ _ _, by rw [zero_len]; exact hl, ?_, ?_⟩
  · rw [List.any_eq_false]
    intro x hx
    obtain ⟨j, hj⟩ := List.mem_iff_getElem?.1 hx
    rw [zero_len, hd] at hj
    obtain ⟨hlt, he⟩ := List.getElem?_eq_some_iff.1 hj
    have hjN : j < n := by simp [tms_len] at hlt; exact hlt
    have ht := tms_get n (kidsOf (zeroPg n kvf (fanK (n - 1)))) (fun z hz => by rw [fan_kids h1] at hz; obtain ⟨a, _, rfl⟩ := List.mem_map.1 hz; simp) j hjN
    rw [List.getElem?_eq_getElem (by rw [tms_len]; exact hjN)] at ht
    simp only [Option.getD_some] at ht
    have hc : ((kidsOf (zeroPg n kvf (fanK (n - 1)))).count (j : Int) : Int) = if j = 0 then 0 else 1 := by
      rw [fan_kids h1, (range'_map_nodup _).count]
      by_cases h : j = 0
      · rw [if_neg (fun hm => by have := (fan_mem _ _).1 hm; omega), if_pos h]; rfl
      · rw [if_pos ((fan_mem _ _).2 (by omega)), if_neg h]; rfl
    rw [hc] at ht
    rw [List.getElem_zip] at he
    rw [← he, ht]
    by_cases h : j = 0 <;> simp [strayB, h]
  · rw [hd, List.any_eq_false]
    intro z hz
    obtain ⟨i, hi, rfl⟩ := List.mem_map.1 hz
    by_cases h : i = 0 <;> simp [deepB, h]
/-- the page under way: k kids -/
def MI (L n k : Nat) (x : World) : Prop := ∃ v, Whole x L 49 (flatN (zeroPg n (fanV v) (fanK k))) ∧ x.ownsRow (L + 1) 3 1 v k (((List.range' 1 k).map Int.ofNat).map (Value.int .i64))
theorem own_ints {X : World} {base k : Nat} {v : Value} {zs : List Int} (h : X.ownsRow base 3 1 v k (zs.map (Value.int .i64))) : Ints X v zs ∧ CapOk v ∧ ∀ L, L < base → Apart L v zs := by
  have hl : zs.length = k := by have := h.1; simpa using this
  have hc := fun g hg => h.cells (g := g) hg
  rcases h.2 with ⟨rfl, rfl⟩ | ⟨g, cap, cur, rfl, hb, hg, hnc, hcm, hcs, ht⟩
  · obtain rfl : zs = [] := List.eq_nil_of_length_eq_zero hl
    exact ⟨ints_nil _, capok_slice _ _ _ (by omega) (by omega), fun L _ => .inl rfl⟩
  · unfold maxLen at hcm
    refine ⟨⟨by omega, .inr ⟨g, 0, cap, by rw [hl], fun j hj => ?_⟩⟩, capok_slice _ _ _ hnc hcm, fun L hL => .inr ⟨g, 0, cap, by rw [hl], by omega⟩⟩
    have := hc g rfl j (.int .i64 (zs[j]?.getD 0)) (by simp [hj])
    rwa [add_plain] at this
theorem MI.z {L n k : Nat} {x : World} (h : MI L n k x) : ∃ kvf, ZAt x L n kvf (fanK k) := by
  obtain ⟨v, h1, h2⟩ := h
  refine ⟨_, h1, fun i hi => ?_⟩
  unfold fanV fanK
  by_cases h0 : i = 0
  · rw [if_pos h0, if_pos h0]
    obtain ⟨a, b, c⟩ := own_ints h2
    exact ⟨a, b, c L (by omega)⟩
  · rw [if_neg h0, if_neg h0]
    exact ⟨ints_nil _, capok_slice _ _ _ (by omega) (by omega), .inl rfl⟩
theorem fan_set (n k : Nat) (v v' : Value) (hn : 0 < n) : (flatN (zeroPg n (fanV v) (fanK k))).set 1 v' = flatN (zeroPg n (fanV v') (fanK (k + 1))) := by
  have := flat_set (zeroPg n (fanV v) (fanK k)) 0 _ v' ((List.range' 1 (k + 1)).map Int.ofNat) (zero_get _ _ _ _ hn)
  rw [Nat.zero_mul, Nat.zero_add] at this
  rw [this]
  congr 1
  have h2 := zero_set n (fanV v) (fanK k) 0 hn v' ((List.range' 1 (k + 1)).map Int.ofNat)
  refine h2.trans ?_
  apply List.ext_getElem?
  intro j
  by_cases hj : j < n
  · rw [zero_get _ _ _ _ hj, zero_get _ _ _ _ hj]
    unfold updF fanV fanK
    by_cases h0 : j = 0
    · simp [h0]
    · simp [h0]
  · rw [List.getElem?_eq_none (by rw [zero_len]; omega), List.getElem?_eq_none (by rw [zero_len]; omega)]
set_option maxRecDepth 100000 in
set_option maxHeartbeats 2000000 in
theorem many_at (n : Nat) (h1 : 65530 ≤ n) (h2 : n ≤ 65550) (w : World) (a b : Int) (HA : Hid (∀ kvf : Nat → Value, checkP (zeroPg n kvf (fanK (n - 1))) = (a, b))) (hab : (65536 < n ∧ b = 43) ∨ (n ≤ 65536 ∧ b = 0)) :
    Calls Try.prog 8 #[.int .i64 (n : Int)] w fun e w' => e = .returned (.bool true) ∧ Below w.heap.size w w' := by
  have hmk := make_nodes n (by omega)
  have HS : Hid (∀ X : World, MI X.heap.size n 0 (X.alloc (.cells (flatN (List.replicate n Nd.zero)).toArray 49))) := Lib.hid fun X => ⟨.slice none 0 0, by
    have h := (ZAt.start X n).1
    have e : zeroPg n (fun _ => .slice none 0 0) (fun _ => []) = zeroPg n (fanV (.slice none 0 0)) (fanK 0) := by
      rw [show fanV (.slice none 0 0) = fun _ => .slice none 0 0 from funext fun i => by unfold fanV; split <;> rfl, show fanK 0 = fun _ => [] from funext fun i => by unfold fanK; split <;> rfl]
    rwa [e] at h, World.ownsRow_nil _ _ _ _⟩
  obtain ⟨zc, hzc⟩ : ∃ zc, (flatN (List.replicate n Nd.zero)).toArray = zc := ⟨_, rfl⟩
  rw [hzc] at hmk HS
  clear hzc
  obtain ⟨i0, hi0, hz0, hz1, hz2⟩ := info_parts Try.infoInt
  go_enter Try.func8, Try.ntmps8
  go_wp2_with (go_at_call 10; refine (shown_any _).mono ?_; rintro e w1 ⟨rfl, hb1⟩; have HB1 := Lib.hid hb1; clear hb1)
  go_loopw [5] (fun i x => ∃ j : Nat, j + 1 ≤ n ∧ i = .int .i64 ((j + 1 : Nat) : Int) ∧ Hid (MI w1.heap.size n j x) ∧ Hid (Below w.heap.size w x)) (fun i _ => n - (intOf i).toNat)
  case atStart => exact ⟨0, by omega, by simp, Lib.hid (HS.out w1), Lib.hid (HB1.out.alloc HB1.out.size _)⟩
  case round =>
    obtain ⟨j, hj, rfl, HZ, HB⟩ := hrel
    have hzz := HB1.out.size
    clear hmk HS
    by_cases hlt : j + 1 < n
    · obtain ⟨v, hw, ho⟩ := HZ.out
      have cj : wr.cell? ⟨w1.heap.size, 1, none⟩ = some v := by rw [hw.cellAt]; exact flat_get (zeroPg n (fanV v) (fanK j)) 0 _ 1 _ (zero_get _ _ _ _ (by omega)) rfl
      have lj := hw.lt
      have HW := Lib.hid hw
      have HO := Lib.hid ho
      have hk : ((List.range' 1 (j + 1)).map Int.ofNat).map (Value.int .i64) = ((List.range' 1 j).map Int.ofNat).map (Value.int .i64) ++ [.int .i64 ((j : Int) + 1)] := by
        rw [List.range'_concat]; simp; omega
      have HK := Lib.hid hk
      clear hw ho HZ hk
      go_wp2_with (at_builtin; refine wpList_append_own_at _ rfl _ _ 29 rfl (w1.heap.size + 1) 3 i0 (.int .i64 0) 1 8 Try.underlying29 hi0 hz0 hz1 hz2 rfl (by decide) _ _ _ rfl (HO.out.alloc _) ⟨wr.heap.size, 0, none⟩ 1 1 [.int .i64 ((j : Int) + 1)] rfl rfl (cell_one_new _ _ _) (by intro u hu; simp at hu; subst hu; rfl) (by unfold maxLen; omega) (by omega) (by simp; omega) ?_)
      intro v' W7 hown7 hgrow7 _ _
      obtain ⟨p7, k7, c7, rfl⟩ := own_slice hown7
      have HO7 : Hid (W7.ownsRow (w1.heap.size + 1) 3 1 (.slice p7 k7 c7) (j + 1) (((List.range' 1 (j + 1)).map Int.ofNat).map (Value.int .i64))) := Lib.hid (by rw [HK.out]; simpa using hown7)
      have hvb : v.ownBlock ≠ some w1.heap.size := fun e => by have := (HO.out.lt _ e).1; omega
      have hvb' : (Value.slice p7 k7 c7).ownBlock ≠ some w1.heap.size := fun e => by have := (HO7.out.lt _ e).1; omega
      have hw7 : Whole W7 w1.heap.size 49 (flatN (zeroPg n (fanV v) (fanK j))) := (HW.out.alloc _).grown hgrow7 hvb
      have hb7 : Below w.heap.size w W7 := (HB.out.alloc HB.out.size _).grown hgrow7 (by simp; have := HB.out.size; omega) (fun k e => by have := (HO.out.lt k e).1; omega)
      have f7 := hw7.free 1
      have c7' : W7.cell? ⟨w1.heap.size, 1, none⟩ = some v := by rw [hw7.cellAt]; exact flat_get (zeroPg n (fanV v) (fanK j)) 0 _ 1 _ (zero_get _ _ _ _ (by omega)) rfl
      have l7 := hw7.lt
      have HZ7 : Hid (MI w1.heap.size n (j + 1) (W7.setCell ⟨w1.heap.size, 1, none⟩ (.slice p7 k7 c7))) := Lib.hid ⟨_, by rw [← fan_set n j v _ (by omega)]; exact hw7.set 1 _, own_setCell HO7.out hvb'⟩
      have HB7 := Lib.hid (hb7.setCell (p := ⟨w1.heap.size, 1, none⟩) hzz (.slice p7 k7 c7))
      clear hown7 hgrow7 hw7 hb7 hvb hvb' HO7 HK HO HW
      go_wp2
      go_roundw
      case rel => exact ⟨j + 1, by omega, by go_num, HZ7, HB7⟩
      case measure => simp [intOf]; omega
    · have hjn : n - 1 = j := by omega
      obtain ⟨kvf, hz⟩ := HZ.out.z
      have hc := check_any (.slice (some ⟨w1.heap.size, 0, none⟩) n n) _ wr (hz.page (by omega)) (zero_ks_le fun i hi => by unfold fanK; split <;> simp <;> omega)
      rw [show fanK j = fanK (n - 1) by rw [hjn], HA.out kvf] at hc
      have HCK := Lib.hid hc
      have hlt' : ¬ ((j : Int) + 1 < (n : Int)) := by omega
      clear hz hc HZ hjn hlt hj h1 h2
      rcases hab with ⟨h3, rfl⟩ | ⟨h3, rfl⟩
      · have e1 : decide ((n : Int) ≤ 65536) = false := decide_eq_false (by omega)
        clear h3
        go_wp2_with (go_at_call 11; refine HCK.out.mono ?_; clear HCK; rintro e w3 ⟨rfl, hb3⟩; have HB3 := Lib.hid (HB.out.trans (hb3.mono HB.out.size)); clear hb3)
        go_ret
        exact ⟨rfl, HB3.out⟩
      · have e1 : decide ((n : Int) ≤ 65536) = true := decide_eq_true (by omega)
        clear h3
        go_wp2_with (go_at_call 11; refine HCK.out.mono ?_; clear HCK; rintro e w3 ⟨rfl, hb3⟩; have HB3 := Lib.hid (HB.out.trans (hb3.mono HB.out.size)); clear hb3)
        go_ret
        exact ⟨rfl, HB3.out⟩
set_option maxHeartbeats 400000 in
theorem many (n : Int) (w : World) : Calls Try.prog 8 #[.int .i64 n] w fun e w' => e = .returned (.bool true) ∧ Below w.heap.size w w' := by
  by_cases h1 : n < 65530
  · go_enter Try.func8, Try.ntmps8
    go_wp2_with (go_at_call 10; refine (shown_any _).mono ?_; rintro e w1 ⟨rfl, hb1⟩)
    go_ret
    exact ⟨rfl, hb1⟩
  · by_cases h2 : 65550 < n
    · go_enter Try.func8, Try.ntmps8
      go_wp2_with (go_at_call 10; refine (shown_any _).mono ?_; rintro e w1 ⟨rfl, hb1⟩)
      go_ret
      exact ⟨rfl, hb1⟩
    · obtain ⟨k, rfl⟩ := Int.eq_ofNat_of_zero_le (show 0 ≤ n by omega)
      by_cases h3 : 65536 < k
      · exact many_at k (by omega) (by omega) w 0 43 (Lib.hid fun kvf => by unfold checkP; rw [zero_len, if_pos (by omega)]) (.inl ⟨h3, rfl⟩)
      · exact many_at k (by omega) (by omega) w 0 0 (Lib.hid fun kvf => fan_check (by omega) (by omega) kvf) (.inr ⟨by omega, rfl⟩)
theorem walk (a0 : Int) (w0 : (Lit.int .i64 a0).wf = true) (w : World) :
    Calls Try.prog 8 #[.int .i64 a0] w fun e w' => e = .returned (.bool true) ∧ Below w.heap.size w w' := by
  exact many a0 w

set_option maxRecDepth 100000 in
theorem lifted (os : Os) (started : os.Started) (H : Type) (enc : TypeId × Value → H) :
    ReturnsInHanded {} Try.checked os 8 .any (Rows.treeManySpec.pre6 enc Try.prog Try.f8 Rows.treeManyRow.domain false) (Rows.treeManySpec.post enc Try.prog Try.f8 false true false false) := by
  refine returnsInHanded_of_change (C := Try.checked) own started (by kernel_rfl) Try.func8
    (ChangeSpec.witness6 (enc := enc) (C := Try.checked) false ⟨#[], #[.int .i64 0], []⟩ 8 (by kernel_rfl) (by kernel_rfl) (by kernel_rfl) (by kernel_rfl)) ?_
  intro W base args ds gs before hval0 hW hcnd _
  have hval : ∀ (j : Nat) t v, Try.f8.params[j]? = some t → args[j]? = some v → Value.okWide Try.prog W .any base t v := hval0
  have hW' := hW
  obtain ⟨p, q, hA0, hV, rfl, hfz, hnd⟩ := hW
  have hA : DataW.TrodAll enc Try.prog W 0 (fun _ => true) true Try.f8.params.toList args.toList ds p := hA0
  rw [Try.params8] at hA hval
  obtain ⟨v0, vs0, d0, ds0, p0, q0, hargs, rfl, rfl, h0, r0⟩ := trodAll_cons hA
  obtain ⟨rfl, rfl, rfl⟩ := trodAll_nil r0
  obtain rfl : args = #[v0] := by cases args; simp_all
  obtain ⟨rfl, rfl⟩ := trodVars_none hV
  obtain ⟨a0, rfl, rfl, rfl, w0⟩ := open_int Try.underlying3 (hval 0 3 v0 rfl rfl) h0
  clear hA0 hval0
  simp only [List.append_nil] at hW'
  refine (walk a0 w0 W).mono fun e W' ⟨he, hg⟩ => ?_
  subst he
  exact ⟨_, rfl, _, _, _, [], [], [], hW', (trodAll_cons_mk (shut_bool Try.underlying4 _) trodAll_mk0), (trodAll_cons_mk (shut_int Try.underlying3 w0) trodAll_mk0), rfl, hg.frame _, fun h => by cases h⟩

theorem over : Rows.treeManyRow.holds Try.pinned (OpenSpec.ofChange Rows.treeManySpec) :=
  OpenClaim.holds_of_wide 8 Try.f8 rfl rfl rfl rfl rfl rfl rfl ⟨rfl, rfl, rfl, rfl, rfl⟩ rfl rfl rfl rfl rfl (by kernel_rfl) Try.func8 (by kernel_rfl)
    (of_decide_eq_true (by kernel_rfl)) (by unfold Func.isWrapper; first | (rw [if_pos (by decide +kernel)]; kernel_rfl) | (rw [if_neg (by decide +kernel)]; exact ⟨rfl, rfl⟩))
    (fun os started H enc _ => lifted os started H enc)

/-- ████ THE STATEMENT ████ -/
theorem proved : Rows.TreeManySaid :=
  over
#print axioms proved
end Go.Proofs.Ytddbjfcdmilmkaa.treeMany
