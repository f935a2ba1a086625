/- LanesMany in plain data and in memory: a page of one table that grows by columns, what lanes.Cols answers there. -/
import Derived.Test.YtgeciomehldjdaaTBuild
import Derived.Test.YtgeciomehldjdaaLCols
import Derived.Test.YtgeciomehldjdaaLShown
namespace Go.Proofs.Ytgeciomehldjdaa
open Go.RowKit Go.Shelf Go.Maps
set_option linter.unusedVariables false
attribute [local go_sem] Oper.semAt_some

theorem range'_map_nodup (k : Nat) : ((List.range' 1 k).map Int.ofNat).Nodup := by
  rw [List.nodup_iff_pairwise_ne, List.pairwise_map]
  exact (List.nodup_range' (s := 1) (n := k)).imp fun h e => h (by injection e)
theorem fan_mem (k j : Nat) : ((j : Int) ∈ (List.range' 1 k).map Int.ofNat) ↔ 1 ≤ j ∧ j < 1 + k := by
  constructor
  · intro h
    obtain ⟨a, ha, e⟩ := List.mem_map.1 h
    have := List.mem_range'_1.1 ha
    have : a = j := by injection e
    omega
  · intro h
    exact List.mem_map.2 ⟨j, List.mem_range'_1.2 h, rfl⟩
def fanK (k : Nat) (i : Nat) : List Int := if i = 0 then (List.range' 1 k).map Int.ofNat else []
def fanV (v : Value) (i : Nat) : Value := if i = 0 then v else .slice none 0 0
theorem fan_in {n : Nat} : ∀ i, i < n → ∀ z ∈ fanK (n - 1) i, 1 ≤ z ∧ z < (n : Int) := fun i hi z hz => by
  unfold fanK at hz
  split at hz
  · obtain ⟨a, ha, rfl⟩ := List.mem_map.1 hz
    simp at ha; simp; omega
  · cases hz
theorem fan_kids {n : Nat} (h1 : 1 ≤ n) (kvf : Nat → Value) : kidsOf (zeroPg n kvf (fanK (n - 1))) = (List.range' 1 (n - 1)).map Int.ofNat := by
  rw [zero_kids]
  have e : List.range n = 0 :: (List.range' 1 (n - 1)) := by
    obtain ⟨m, rfl⟩ : ∃ m, n = m + 1 := ⟨n - 1, by omega⟩
    rw [List.range_eq_range', List.range'_succ]; rfl
  rw [e, List.flatMap_cons]
  have : (List.range' 1 (n - 1)).flatMap (fanK (n - 1)) = [] := by
    rw [List.flatMap_eq_nil_iff]
    intro i hi
    simp at hi
    unfold fanK
    rw [if_neg (by omega)]
  rw [this, List.append_nil]; rfl
theorem fan_fine {n : Nat} (h1 : 1 ≤ n) (h2 : n ≤ 65536) (kvf : Nat → Value) : Fine (zeroPg n kvf (fanK (n - 1))) := by
  have hl := zero_link (kvf := kvf) (fan_in (n := n))
  have hw : walkL n (kfOf (zeroPg n kvf (fanK (n - 1)))) = inOrder (fun i => if i = 0 then 1 else 2) n := by
    refine fan_walk h1 (kids_in hl) ?_ ?_
    · have := zero_kf n kvf (fanK (n - 1)) 0 (by omega)
      rw [show ((0 : Nat) : Int) = 0 from rfl] at this
      rw [this]; rfl
    · intro i hi hn
      rw [zero_kf _ _ _ _ hn]
      unfold fanK
      rw [if_neg (by omega)]
  have hd : depthsP (zeroPg n kvf (fanK (n - 1))) = (List.range n).map (fun i => (((if i = 0 then 1 else 2 : Nat)) : Int)) := by
    unfold depthsP
    rw [zero_len, hw, depL_all]
  refine ⟨by rw [zero_len]; exact h1, by rw [zero_len]; exact h2, zero_wrong _ _ _, by rw [zero_len]; exact hl, ?_, ?_⟩
  · rw [List.any_eq_false]
    intro x hx
    obtain ⟨j, hj⟩ := List.mem_iff_getElem?.1 hx
    rw [zero_len, hd] at hj
    obtain ⟨hlt, he⟩ := List.getElem?_eq_some_iff.1 hj
    have hjN : j < n := by simp [tms_len] at hlt; exact hlt
    have ht := tms_get n (kidsOf (zeroPg n kvf (fanK (n - 1)))) (fun z hz => by rw [fan_kids h1] at hz; obtain ⟨a, _, rfl⟩ := List.mem_map.1 hz; simp) j hjN
    rw [List.getElem?_eq_getElem (by rw [tms_len]; exact hjN)] at ht
    simp only [Option.getD_some] at ht
    have hc : ((kidsOf (zeroPg n kvf (fanK (n - 1)))).count (j : Int) : Int) = if j = 0 then 0 else 1 := by
      rw [fan_kids h1, (range'_map_nodup _).count]
      by_cases h : j = 0
      · rw [if_neg (fun hm => by have := (fan_mem _ _).1 hm; omega), if_pos h]; rfl
      · rw [if_pos ((fan_mem _ _).2 (by omega)), if_neg h]; rfl
    rw [hc] at ht
    rw [List.getElem_zip] at he
    rw [← he, ht]
    by_cases h : j = 0 <;> simp [strayB, h]
  · rw [hd, List.any_eq_false]
    intro z hz
    obtain ⟨i, hi, rfl⟩ := List.mem_map.1 hz
    by_cases h : i = 0 <;> simp [deepB, h]
/-- whether Check lets a page be hangs on its kids, and on whether a node is wrong -/
theorem Fine.kss {ns ns' : List Nd} (F : Fine ns) (h : ns'.map Nd.ks = ns.map Nd.ks) (hw : ns'.any wrongN = false) : Fine ns' := by
  have hl : ns'.length = ns.length := by have := congrArg List.length h; simpa using this
  have hk : kidsOf ns' = kidsOf ns := by
    unfold kidsOf
    rw [List.flatMap_def, List.flatMap_def]
    exact congrArg List.flatten h
  have hf : kfOf ns' = kfOf ns := by
    funext y
    have := congrArg (fun l => l[y.toNat]?) h
    simp only [List.getElem?_map] at this
    unfold kfOf
    cases h1 : ns[y.toNat]? <;> cases h2 : ns'[y.toNat]? <;> rw [h1, h2] at this <;> simp_all
  have hd : depthsP ns' = depthsP ns := by unfold depthsP; rw [hf, hl]
  refine ⟨by rw [hl]; exact F.len1, by rw [hl]; exact F.len2, hw, fun n hn z hz => ?_, by rw [hl, hk, hd]; exact F.stray, by rw [hd]; exact F.deep⟩
  have : z ∈ kidsOf ns' := List.mem_flatMap.2 ⟨n, hn, hz⟩
  rw [hk] at this
  obtain ⟨a, ha, hz2⟩ := List.mem_flatMap.1 this
  rw [hl]; exact F.link a ha z hz2
theorem own_intsM {X : World} {base k : Nat} {v : Value} {zs : List Int} (h : X.ownsRow base 3 1 v k (zs.map (Value.int .i64))) : Ints X v zs ∧ CapOk v ∧ ∀ L, L < base → Apart L v zs := by
  have hl : zs.length = k := by have := h.1; simpa using this
  have hc := fun g hg => h.cells (g := g) hg
  rcases h.2 with ⟨rfl, rfl⟩ | ⟨g, cap, cur, rfl, hb, hg, hnc, hcm, hcs, ht⟩
  · obtain rfl : zs = [] := List.eq_nil_of_length_eq_zero hl
    exact ⟨ints_nil _, capok_slice _ _ _ (by omega) (by omega), fun L _ => .inl rfl⟩
  · unfold maxLen at hcm
    refine ⟨⟨by omega, .inr ⟨g, 0, cap, by rw [hl], fun j hj => ?_⟩⟩, capok_slice _ _ _ hnc hcm, fun L hL => .inr ⟨g, 0, cap, by rw [hl], by omega⟩⟩
    have := hc g rfl j (.int .i64 (zs[j]?.getD 0)) (by simp [hj])
    rwa [add_plain] at this

def fanM (k : Nat) : List Int := (List.range' 1 k).map Int.ofNat
theorem fanM_len (k : Nat) : (fanM k).length = k := by simp [fanM]
theorem fanM_mem {k : Nat} {z : Int} (h : z ∈ fanM k) : ∃ j : Nat, z = (j : Int) ∧ 1 ≤ j ∧ j ≤ k := by
  obtain ⟨a, ha, rfl⟩ := List.mem_map.1 h
  have := List.mem_range'_1.1 ha
  exact ⟨a, rfl, by omega, by omega⟩
def colSt (s : Int) : Sty := { Sty.zero with cs := s }
def colNd (s : Int) : Nd := { Nd.zero with k := 5, s := colSt s }
def headNd (k : Nat) (v : Value) : Nd := { Nd.zero with k := 2, kv := v, ks := fanM k }
def mpg (s : Int) (k j : Nat) (v : Value) : List Nd := headNd k v :: List.replicate j (colNd s)
theorem mpg_len (s : Int) (k j : Nat) (v : Value) : (mpg s k j v).length = j + 1 := by simp [mpg]
theorem mpg_snoc (s : Int) (k j : Nat) (v : Value) : mpg s k j v ++ [colNd s] = mpg s k (j + 1) v := by
  unfold mpg
  rw [List.replicate_succ', List.cons_append]
theorem mpg_mem {s : Int} {k j : Nat} {v : Value} {n : Nd} (h : n ∈ mpg s k j v) : n = headNd k v ∨ n = colNd s := by
  rcases List.mem_cons.1 h with h | h
  · exact .inl h
  · exact .inr (List.eq_of_mem_replicate h)
theorem mpg_get {s : Int} {k j : Nat} {v : Value} {i : Nat} {n : Nd} (h : (mpg s k j v)[i]? = some n) : (i = 0 ∧ n = headNd k v) ∨ (i ≠ 0 ∧ n = colNd s) := by
  cases i with
  | zero => left; refine ⟨rfl, ?_⟩; simpa [mpg] using h.symm
  | succ i =>
    right
    refine ⟨by omega, ?_⟩
    unfold mpg at h
    rw [List.getElem?_cons_succ] at h
    exact List.eq_of_mem_replicate (List.mem_iff_getElem?.2 ⟨i, h⟩)
theorem valid_col {s : Int} (h1 : 1 ≤ s) (h2 : s ≤ 1000) : validS (colSt s) = true := by
  have e : spanB s = true := by simp [spanB]; omega
  have h : validS (colSt s) = (spanB s && true) := by
    show (true && (true && (true && ((true && true) && ((spanB s && true) && (true && true)))))) = _
    simp
  rw [h, e]; rfl
theorem mpg_fine {s : Int} {n : Nat} (h1 : 1 ≤ s) (h2 : s ≤ 1000) (hn : n ≤ 12) (v : Value) : Fine (mpg s n n v) := by
  have F := fan_fine (n := n + 1) (by omega) (by omega) (fun _ => .slice none 0 0)
  refine F.kss ?_ ?_
  · apply List.ext_getElem?
    intro i
    rw [List.getElem?_map, List.getElem?_map]
    by_cases hi : i < n + 1
    · rw [zero_get _ _ _ _ hi]
      have hl : i < (mpg s n n v).length := by rw [mpg_len]; exact hi
      rw [List.getElem?_eq_getElem hl]
      rcases mpg_get (List.getElem?_eq_getElem hl) with ⟨rfl, e⟩ | ⟨h0, e⟩
      · rw [e]; rfl
      · rw [e]; simp [fanK, h0, ndKids, colNd, Nd.zero]
    · rw [List.getElem?_eq_none (by rw [mpg_len]; omega), List.getElem?_eq_none (by rw [zero_len]; omega)]
  · rw [List.any_eq_false]
    intro nd hnd
    rcases mpg_mem hnd with rfl | rfl
    · simp only [Bool.not_eq_true]; rfl
    · have hv := valid_col h1 h2
      have e : wrongN (colNd s) = (!validS (colSt s) || false) := rfl
      rw [e, hv]; decide
theorem mpg_kf (s : Int) (n : Nat) (v : Value) : kfOf (mpg s n n v) ((0 : Nat) : Int) = fanM n := rfl
theorem mpg_kd {s : Int} {n j : Nat} {v : Value} (h1 : 1 ≤ j) (h2 : j ≤ n) : kdOf (mpg s n n v) j = 5 := by
  unfold kdOf
  have hl : j < (mpg s n n v).length := by rw [mpg_len]; omega
  rw [List.getElem?_eq_getElem hl]
  rcases mpg_get (List.getElem?_eq_getElem hl) with ⟨h0, e⟩ | ⟨h0, e⟩
  · omega
  · rw [e]; rfl
theorem cols_count (kd : Nat → Int) (CS : Nat → Int) (s : Nat) : ∀ ks : List Int, (∀ z ∈ ks, kd z.toNat = 5 ∧ CS z.toNat = (s : Int)) → (colsT kd CS ks).length = s * ks.length
  | [], _ => rfl
  | z :: ks, h => by
    have ih := cols_count kd CS s ks fun y hy => h y (List.mem_cons_of_mem _ hy)
    obtain ⟨e1, e2⟩ := h z (List.mem_cons_self ..)
    unfold colsT colsS at ih ⊢
    rw [List.flatMap_cons, List.flatMap_append, List.length_append, ih, if_pos e1, e2]
    simp [repX, Nat.mul_add]
    omega
/-- the page under way -/
structure MW (N : Nat) (s : Int) (k j : Nat) (lv v : Value) (w X : World) : Prop where
  row : X.ownsRow N 45 34 lv (j + 1) (flatN (mpg s k j v))
  own : X.ownsRow N 3 1 v k ((fanM k).map (Value.int .i64))
  low : Below N w X
theorem own_typesM {X : World} {b b' e e' sz sz' n n' : Nat} {v v' : Value} {xs xs' : List Value} (h : X.ownsRow b e sz v n xs) (h' : X.ownsRow b' e' sz' v' n' xs') (hne : e ≠ e') : v.ownBlock = none ∨ v.ownBlock ≠ v'.ownBlock := by
  rcases h.2 with ⟨rfl, _⟩ | ⟨g, cap, cur, rfl, _, hg, _⟩
  · exact .inl rfl
  · rcases h'.2 with ⟨rfl, _⟩ | ⟨g', cap', cur', rfl, _, hg', _⟩
    · exact .inr fun e => by simp [Value.ownBlock] at e
    · refine .inr fun e => ?_
      simp [Value.ownBlock] at e
      subst e
      rw [hg] at hg'
      simp only [Option.some.injEq, Obj.cells.injEq] at hg'
      exact hne hg'.2.1
theorem ne_tM : 45 ≠ 3 := by decide
section
variable {N : Nat} {s : Int} {k j : Nat} {lv v v' : Value} {w V X : World}
theorem MW.kid {L c : Nat} {o : Obj} (h : MW N s k j (.slice (some ⟨L, 0, none⟩) (j + 1) c) v w V) (hN : N ≤ w.heap.size ∨ N ≤ V.heap.size) (ho : X.ownsRow N 3 1 v' (k + 1) ((fanM (k + 1)).map (Value.int .i64))) (hg : (V.alloc o).grownBy X v.ownBlock) :
    MW N s (k + 1) j (.slice (some ⟨L, 0, none⟩) (j + 1) c) v' w (X.setCell ⟨L, 1, none⟩ v') := by
  have hr := (h.row.alloc o).kept hg (own_typesM h.row h.own ne_tM)
  have hL := (h.row.lt L rfl).1
  have hrow := (hr.stored 1 v').1
  have e : (flatN (mpg s k j v)).set 1 v' = flatN (mpg s (k + 1) j v') := by
    have := flat_set (mpg s k j v) 0 (headNd k v) v' (fanM (k + 1)) rfl
    rw [Nat.zero_mul, Nat.zero_add] at this
    rw [this]; rfl
  rw [e] at hrow
  have hne : v'.ownBlock ≠ some L := by
    rcases own_typesM ho hr (fun e => ne_tM e.symm) with h0 | h0
    · rw [h0]; simp
    · exact h0
  exact ⟨hrow, own_setCell ho hne, ((h.low.alloc (by rcases hN with h0 | h0; have := h.low.size; omega; exact h0) _).grown hg (by simp; rcases hN with h0 | h0; have := h.low.size; omega; omega) (fun g e => by have := (h.own.lt g e).1; omega)).setCell (p := ⟨L, 1, none⟩) hL _⟩
theorem MW.col {o : Obj} (h : MW N s k j lv v w V) (hN : N ≤ V.heap.size) (ho : X.ownsRow N 45 34 v' (j + 1 + 1) (flatN (mpg s k j v) ++ (colNd s).cells)) (hg : (V.alloc o).grownBy X lv.ownBlock) : MW N s k (j + 1) v' v w X := by
  refine ⟨?_, (h.own.alloc o).kept hg (own_typesM h.own h.row fun e => ne_tM e.symm), (h.low.alloc hN _).grown hg (by simp; omega) (fun g e => by have := (h.row.lt g e).1; omega)⟩
  rw [← mpg_snoc, flatN_snoc']
  exact ho
theorem MW.page {L c : Nat} (h : MW N s k j (.slice (some ⟨L, 0, none⟩) (j + 1) c) v w X) (hj : j ≤ 1000) : PageAt X (.slice (some ⟨L, 0, none⟩) (j + 1) c) (mpg s k j v) := by
  obtain ⟨hI, hC, _⟩ := own_intsM h.own
  refine Laid.page (m := c) ⟨?_, mpg_len _ _ _ _, fun n hn => ?_⟩ (by omega)
  · rcases h.row.2 with ⟨h', _⟩ | ⟨g', cap', cur, h', _, hg, _, _, hcs, htk⟩
    · simp at h'
    · simp only [Value.slice.injEq, Option.some.injEq, Addr.mk.injEq, and_true, true_and] at h'
      obtain ⟨rfl, rfl⟩ := h'
      exact ⟨cur, hg, hcs, htk⟩
  · rcases mpg_mem hn with rfl | rfl
    · refine ⟨⟨hI, ints_nil X, hC, capok_slice _ _ _ (by omega) (by omega)⟩, ?_, .inl rfl⟩
      have hne := own_typesM h.own h.row fun e => ne_tM e.symm
      rcases h.own.2 with ⟨rfl, h0⟩ | ⟨g, cap, cur, rfl, hb, hg, hnc, hcm, hcs, ht⟩
      · subst h0; exact .inl rfl
      · refine .inr ⟨g, 0, cap, by show Value.slice _ _ _ = Value.slice _ (fanM k).length _; rw [fanM_len], fun e => ?_⟩
        subst e
        rcases hne with h0 | h0
        · simp [Value.ownBlock] at h0
        · exact h0 rfl
    · exact ⟨⟨ints_nil X, ints_nil X, capok_slice _ _ _ (by omega) (by omega), capok_slice _ _ _ (by omega) (by omega)⟩, .inl rfl, .inl rfl⟩
end
theorem cols_many {N : Nat} {s n : Nat} {L c : Nat} {v : Value} {w X : World} (h1 : 1 ≤ s) (h2 : s ≤ 1000) (hn : n ≤ 12) (h : MW N (s : Int) n n (.slice (some ⟨L, 0, none⟩) (n + 1) c) v w X) :
    Calls Try.prog 7 #[.slice (some ⟨L, 0, none⟩) (n + 1) c, .int .i64 ((0 : Nat) : Int), .int .i64 ((7 : Nat) : Int)] X fun e W' => ((∃ q l cc, s * n ≤ 10000 ∧ e = .returned (.tuple #[.slice q l cc, .int .i64 0]) ∧ l = max (s * n) 7) ∨ (10000 < s * n ∧ e = .returned (.tuple #[.slice none 0 0, .int .i64 43]))) ∧ Below X.heap.size X W' := by
  have hP := h.page (by omega)
  have F := mpg_fine (s := (s : Int)) (n := n) (by omega) (by omega) hn v
  have hK : ∀ nd ∈ mpg (s : Int) n n v, nd.ks.length ≤ 70000 ∧ nd.ws.length ≤ 70000 := fun nd hnd => by
    rcases mpg_mem hnd with rfl | rfl
    · exact ⟨by show (fanM n).length ≤ _; rw [fanM_len]; omega, by show (0 : Nat) ≤ _; omega⟩
    · exact ⟨by show (0 : Nat) ≤ _; omega, by show (0 : Nat) ≤ _; omega⟩
  have hb : Below X.heap.size X ((X.alloc (.cells #[.slice none 0 0] 25)).alloc (.cells #[.int .i64 0] 26)) := ((Below.refl _ X).alloc (Nat.le_refl _) _).alloc (by simp) _
  have H := computed_laid _ (mpg (s : Int) n n v) _ (hP.below hb) hK F
  have hl := mpg_len (s : Int) n n v
  have hfm : ∀ z ∈ fanM n, kdOf (mpg (s : Int) n n v) z.toNat = 5 ∧ (fun i : Nat => if i = 0 then (1 : Int) else (s : Int)) z.toNat = (s : Int) := fun z hz => by
    obtain ⟨j, rfl, hj1, hj2⟩ := fanM_mem hz
    refine ⟨by rw [Int.toNat_natCast]; exact mpg_kd hj1 hj2, ?_⟩
    simp only [Int.toNat_natCast]
    rw [if_neg (by omega)]
  have hT : (colsT (kdOf (mpg (s : Int) n n v)) (fun i : Nat => if i = 0 then (1 : Int) else (s : Int)) (kfOf (mpg (s : Int) n n v) ((0 : Nat) : Int))).length = s * n := by
    rw [mpg_kf, cols_count _ _ s _ hfm, fanM_len]
  have HC := cols_cols L 0 c (n + 1) 0 7 (fun i : Nat => if i = 0 then (1 : Int) else (s : Int)) (mpg (s : Int) n n v) X hl (by omega) (by omega) (by omega) (fun nd hnd => (hK nd hnd).1) (fun nd hnd z hz => by have := F.link nd hnd z hz; rw [hl] at this; exact ⟨by omega, this.2⟩) (Lib.hid (H.mono ?_)) (by unfold isTab; rw [hl]; simp; rfl)
    (fun z hz => by rw [mpg_kf] at hz; rw [(hfm z hz).1]; decide) (fun z hz _ => by rw [mpg_kf] at hz; have h5 := (hfm z hz).2; simp only at h5; rw [h5]; omega)
  · refine HC.mono ?_
    rintro e W' ⟨⟨v1, hle, rfl, ho⟩ | ⟨hgt, rfl⟩, hb'⟩
    · rw [hT] at hle ho
      unfold OwnL at ho
      obtain ⟨q, l, cc, rfl⟩ := own_slice ho
      refine ⟨.inl ⟨q, l, cc, hle, rfl, ?_⟩, hb'⟩
      have hlen : (colsT (kdOf (mpg (s : Int) n n v)) (fun i : Nat => if i = 0 then (1 : Int) else (s : Int)) (kfOf (mpg (s : Int) n n v) ((0 : Nat) : Int)) ++ bare (7 - s * n)).length = max (s * n) 7 := by
        rw [List.length_append, hT]; simp [bare]; omega
      rw [← hlen]
      rcases ho.2 with ⟨e, h0⟩ | ⟨g', cap', cur, e, _⟩
      · injection e with _ e _; rw [e, h0]
      · injection e
    · rw [hT] at hgt
      exact ⟨.inr ⟨hgt, rfl⟩, hb'⟩
  · rintro e W' ⟨⟨L', c', ns', rfl, g1, g2, _⟩, g3⟩
    have hl' := g1.len
    rw [hl] at hl'
    refine ⟨L', c', ns', by rw [hl'], ?_, g1.kss, fun i n' hn' => ?_, by have := g2.page (c := c') (by omega); rw [hl'] at this; exact this, by simpa using g3⟩
    · apply List.ext_getElem?
      intro i
      rw [List.getElem?_map, List.getElem?_map]
      rcases g1.get i with ⟨e1, e2⟩ | ⟨n0, n', e1, e2, e3⟩
      · rw [e1, e2]
      · rw [e1, e2]; simp [e3.k]
    · rcases g1.get i with ⟨e1, e2⟩ | ⟨n0, n1, e1, e2, e3⟩
      · rw [e2] at hn'; cases hn'
      · rw [e2] at hn'
        injection hn' with hn'
        subst hn'
        rw [e3.s]
        rcases mpg_get e1 with ⟨rfl, rfl⟩ | ⟨h0, rfl⟩
        · rfl
        · show max (s : Int) 1 = _
          rw [if_neg h0]; omega
end Go.Proofs.Ytgeciomehldjdaa
