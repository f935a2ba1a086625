/- What the statements of layer 5 share: a page is cut, then fixed. -/
/- Pages of one node with n kids, as a call makes them: a table of cells, of texts; what they are when they are fixed. -/
import Derived.Test.YtilighhccjdceaaFShown
import Derived.Test.YtilighhccjdceaaTLaw
import Derived.Test.YtilighhccjdceaaTOpen
namespace Go.Proofs.Ytilighhccjdceaa
open Go.RowKit Go.Shelf
set_option linter.unusedVariables false

def FixForm (ms : List Nd) (w : World) (e : Ending) (W' : World) : Prop := ∃ q c ns', e = .returned (.tuple #[.slice q ns'.length c, .int .i64 0]) ∧ PageAt W' (.slice q ns'.length c) ns' ∧ ns'.map Nd.bare = fixPg ms ∧ Below w.heap.size w W'
theorem fix_form (lv : Value) (ms : List Nd) (w : World) (hP : PageAt w lv ms) (hK : ∀ n ∈ ms, n.ks.length ≤ 70000 ∧ n.ws.length ≤ 70000) (F : Fine ms) : Calls Try.prog 22 #[lv] w (FixForm ms w) :=
  (fixF_good lv ms w hP hK F).mono fun e W' ⟨⟨v, ns', he, hp, hb⟩, hB⟩ => by
    obtain ⟨q, c, rfl⟩ := hp.form
    exact ⟨q, c, ns', he, hp, hb, hB⟩
theorem kids_bare (ns : List Nd) : kidsOf (ns.map Nd.bare) = kidsOf ns := by
  unfold kidsOf
  rw [List.flatMap_map]; rfl
end Go.Proofs.Ytilighhccjdceaa

namespace Go.Proofs.Ytilighhccjdceaa
open Go.RowKit Go.Shelf
set_option linter.unusedVariables false

theorem range'_map_nodup (k : Nat) : ((List.range' 1 k).map Int.ofNat).Nodup := by
  rw [List.nodup_iff_pairwise_ne, List.pairwise_map]
  exact (List.nodup_range' (s := 1) (n := k)).imp fun h e => h (by injection e)
theorem fan_mem (k j : Nat) : ((j : Int) ∈ (List.range' 1 k).map Int.ofNat) ↔ 1 ≤ j ∧ j < 1 + k := by
  constructor
  · intro h
    obtain ⟨a, ha, e⟩ := List.mem_map.1 h
    have := List.mem_range'_1.1 ha
    have : a = j := by injection e
    omega
  · intro h
    exact List.mem_map.2 ⟨j, List.mem_range'_1.2 h, rfl⟩
def fanK (k : Nat) (i : Nat) : List Int := if i = 0 then (List.range' 1 k).map Int.ofNat else []
def fanV (v : Value) (i : Nat) : Value := if i = 0 then v else .slice none 0 0
theorem fan_in {n : Nat} : ∀ i, i < n → ∀ z ∈ fanK (n - 1) i, 1 ≤ z ∧ z < (n : Int) := fun i hi z hz => by
  unfold fanK at hz
  split at hz
  · obtain ⟨a, ha, rfl⟩ := List.mem_map.1 hz
    simp at ha; simp; omega
  · cases hz
theorem fan_kids {n : Nat} (h1 : 1 ≤ n) (kvf : Nat → Value) : kidsOf (zeroPg n kvf (fanK (n - 1))) = (List.range' 1 (n - 1)).map Int.ofNat := by
  rw [zero_kids]
  have e : List.range n = 0 :: (List.range' 1 (n - 1)) := by
    obtain ⟨m, rfl⟩ : ∃ m, n = m + 1 := ⟨n - 1, by omega⟩
    rw [List.range_eq_range', List.range'_succ]; rfl
  rw [e, List.flatMap_cons]
  have : (List.range' 1 (n - 1)).flatMap (fanK (n - 1)) = [] := by
    rw [List.flatMap_eq_nil_iff]
    intro i hi
    simp at hi
    unfold fanK
    rw [if_neg (by omega)]
  rw [this, List.append_nil]; rfl
theorem fan_fine {n : Nat} (h1 : 1 ≤ n) (h2 : n ≤ 65536) (kvf : Nat → Value) : Fine (zeroPg n kvf (fanK (n - 1))) := by
  have hl := zero_link (kvf := kvf) (fan_in (n := n))
  have hw : walkL n (kfOf (zeroPg n kvf (fanK (n - 1)))) = inOrder (fun i => if i = 0 then 1 else 2) n := by
    refine fan_walk h1 (kids_in hl) ?_ ?_
    · have := zero_kf n kvf (fanK (n - 1)) 0 (by omega)
      rw [show ((0 : Nat) : Int) = 0 from rfl] at this
      rw [this]; rfl
    · intro i hi hn
      rw [zero_kf _ _ _ _ hn]
      unfold fanK
      rw [if_neg (by omega)]
  have hd : depthsP (zeroPg n kvf (fanK (n - 1))) = (List.range n).map (fun i => (((if i = 0 then 1 else 2 : Nat)) : Int)) := by
    unfold depthsP
    rw [zero_len, hw, depL_all]
  refine ⟨by rw [zero_len]; exact h1, by rw [zero_len]; exact h2, zero_wrong _ _ _, by rw [zero_len]; exact hl, ?_, ?_⟩
  · rw [List.any_eq_false]
    intro x hx
    obtain ⟨j, hj⟩ := List.mem_iff_getElem?.1 hx
    rw [zero_len, hd] at hj
    obtain ⟨hlt, he⟩ := List.getElem?_eq_some_iff.1 hj
    have hjN : j < n := by simp [tms_len] at hlt; exact hlt
    have ht := tms_get n (kidsOf (zeroPg n kvf (fanK (n - 1)))) (fun z hz => by rw [fan_kids h1] at hz; obtain ⟨a, _, rfl⟩ := List.mem_map.1 hz; simp) j hjN
    rw [List.getElem?_eq_getElem (by rw [tms_len]; exact hjN)] at ht
    simp only [Option.getD_some] at ht
    have hc : ((kidsOf (zeroPg n kvf (fanK (n - 1)))).count (j : Int) : Int) = if j = 0 then 0 else 1 := by
      rw [fan_kids h1, (range'_map_nodup _).count]
      by_cases h : j = 0
      · rw [if_neg (fun hm => by have := (fan_mem _ _).1 hm; omega), if_pos h]; rfl
      · rw [if_pos ((fan_mem _ _).2 (by omega)), if_neg h]; rfl
    rw [hc] at ht
    rw [List.getElem_zip] at he
    rw [← he, ht]
    by_cases h : j = 0 <;> simp [strayB, h]
  · rw [hd, List.any_eq_false]
    intro z hz
    obtain ⟨i, hi, rfl⟩ := List.mem_map.1 hz
    by_cases h : i = 0 <;> simp [deepB, h]
/-- whether Check lets a page be hangs on its kids, and on whether a node is wrong -/
theorem Fine.kss {ns ns' : List Nd} (F : Fine ns) (h : ns'.map Nd.ks = ns.map Nd.ks) (hw : ns'.any wrongN = false) : Fine ns' := by
  have hl : ns'.length = ns.length := by have := congrArg List.length h; simpa using this
  have hk : kidsOf ns' = kidsOf ns := by
    unfold kidsOf
    rw [List.flatMap_def, List.flatMap_def]
    exact congrArg List.flatten h
  have hf : kfOf ns' = kfOf ns := by
    funext y
    have := congrArg (fun l => l[y.toNat]?) h
    simp only [List.getElem?_map] at this
    unfold kfOf
    cases h1 : ns[y.toNat]? <;> cases h2 : ns'[y.toNat]? <;> rw [h1, h2] at this <;> simp_all
  have hd : depthsP ns' = depthsP ns := by unfold depthsP; rw [hf, hl]
  refine ⟨by rw [hl]; exact F.len1, by rw [hl]; exact F.len2, hw, fun n hn z hz => ?_, by rw [hl, hk, hd]; exact F.stray, by rw [hd]; exact F.deep⟩
  have : z ∈ kidsOf ns' := List.mem_flatMap.2 ⟨n, hn, hz⟩
  rw [hk] at this
  obtain ⟨a, ha, hz2⟩ := List.mem_flatMap.1 this
  rw [hl]; exact F.link a ha z hz2
/-- a table of n kids of a kind -/
def tabN (n : Nat) (q : Int) (k : Nat) (v : Value) (j : Nat) (i : Nat) : Nd := { ndKids (fanV v i) (fanK k i) with k := if i = 0 then 2 else if i ≤ j then q else 0 }
def tabPg (n : Nat) (q : Int) (k : Nat) (v : Value) (j : Nat) : List Nd := (List.range (n + 1)).map (tabN n q k v j)
theorem tab_len (n : Nat) (q : Int) (k : Nat) (v : Value) (j : Nat) : (tabPg n q k v j).length = n + 1 := by simp [tabPg]
theorem tab_get (n : Nat) (q : Int) (k : Nat) (v : Value) (j i : Nat) (h : i < n + 1) : (tabPg n q k v j)[i]? = some (tabN n q k v j i) := by simp [tabPg, h]
theorem tab_fine (n : Nat) (q : Int) (hq : q = 10 ∨ q = 1) (v : Value) (h2 : n ≤ 1000) : Fine (tabPg n q n v n) := by
  have F := fan_fine (n := n + 1) (by omega) (by omega) (fun _ => .slice none 0 0)
  refine F.kss ?_ ?_
  · unfold tabPg zeroPg
    rw [List.map_map, List.map_map]; rfl
  · rw [List.any_eq_false]
    intro nd hn
    obtain ⟨i, hi, rfl⟩ := List.mem_map.1 hn
    have hi' := List.mem_range.1 hi
    unfold tabN
    by_cases h0 : i = 0
    · subst h0
      simp only [Bool.not_eq_true]; rfl
    · rw [if_neg h0, if_pos (show i ≤ n by omega)]
      have hk : fanK n i = [] := by unfold fanK; rw [if_neg h0]
      rw [hk]
      simp only [Bool.not_eq_true]
      rcases hq with rfl | rfl <;> rfl
/-- nodes without kids stay -/
theorem fixB_nil (ns : List Nd) (i : Nat) (h : ∀ n, ns[i]? = some n → n.ks = []) : fixB ns i = ns := by
  unfold fixB
  cases hi : ns[i]? with
  | none => rfl
  | some n =>
    have hk := h n hi
    simp only [hk]
    show ns.set i { n with ks := [] } ++ [] = ns
    rw [List.append_nil]
    have e : ({ n with ks := [] } : Nd) = n := by cases n; simp_all
    rw [e]
    apply List.ext_getElem?
    intro j
    by_cases hj : i = j
    · subst hj; rw [List.getElem?_set_self (List.getElem?_eq_some_iff.1 hi).1, hi]
    · rw [List.getElem?_set_ne hj]
/-- nodes all of whose kids may stand there stay -/
theorem FK_true (p : Int → Bool) (n : Nat) (ks : List Int) (h : ∀ z ∈ ks, p z = true) : (FK p n ks).1 = ks ∧ (FK p n ks).2.1 = [] := by
  by_cases hk : ks = []
  · subst hk; exact ⟨rfl, rfl⟩
  · unfold FK
    rw [fold_true p n ks _ h hk]; simp
theorem fixB_may (ns : List Nd) (i : Nat) (h : ∀ n, ns[i]? = some n → ∀ z ∈ n.ks, mayAt n.k ns z = true) : fixB ns i = ns := by
  unfold fixB
  cases hi : ns[i]? with
  | none => rfl
  | some n =>
    obtain ⟨h1, h2⟩ := FK_true (mayAt n.k ns) ns.length n.ks (h n hi)
    simp only [h1, h2, List.map_nil, List.append_nil]
    apply List.ext_getElem?
    intro j
    by_cases hj : i = j
    · subst hj; rw [List.getElem?_set_self (List.getElem?_eq_some_iff.1 hi).1, hi]
    · rw [List.getElem?_set_ne hj]
/-- one whose kids all may not stand there has one new node -/
theorem FK_false (p : Int → Bool) (n : Nat) (ks : List Int) (h : ∀ z ∈ ks, p z = false) (hk : ks ≠ []) : (FK p n ks).1 = [(n : Int)] ∧ (FK p n ks).2.1 = [ks] := by
  unfold FK
  rw [fold_false p n ks [] [] h hk]; simp
theorem fixB_not (ns : List Nd) (i : Nat) (n : Nd) (hi : ns[i]? = some n) (h : ∀ z ∈ n.ks, mayAt n.k ns z = false) (hk : n.ks ≠ []) : fixB ns i = ns.set i { n with ks := [(ns.length : Int)] } ++ [newNd n.k n.ks] := by
  unfold fixB
  rw [hi]
  obtain ⟨h1, h2⟩ := FK_false (mayAt n.k ns) ns.length n.ks h hk
  simp only [h1, h2, List.map_cons, List.map_nil]
theorem iter_keep (ns : List Nd) (i j : Nat) (hij : i ≤ j) (h : ∀ a, i ≤ a → a < j → fixB (iterB ns i) a = iterB ns i) : iterB ns j = iterB ns i := by
  induction j with
  | zero => obtain rfl : i = 0 := by omega
            rfl
  | succ j ih =>
    by_cases e : i = j + 1
    · rw [e]
    · have h1 := ih (by omega) (fun a h1 h2 => h a h1 (by omega))
      show fixB (iterB ns j) j = _
      rw [h1]; exact h j (by omega) (by omega)
def fanL (n : Nat) : List Int := (List.range' 1 n).map Int.ofNat
theorem fanL_mem {n : Nat} {z : Int} (h : z ∈ fanL n) : ∃ j : Nat, z = (j : Int) ∧ 1 ≤ j ∧ j ≤ n := by
  obtain ⟨a, ha, rfl⟩ := List.mem_map.1 h
  have := List.mem_range'_1.1 ha
  exact ⟨a, rfl, by omega, by omega⟩
theorem fanL_ne {n : Nat} (h : 1 ≤ n) : fanL n ≠ [] := fun e => by
  have := congrArg List.length e
  simp [fanL] at this; omega
theorem fanL_len (n : Nat) : (fanL n).length = n := by simp [fanL]
/-- the page behind the first node -/
def tab1 (n : Nat) (q : Int) : List Nd := ((tabPg n q n (.slice none 0 0) n).map compB).set 0 { compB (tabN n q n (.slice none 0 0) n 0) with ks := [((n + 1 : Nat) : Int)] } ++ [newNd 2 (fanL n)]
theorem tab_bare (n : Nat) (q : Int) (v : Value) : (tabPg n q n v n).map compB = (tabPg n q n (.slice none 0 0) n).map compB := by
  unfold tabPg
  rw [List.map_map, List.map_map]
  apply List.map_congr_left
  intro i _
  rfl
theorem tab1_kd (n : Nat) (q : Int) (j : Nat) (h1 : 1 ≤ j) (h2 : j ≤ n) : kdOf (tab1 n q) j = q := by
  unfold kdOf tab1
  rw [List.getElem?_append_left (by simp [tab_len]; omega), List.getElem?_set_ne (by omega), List.getElem?_map, tab_get _ _ _ _ _ _ (by omega)]
  simp only [Option.map_some, Option.getD_some]
  show (if j = 0 then (2 : Int) else if j ≤ n then q else 0) = q
  rw [if_neg (by omega), if_pos h2]
theorem tab_iter1 (n : Nat) (q : Int) (hq : q = 10 ∨ q = 1) (hn : 1 ≤ n) : iterB ((tabPg n q n (.slice none 0 0) n).map compB) 1 = tab1 n q := by
  show fixB ((tabPg n q n (.slice none 0 0) n).map compB) 0 = _
  have h0 : ((tabPg n q n (.slice none 0 0) n).map compB)[0]? = some (compB (tabN n q n (.slice none 0 0) n 0)) := by rw [List.getElem?_map, tab_get _ _ _ _ _ _ (by omega)]; rfl
  rw [fixB_not _ _ _ h0 ?_ ?_]
  · unfold tab1
    rw [List.length_map, tab_len]; rfl
  · intro z hz
    obtain ⟨j, rfl, h1, h2⟩ := fanL_mem (n := n) (z := z) hz
    unfold mayAt kdOf
    rw [Int.toNat_natCast, List.getElem?_map, tab_get _ _ _ _ _ _ (by omega)]
    simp only [Option.map_some, Option.getD_some]
    show mayP 2 (if j = 0 then (2 : Int) else if j ≤ n then q else 0) = false
    rw [if_neg (by omega), if_pos h2]
    rcases hq with rfl | rfl <;> decide
  · exact fanL_ne hn
theorem tab1_len (n : Nat) (q : Int) : (tab1 n q).length = n + 2 := by simp [tab1, tab_len]
theorem tab1_last (n : Nat) (q : Int) : (tab1 n q)[n + 1]? = some (newNd 2 (fanL n)) := by
  unfold tab1
  rw [List.getElem?_append_right (by simp [tab_len])]
  simp [tab_len]
theorem tab1_stay (n : Nat) (q : Int) (a : Nat) (h1 : 1 ≤ a) (h2 : a < n + 1) : fixB (tab1 n q) a = tab1 n q := by
  refine fixB_nil _ _ fun nd h => ?_
  unfold tab1 at h
  rw [List.getElem?_append_left (by simp [tab_len]; omega), List.getElem?_set_ne (by omega), List.getElem?_map, tab_get _ _ _ _ _ _ h2] at h
  simp only [Option.map_some, Option.some.injEq] at h
  subst h
  show fanK n a = []
  unfold fanK
  rw [if_neg (by omega)]
theorem tab_way (n : Nat) (q : Int) (hq : q = 10 ∨ q = 1) (h2 : n ≤ 1000) : Way ((tabPg n q n (.slice none 0 0) n).map compB) ∧ (kidsOf ((tabPg n q n (.slice none 0 0) n).map compB)).length ≤ ((tabPg n q n (.slice none 0 0) n).map compB).length := by
  have F := tab_fine n q hq (.slice none 0 0) h2
  refine ⟨F.way fun nd hn => ?_, by rw [kids_comp, List.length_map]; exact F.nodup⟩
  obtain ⟨i, hi, rfl⟩ := List.mem_map.1 hn
  show (fanK n i).length ≤ 70000
  unfold fanK
  split <;> simp; omega
/-- cells alone -/
theorem tab_cells (n : Nat) (hn : 1 ≤ n) (h2 : n ≤ 1000) (v : Value) : fixPg (tabPg n 10 n v n) = tab1 n 10 := by
  obtain ⟨hW, hk⟩ := tab_way n 10 (.inl rfl) h2
  unfold fixPg
  rw [tab_bare]
  have e1 := tab_iter1 n 10 (.inl rfl) hn
  have e2 : iterB ((tabPg n 10 n (.slice none 0 0) n).map compB) (n + 1) = tab1 n 10 := by
    rw [iter_keep _ 1 (n + 1) (by omega) (fun a g1 g2 => by rw [e1]; exact tab1_stay n 10 a g1 g2), e1]
  have e3 : iterB ((tabPg n 10 n (.slice none 0 0) n).map compB) (n + 2) = tab1 n 10 := by
    show fixB (iterB _ (n + 1)) (n + 1) = _
    rw [e2]
    refine fixB_may _ _ fun nd h => ?_
    rw [tab1_last] at h
    injection h with h
    subst h
    intro z hz
    obtain ⟨j, rfl, h1, h2⟩ := fanL_mem (n := n) (z := z) hz
    unfold mayAt
    rw [Int.toNat_natCast, tab1_kd n 10 j h1 h2]
    show mayP (aroundP 2) 10 = true
    decide
  rw [fixP_of hW hk (n + 2) (by rw [e3, tab1_len]), e3]
def tab2 (n : Nat) : List Nd := (tab1 n 1).set (n + 1) { newNd 2 (fanL n) with ks := [((n + 2 : Nat) : Int)] } ++ [newNd 9 (fanL n)]
theorem tab2_kd (n : Nat) (j : Nat) (h1 : 1 ≤ j) (h2 : j ≤ n) : kdOf (tab2 n) j = 1 := by
  have := tab1_kd n 1 j h1 h2
  unfold kdOf at this ⊢
  unfold tab2
  rw [List.getElem?_append_left (by simp [tab1_len]; omega), List.getElem?_set_ne (by omega)]
  exact this
/-- texts alone -/
theorem tab_texts (n : Nat) (hn : 1 ≤ n) (h2 : n ≤ 1000) (v : Value) : fixPg (tabPg n 1 n v n) = tab2 n := by
  obtain ⟨hW, hk⟩ := tab_way n 1 (.inr rfl) h2
  unfold fixPg
  rw [tab_bare]
  have e1 := tab_iter1 n 1 (.inr rfl) hn
  have e2 : iterB ((tabPg n 1 n (.slice none 0 0) n).map compB) (n + 1) = tab1 n 1 := by
    rw [iter_keep _ 1 (n + 1) (by omega) (fun a g1 g2 => by rw [e1]; exact tab1_stay n 1 a g1 g2), e1]
  have e3 : iterB ((tabPg n 1 n (.slice none 0 0) n).map compB) (n + 2) = tab2 n := by
    show fixB (iterB _ (n + 1)) (n + 1) = _
    rw [e2, fixB_not _ _ _ (tab1_last n 1) ?_ (fanL_ne hn)]
    · unfold tab2
      rw [tab1_len]; rfl
    · intro z hz
      obtain ⟨j, rfl, h1, h2⟩ := fanL_mem (n := n) (z := z) hz
      unfold mayAt
      rw [Int.toNat_natCast, tab1_kd n 1 j h1 h2]
      show mayP (aroundP 2) 1 = false
      decide
  have e4 : iterB ((tabPg n 1 n (.slice none 0 0) n).map compB) (n + 3) = tab2 n := by
    show fixB (iterB _ (n + 2)) (n + 2) = _
    rw [e3]
    refine fixB_may _ _ fun nd h => ?_
    have hl : (tab2 n)[n + 2]? = some (newNd 9 (fanL n)) := by
      unfold tab2
      rw [List.getElem?_append_right (by simp [tab1_len])]
      simp [tab1_len]
    rw [hl] at h
    injection h with h
    subst h
    intro z hz
    obtain ⟨j, rfl, h1, h2⟩ := fanL_mem (n := n) (z := z) hz
    unfold mayAt
    rw [Int.toNat_natCast, tab2_kd n j h1 h2]
    show mayP (aroundP 9) 1 = true
    decide
  rw [fixP_of hW hk (n + 3) (by rw [e4]; simp [tab2, tab1_len]), e4]
end Go.Proofs.Ytilighhccjdceaa
