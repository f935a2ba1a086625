/- A table of cells alone has one new row of all of them, one of texts alone a row with one cell: for every number of them. -/
import Derived.Test.YtdnnbkkfmjdboaaRows
import Derived.WalkKit
import Derived.ProofKit
import Derived.OpenShut
import Derived.Below
import Derived.Test.YtdnnbkkfmjdboaaFFan
import Derived.ShutString
namespace Go.Proofs.Ytdnnbkkfmjdboaa.fixupCells
open Go.ChangeShapes Go.WideShapes Go.ChangeAt Go.RowKit
set_option linter.unusedVariables false

theorem own : ownKnob Try.prog.godebug = none := by kernel_rfl

theorem flat_put (ns : List Nd) (i o : Nat) (n n' : Nd) (v : Value) (hi : ns[i]? = some n) (ho : o < 34) (hc : n'.cells = n.cells.set o v) : (flatN ns).set (i * 34 + o) v = flatN (ns.set i n') := by
  have hil := (List.getElem?_eq_some_iff.1 hi).1
  apply List.ext_getElem?
  intro k
  by_cases hk : k < ns.length * 34
  · obtain ⟨a, ha, hb⟩ := flat_at' (ns.set i n') k (by simpa using hk)
    obtain ⟨a', ha', hb'⟩ := flat_at' ns k hk
    rw [hb]
    by_cases he : k = i * 34 + o
    · subst he
      rw [List.getElem?_set_self (by rw [flatN_len]; omega)]
      rw [show (i * 34 + o) / 34 = i by omega, List.getElem?_set_self hil] at ha
      injection ha with ha
      subst ha
      rw [show (i * 34 + o) % 34 = o by omega, hc, List.getElem?_set_self (by rw [Nd.len]; omega)]
    · rw [List.getElem?_set_ne (by omega), hb']
      by_cases hd : k / 34 = i
      · rw [hd, List.getElem?_set_self hil] at ha
        rw [hd, hi] at ha'
        injection ha with ha; injection ha' with ha'
        subst ha ha'
        rw [hc, List.getElem?_set_ne (by omega)]
      · rw [List.getElem?_set_ne (fun e => hd e.symm), ha'] at ha
        injection ha with ha
        rw [ha]
  · rw [List.getElem?_eq_none (by rw [List.length_set, flatN_len]; omega), List.getElem?_eq_none (by rw [flatN_len, List.length_set]; omega)]
theorem tab_kids (n : Nat) (q : Int) (k : Nat) (v v' : Value) (j : Nat) : (flatN (tabPg n q k v j)).set 1 v' = flatN (tabPg n q (k + 1) v' j) := by
  have h := flat_put (tabPg n q k v j) 0 1 _ (tabN n q (k + 1) v' j 0) v' (tab_get n q k v j 0 (by omega)) (by omega) rfl
  rw [Nat.zero_mul, Nat.zero_add] at h
  rw [h]
  congr 1
  apply List.ext_getElem?
  intro i
  by_cases hi : i < n + 1
  · by_cases h0 : 0 = i
    · subst h0
      rw [List.getElem?_set_self (by rw [tab_len]; omega), tab_get _ _ _ _ _ _ hi]
    · rw [List.getElem?_set_ne h0, tab_get _ _ _ _ _ _ hi, tab_get _ _ _ _ _ _ hi]
      have e : ¬ i = 0 := by omega
      unfold tabN fanV fanK
      simp only [if_neg e]
  · rw [List.getElem?_eq_none (by rw [List.length_set, tab_len]; omega), List.getElem?_eq_none (by rw [tab_len]; omega)]
theorem tab_kind (n : Nat) (q : Int) (k : Nat) (v : Value) (j : Nat) (hj : j + 1 < n + 1) : (flatN (tabPg n q k v j)).set ((j + 1) * 34) (.int .i64 q) = flatN (tabPg n q k v (j + 1)) := by
  have h := flat_put (tabPg n q k v j) (j + 1) 0 _ (tabN n q k v (j + 1) (j + 1)) (.int .i64 q) (tab_get n q k v j (j + 1) hj) (by omega) (by
    have e1 : ¬ j + 1 = 0 := by omega
    have e2 : ¬ j + 1 ≤ j := by omega
    have e3 : j + 1 ≤ j + 1 := Nat.le_refl _
    unfold tabN
    simp only [if_neg e1, if_neg e2, if_pos e3]; rfl)
  rw [Nat.add_zero] at h
  rw [h]
  congr 1
  apply List.ext_getElem?
  intro i
  by_cases hi : i < n + 1
  · by_cases h0 : j + 1 = i
    · subst h0
      rw [List.getElem?_set_self (by rw [tab_len]; omega), tab_get _ _ _ _ _ _ hi]
    · rw [List.getElem?_set_ne h0, tab_get _ _ _ _ _ _ hi, tab_get _ _ _ _ _ _ hi]
      unfold tabN
      by_cases h1 : i = 0
      · rw [if_pos h1, if_pos h1]
      · rw [if_neg h1, if_neg h1]
        by_cases h2 : i ≤ j
        · rw [if_pos h2, if_pos (by omega)]
        · rw [if_neg h2, if_neg (by omega)]
  · rw [List.getElem?_eq_none (by rw [List.length_set, tab_len]; omega), List.getElem?_eq_none (by rw [tab_len]; omega)]
theorem tab_start (n : Nat) (q : Int) : (flatN (List.replicate (n + 1) Nd.zero)).set 0 (.int .i64 2) = flatN (tabPg n q 0 (.slice none 0 0) 0) := by
  have h := flat_put (List.replicate (n + 1) Nd.zero) 0 0 Nd.zero { Nd.zero with k := 2 } (.int .i64 2) (by simp) (by omega) rfl
  rw [Nat.zero_mul, Nat.zero_add] at h
  rw [h]
  congr 1
  apply List.ext_getElem?
  intro i
  by_cases hi : i < n + 1
  · rw [tab_get _ _ _ _ _ _ hi]
    by_cases h0 : 0 = i
    · subst h0
      rw [List.getElem?_set_self (by simp)]
      rfl
    · rw [List.getElem?_set_ne h0, List.getElem?_replicate, if_pos hi]
      have e1 : ¬ i = 0 := by omega
      have e2 : ¬ i ≤ 0 := by omega
      unfold tabN fanV fanK ndKids
      simp only [if_neg e1, if_neg e2]; rfl
  · rw [List.getElem?_eq_none (by simp; omega), List.getElem?_eq_none (by rw [tab_len]; omega)]
/-- the two pages under way -/
structure PI (L1 L2 n k1 j1 k2 j2 : Nat) (v1 v2 : Value) (X : World) : Prop where
  w1 : Whole X L1 49 (flatN (tabPg n 10 k1 v1 j1))
  o1 : X.ownsRow (L2 + 1) 3 1 v1 k1 ((fanL k1).map (Value.int .i64))
  w2 : Whole X L2 49 (flatN (tabPg n 1 k2 v2 j2))
  o2 : X.ownsRow (L2 + 1) 3 1 v2 k2 ((fanL k2).map (Value.int .i64))
  two : Two v1 v2
section
variable {L1 L2 n k1 j1 k2 j2 : Nat} {v1 v2 v' : Value} {V X : World}
theorem PI.alloc (h : PI L1 L2 n k1 j1 k2 j2 v1 v2 V) (o : Obj) : PI L1 L2 n k1 j1 k2 j2 v1 v2 (V.alloc o) := ⟨h.w1.alloc o, h.o1.alloc o, h.w2.alloc o, h.o2.alloc o, h.two⟩
theorem PI.add1 {o : Obj} (h : PI L1 L2 n k1 j1 k2 j2 v1 v2 V) (hL : L1 < L2) (ho : X.ownsRow (L2 + 1) 3 1 v' (k1 + 1) ((fanL (k1 + 1)).map (Value.int .i64))) (hg : (V.alloc o).grownBy X v1.ownBlock) (hf : v'.ownBlock = v1.ownBlock ∨ v'.ownBlock = some (V.heap.size + 1)) :
    PI L1 L2 n (k1 + 1) j1 k2 j2 v' v2 (X.setCell ⟨L1, 1, none⟩ v') := by
  have hb1 := fun g e => (h.o1.lt g e).1
  have hb2 := fun g e => (h.o2.lt g e)
  have hb' := fun g e => (ho.lt g e).1
  have a1 : Whole X L1 49 (flatN (tabPg n 10 k1 v1 j1)) := (h.w1.alloc o).grown hg (fun e => by have := hb1 _ e; omega)
  have a2 : Whole X L2 49 (flatN (tabPg n 1 k2 v2 j2)) := (h.w2.alloc o).grown hg (fun e => by have := hb1 _ e; omega)
  have a3 := (h.o2.alloc o).kept hg h.two.kept
  refine ⟨by rw [← tab_kids n 10 k1 v1 v' j1]; exact a1.set 1 v', own_setCell ho (fun e => by have := hb' _ e; omega), a2.other _ _ (show L2 ≠ L1 by omega), own_setCell a3 (fun e => by have := (hb2 _ e).1; omega), ?_⟩
  rcases hf with hf | hf
  · exact h.two.elim (fun k => .inl ⟨hf.trans k.1, k.2⟩) (fun k => .inr (by rw [hf]; exact k))
  · refine .inr fun e' => ?_
    have := (hb2 _ (e'.symm.trans hf)).2
    omega
theorem PI.add2 {o : Obj} (h : PI L1 L2 n k1 j1 k2 j2 v1 v2 V) (hL : L1 < L2) (ho : X.ownsRow (L2 + 1) 3 1 v' (k2 + 1) ((fanL (k2 + 1)).map (Value.int .i64))) (hg : (V.alloc o).grownBy X v2.ownBlock) (hf : v'.ownBlock = v2.ownBlock ∨ v'.ownBlock = some (V.heap.size + 1)) :
    PI L1 L2 n k1 j1 (k2 + 1) j2 v1 v' (X.setCell ⟨L2, 1, none⟩ v') := by
  have hb1 := fun g e => (h.o1.lt g e)
  have hb2 := fun g e => (h.o2.lt g e).1
  have hb' := fun g e => (ho.lt g e).1
  have a1 : Whole X L1 49 (flatN (tabPg n 10 k1 v1 j1)) := (h.w1.alloc o).grown hg (fun e => by have := hb2 _ e; omega)
  have a2 : Whole X L2 49 (flatN (tabPg n 1 k2 v2 j2)) := (h.w2.alloc o).grown hg (fun e => by have := hb2 _ e; omega)
  have a3 := (h.o1.alloc o).kept hg h.two.symm.kept
  refine ⟨a1.other _ _ (show L1 ≠ L2 by omega), own_setCell a3 (fun e => by have := (hb1 _ e).1; omega), by rw [← tab_kids n 1 k2 v2 v' j2]; exact a2.set 1 v', own_setCell ho (fun e => by have := hb' _ e; omega), ?_⟩
  rcases hf with hf | hf
  · exact h.two.elim (fun k => .inl ⟨k.1, hf.trans k.2⟩) (fun k => .inr (by rw [hf]; exact k))
  · refine .inr fun e' => ?_
    have := (hb1 _ (e'.trans hf)).2
    omega
theorem PI.kind1 (h : PI L1 L2 n k1 j1 k2 j2 v1 v2 V) (hL : L1 < L2) (hj : j1 + 1 < n + 1) : PI L1 L2 n k1 (j1 + 1) k2 j2 v1 v2 (V.setCell ⟨L1, (j1 + 1) * 34, none⟩ (.int .i64 10)) := by
  have hb1 := fun g e => (h.o1.lt g e).1
  have hb2 := fun g e => (h.o2.lt g e).1
  exact ⟨by rw [← tab_kind n 10 k1 v1 j1 hj]; exact h.w1.set _ _, own_setCell h.o1 (fun e => by have := hb1 _ e; omega), h.w2.other _ _ (show L2 ≠ L1 by omega), own_setCell h.o2 (fun e => by have := hb2 _ e; omega), h.two⟩
theorem PI.kind2 (h : PI L1 L2 n k1 j1 k2 j2 v1 v2 V) (hL : L1 < L2) (hj : j2 + 1 < n + 1) : PI L1 L2 n k1 j1 k2 (j2 + 1) v1 v2 (V.setCell ⟨L2, (j2 + 1) * 34, none⟩ (.int .i64 1)) := by
  have hb1 := fun g e => (h.o1.lt g e).1
  have hb2 := fun g e => (h.o2.lt g e).1
  exact ⟨h.w1.other _ _ (show L1 ≠ L2 by omega), own_setCell h.o1 (fun e => by have := hb1 _ e; omega), by rw [← tab_kind n 1 k2 v2 j2 hj]; exact h.w2.set _ _, own_setCell h.o2 (fun e => by have := hb2 _ e; omega), h.two⟩
end
theorem tab_page {X : World} {L n k base : Nat} {q : Int} {v : Value} {j c : Nat} (hw : Whole X L 49 (flatN (tabPg n q k v j))) (ho : X.ownsRow base 3 1 v k ((fanL k).map (Value.int .i64))) (hn : n ≤ 1000) : PageAt X (.slice (some ⟨L, 0, none⟩) (n + 1) c) (tabPg n q k v j) := by
  refine page_flat hw (tab_len _ _ _ _ _) (by omega) fun nd hnd => ?_
  obtain ⟨i, hi, rfl⟩ := List.mem_map.1 hnd
  obtain ⟨h1, h2, _⟩ := ints_own ho
  show Ints X (fanV v i) (fanK k i) ∧ Ints X (.slice none 0 0) [] ∧ CapOk (fanV v i) ∧ CapOk (.slice none 0 0)
  unfold fanV fanK
  by_cases h0 : i = 0
  · rw [if_pos h0, if_pos h0]
    exact ⟨h1, ints_nil _, h2, capok_slice _ _ _ (by omega) (by omega)⟩
  · rw [if_neg h0, if_neg h0]
    exact ⟨ints_nil _, ints_nil _, capok_slice _ _ _ (by omega) (by omega), capok_slice _ _ _ (by omega) (by omega)⟩
theorem tab_few (n : Nat) (q : Int) (v : Value) (hn : n ≤ 1000) : ∀ nd ∈ tabPg n q n v n, nd.ks.length ≤ 70000 ∧ nd.ws.length ≤ 70000 := fun nd hnd => by
  obtain ⟨i, hi, rfl⟩ := List.mem_map.1 hnd
  show (fanK n i).length ≤ 70000 ∧ ([] : List Int).length ≤ 70000
  unfold fanK
  split <;> simp; omega
theorem fanL_succ (k : Nat) : (fanL (k + 1)).map (Value.int .i64) = (fanL k).map (Value.int .i64) ++ [.int .i64 ((k : Int) + 1)] := by
  unfold fanL
  rw [List.range'_concat]; simp; omega
set_option maxRecDepth 100000 in
set_option maxHeartbeats 4000000 in
theorem cells_at (n : Nat) (h1 : 1 ≤ n) (h2 : n ≤ 100) (w : World) : Calls Try.prog 8 #[.int .i64 (n : Int)] w fun e w' => e = .returned (.bool true) ∧ Below w.heap.size w w' := by
  have hmk := make_nodes (n + 1) (by omega)
  obtain ⟨i0, hi0, hz0, hz1, hz2⟩ := info_parts Try.infoInt
  have g1 : decide (n < 1) = false := by simp; omega
  have g2 : decide (100 < n) = false := by simpa using h2
  have HS : Hid (∀ X : World, PI X.heap.size (X.heap.size + 1) n 0 0 0 0 (.slice none 0 0) (.slice none 0 0) ((X.alloc (.cells ((flatN (List.replicate (n + 1) Nd.zero)).toArray.setIfInBounds 0 (.int .i64 2)) 49)).alloc (.cells ((flatN (List.replicate (n + 1) Nd.zero)).toArray.setIfInBounds 0 (.int .i64 2)) 49))) := Lib.hid fun X => by
    rw [List.setIfInBounds_toArray]
    have a1 := (whole_new X ((flatN (List.replicate (n + 1) Nd.zero)).set 0 (.int .i64 2)) 49 _ rfl).alloc (.cells ((flatN (List.replicate (n + 1) Nd.zero)).set 0 (.int .i64 2)).toArray 49)
    have a2 := whole_new (X.alloc (.cells ((flatN (List.replicate (n + 1) Nd.zero)).set 0 (.int .i64 2)).toArray 49)) ((flatN (List.replicate (n + 1) Nd.zero)).set 0 (.int .i64 2)) 49 (X.heap.size + 1) (by simp)
    exact ⟨by rw [← tab_start n 10]; exact a1, World.ownsRow_nil _ _ _ _, by rw [← tab_start n 1]; exact a2, World.ownsRow_nil _ _ _ _, .inl ⟨rfl, rfl⟩⟩
  have e0 : (flatN (List.replicate (n + 1) Nd.zero)).toArray[0]? = some (.int .i64 0) := by
    have := flat_get (List.replicate (n + 1) Nd.zero) 0 Nd.zero 0 _ (by simp) rfl
    rw [List.getElem?_toArray]; exact this
  obtain ⟨zc, hzc⟩ : ∃ zc, (flatN (List.replicate (n + 1) Nd.zero)).toArray = zc := ⟨_, rfl⟩
  rw [hzc] at hmk HS e0
  clear hzc
  push_cast at hmk
  go_enter Try.func8, Try.ntmps8
  go_wp2_with (go_at_call 10; refine (shown5_any _).mono ?_; rintro e w1 ⟨rfl, hb1⟩; have HB1 := Lib.hid hb1; clear hb1)
  have LZ := Lib.hid (HS.out w1)
  have LB : Hid (Below w.heap.size w ((w1.alloc (.cells (zc.setIfInBounds 0 (.int .i64 2)) 49)).alloc (.cells (zc.setIfInBounds 0 (.int .i64 2)) 49))) := Lib.hid (by
    have := HB1.out.size
    exact (HB1.out.alloc HB1.out.size _).alloc (by simp; omega) _)
  clear hmk HS e0
  go_loopw [6] (fun s6 x => ∃ j : Nat, j ≤ n ∧ s6 = .int .i64 ((j : Int) + 1) ∧ Hid (∃ v1 v2, PI w1.heap.size (w1.heap.size + 1) n j j j j v1 v2 x) ∧ Hid (Below w.heap.size w x)) (fun s6 _ => n + 1 - (intOf s6).toNat)
  case atStart => exact ⟨0, by omega, rfl, Lib.hid ⟨_, _, LZ.out⟩, LB⟩
  case round =>
    obtain ⟨j, hj, rfl, HP, HB⟩ := hrel
    have hzz := HB1.out.size
    clear LZ LB
    by_cases hlt : j < n
    · obtain ⟨v1, v2, hp⟩ := HP.out
      have cj : wr.cell? ⟨w1.heap.size, 1, none⟩ = some v1 := by rw [hp.w1.cellAt]; exact flat_get (tabPg n 10 j v1 j) 0 _ 1 _ (tab_get _ _ _ _ _ _ (by omega)) rfl
      have lj := hp.w1.lt
      have lk := hp.w2.lt
      have HPP := Lib.hid hp
      have HK1 := Lib.hid (fanL_succ j)
      clear hp HP
      go_wp2_with (at_builtin; refine wpList_append_own_at _ rfl _ _ 36 rfl (w1.heap.size + 1 + 1) 3 i0 (.int .i64 0) 1 8 Try.underlying36 hi0 hz0 hz1 hz2 rfl (by decide) _ _ _ rfl (HPP.out.o1.alloc _) ⟨_, 0, none⟩ 1 1 [.int .i64 ((j : Int) + 1)] rfl rfl (cell_one_new _ _ _) (by intro u hu; simp at hu; subst hu; rfl) (by unfold maxLen; omega) (by omega) (by simp; omega) ?_)
      intro v' X hown hgrow _ hat
      obtain ⟨p7, k7, c7, rfl⟩ := own_slice hown
      have hP1 := HPP.out.add1 (o := .cells #[.int .i64 ((j : Int) + 1)] 3) (by omega) (v' := .slice p7 k7 c7) (X := X) (by rw [HK1.out]; exact hown) hgrow (by simpa using hat)
      have hxw := (HPP.out.alloc (.cells #[.int .i64 ((j : Int) + 1)] 3)).w1.grown hgrow (fun e => by have := (HPP.out.o1.lt _ e).1; omega)
      have x1 : X.cell? ⟨w1.heap.size, 1, none⟩ = some v1 := by rw [hxw.cellAt]; exact flat_get (tabPg n 10 j v1 j) 0 _ 1 _ (tab_get _ _ _ _ _ _ (by omega)) rfl
      have xf := hxw.free 1
      have xl := hxw.lt
      have hb7 : Below w.heap.size w (X.setCell ⟨w1.heap.size, 1, none⟩ (.slice p7 k7 c7)) := ((HB.out.alloc HB.out.size _).grown hgrow (by simp; have := HB.out.size; omega) (fun k e => by have := (HPP.out.o1.lt k e).1; omega)).setCell (p := ⟨w1.heap.size, 1, none⟩) hzz _
      have c2 : (X.setCell ⟨w1.heap.size, 1, none⟩ (.slice p7 k7 c7)).cell? ⟨w1.heap.size + 1, 1, none⟩ = some v2 := by rw [hP1.w2.cellAt]; exact flat_get (tabPg n 1 j v2 j) 0 _ 1 _ (tab_get _ _ _ _ _ _ (by omega)) rfl
      have HP1 := Lib.hid hP1
      have HB7 := Lib.hid hb7
      have x2l : w1.heap.size + 1 < X.heap.size := by have := hP1.w2.lt; simpa using this
      clear hown hgrow hat hP1 hxw hb7 HPP cj
      go_wp2_with (at_builtin; refine wpList_append_own_at _ rfl _ _ 36 rfl (w1.heap.size + 1 + 1) 3 i0 (.int .i64 0) 1 8 Try.underlying36 hi0 hz0 hz1 hz2 rfl (by decide) _ _ _ rfl (HP1.out.o2.alloc _) ⟨X.heap.size, 0, none⟩ 1 1 [.int .i64 ((j : Int) + 1)] rfl rfl (lay_new _ [.int .i64 ((j : Int) + 1)] _ _ (by simp)) (by intro u hu; simp at hu; subst hu; rfl) (by unfold maxLen; omega) (by omega) (by simp; omega) ?_)
      intro v' Y hown hgrow _ hat
      obtain ⟨p8, k8, c8, rfl⟩ := own_slice hown
      have hP2 := HP1.out.add2 (o := .cells #[.int .i64 ((j : Int) + 1)] 3) (by omega) (v' := .slice p8 k8 c8) (X := Y) (by rw [HK1.out]; exact hown) hgrow (by simpa using hat)
      have hyw := (HP1.out.alloc (.cells #[.int .i64 ((j : Int) + 1)] 3)).w2.grown hgrow (fun e => by have := (HP1.out.o2.lt _ e).1; omega)
      have y1 : Y.cell? ⟨w1.heap.size + 1, 1, none⟩ = some v2 := by rw [hyw.cellAt]; exact flat_get (tabPg n 1 j v2 j) 0 _ 1 _ (tab_get _ _ _ _ _ _ (by omega)) rfl
      have yf := hyw.free 1
      have yl := hyw.lt
      have hb8 : Below w.heap.size w (Y.setCell ⟨w1.heap.size + 1, 1, none⟩ (.slice p8 k8 c8)) := ((HB7.out.alloc HB7.out.size _).grown hgrow (by simp; have := HB7.out.size; simp at this; omega) (fun k e => by have := (HP1.out.o2.lt k e).1; omega)).setCell (p := ⟨w1.heap.size + 1, 1, none⟩) (show w.heap.size ≤ w1.heap.size + 1 by omega) _
      obtain ⟨Y2, hY2⟩ : ∃ Y2, Y.setCell ⟨w1.heap.size + 1, 1, none⟩ (.slice p8 k8 c8) = Y2 := ⟨_, rfl⟩
      have HP2 := Lib.hid hP2
      have HB8 := Lib.hid hb8
      clear hown hgrow hat hP2 hyw hb8 HP1 HB7 c2 x1 xf xl x2l lj lk HK1 HB
      have ck1 : (Y.setCell ⟨w1.heap.size + 1, 1, none⟩ (.slice p8 k8 c8)).cell? ⟨w1.heap.size, (j + 1) * 34, none⟩ = some (.int .i64 0) := by
        rw [HP2.out.w1.cellAt]
        refine Eq.trans (flat_get (tabPg n 10 (j + 1) (.slice p7 k7 c7) j) (j + 1) _ 0 _ (tab_get _ _ _ _ _ _ (by omega)) rfl) ?_
        have e1 : ¬ j + 1 = 0 := by omega
        have e2 : ¬ j + 1 ≤ j := by omega
        unfold tabN
        simp only [if_neg e1, if_neg e2]
      have fk1 := HP2.out.w1.free ((j + 1) * 34)
      have lk1 := HP2.out.w1.lt
      have hP3 := HP2.out.kind1 (by omega) (show j + 1 < n + 1 by omega)
      have ck2 : ((Y.setCell ⟨w1.heap.size + 1, 1, none⟩ (.slice p8 k8 c8)).setCell ⟨w1.heap.size, (j + 1) * 34, none⟩ (.int .i64 10)).cell? ⟨w1.heap.size + 1, (j + 1) * 34, none⟩ = some (.int .i64 0) := by
        rw [hP3.w2.cellAt]
        refine Eq.trans (flat_get (tabPg n 1 (j + 1) (.slice p8 k8 c8) j) (j + 1) _ 0 _ (tab_get _ _ _ _ _ _ (by omega)) rfl) ?_
        have e1 : ¬ j + 1 = 0 := by omega
        have e2 : ¬ j + 1 ≤ j := by omega
        unfold tabN
        simp only [if_neg e1, if_neg e2]
      have fk2 := hP3.w2.free ((j + 1) * 34)
      have lk2 := hP3.w2.lt
      have HP4 := Lib.hid (hP3.kind2 (by omega) (show j + 1 < n + 1 by omega))
      have HB9 := Lib.hid ((HB8.out.setCell (p := ⟨w1.heap.size, (j + 1) * 34, none⟩) hzz (.int .i64 10)).setCell (p := ⟨w1.heap.size + 1, (j + 1) * 34, none⟩) (show w.heap.size ≤ w1.heap.size + 1 by omega) (.int .i64 1))
      clear hP3 HP2 HB8 hY2
      have hjn : (j : Int) + 1 < (n : Int) + 1 := by omega
      go_wp2
      exact ⟨⟨j + 1, by omega, by go_num, Lib.hid ⟨_, _, HP4.out⟩, HB9⟩, by simp [intOf]; omega⟩
    · obtain rfl : j = n := by omega
      obtain ⟨v1, v2, hp⟩ := HP.out
      have p1 := tab_page (c := j + 1) hp.w1 hp.o1 (by omega)
      have p2 := tab_page (c := j + 1) hp.w2 hp.o2 (by omega)
      have F1 := Lib.hid (fix_form _ _ wr p1 (tab_few j 10 v1 (by omega)) (tab_fine j 10 (.inl rfl) v1 (by omega)))
      have F2 := Lib.hid (fun X (h : PageAt X (.slice (some ⟨w1.heap.size + 1, 0, none⟩) (j + 1) (j + 1)) (tabPg j 1 j v2 j)) => fix_form _ _ X h (tab_few j 1 v2 (by omega)) (tab_fine j 1 (.inr rfl) v2 (by omega)))
      have P2 := Lib.hid p2
      have T1 := Lib.hid (tab_cells j h1 (by omega) v1)
      have T2 := Lib.hid (tab_texts j h1 (by omega) v2)
      have hjn : ¬ (j : Int) + 1 ≤ (j : Int) := by omega
      clear p1 p2 hp HP hlt
      go_wp2_with fail
      refine F1.out.mono ?_
      clear F1
      rintro e w3 ⟨q3, c3, ns3, rfl, hp3, hb3, hB3⟩
      rw [T1.out] at hb3
      have hl3 : ns3.length = j + 2 := by have := congrArg List.length hb3; rw [List.length_map, tab1_len] at this; exact this
      rw [hl3] at hp3 ⊢
      obtain ⟨b, off, rfl, _, hc3⟩ := page_cells hp3 (by omega)
      have hk3 := bare_kk hb3
      obtain ⟨n3, hn3, e3, f3⟩ := bare_get hk3 (i := j + 1) (x := (9, fanL j)) (by rw [List.getElem?_map, tab1_last]; rfl)
      obtain ⟨a3, b3, I3, l3⟩ := hc3 (j + 1) n3 hn3
      obtain ⟨q, c, hkv⟩ := I3.form
      dsimp only at e3 f3
      rw [hkv, f3, fanL_len] at b3
      rw [e3] at a3
      have P2' := Lib.hid (P2.out.below hB3)
      have HB3 := Lib.hid (HB.out.trans (hB3.mono HB.out.size))
      clear hp3 hb3 hB3 hl3 hc3 hk3 hn3 e3 f3 I3 hkv P2 T1 HB
      go_wp2_with fail
      refine (F2.out _ P2'.out).mono ?_
      clear F2 P2'
      rintro e w4 ⟨q4, c4, ns4, rfl, hp4, hb4, hB4⟩
      rw [T2.out] at hb4
      have hl4 : ns4.length = j + 3 := by have := congrArg List.length hb4; rw [List.length_map] at this; simpa [tab2, tab1_len] using this
      rw [hl4] at hp4 ⊢
      obtain ⟨b4, off4, rfl, _, hc4⟩ := page_cells hp4 (by omega)
      have hk4 := bare_kk hb4
      have t1 : (tab2 j)[j + 1]? = some { newNd 2 (fanL j) with ks := [((j + 2 : Nat) : Int)] } := by
        unfold tab2
        rw [List.getElem?_append_left (by simp [tab1_len]), List.getElem?_set_self (by simp [tab1_len])]
      have t2 : (tab2 j)[j + 2]? = some (newNd 9 (fanL j)) := by
        unfold tab2
        rw [List.getElem?_append_right (by simp [tab1_len])]
        simp [tab1_len]
      obtain ⟨n4, hn4, e4, f4⟩ := bare_get hk4 (i := j + 1) (x := (9, [((j + 2 : Nat) : Int)])) (by rw [List.getElem?_map, t1]; rfl)
      obtain ⟨n5, hn5, e5, f5⟩ := bare_get hk4 (i := j + 2) (x := (10, fanL j)) (by rw [List.getElem?_map, t2]; rfl)
      obtain ⟨a4, d4, I4, l4⟩ := hc4 (j + 1) n4 hn4
      obtain ⟨a5, d5, I5, l5⟩ := hc4 (j + 2) n5 hn5
      obtain ⟨q4, c4', hkv4⟩ := I4.form
      obtain ⟨q5, c5, hkv5⟩ := I5.form
      dsimp only at e4 f4 e5 f5
      rw [hkv4, f4] at d4 I4
      rw [hkv5, f5, fanL_len] at d5
      rw [e4] at a4
      rw [e5] at a5
      simp only [List.length_cons, List.length_nil, Nat.zero_add] at d4 I4
      have a3' := (hB4.cell (p := ⟨b, off + (j + 1) * 34, none⟩) l3).trans a3
      have b3' := (hB4.cell (p := ⟨b, off + (j + 1) * 34 + 1, none⟩) l3).trans b3
      have HI4 := Lib.hid I4
      have HB4 := Lib.hid (HB3.out.trans (hB4.mono HB3.out.size))
      have l3' := Nat.lt_of_lt_of_le l3 hB4.size
      clear hp4 hb4 hB4 hl4 hc4 hk4 hn4 hn5 t1 t2 e4 f4 e5 f5 I4 I5 hkv4 hkv5 T2 a3 b3 l3 HB3
      go_wp2_with fail
      have J0 : Hid (Calls Try.prog 22 #[.slice q4 1 c4', .slice (some ⟨w4.heap.size, 0, none⟩) 1 1] (w4.alloc (.cells #[.int .i64 ((j : Int) + 2)] 3)) fun e W' => e = .returned (.bool true) ∧ Below w4.heap.size w4 W') := Lib.hid (by
        refine (ints_any _ _ [((j : Int) + 2)] [((j : Int) + 2)] _ ((by have := HI4.out; push_cast at this; exact this : Ints w4 (.slice q4 1 c4') [((j : Int) + 2)]).below ((Below.refl _ _).alloc (Nat.le_refl _) _)) (Ints.whole (t := 3) (whole_new w4 [.int .i64 ((j : Int) + 2)] 3 _ rfl) rfl (by simp))).mono ?_
        rintro e w' ⟨rfl, n, rfl⟩
        exact ⟨by simp, ((Below.refl _ w4).alloc (Nat.le_refl _) _).trans (below_dn _ _ n)⟩)
      refine J0.out.mono ?_
      clear J0 HI4
      rintro e w5 ⟨rfl, hb5⟩
      have z5 := (hb5.cell (p := ⟨b4, off4 + (j + 2) * 34, none⟩) l5).trans a5
      have y5 := (hb5.cell (p := ⟨b4, off4 + (j + 2) * 34 + 1, none⟩) l5).trans d5
      have HB5 := Lib.hid (HB4.out.trans (hb5.mono HB4.out.size))
      have l5' := Nat.lt_of_lt_of_le l5 hb5.size
      clear hb5 HB4 a3' b3' a4 a5 d4 d5
      go_wp2
      go_ret
      exact ⟨rfl, HB5.out⟩
set_option maxRecDepth 100000 in
set_option maxHeartbeats 1000000 in
theorem walk (a0 : Int) (h0 : (Lit.int .i64 a0).wf = true) (w : World) : Calls Try.prog 8 #[.int .i64 a0] w fun e w' => e = .returned (.bool true) ∧ Below w.heap.size w w' := by
  by_cases h1 : a0 < 1
  · go_enter Try.func8, Try.ntmps8
    go_wp2_with (go_at_call 10; refine (shown5_any _).mono ?_; rintro e w1 ⟨rfl, hb1⟩)
    go_ret
    exact ⟨rfl, hb1⟩
  · by_cases h2 : 100 < a0
    · go_enter Try.func8, Try.ntmps8
      go_wp2_with (go_at_call 10; refine (shown5_any _).mono ?_; rintro e w1 ⟨rfl, hb1⟩)
      go_ret
      exact ⟨rfl, hb1⟩
    · obtain ⟨k, rfl⟩ := Int.eq_ofNat_of_zero_le (show 0 ≤ a0 by omega)
      exact cells_at k (by omega) (by omega) w

set_option maxRecDepth 100000 in
theorem lifted (os : Os) (started : os.Started) (H : Type) (enc : TypeId × Value → H) :
    ReturnsInHanded {} Try.checked os 8 .any (Rows.fixupCellsSpec.pre6 enc Try.prog Try.f8 Rows.fixupCellsRow.domain false) (Rows.fixupCellsSpec.post enc Try.prog Try.f8 false true false false) := by
  refine returnsInHanded_of_change (C := Try.checked) own started (by kernel_rfl) Try.func8
    (ChangeSpec.witness6 (enc := enc) (C := Try.checked) false ⟨#[], #[.int .i64 0], []⟩ 8 (by kernel_rfl) (by kernel_rfl) (by kernel_rfl) (by kernel_rfl)) ?_
  intro W base args ds gs before hval0 hW hcnd _
  have hval : ∀ (j : Nat) t v, Try.f8.params[j]? = some t → args[j]? = some v → Value.okWide Try.prog W .any base t v := hval0
  have hW' := hW
  obtain ⟨p, q, hA0, hV, rfl, hfz, hnd⟩ := hW
  have hA : DataW.TrodAll enc Try.prog W 0 (fun _ => true) true Try.f8.params.toList args.toList ds p := hA0
  rw [Try.params8] at hA hval
  obtain ⟨v0, vs0, d0, ds0, p0, q0, hargs, rfl, rfl, h0, r0⟩ := trodAll_cons hA
  obtain ⟨rfl, rfl, rfl⟩ := trodAll_nil r0
  obtain rfl : args = #[v0] := by cases args; simp_all
  obtain ⟨rfl, rfl⟩ := trodVars_none hV
  obtain ⟨a0, rfl, rfl, rfl, w0⟩ := open_int Try.underlying3 (hval 0 3 v0 rfl rfl) h0
  clear hA0 hval0
  simp only [List.append_nil] at hW'
  refine (walk a0 w0 W).mono fun e W' ⟨he, hg⟩ => ?_
  subst he
  exact ⟨_, rfl, _, _, _, [], [], [], hW', (trodAll_cons_mk (shut_bool Try.underlying4 _) trodAll_mk0), (trodAll_cons_mk (shut_int Try.underlying3 w0) trodAll_mk0), rfl, hg.frame _, fun h => by cases h⟩

theorem over : Rows.fixupCellsRow.holds Try.pinned (OpenSpec.ofChange Rows.fixupCellsSpec) :=
  OpenClaim.holds_of_wide 8 Try.f8 rfl rfl rfl rfl rfl rfl rfl ⟨rfl, rfl, rfl, rfl, rfl⟩ rfl rfl rfl rfl rfl (by kernel_rfl) Try.func8 (by kernel_rfl)
    (of_decide_eq_true (by kernel_rfl)) (by unfold Func.isWrapper; first | (rw [if_pos (by decide +kernel)]; kernel_rfl) | (rw [if_neg (by decide +kernel)]; exact ⟨rfl, rfl⟩))
    (fun os started H enc _ => lifted os started H enc)

/-- the statement -/
theorem proved : Rows.FixupCellsSaid :=
  over
#print axioms proved
end Go.Proofs.Ytdnnbkkfmjdboaa.fixupCells
