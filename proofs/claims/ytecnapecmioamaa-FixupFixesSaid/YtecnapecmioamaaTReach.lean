/- The document's reached: is a place met from the root? Breadth first. -/
import Derived.Test.YtecnapecmioamaaTRec
namespace Go.Proofs.Ytecnapecmioamaa
open Go.RowKit Go.Shelf
set_option linter.unusedVariables false
set_option linter.unusedSimpArgs false
attribute [local go_sem] Oper.semAt_some

theorem walk_reach {ns : List Nd} (h1 : 1 ≤ ns.length) (hl : ∀ n ∈ ns, ∀ z ∈ n.ks, 1 ≤ z ∧ z < (ns.length : Int)) : ∀ x ∈ walkL ns.length (kfOf ns), 0 ≤ x.1 ∧ Reach ns x.1.toNat := by
  have hki := kids_in hl
  obtain ⟨vis, st, hr, hn⟩ := walk_facts h1 hki
  have hup := hr.up
  have hall : ∀ (i : Nat) (z : Int) (d : Nat), (walkL ns.length (kfOf ns))[i]? = some (z, d) → 0 ≤ z ∧ Reach ns z.toNat := by
    intro i
    induction i using Nat.strongRecOn with
    | _ i ih =>
      intro z d hz
      rcases hup i z d hz with ⟨_, rfl, _⟩ | ⟨a, q, e, hai, hq, hzq, _⟩
      · exact ⟨by omega, .root⟩
      · obtain ⟨hq0, hqr⟩ := ih a hai q e hq
        obtain ⟨n, hn1, hn2⟩ := kf_mem hzq
        have hzl := hl n (List.mem_iff_getElem?.2 ⟨_, hn1⟩) z hn2
        exact ⟨by omega, .kid hqr hn1 (by rw [Int.toNat_of_nonneg (by omega)]; exact hn2)⟩
  intro x hx
  obtain ⟨i, hi⟩ := List.mem_iff_getElem?.1 hx
  exact hall i x.1 x.2 hi
/-- is a place met by the walk? -/
def metB (ns : List Nd) (z : Int) : Bool := ((walkL ns.length (kfOf ns)).map Prod.fst).contains z
theorem reach_iff {ns : List Nd} (h1 : 1 ≤ ns.length) (hl : ∀ n ∈ ns, ∀ z ∈ n.ks, 1 ≤ z ∧ z < (ns.length : Int)) (j : Nat) : Reach ns j ↔ metB ns (j : Int) = true := by
  constructor
  · intro h
    obtain ⟨d, hd⟩ := reach_met h1 hl h
    simp only [metB, List.contains_iff_mem]
    exact List.mem_map.2 ⟨_, hd, rfl⟩
  · intro h
    simp only [metB, List.contains_iff_mem] at h
    obtain ⟨x, hx, e⟩ := List.mem_map.1 h
    have := (walk_reach h1 hl x hx).2
    rw [e, Int.toNat_natCast] at this
    exact this
/-- whether each place is in a list -/
def metL (m : Nat) (L : List Int) : List Value := (List.range m).map fun (j : Nat) => Value.bool (L.contains (j : Int))
theorem metL_get (m : Nat) (L : List Int) (j : Nat) (hj : j < m) : (metL m L)[j]? = some (.bool (L.contains (j : Int))) := by
  unfold metL; rw [List.getElem?_map, List.getElem?_range hj]; rfl
theorem metL_len (m : Nat) (L : List Int) : (metL m L).length = m := by simp [metL]
theorem metL_set (m : Nat) (L : List Int) (j : Nat) (hj : j < m) : (metL m L).set j (.bool true) = metL m (L ++ [(j : Int)]) := by
  apply List.ext_getElem?
  intro i
  rw [List.getElem?_set]
  by_cases him : i < m
  · rw [metL_get m L i him, metL_get m _ i him, metL_len]
    by_cases e : j = i
    · subst e; rw [if_pos rfl, if_pos hj]; simp
    · rw [if_neg e]
      have : (L ++ [(j : Int)]).contains (i : Int) = L.contains (i : Int) := by
        have h0 : ¬ ((i : Int) = (j : Int)) := by omega
        rw [Bool.eq_iff_iff]; simp [h0]
      rw [this]
  · have h1 : (metL m L)[i]? = none := List.getElem?_eq_none_iff.2 (by rw [metL_len]; omega)
    have h2 : (metL m (L ++ [(j : Int)]))[i]? = none := List.getElem?_eq_none_iff.2 (by rw [metL_len]; omega)
    rw [h1, h2, metL_len]
    by_cases e : j = i
    · omega
    · rw [if_neg e]
theorem metL_nil (m : Nat) : metL m [] = List.replicate m (.bool false) := by
  unfold metL
  rw [show (fun j : Nat => Value.bool (([] : List Int).contains (j : Int))) = fun _ => Value.bool false from rfl, List.map_const', List.length_range]
theorem Try.infoBool : (Try.prog.info? 4).map (fun i => (i.zero, i.size, i.bytes)) = some (some (.bool false), 1, 1) := by kernel_rfl
theorem make_bools (m : Nat) (hm : m ≤ 1000000000) (w : World) : (Instr.makeSlice 58 (.int .i64 m) (.int .i64 m)).run Try.prog w = .ok (.slice (some ⟨w.heap.size, 0, none⟩) m m) (w.alloc (.cells (metL m []).toArray 4)) := by
  cases hi : Try.prog.info? 4 with
  | none => have := Try.infoBool; rw [hi] at this; cases this
  | some i =>
    have h := Try.infoBool
    rw [hi] at h
    simp only [Option.map_some, Option.some.injEq, Prod.mk.injEq] at h
    obtain ⟨hz, h1, h2⟩ := h
    have hr := run_make (P := Try.prog) w 58 4 i (.bool false) Try.underlying58 hi hz .i64 .i64 m m (by omega) (Int.le_refl _) (by rw [h2]; omega) (by omega)
    rw [hr, h1]
    simp only [Int.toNat_natCast]
    rw [show (madeCells (Value.bool false).cells (m * 1)) = (metL m []).toArray from by
      apply Array.toList_inj.1
      rw [show (Value.bool false).cells = #[Value.bool false] from rfl, toList_madeCells_one, metL_nil]; simp]
/-- what has been met so far -/
structure BF (ns : List Nd) (m : Nat) (L : List Int) : Prop where
  nd : L.Nodup
  rng : ∀ z ∈ L, 0 ≤ z ∧ z < (m : Int)
  root : (0 : Int) ∈ L
  reach : ∀ z ∈ L, Reach ns z.toNat
theorem BF.len {ns : List Nd} {m : Nat} {L : List Int} (h : BF ns m L) : L.length ≤ m := by
  have := nodup_sub L ((List.range m).map fun (j : Nat) => (j : Int)) h.nd (fun z hz => by
    obtain ⟨h1, h2⟩ := h.rng z hz
    exact List.mem_map.2 ⟨z.toNat, List.mem_range.2 (by omega), by omega⟩)
  simpa using this
theorem BF.one (ns : List Nd) (m : Nat) (hm : 1 ≤ m) : BF ns m [0] := ⟨by simp, fun z hz => by simp at hz; omega, by simp, fun z hz => by simp at hz; subst hz; exact .root⟩
theorem BF.more {ns : List Nd} {m : Nat} {L : List Int} (h : BF ns m L) {z : Int} {j : Nat} {n : Nd} (hz : z ∈ L) (hn : ns[z.toNat]? = some n) (hj : (j : Int) ∈ n.ks) (hjm : j < m) (hnew : L.contains (j : Int) = false) : BF ns m (L ++ [(j : Int)]) := by
  have hnew' : (j : Int) ∉ L := by simpa using hnew
  refine ⟨List.nodup_append.2 ⟨h.nd, by simp, fun a ha b hb => ?_⟩, fun y hy => ?_, by simp [h.root], fun y hy => ?_⟩
  · simp at hb; subst hb; intro e; exact hnew' (e ▸ ha)
  · rcases List.mem_append.1 hy with h1 | h1
    · exact h.rng y h1
    · simp at h1; subst h1; omega
  · rcases List.mem_append.1 hy with h1 | h1
    · exact h.reach y h1
    · simp at h1; subst h1; rw [Int.toNat_natCast]; exact .kid (h.reach z hz) hn hj
/-- what is met, when all kids of what is met are met -/
theorem BF.all {ns : List Nd} {L : List Int} (h : BF ns ns.length L) (h1 : 1 ≤ ns.length) (hl : ∀ n ∈ ns, ∀ z ∈ n.ks, 1 ≤ z ∧ z < (ns.length : Int)) (hc : ∀ z ∈ L, ∀ y ∈ kfOf ns z, y ∈ L) (j : Nat) : L.contains (j : Int) = metB ns (j : Int) := by
  rw [Bool.eq_iff_iff, ← reach_iff h1 hl]
  constructor
  · intro hj
    have := h.reach (j : Int) (by simpa using hj)
    rw [Int.toNat_natCast] at this; exact this
  · intro hr
    have : (j : Int) ∈ L := by
      induction hr with
      | root => exact h.root
      | @kid p j n hp hn hj ih => exact hc _ ih _ (by unfold kfOf; rw [Int.toNat_natCast, hn]; exact hj)
    simpa using this
/-- all that holds of the world while it looks -/
def BW (g m : Nat) (w X : World) (s6 : Value) (L : List Int) : Prop := OwnI (g + 1) X s6 L ∧ Whole X g 4 (metL m L) ∧ Below w.heap.size w X ∧ g + 1 ≤ X.heap.size
theorem bw_step {m l2 : Nat} {w S w1 : World} {v v1 : Value} {L2 : List Int} {y : Int} {o : Obj} (h1 : S.ownsRow (w.heap.size + 1) 3 1 v l2 (L2.map (Value.int .i64))) (h2 : Whole S w.heap.size 4 (metL m (L2 ++ [y]))) (h3 : Below w.heap.size w S) (hs : w.heap.size ≤ S.heap.size)
    (hl : L2.length = l2) (ho : w1.ownsRow (w.heap.size + 1) 3 1 v1 (l2 + 1) (L2.map (Value.int .i64) ++ [.int .i64 y])) (hg : (S.alloc o).grownBy w1 v.ownBlock) : BW w.heap.size m w w1 v1 (L2 ++ [y]) := by
  have hW : Whole w1 w.heap.size 4 (metL m (L2 ++ [y])) := (h2.alloc o).grown hg (fun e => by have := (h1.lt _ e).1; omega)
  refine ⟨?_, hW, (h3.alloc hs o).grown hg (by simp; omega) (fun k e => by have := (h1.lt k e).1; omega), hW.lt⟩
  unfold OwnI
  rw [List.length_append, hl, List.map_append]; exact ho
set_option maxRecDepth 100000 in
set_option maxHeartbeats 4000000 in
theorem reached_at (b off cap m t : Nat) (ns : List Nd) (w : World) (hm : ns.length = m) (h1 : 1 ≤ m) (h2 : m ≤ 65536) (ht : t < m) (hP : PageAt w (.slice (some ⟨b, off, none⟩) m cap) ns) (hK : ∀ n ∈ ns, n.ks.length ≤ 70000)
    (hL : ∀ n ∈ ns, ∀ z ∈ n.ks, 1 ≤ z ∧ z < (m : Int)) (d : Bool) (hd : d = metB ns (t : Int)) :
    Calls Try.prog 20 #[.slice (some ⟨b, off, none⟩) m cap, .int .i64 t] w fun e W' => e = .returned (.bool d) ∧ Below w.heap.size w W' := by
  have HC : Hid (∀ (j : Nat) (n : Nd), ns[j]? = some n → w.cell? ⟨b, off + j * 34 + 1, none⟩ = some n.kv ∧ Ints w n.kv n.ks ∧ b < w.heap.size) := Lib.hid (by
    obtain ⟨b', off', e, _, hc⟩ := page_cells hP h1
    injection e with e; injection e with e1 e2
    subst e1 e2
    exact fun j n hn => (hc j n hn).2)
  have HALL : Hid (∀ L, BF ns m L → (∀ z ∈ L, ∀ y ∈ kfOf ns z, y ∈ L) → L.contains (t : Int) = d) := Lib.hid fun L hBF hcl => by
    subst hm; rw [hd]; exact hBF.all h1 hL hcl t
  have HM := Lib.hid hm
  have HKF := Lib.hid hK
  have HLI := Lib.hid hL
  have hmk := make_bools m (by omega)
  clear hm hK hL hP hd
  have q0 : (metL m [])[0]? = some (.bool false) := metL_get m [] 0 (by omega)
  have q1 : (metL m []).toArray[0]? = some (.bool false) := by simpa using q0
  go_enter Try.func20, Try.ntmps20
  go_wp2
  have HW0 : Hid (BW w.heap.size m w ((w.alloc (.cells ((metL m []).set 0 (.bool true)).toArray 4)).alloc (.cells #[.int .i64 0] 3)) (.slice (some ⟨w.heap.size + 1, 0, none⟩) 1 1) [0]) := Lib.hid (by
    have e0 : (metL m []).set 0 (.bool true) = metL m [0] := metL_set m [] 0 (by omega)
    rw [e0]
    refine ⟨?_, (whole_new w (metL m [0]) 4 _ rfl).alloc _, ((Below.refl _ w).alloc (Nat.le_refl _) _).alloc (by simp) _, by simp⟩
    have h0 := World.ownsRow_lit (base := w.heap.size + 1) (size := 1) (e := 3) (w.alloc (.cells (metL m [0]).toArray 4)) #[.int .i64 0] 1 (by simp) (by unfold maxLen; omega) (by simp)
    simpa [OwnI] using h0)
  clear hmk q0 q1
  go_loopw [6, 7] (fun s6 s7 X => ∃ (i : Nat) (L : List Int), i ≤ L.length ∧ s7 = .int .i64 i ∧ Hid (BF ns m L) ∧ Hid (∀ j z, j < i → L[j]? = some z → ∀ y ∈ kfOf ns z, y ∈ L) ∧ Hid (BW w.heap.size m w X s6 L)) (fun _ s7 _ => m - (intOf s7).toNat)
  case atStart => exact ⟨0, [0], by omega, rfl, Lib.hid (BF.one ns m h1), Lib.hid fun j z hj => by omega, HW0⟩
  case round =>
    obtain ⟨i, L, hi, rfl, HF, HCL, HWX⟩ := hrel
    obtain ⟨x1, x2, x3, x4⟩ := HWX.out
    have hlm := HF.out.len
    obtain ⟨q6, c6, rfl⟩ := (ints_own x1).1.form
    obtain ⟨l, hl⟩ : ∃ l, L.length = l := ⟨_, rfl⟩
    rw [hl] at hi hlm HWX ⊢
    have HLL := Lib.hid hl
    have IX := (ints_own x1).1
    rw [hl] at IX
    have HIX := Lib.hid IX
    clear x1 x2 x3 hl IX HW0
    by_cases hlt : i < l
    · obtain ⟨z, hz⟩ : ∃ z, L[i]? = some z := ⟨_, List.getElem?_eq_getElem (by rw [HLL.out]; exact hlt)⟩
      obtain ⟨z0, z1⟩ := HF.out.rng z (List.mem_iff_getElem?.2 ⟨i, hz⟩)
      obtain ⟨j, rfl⟩ : ∃ j : Nat, z = (j : Int) := ⟨z.toNat, by omega⟩
      have hjm : j < m := by omega
      obtain ⟨n, hn⟩ : ∃ n, ns[j]? = some n := ⟨_, List.getElem?_eq_getElem (by rw [HM.out]; exact hjm)⟩
      have hmem : n ∈ ns := List.mem_iff_getElem?.2 ⟨j, hn⟩
      obtain ⟨ck, hI, hb0⟩ := HC.out j n hn
      have hfew := HKF.out n hmem
      have HLN := Lib.hid (HLI.out n hmem)
      obtain ⟨qk, kc, hkv⟩ := hI.form
      rw [hkv] at ck hI
      obtain ⟨kl, hkl⟩ : ∃ kl, n.ks.length = kl := ⟨_, rfl⟩
      rw [hkl] at ck hfew hI
      have HI := Lib.hid hI
      have HKL := Lib.hid hkl
      have HCK := Lib.hid ck
      have HZ := Lib.hid hz
      have HN := Lib.hid hn
      clear hI hkl ck hz hn hkv hmem
      go_wp2
      go_loopw [6, 8] (fun s6 s8 X => ∃ (k : Nat) (L2 : List Int), k ≤ kl ∧ s8 = .int .i64 k ∧ Hid (BF ns m L2) ∧ Hid (∃ R, L2 = L ++ R) ∧ Hid (∀ y ∈ n.ks.take k, y ∈ L2) ∧ Hid (BW w.heap.size m w X s6 L2)) (fun _ s8 _ => kl - (intOf s8).toNat)
      case atStart => exact ⟨0, L, by omega, rfl, HF, Lib.hid ⟨[], by simp⟩, Lib.hid fun y hy => by simp at hy, HWX⟩
      case round =>
        obtain ⟨k, L2, hk, rfl, HF2, HP2, HT2, HW2⟩ := hrel
        obtain ⟨y1, y2, y3, y4⟩ := HW2.out
        obtain ⟨q7, c7, rfl⟩ := (ints_own y1).1.form
        have hz2 : L2[i]? = some (j : Int) := by
          obtain ⟨R, e⟩ := HP2.out
          rw [e, List.getElem?_append_left (by rw [HLL.out]; exact hlt)]; exact HZ.out
        have hlm2 := HF2.out.len
        obtain ⟨l2, hl2⟩ : ∃ l2, L2.length = l2 := ⟨_, rfl⟩
        have IX2 := (ints_own y1).1
        rw [hl2] at IX2 hlm2 HW2 ⊢
        have il2 : i < l2 := by have := (List.getElem?_eq_some_iff.1 hz2).1; omega
        obtain ⟨b6, o6, e6, cz6, lt6⟩ := ints_at0' IX2 i _ hz2
        subst e6
        have dck := (y3.cell (p := ⟨b, off + j * 34 + 1, none⟩) hb0).trans HCK.out
        have HL2 := Lib.hid hl2
        by_cases hlt2 : k < kl
        · obtain ⟨y, hy⟩ : ∃ y, n.ks[k]? = some y := ⟨_, List.getElem?_eq_getElem (by rw [HKL.out]; exact hlt2)⟩
          obtain ⟨qb, qo, rfl, cy, ly⟩ := ints_at0' HI.out k y hy
          have dcy := (y3.cell (p := ⟨qb, qo + k, none⟩) ly).trans cy
          obtain ⟨yr0, yr1⟩ := HLN.out y (List.mem_iff_getElem?.2 ⟨k, hy⟩)
          obtain ⟨yn, rfl⟩ : ∃ yn : Nat, y = (yn : Int) := ⟨y.toNat, by omega⟩
          have dm := y2.cellAt yn
          rw [metL_get m L2 yn (by omega)] at dm
          have fm := y2.free yn
          have HY := Lib.hid hy
          have HT3 : ∀ x ∈ n.ks.take (k + 1), x ∈ L2 ∨ x = (yn : Int) := fun x hx => by
            rw [List.take_add_one, HY.out] at hx
            rcases List.mem_append.1 hx with h | h
            · exact .inl (HT2.out x h)
            · exact .inr (by simpa using h)
          have HT4 := Lib.hid HT3
          clear hz2 hl2 IX2 hy cy HT3
          clear y1 y2 y3
          cases hc : L2.contains (yn : Int) with
          | true =>
            rw [hc] at dm
            have HT5 : Hid (∀ x ∈ n.ks.take (k + 1), x ∈ L2) := Lib.hid fun x hx => by
              rcases HT4.out x hx with h | h
              · exact h
              · rw [h]; simpa using hc
            go_wp2
            go_roundw
            case rel => exact ⟨k + 1, L2, by omega, by go_num, HF2, HP2, HT5, HW2⟩
            case measure => (simp [intOf]; try omega)
          | false =>
            rw [hc] at dm
            have hnew : BF ns m (L2 ++ [(yn : Int)]) := HF2.out.more (z := (j : Int)) (by
              obtain ⟨R, e⟩ := HP2.out
              rw [e]; exact List.mem_append_left _ (List.mem_iff_getElem?.2 ⟨i, HZ.out⟩)) (by rw [Int.toNat_natCast]; exact HN.out) (List.mem_iff_getElem?.2 ⟨k, HY.out⟩) (by omega) hc
            have HF3 := Lib.hid hnew
            have hl3 := hnew.len
            rw [List.length_append, HL2.out] at hl3
            have HT5 : Hid (∀ x ∈ n.ks.take (k + 1), x ∈ L2 ++ [(yn : Int)]) := Lib.hid fun x hx => by
              rcases HT4.out x hx with h | h
              · exact List.mem_append_left _ h
              · rw [h]; simp
            have HP3 : Hid (∃ R, L2 ++ [(yn : Int)] = L ++ R) := Lib.hid (by
              obtain ⟨R, e⟩ := HP2.out
              exact ⟨R ++ [(yn : Int)], by rw [e, List.append_assoc]⟩)
            have S1 : Hid ((wr.setCell ⟨w.heap.size, yn, none⟩ (.bool true)).ownsRow (w.heap.size + 1) 3 1 (.slice (some ⟨b6, o6, none⟩) l2 c7) l2 (L2.map (Value.int .i64)) ∧ Whole (wr.setCell ⟨w.heap.size, yn, none⟩ (.bool true)) w.heap.size 4 (metL m (L2 ++ [(yn : Int)])) ∧ Below w.heap.size w (wr.setCell ⟨w.heap.size, yn, none⟩ (.bool true))) := Lib.hid (by
              obtain ⟨y1, y2, y3, y4⟩ := HW2.out
              unfold OwnI at y1
              rw [HL2.out] at y1
              refine ⟨own_same y1 (fun g hg => Below.heap_setCell wr _ _ g (by have := (y1.lt g hg).1; intro e; simp at e; omega)), ?_, y3.setCell (p := ⟨w.heap.size, yn, none⟩) (Nat.le_refl _) _⟩
              have := y2.set yn (.bool true)
              rw [metL_set m L2 yn (by omega)] at this; exact this)
            clear HW2 hnew
            obtain ⟨i0, hi0, hz0', hz1', hz2'⟩ := info_parts Try.infoInt
            have HZ1 := Lib.hid hz0'
            have HZ2 := Lib.hid hz1'
            have HZ3 := Lib.hid hz2'
            clear hz0' hz1' hz2'
            go_wp2_with (at_builtin; refine wpList_append_own_at _ rfl _ _ 34 rfl (w.heap.size + 1) 3 i0 (.int .i64 0) 1 8 Try.underlying34 hi0 HZ1.out HZ2.out HZ3.out rfl (by decide) _ _ _ rfl (S1.out.1.alloc _) ⟨wr.heap.size, 0, none⟩ 1 1 [.int .i64 (yn : Int)] rfl rfl (lay_new _ [.int .i64 (yn : Int)] 3 wr.heap.size (by simp)) (by simp [Value.oneCell']) (by unfold maxLen; omega) (by omega) (by simp; omega) ?_; intro v1 w1 hown1 hgrow1 _ _; have hg1 : ((wr.setCell ⟨w.heap.size, yn, none⟩ (.bool true)).alloc (.cells #[.int .i64 (yn : Int)] 3)).grownBy w1 (Value.slice (some ⟨b6, o6, none⟩) l2 c7).ownBlock := hgrow1; have HW3 := Lib.hid (bw_step S1.out.1 S1.out.2.1 S1.out.2.2 (by simp; omega) HL2.out hown1 hg1); clear hown1 hgrow1 hg1 S1)
            go_roundw
            case rel => exact ⟨k + 1, _, by omega, by go_num, HF3, HP3, HT5, HW3⟩
            case measure => (simp [intOf]; try omega)
        · obtain rfl : k = kl := by omega
          clear y1 y2 y3 hl2 IX2 hz2
          have HCL2 : Hid (∀ (j' : Nat) (z : Int), j' < i + 1 → L2[j']? = some z → ∀ y ∈ kfOf ns z, y ∈ L2) := Lib.hid fun j' z hj' hz' y hy => by
            obtain ⟨R, e⟩ := HP2.out
            have hjl : j' < L.length := by rw [HLL.out]; omega
            have hzL : L[j']? = some z := by rw [e, List.getElem?_append_left hjl] at hz'; exact hz'
            by_cases hji : j' < i
            · rw [e]; exact List.mem_append_left _ (HCL.out j' z hji hzL y hy)
            · obtain rfl : j' = i := by omega
              rw [HZ.out] at hzL
              injection hzL with ez
              subst ez
              have hk2 := HT2.out y
              rw [List.take_of_length_le (by rw [HKL.out]; exact Nat.le_refl _)] at hk2
              refine hk2 ?_
              unfold kfOf at hy
              rw [Int.toNat_natCast, HN.out] at hy
              exact hy
          go_wp2
          exact ⟨⟨i + 1, L2, by rw [HL2.out]; omega, rfl, HF2, HCL2, HW2⟩, by (simp [intOf]; try omega)⟩
    · obtain rfl : i = l := by omega
      have hcl : L.contains (t : Int) = d := HALL.out L HF.out (fun z hz y hy => by
        obtain ⟨j, hj⟩ := List.mem_iff_getElem?.1 hz
        exact HCL.out j z (by have := (List.getElem?_eq_some_iff.1 hj).1; rw [HLL.out] at this; exact this) hj y hy)
      obtain ⟨x1, x2, x3, x4⟩ := HWX.out
      have dt := x2.cellAt t
      rw [metL_get m L t ht, hcl] at dt
      have X3 := Lib.hid x3
      clear x1 x2 x3 HWX
      go_wp2
      go_ret
      exact ⟨rfl, X3.out⟩
end Go.Proofs.Ytecnapecmioamaa
