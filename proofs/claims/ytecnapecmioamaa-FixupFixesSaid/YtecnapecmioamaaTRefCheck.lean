/- Contract of the document's Check of a page. Written by program (mk_TRefCheck.py). -/
import Derived.Test.YtecnapecmioamaaTRight
import Derived.Test.YtecnapecmioamaaTReach
import Derived.Test.YtecnapecmioamaaTRefDep
namespace Go.Proofs.Ytecnapecmioamaa
open Go.RowKit Go.Shelf
set_option linter.unusedVariables false
set_option linter.unusedSimpArgs false
attribute [local go_sem] Oper.semAt_some

/-- how often each place is a kid -/
def tmz (m : Nat) (P : List Int) : List Int := P.foldl bump (List.replicate m 0)
theorem tmz_len (m : Nat) (P : List Int) : (tmz m P).length = m := by
  unfold tmz
  suffices ∀ (P : List Int) (ts : List Int), (P.foldl bump ts).length = ts.length by rw [this]; simp
  intro P
  induction P with
  | nil => intro ts; rfl
  | cons z P ih => intro ts; rw [List.foldl_cons, ih, bump_len]
theorem tmz_snoc (m : Nat) (P : List Int) (z : Int) : tmz m (P ++ [z]) = bump (tmz m P) z := by simp [tmz, List.foldl_append]
theorem bump_get (ts : List Int) (z j : Nat) (hz : z < ts.length) : (bump ts (z : Int))[j]?.getD 0 = ts[j]?.getD 0 + if z = j then 1 else 0 := by
  unfold bump
  rw [Int.toNat_natCast, List.getElem?_set]
  by_cases e : z = j
  · subst e; rw [if_pos rfl, if_pos hz, if_pos rfl]; rfl
  · rw [if_neg e, if_neg e]; omega
theorem tmz_get (m : Nat) : ∀ (P : List Int), (∀ z ∈ P, 0 ≤ z ∧ z < (m : Int)) → ∀ j, j < m → (tmz m P)[j]?.getD 0 = (P.count (j : Int) : Int) := by
  suffices ∀ (P : List Int), (∀ z ∈ P, 0 ≤ z ∧ z < (m : Int)) → ∀ (ts : List Int), ts.length = m → ∀ j, j < m → (P.foldl bump ts)[j]?.getD 0 = ts[j]?.getD 0 + (P.count (j : Int) : Int) by
    intro P hP j hj
    unfold tmz
    rw [this P hP _ (by simp) j hj]; simp [hj]
  intro P
  induction P with
  | nil => intro _ ts _ j _; simp
  | cons z P ih =>
    intro hP ts ht j hj
    obtain ⟨h0, h1⟩ := hP z (by simp)
    obtain ⟨zn, rfl⟩ : ∃ zn : Nat, z = (zn : Int) := ⟨z.toNat, by omega⟩
    rw [List.foldl_cons, ih (fun y hy => hP y (by simp [hy])) _ (by rw [bump_len]; exact ht) j hj, bump_get ts zn j (by rw [ht]; omega), List.count_cons]
    by_cases e : zn = j
    · subst e; simp; omega
    · rw [if_neg e, if_neg (by simp; omega)]; omega
theorem tmz_val (m : Nat) (P : List Int) (hP : ∀ z ∈ P, 0 ≤ z ∧ z < (m : Int)) (j : Nat) (hj : j < m) : (tmz m P)[j]? = some ((P.count (j : Int) : Nat) : Int) := by
  have h := tmz_get m P hP j hj
  rw [List.getElem?_eq_getElem (by rw [tmz_len]; exact hj)] at h ⊢
  simp only [Option.getD_some] at h
  rw [h]
/-- the worlds in which kids are counted -/
def TI (G m : Nat) (w X : World) (P : List Int) : Prop := Whole X G 3 ((tmz m P).map (Value.int .i64)) ∧ Below w.heap.size w X
theorem TI.step {G m : Nat} {w X : World} {P : List Int} (h : TI G m w X P) (hG : w.heap.size ≤ G) (z : Nat) (c : Int) (hc : (tmz m P)[z]? = some c) : TI G m w (X.setCell ⟨G, z, none⟩ (.int .i64 (c + 1))) (P ++ [(z : Int)]) := by
  refine ⟨?_, h.2.setCell (p := ⟨G, z, none⟩) hG _⟩
  rw [tmz_snoc]
  unfold bump
  rw [Int.toNat_natCast, hc, List.map_set]
  exact h.1.set z _
set_option maxRecDepth 100000 in
set_option maxHeartbeats 16000000 in
theorem refCheck_wrong (b off cap m : Nat) (ns : List Nd) (w : World) (hm : ns.length = m) (h1 : 1 ≤ m) (h2 : m ≤ 65536) (hP : PageAt w (.slice (some ⟨b, off, none⟩) m cap) ns) (hK : ∀ n ∈ ns, n.ks.length ≤ 70000) (I1 : Nat) (hI : I1 < m) (HW : Hid (∀ j n, j < I1 → ns[j]? = some n → (!wrongN n) = true)) (HF : Hid (∀ n, ns[I1]? = some n → (!wrongN n) = false)) :
    Calls Try.prog 8 #[.slice (some ⟨b, off, none⟩) m cap] w fun e W' => e = .returned (.tuple #[.int .i64 I1, .int .i64 50]) ∧ Below w.heap.size w W' := by
  have HN : Hid (∀ (j : Nat) (n : Nd), ns[j]? = some n → ∀ X, Below w.heap.size w X → NdAt X b (off + j * 34) n ∧ n.ok X) := Lib.hid (by
    obtain ⟨b', off', e, hc⟩ := page_some hP (by rw [hm]; exact h1)
    injection e with e; injection e with e1 e2
    subst e1 e2
    exact fun j n hn X hX => ⟨(hc j n hn).below hX, (hP.2.1 n (List.mem_iff_getElem?.2 ⟨j, hn⟩)).below hX⟩)
  have HC : Hid (∀ (j : Nat) (n : Nd), ns[j]? = some n → w.cell? ⟨b, off + j * 34 + 1, none⟩ = some n.kv ∧ Ints w n.kv n.ks ∧ b < w.heap.size) := Lib.hid (by
    obtain ⟨b', off', e, _, hc⟩ := page_cells hP h1
    injection e with e; injection e with e1 e2
    subst e1 e2
    exact fun j n hn => (hc j n hn).2)
  have HP := Lib.hid hP
  have HM := Lib.hid hm
  have HKF := Lib.hid hK
  have d1 : decide ((m : Int) < 1) = false := by simp; omega
  have d2 : decide ((m : Int) > 65536) = false := by simp; omega
  clear hm hK hP
  go_enter Try.func8, Try.ntmps8
  go_wp2
  go_loopw [4] (fun s4 X => ∃ i : Nat, i ≤ I1 ∧ s4 = .int .i64 i ∧ Hid (Below w.heap.size w X)) (fun s4 _ => m - (intOf s4).toNat)
  case atStart => exact ⟨0, by omega, rfl, Lib.hid (Below.refl _ _)⟩
  case round =>
    obtain ⟨i, hi, rfl, HB⟩ := hrel
    by_cases hlt : i < I1
    · obtain ⟨n, hn⟩ : ∃ n, ns[i]? = some n := ⟨_, List.getElem?_eq_getElem (by rw [HM.out]; omega)⟩
      obtain ⟨hnd, hok⟩ := HN.out i n hn wr HB.out
      have hr := right_any n wr hok
      rw [HW.out i n hlt hn] at hr
      obtain ⟨cs, hcs⟩ : ∃ cs, n.cells.toArray = cs := ⟨_, rfl⟩
      have LN : Hid (∀ j v, cs[j]? = some v → wr.cell? ((⟨b, off + i * 34, none⟩ : Addr).add j) = some v) := Lib.hid (by rw [← hcs]; exact hnd.load)
      have iN : Hid ((Try.prog.info? 47).map (·.size) = some cs.size) := Lib.hid (by rw [← hcs]; exact nd_info n)
      have HR : Hid (Calls Try.prog 18 #[.agg cs] wr fun e W' => e = .returned (.bool true) ∧ Below wr.heap.size wr W') := Lib.hid (by rw [← hcs]; exact hr)
      clear hr hcs hn hnd hok
      go_wp2_with (first
        | (refine wpList_load_at rfl 47 (.tmp 34) rfl _ rfl cs _ LN.out Try.underlying47 rfl iN.out ?_)
        | (go_at_call 18; refine HR.out.mono ?_; rintro e w1 ⟨rfl, hb1⟩; have HB1 := Lib.hid (HB.out.trans (hb1.mono HB.out.size)); clear hb1 HB HR LN iN))
      go_roundw
      case rel => exact ⟨i + 1, by omega, by go_num, HB1⟩
      case measure => (simp [intOf]; try omega)
    · obtain rfl : i = I1 := by omega
      obtain ⟨n, hn⟩ : ∃ n, ns[i]? = some n := ⟨_, List.getElem?_eq_getElem (by rw [HM.out]; omega)⟩
      obtain ⟨hnd, hok⟩ := HN.out i n hn wr HB.out
      have hr := right_any n wr hok
      rw [HF.out n hn] at hr
      obtain ⟨cs, hcs⟩ : ∃ cs, n.cells.toArray = cs := ⟨_, rfl⟩
      have LN : Hid (∀ j v, cs[j]? = some v → wr.cell? ((⟨b, off + i * 34, none⟩ : Addr).add j) = some v) := Lib.hid (by rw [← hcs]; exact hnd.load)
      have iN : Hid ((Try.prog.info? 47).map (·.size) = some cs.size) := Lib.hid (by rw [← hcs]; exact nd_info n)
      have HR : Hid (Calls Try.prog 18 #[.agg cs] wr fun e W' => e = .returned (.bool false) ∧ Below wr.heap.size wr W') := Lib.hid (by rw [← hcs]; exact hr)
      have him : i < m := hI
      clear hr hcs hn hnd hok
      go_wp2_with (first
        | (refine wpList_load_at rfl 47 (.tmp 34) rfl _ rfl cs _ LN.out Try.underlying47 rfl iN.out ?_)
        | (go_at_call 18; refine HR.out.mono ?_; rintro e w1 ⟨rfl, hb1⟩; have HB1 := Lib.hid (HB.out.trans (hb1.mono HB.out.size)); clear hb1 HB HR LN iN))
      refine bodyPost_ret (v := .tuple #[.int .i64 i, .int .i64 50]) (by simp [results, Try.results8, go_sem]) rfl ⟨rfl, HB1.out⟩
set_option maxRecDepth 100000 in
set_option maxHeartbeats 16000000 in
theorem refCheck_link (b off cap m : Nat) (ns : List Nd) (w : World) (hm : ns.length = m) (h1 : 1 ≤ m) (h2 : m ≤ 65536) (hP : PageAt w (.slice (some ⟨b, off, none⟩) m cap) ns) (hK : ∀ n ∈ ns, n.ks.length ≤ 70000) (HW : Hid (∀ j n, j < m → ns[j]? = some n → (!wrongN n) = true)) (I2 : Nat) (hI2 : I2 < m) (HL2 : Hid (∀ j n, j < I2 → ns[j]? = some n → ∀ z ∈ n.ks, 1 ≤ z ∧ z < (m : Int))) (HF2 : Hid (∀ n, ns[I2]? = some n → ∃ (k : Nat) (z : Int), n.ks[k]? = some z ∧ ¬ (1 ≤ z ∧ z < (m : Int)) ∧ ∀ k' z', k' < k → n.ks[k']? = some z' → 1 ≤ z' ∧ z' < (m : Int))) :
    Calls Try.prog 8 #[.slice (some ⟨b, off, none⟩) m cap] w fun e W' => e = .returned (.tuple #[.int .i64 I2, .int .i64 40]) ∧ Below w.heap.size w W' := by
  have HN : Hid (∀ (j : Nat) (n : Nd), ns[j]? = some n → ∀ X, Below w.heap.size w X → NdAt X b (off + j * 34) n ∧ n.ok X) := Lib.hid (by
    obtain ⟨b', off', e, hc⟩ := page_some hP (by rw [hm]; exact h1)
    injection e with e; injection e with e1 e2
    subst e1 e2
    exact fun j n hn X hX => ⟨(hc j n hn).below hX, (hP.2.1 n (List.mem_iff_getElem?.2 ⟨j, hn⟩)).below hX⟩)
  have HC : Hid (∀ (j : Nat) (n : Nd), ns[j]? = some n → w.cell? ⟨b, off + j * 34 + 1, none⟩ = some n.kv ∧ Ints w n.kv n.ks ∧ b < w.heap.size) := Lib.hid (by
    obtain ⟨b', off', e, _, hc⟩ := page_cells hP h1
    injection e with e; injection e with e1 e2
    subst e1 e2
    exact fun j n hn => (hc j n hn).2)
  have HP := Lib.hid hP
  have HM := Lib.hid hm
  have HKF := Lib.hid hK
  have d1 : decide ((m : Int) < 1) = false := by simp; omega
  have d2 : decide ((m : Int) > 65536) = false := by simp; omega
  clear hm hK hP
  go_enter Try.func8, Try.ntmps8
  go_wp2
  go_loopw [4] (fun s4 X => ∃ i : Nat, i ≤ m ∧ s4 = .int .i64 i ∧ Hid (Below w.heap.size w X)) (fun s4 _ => m - (intOf s4).toNat)
  case atStart => exact ⟨0, by omega, rfl, Lib.hid (Below.refl _ _)⟩
  case round =>
    obtain ⟨i, hi, rfl, HB⟩ := hrel
    by_cases hlt : i < m
    · obtain ⟨n, hn⟩ : ∃ n, ns[i]? = some n := ⟨_, List.getElem?_eq_getElem (by rw [HM.out]; omega)⟩
      obtain ⟨hnd, hok⟩ := HN.out i n hn wr HB.out
      have hr := right_any n wr hok
      rw [HW.out i n hlt hn] at hr
      obtain ⟨cs, hcs⟩ : ∃ cs, n.cells.toArray = cs := ⟨_, rfl⟩
      have LN : Hid (∀ j v, cs[j]? = some v → wr.cell? ((⟨b, off + i * 34, none⟩ : Addr).add j) = some v) := Lib.hid (by rw [← hcs]; exact hnd.load)
      have iN : Hid ((Try.prog.info? 47).map (·.size) = some cs.size) := Lib.hid (by rw [← hcs]; exact nd_info n)
      have HR : Hid (Calls Try.prog 18 #[.agg cs] wr fun e W' => e = .returned (.bool true) ∧ Below wr.heap.size wr W') := Lib.hid (by rw [← hcs]; exact hr)
      clear hr hcs hn hnd hok
      go_wp2_with (first
        | (refine wpList_load_at rfl 47 (.tmp 34) rfl _ rfl cs _ LN.out Try.underlying47 rfl iN.out ?_)
        | (go_at_call 18; refine HR.out.mono ?_; rintro e w1 ⟨rfl, hb1⟩; have HB1 := Lib.hid (HB.out.trans (hb1.mono HB.out.size)); clear hb1 HB HR LN iN))
      go_roundw
      case rel => exact ⟨i + 1, by omega, by go_num, HB1⟩
      case measure => (simp [intOf]; try omega)
    · obtain rfl : m = i := by omega
      have sw := HB.out.size
      obtain ⟨G, hG⟩ : ∃ G, wr.heap.size = G := ⟨_, rfl⟩
      have hGw : w.heap.size ≤ G := by omega
      have hmk := make_ints m (by omega)
      go_wp2
      try rw [hG]
      obtain ⟨W4, hW4⟩ : ∃ W4, wr.alloc (.cells (Array.replicate m (Value.int .i64 0)) 3) = W4 := ⟨_, rfl⟩
      have k4 : Whole W4 G 3 ((tmz m (kidsOf (ns.take 0))).map (Value.int .i64)) := by
        rw [← hW4, ← hG, show (Array.replicate m (Value.int .i64 0)) = ((tmz m (kidsOf (ns.take 0))).map (Value.int .i64)).toArray from by
          apply Array.toList_inj.1
          simp [tmz, kidsOf]]
        exact whole_new wr _ 3 _ rfl
      have b4 : Below w.heap.size w W4 := by rw [← hW4]; exact HB.out.alloc sw _
      have HT0 : Hid (TI G m w W4 (kidsOf (ns.take 0))) := Lib.hid ⟨k4, b4⟩
      rw [hW4]
      clear hW4 k4 b4 hmk hG sw HB
      go_loopw [7] (fun s7 X => ∃ i : Nat, i ≤ I2 ∧ s7 = .int .i64 i ∧ Hid (TI G m w X (kidsOf (ns.take i)))) (fun s7 _ => m - (intOf s7).toNat)
      case atStart => exact ⟨0, by omega, rfl, HT0⟩
      case round =>
        obtain ⟨i, hi, rfl, HT⟩ := hrel
        clear HT0
        have HPI : Hid (∀ z ∈ kidsOf (ns.take i), 0 ≤ z ∧ z < (m : Int)) := Lib.hid fun z hz => by
          obtain ⟨a, ha, hz'⟩ := List.mem_flatMap.1 hz
          obtain ⟨j, hj⟩ := List.mem_iff_getElem?.1 ha
          rw [List.getElem?_take] at hj
          by_cases e : j < i
          · rw [if_pos e] at hj
            have := HL2.out j a (by omega) hj z hz'
            omega
          · rw [if_neg e] at hj; cases hj
        by_cases hlt : i < I2
        · obtain ⟨n, hn⟩ : ∃ n, ns[i]? = some n := ⟨_, List.getElem?_eq_getElem (by rw [HM.out]; omega)⟩
          have hmem : n ∈ ns := List.mem_iff_getElem?.2 ⟨i, hn⟩
          obtain ⟨ck, hI, hb0⟩ := HC.out i n hn
          have hfew := HKF.out n hmem
          obtain ⟨qk, kc, hkv⟩ := hI.form
          rw [hkv] at ck hI
          obtain ⟨kl, hkl⟩ : ∃ kl, n.ks.length = kl := ⟨_, rfl⟩
          rw [hkl] at ck hfew hI
          have HI := Lib.hid hI
          have HKL := Lib.hid hkl
          have HCK := Lib.hid ck
          have HND := Lib.hid hn
          have HS : Hid (kidsOf (ns.take (i + 1)) = kidsOf (ns.take i) ++ n.ks) := Lib.hid (kids_snoc ns i n hn)
          have HLN : Hid (∀ k z, k < kl → n.ks[k]? = some z → 1 ≤ z ∧ z < (m : Int)) := Lib.hid fun k z hk hz => HL2.out i n hlt hn z (List.mem_iff_getElem?.2 ⟨k, hz⟩)
          clear hI hkl ck hn hkv hmem
          go_wp2
          go_loopw [8] (fun s8 X => ∃ k : Nat, k ≤ kl ∧ s8 = .int .i64 k ∧ Hid (TI G m w X (kidsOf (ns.take i) ++ n.ks.take k))) (fun s8 _ => kl - (intOf s8).toNat)
          case atStart => exact ⟨0, by omega, rfl, by simpa using HT⟩
          case round =>
            obtain ⟨k, hk, rfl, HY⟩ := hrel
            obtain ⟨y1, y2⟩ := HY.out
            have dck := (y2.cell (p := ⟨b, off + i * 34 + 1, none⟩) hb0).trans HCK.out
            by_cases hlt2 : k < kl
            · obtain ⟨y, hy⟩ : ∃ y, n.ks[k]? = some y := ⟨_, List.getElem?_eq_getElem (by rw [HKL.out]; omega)⟩
              have hkl2 : k < kl := by omega
              obtain ⟨qb, qo, rfl, cy, ly⟩ := ints_at0' HI.out k y hy
              have dcy := (y2.cell (p := ⟨qb, qo + k, none⟩) ly).trans cy
              obtain ⟨yr0, yr1⟩ := HLN.out k y hlt2 hy
              obtain ⟨yn, rfl⟩ : ∃ yn : Nat, y = (yn : Int) := ⟨y.toNat, by omega⟩
              have hPr : ∀ z ∈ kidsOf (ns.take i) ++ n.ks.take k, 0 ≤ z ∧ z < (m : Int) := fun z hz => by
                rcases List.mem_append.1 hz with h | h
                · exact HPI.out z h
                · obtain ⟨k', hk'⟩ := List.mem_iff_getElem?.1 h
                  rw [List.getElem?_take] at hk'
                  by_cases e : k' < k
                  · rw [if_pos e] at hk'
                    have := HLN.out k' z (by omega) hk'
                    omega
                  · rw [if_neg e] at hk'; cases hk'
              have hval := tmz_val m _ hPr yn (by omega)
              obtain ⟨c, hc⟩ : ∃ c, (kidsOf (ns.take i) ++ n.ks.take k).count (yn : Int) = c := ⟨_, rfl⟩
              have hcb : c ≤ 10000000000 := by
                rw [← hc]
                refine Nat.le_trans List.count_le_length ?_
                have e1 := kids_len ns i HKF.out
                rw [List.length_append, List.length_take]
                have : 70000 * i ≤ 70000 * 65536 := Nat.mul_le_mul_left _ (by omega)
                omega
              rw [hc] at hval
              have cg : wr.cell? ⟨G, yn, none⟩ = some (.int .i64 c) := by rw [y1.cellAt, List.getElem?_map, hval]; rfl
              have fg := y1.free yn
              have S1 : Hid (TI G m w (wr.setCell ⟨G, yn, none⟩ (.int .i64 ((c : Int) + 1))) (kidsOf (ns.take i) ++ n.ks.take (k + 1))) := Lib.hid (by
                have := HY.out.step hGw yn c hval
                rw [List.take_add_one, hy, ← List.append_assoc]
                exact this)
              have z1 : decide ((yn : Int) < 1) = false := by simp; omega
              have z2 : decide ((yn : Int) ≥ (m : Int)) = false := by simp; omega
              clear y1 y2 hy cy HY hval hc hPr
              go_wp2
              go_roundw
              case rel => exact ⟨k + 1, by omega, by go_num, S1⟩
              case measure => (simp [intOf]; try omega)
            · obtain rfl : k = kl := by omega
              have HT2 : Hid (TI G m w wr (kidsOf (ns.take (i + 1)))) := by
                have := HY.out
                rw [List.take_of_length_le (l := n.ks) (by rw [HKL.out]; exact Nat.le_refl _), ← HS.out] at this
                exact Lib.hid this
              clear y1 y2 HY
              go_wp2
              exact ⟨⟨i + 1, by omega, rfl, HT2⟩, by (simp [intOf]; try omega)⟩
        · obtain rfl : i = I2 := by omega
          obtain ⟨n, hn⟩ : ∃ n, ns[i]? = some n := ⟨_, List.getElem?_eq_getElem (by rw [HM.out]; omega)⟩
          have hmem : n ∈ ns := List.mem_iff_getElem?.2 ⟨i, hn⟩
          obtain ⟨ck, hI, hb0⟩ := HC.out i n hn
          have hfew := HKF.out n hmem
          obtain ⟨qk, kc, hkv⟩ := hI.form
          rw [hkv] at ck hI
          obtain ⟨kl, hkl⟩ : ∃ kl, n.ks.length = kl := ⟨_, rfl⟩
          rw [hkl] at ck hfew hI
          have HI := Lib.hid hI
          have HKL := Lib.hid hkl
          have HCK := Lib.hid ck
          have HND := Lib.hid hn
          have HS : Hid (kidsOf (ns.take (i + 1)) = kidsOf (ns.take i) ++ n.ks) := Lib.hid (kids_snoc ns i n hn)
          obtain ⟨K, y, hKy, hbad, hbef⟩ := HF2.out n hn
          have hKl : K < kl := by have := (List.getElem?_eq_some_iff.1 hKy).1; omega
          have HKY := Lib.hid hKy
          have HLN : Hid (∀ k z, k < K → n.ks[k]? = some z → 1 ≤ z ∧ z < (m : Int)) := Lib.hid hbef
          clear hI hkl ck hn hkv hmem hKy hbef
          have him : i < m := hI2
          go_wp2
          go_loopw [8] (fun s8 X => ∃ k : Nat, k ≤ K ∧ s8 = .int .i64 k ∧ Hid (TI G m w X (kidsOf (ns.take i) ++ n.ks.take k))) (fun s8 _ => kl - (intOf s8).toNat)
          case atStart => exact ⟨0, by omega, rfl, by simpa using HT⟩
          case round =>
            obtain ⟨k, hk, rfl, HY⟩ := hrel
            obtain ⟨y1, y2⟩ := HY.out
            have dck := (y2.cell (p := ⟨b, off + i * 34 + 1, none⟩) hb0).trans HCK.out
            by_cases hlt2 : k < K
            · obtain ⟨y, hy⟩ : ∃ y, n.ks[k]? = some y := ⟨_, List.getElem?_eq_getElem (by rw [HKL.out]; omega)⟩
              have hkl2 : k < kl := by omega
              obtain ⟨qb, qo, rfl, cy, ly⟩ := ints_at0' HI.out k y hy
              have dcy := (y2.cell (p := ⟨qb, qo + k, none⟩) ly).trans cy
              obtain ⟨yr0, yr1⟩ := HLN.out k y hlt2 hy
              obtain ⟨yn, rfl⟩ : ∃ yn : Nat, y = (yn : Int) := ⟨y.toNat, by omega⟩
              have hPr : ∀ z ∈ kidsOf (ns.take i) ++ n.ks.take k, 0 ≤ z ∧ z < (m : Int) := fun z hz => by
                rcases List.mem_append.1 hz with h | h
                · exact HPI.out z h
                · obtain ⟨k', hk'⟩ := List.mem_iff_getElem?.1 h
                  rw [List.getElem?_take] at hk'
                  by_cases e : k' < k
                  · rw [if_pos e] at hk'
                    have := HLN.out k' z (by omega) hk'
                    omega
                  · rw [if_neg e] at hk'; cases hk'
              have hval := tmz_val m _ hPr yn (by omega)
              obtain ⟨c, hc⟩ : ∃ c, (kidsOf (ns.take i) ++ n.ks.take k).count (yn : Int) = c := ⟨_, rfl⟩
              have hcb : c ≤ 10000000000 := by
                rw [← hc]
                refine Nat.le_trans List.count_le_length ?_
                have e1 := kids_len ns i HKF.out
                rw [List.length_append, List.length_take]
                have : 70000 * i ≤ 70000 * 65536 := Nat.mul_le_mul_left _ (by omega)
                omega
              rw [hc] at hval
              have cg : wr.cell? ⟨G, yn, none⟩ = some (.int .i64 c) := by rw [y1.cellAt, List.getElem?_map, hval]; rfl
              have fg := y1.free yn
              have S1 : Hid (TI G m w (wr.setCell ⟨G, yn, none⟩ (.int .i64 ((c : Int) + 1))) (kidsOf (ns.take i) ++ n.ks.take (k + 1))) := Lib.hid (by
                have := HY.out.step hGw yn c hval
                rw [List.take_add_one, hy, ← List.append_assoc]
                exact this)
              have z1 : decide ((yn : Int) < 1) = false := by simp; omega
              have z2 : decide ((yn : Int) ≥ (m : Int)) = false := by simp; omega
              clear y1 y2 hy cy HY hval hc hPr
              go_wp2
              go_roundw
              case rel => exact ⟨k + 1, by omega, by go_num, S1⟩
              case measure => (simp [intOf]; try omega)
            · obtain rfl : k = K := by omega
              obtain ⟨qb, qo, rfl, cy, ly⟩ := ints_at0' HI.out k y HKY.out
              have dcy := (y2.cell (p := ⟨qb, qo + k, none⟩) ly).trans cy
              have Y2 := Lib.hid y2
              clear y1 y2 HY cy
              by_cases zb : y < 1
              · have z1 : decide (y < 1) = true := by simpa using zb
                go_wp2
                refine bodyPost_ret (v := .tuple #[.int .i64 i, .int .i64 40]) (by simp [results, Try.results8, go_sem]) rfl ⟨rfl, Y2.out⟩
              · have z1 : decide (y < 1) = false := by simpa using zb
                have z2 : decide (y ≥ (m : Int)) = true := by simp; omega
                go_wp2
                refine bodyPost_ret (v := .tuple #[.int .i64 i, .int .i64 40]) (by simp [results, Try.results8, go_sem]) rfl ⟨rfl, Y2.out⟩
theorem walk_rng {ns : List Nd} (h1 : 1 ≤ ns.length) (hl : ∀ n ∈ ns, ∀ z ∈ n.ks, 1 ≤ z ∧ z < (ns.length : Int)) : ∀ z ∈ (walkL ns.length (kfOf ns)).map Prod.fst, 0 ≤ z ∧ z < (ns.length : Int) := by
  obtain ⟨vis, st, hr, hn⟩ := walk_facts h1 (kids_in hl)
  have hg := hr.good h1 (kids_in hl)
  intro z hz
  exact hg.vrng z (by rw [hr.vis]; simpa using hz)
/-- the worlds in which what is met is marked -/
def CkI (G M m : Nat) (w X : World) (P : List Int) (L : List Int) : Prop := Whole X G 3 ((tmz m P).map (Value.int .i64)) ∧ Whole X M 4 (metL m L) ∧ Below w.heap.size w X
theorem CkI.below {G M m : Nat} {w X Y : World} {P L : List Int} (h : CkI G M m w X P L) (hb : Below X.heap.size X Y) : CkI G M m w Y P L := ⟨h.1.below hb h.1.lt, h.2.1.below hb h.2.1.lt, h.2.2.trans (hb.mono h.2.2.size)⟩
set_option maxRecDepth 100000 in
set_option maxHeartbeats 16000000 in
theorem refCheck_bad (b off cap m : Nat) (ns : List Nd) (w : World) (hm : ns.length = m) (h1 : 1 ≤ m) (h2 : m ≤ 65536) (hP : PageAt w (.slice (some ⟨b, off, none⟩) m cap) ns) (hK : ∀ n ∈ ns, n.ks.length ≤ 70000) (HW : Hid (∀ j n, j < m → ns[j]? = some n → (!wrongN n) = true)) (HL2 : Hid (∀ j n, j < m → ns[j]? = some n → ∀ z ∈ n.ks, 1 ≤ z ∧ z < (m : Int))) (Z : Nat) (hZ1 : 1 ≤ Z) (hZm : Z < m) (HZ : Hid ((kidsOf ns).count (Z : Int) ≠ 1)) (HZB : Hid (∀ j : Nat, 1 ≤ j → j < Z → (kidsOf ns).count (j : Int) = 1)) (I5 : Nat) (hI51 : 1 ≤ I5) (hI5 : I5 ≤ Z) (HS5 : Hid (∀ j : Nat, 1 ≤ j → j < I5 → (kidsOf ns).count (j : Int) = 1 ∧ metB ns (j : Int) = true)) (HT5 : Hid ((kidsOf ns).count (I5 : Int) ≠ 1 ∨ metB ns (I5 : Int) = false)) :
    Calls Try.prog 8 #[.slice (some ⟨b, off, none⟩) m cap] w fun e W' => e = .returned (.tuple #[.int .i64 I5, .int .i64 41]) ∧ Below w.heap.size w W' := by
  have HRE : Hid (∀ X : World, Below w.heap.size w X → ∀ t, t < m → Calls Try.prog 20 #[.slice (some ⟨b, off, none⟩) m cap, .int .i64 t] X fun e W' => e = .returned (.bool (metB ns (t : Int))) ∧ Below X.heap.size X W') :=
    Lib.hid fun X hX t ht => reached_at b off cap m t ns X hm h1 h2 ht (hP.below hX) hK (fun n hn z hz => by
      obtain ⟨j, hj⟩ := List.mem_iff_getElem?.1 hn
      exact HL2.out j n (by have := (List.getElem?_eq_some_iff.1 hj).1; omega) hj z hz) _ rfl
  have HN : Hid (∀ (j : Nat) (n : Nd), ns[j]? = some n → ∀ X, Below w.heap.size w X → NdAt X b (off + j * 34) n ∧ n.ok X) := Lib.hid (by
    obtain ⟨b', off', e, hc⟩ := page_some hP (by rw [hm]; exact h1)
    injection e with e; injection e with e1 e2
    subst e1 e2
    exact fun j n hn X hX => ⟨(hc j n hn).below hX, (hP.2.1 n (List.mem_iff_getElem?.2 ⟨j, hn⟩)).below hX⟩)
  have HC : Hid (∀ (j : Nat) (n : Nd), ns[j]? = some n → w.cell? ⟨b, off + j * 34 + 1, none⟩ = some n.kv ∧ Ints w n.kv n.ks ∧ b < w.heap.size) := Lib.hid (by
    obtain ⟨b', off', e, _, hc⟩ := page_cells hP h1
    injection e with e; injection e with e1 e2
    subst e1 e2
    exact fun j n hn => (hc j n hn).2)
  have HP := Lib.hid hP
  have HM := Lib.hid hm
  have HKF := Lib.hid hK
  have d1 : decide ((m : Int) < 1) = false := by simp; omega
  have d2 : decide ((m : Int) > 65536) = false := by simp; omega
  clear hm hK hP
  go_enter Try.func8, Try.ntmps8
  go_wp2
  go_loopw [4] (fun s4 X => ∃ i : Nat, i ≤ m ∧ s4 = .int .i64 i ∧ Hid (Below w.heap.size w X)) (fun s4 _ => m - (intOf s4).toNat)
  case atStart => exact ⟨0, by omega, rfl, Lib.hid (Below.refl _ _)⟩
  case round =>
    obtain ⟨i, hi, rfl, HB⟩ := hrel
    by_cases hlt : i < m
    · obtain ⟨n, hn⟩ : ∃ n, ns[i]? = some n := ⟨_, List.getElem?_eq_getElem (by rw [HM.out]; omega)⟩
      obtain ⟨hnd, hok⟩ := HN.out i n hn wr HB.out
      have hr := right_any n wr hok
      rw [HW.out i n hlt hn] at hr
      obtain ⟨cs, hcs⟩ : ∃ cs, n.cells.toArray = cs := ⟨_, rfl⟩
      have LN : Hid (∀ j v, cs[j]? = some v → wr.cell? ((⟨b, off + i * 34, none⟩ : Addr).add j) = some v) := Lib.hid (by rw [← hcs]; exact hnd.load)
      have iN : Hid ((Try.prog.info? 47).map (·.size) = some cs.size) := Lib.hid (by rw [← hcs]; exact nd_info n)
      have HR : Hid (Calls Try.prog 18 #[.agg cs] wr fun e W' => e = .returned (.bool true) ∧ Below wr.heap.size wr W') := Lib.hid (by rw [← hcs]; exact hr)
      clear hr hcs hn hnd hok
      go_wp2_with (first
        | (refine wpList_load_at rfl 47 (.tmp 34) rfl _ rfl cs _ LN.out Try.underlying47 rfl iN.out ?_)
        | (go_at_call 18; refine HR.out.mono ?_; rintro e w1 ⟨rfl, hb1⟩; have HB1 := Lib.hid (HB.out.trans (hb1.mono HB.out.size)); clear hb1 HB HR LN iN))
      go_roundw
      case rel => exact ⟨i + 1, by omega, by go_num, HB1⟩
      case measure => (simp [intOf]; try omega)
    · obtain rfl : m = i := by omega
      have sw := HB.out.size
      obtain ⟨G, hG⟩ : ∃ G, wr.heap.size = G := ⟨_, rfl⟩
      have hGw : w.heap.size ≤ G := by omega
      have hmk := make_ints m (by omega)
      go_wp2
      try rw [hG]
      obtain ⟨W4, hW4⟩ : ∃ W4, wr.alloc (.cells (Array.replicate m (Value.int .i64 0)) 3) = W4 := ⟨_, rfl⟩
      have k4 : Whole W4 G 3 ((tmz m (kidsOf (ns.take 0))).map (Value.int .i64)) := by
        rw [← hW4, ← hG, show (Array.replicate m (Value.int .i64 0)) = ((tmz m (kidsOf (ns.take 0))).map (Value.int .i64)).toArray from by
          apply Array.toList_inj.1
          simp [tmz, kidsOf]]
        exact whole_new wr _ 3 _ rfl
      have b4 : Below w.heap.size w W4 := by rw [← hW4]; exact HB.out.alloc sw _
      have HT0 : Hid (TI G m w W4 (kidsOf (ns.take 0))) := Lib.hid ⟨k4, b4⟩
      rw [hW4]
      clear hW4 k4 b4 hmk hG sw HB
      go_loopw [7] (fun s7 X => ∃ i : Nat, i ≤ m ∧ s7 = .int .i64 i ∧ Hid (TI G m w X (kidsOf (ns.take i)))) (fun s7 _ => m - (intOf s7).toNat)
      case atStart => exact ⟨0, by omega, rfl, HT0⟩
      case round =>
        obtain ⟨i, hi, rfl, HT⟩ := hrel
        clear HT0
        have HPI : Hid (∀ z ∈ kidsOf (ns.take i), 0 ≤ z ∧ z < (m : Int)) := Lib.hid fun z hz => by
          obtain ⟨a, ha, hz'⟩ := List.mem_flatMap.1 hz
          obtain ⟨j, hj⟩ := List.mem_iff_getElem?.1 ha
          rw [List.getElem?_take] at hj
          by_cases e : j < i
          · rw [if_pos e] at hj
            have := HL2.out j a (by omega) hj z hz'
            omega
          · rw [if_neg e] at hj; cases hj
        by_cases hlt : i < m
        · obtain ⟨n, hn⟩ : ∃ n, ns[i]? = some n := ⟨_, List.getElem?_eq_getElem (by rw [HM.out]; omega)⟩
          have hmem : n ∈ ns := List.mem_iff_getElem?.2 ⟨i, hn⟩
          obtain ⟨ck, hI, hb0⟩ := HC.out i n hn
          have hfew := HKF.out n hmem
          obtain ⟨qk, kc, hkv⟩ := hI.form
          rw [hkv] at ck hI
          obtain ⟨kl, hkl⟩ : ∃ kl, n.ks.length = kl := ⟨_, rfl⟩
          rw [hkl] at ck hfew hI
          have HI := Lib.hid hI
          have HKL := Lib.hid hkl
          have HCK := Lib.hid ck
          have HND := Lib.hid hn
          have HS : Hid (kidsOf (ns.take (i + 1)) = kidsOf (ns.take i) ++ n.ks) := Lib.hid (kids_snoc ns i n hn)
          have HLN : Hid (∀ k z, k < kl → n.ks[k]? = some z → 1 ≤ z ∧ z < (m : Int)) := Lib.hid fun k z hk hz => HL2.out i n hlt hn z (List.mem_iff_getElem?.2 ⟨k, hz⟩)
          clear hI hkl ck hn hkv hmem
          go_wp2
          go_loopw [8] (fun s8 X => ∃ k : Nat, k ≤ kl ∧ s8 = .int .i64 k ∧ Hid (TI G m w X (kidsOf (ns.take i) ++ n.ks.take k))) (fun s8 _ => kl - (intOf s8).toNat)
          case atStart => exact ⟨0, by omega, rfl, by simpa using HT⟩
          case round =>
            obtain ⟨k, hk, rfl, HY⟩ := hrel
            obtain ⟨y1, y2⟩ := HY.out
            have dck := (y2.cell (p := ⟨b, off + i * 34 + 1, none⟩) hb0).trans HCK.out
            by_cases hlt2 : k < kl
            · obtain ⟨y, hy⟩ : ∃ y, n.ks[k]? = some y := ⟨_, List.getElem?_eq_getElem (by rw [HKL.out]; omega)⟩
              have hkl2 : k < kl := by omega
              obtain ⟨qb, qo, rfl, cy, ly⟩ := ints_at0' HI.out k y hy
              have dcy := (y2.cell (p := ⟨qb, qo + k, none⟩) ly).trans cy
              obtain ⟨yr0, yr1⟩ := HLN.out k y hlt2 hy
              obtain ⟨yn, rfl⟩ : ∃ yn : Nat, y = (yn : Int) := ⟨y.toNat, by omega⟩
              have hPr : ∀ z ∈ kidsOf (ns.take i) ++ n.ks.take k, 0 ≤ z ∧ z < (m : Int) := fun z hz => by
                rcases List.mem_append.1 hz with h | h
                · exact HPI.out z h
                · obtain ⟨k', hk'⟩ := List.mem_iff_getElem?.1 h
                  rw [List.getElem?_take] at hk'
                  by_cases e : k' < k
                  · rw [if_pos e] at hk'
                    have := HLN.out k' z (by omega) hk'
                    omega
                  · rw [if_neg e] at hk'; cases hk'
              have hval := tmz_val m _ hPr yn (by omega)
              obtain ⟨c, hc⟩ : ∃ c, (kidsOf (ns.take i) ++ n.ks.take k).count (yn : Int) = c := ⟨_, rfl⟩
              have hcb : c ≤ 10000000000 := by
                rw [← hc]
                refine Nat.le_trans List.count_le_length ?_
                have e1 := kids_len ns i HKF.out
                rw [List.length_append, List.length_take]
                have : 70000 * i ≤ 70000 * 65536 := Nat.mul_le_mul_left _ (by omega)
                omega
              rw [hc] at hval
              have cg : wr.cell? ⟨G, yn, none⟩ = some (.int .i64 c) := by rw [y1.cellAt, List.getElem?_map, hval]; rfl
              have fg := y1.free yn
              have S1 : Hid (TI G m w (wr.setCell ⟨G, yn, none⟩ (.int .i64 ((c : Int) + 1))) (kidsOf (ns.take i) ++ n.ks.take (k + 1))) := Lib.hid (by
                have := HY.out.step hGw yn c hval
                rw [List.take_add_one, hy, ← List.append_assoc]
                exact this)
              have z1 : decide ((yn : Int) < 1) = false := by simp; omega
              have z2 : decide ((yn : Int) ≥ (m : Int)) = false := by simp; omega
              clear y1 y2 hy cy HY hval hc hPr
              go_wp2
              go_roundw
              case rel => exact ⟨k + 1, by omega, by go_num, S1⟩
              case measure => (simp [intOf]; try omega)
            · obtain rfl : k = kl := by omega
              have HT2 : Hid (TI G m w wr (kidsOf (ns.take (i + 1)))) := by
                have := HY.out
                rw [List.take_of_length_le (l := n.ks) (by rw [HKL.out]; exact Nat.le_refl _), ← HS.out] at this
                exact Lib.hid this
              clear y1 y2 HY
              go_wp2
              exact ⟨⟨i + 1, by omega, rfl, HT2⟩, by (simp [intOf]; try omega)⟩
        · obtain rfl : m = i := by omega
          have HPA : Hid (∀ z ∈ kidsOf ns, 0 ≤ z ∧ z < (m : Int)) := by
            have := HPI.out
            rw [List.take_of_length_le (by rw [HM.out]; exact Nat.le_refl _)] at this
            exact Lib.hid this
          have HTF : Hid (TI G m w wr (kidsOf ns)) := by
            have := HT.out
            rw [List.take_of_length_le (by rw [HM.out]; exact Nat.le_refl _)] at this
            exact Lib.hid this
          clear HT HPI
          have sw := HTF.out.2.size
          have hGM := HTF.out.1.lt
          obtain ⟨M, hM⟩ : ∃ M, wr.heap.size = M := ⟨_, rfl⟩
          have hMw : w.heap.size ≤ M := by omega
          have hGM2 : G < M := by omega
          have hmk := make_bools m (by omega)
          go_wp2
          try rw [hM]
          obtain ⟨W5, hW5⟩ : ∃ W5, wr.alloc (.cells (metL m []).toArray 4) = W5 := ⟨_, rfl⟩
          have k5 : Whole W5 M 4 (metL m []) := by rw [← hW5, ← hM]; exact whole_new wr _ 4 _ rfl
          have HC0 : Hid (CkI G M m w W5 (kidsOf ns) []) := Lib.hid ⟨by rw [← hW5]; exact HTF.out.1.alloc _, k5, by rw [← hW5]; exact HTF.out.2.alloc sw _⟩
          have hs5 : W5.heap.size = M + 1 := by rw [← hW5, ← hM]; simp
          rw [hW5]
          clear hW5 k5 hmk hM sw hGM HTF
          go_loop [11, 12] (fun s11 s12 => ∃ i : Nat, 1 ≤ i ∧ i ≤ m ∧ s12 = .int .i64 i ∧ s11 = .bool (decide (Z < i))) (fun _ s12 => m - (intOf s12).toNat)
          case atStart => exact ⟨1, by omega, by omega, rfl, by rw [decide_eq_false (by omega)]⟩
          case round =>
            obtain ⟨i, hi1, hi, rfl, rfl⟩ := hrel
            by_cases hlt : i < m
            · by_cases hz1 : Z < i
              · have dz : decide (Z < i) = true := decide_eq_true hz1
                rw [dz]
                go_wp2
                go_round
                case rel => exact ⟨i + 1, by omega, by omega, by go_num, by rw [decide_eq_true (by omega)]⟩
                case measure => (simp [intOf]; try omega)
              · have dz : decide (Z < i) = false := decide_eq_false hz1
                rw [dz]
                obtain ⟨c, hc⟩ : ∃ c, (kidsOf ns).count (i : Int) = c := ⟨_, rfl⟩
                have ct : W5.cell? ⟨G, i, none⟩ = some (.int .i64 c) := by rw [HC0.out.1.cellAt, List.getElem?_map, tmz_val m _ HPA.out i hlt, hc]; rfl
                by_cases hiz : i = Z
                · have cc : ((c : Int) != 1) = true := by
                    have := HZ.out
                    rw [← hiz, hc] at this
                    simp; omega
                  have hzi : Z ≤ i := by omega
                  clear hc hiz
                  go_wp2
                  go_round
                  case rel => exact ⟨i + 1, by omega, by omega, by go_num, by rw [decide_eq_true (by omega)]⟩
                  case measure => (simp [intOf]; try omega)
                · have hc1 : c = 1 := by rw [← hc]; exact HZB.out i hi1 (by omega)
                  subst hc1
                  clear hc
                  go_wp2
                  go_round
                  case rel => exact ⟨i + 1, by omega, by omega, by go_num, by rw [decide_eq_false (by omega)]⟩
                  case measure => (simp [intOf]; try omega)
            · have him : i = m := by omega
              have dz : decide (Z < i) = true := decide_eq_true (by omega)
              rw [dz]
              clear dz
              go_wp2
              go_loopw [15] (fun s15 X => ∃ i : Nat, 1 ≤ i ∧ i ≤ I5 ∧ s15 = .int .i64 i ∧ Hid (CkI G M m w X (kidsOf ns) [])) (fun s15 _ => m - (intOf s15).toNat)
              case atStart => exact ⟨1, by omega, by omega, rfl, HC0⟩
              case round =>
                obtain ⟨i, hi1, hi, rfl, HX⟩ := hrel
                have him5 : i < m := by omega
                obtain ⟨c, hc⟩ : ∃ c, (kidsOf ns).count (i : Int) = c := ⟨_, rfl⟩
                have ct : wr.cell? ⟨G, i, none⟩ = some (.int .i64 c) := by rw [HX.out.1.cellAt, List.getElem?_map, tmz_val m _ HPA.out i him5, hc]; rfl
                have HR := Lib.hid (HRE.out wr HX.out.2.2 i him5)
                by_cases hlt5 : i < I5
                · obtain ⟨g1, g2⟩ := HS5.out i hi1 hlt5
                  have hc1 : c = 1 := by rw [← hc]; exact g1
                  subst hc1
                  rw [g2] at HR
                  clear hc g1 g2
                  go_wp2_with (go_at_call 20; refine HR.out.mono ?_; rintro e w1 ⟨rfl, hb1⟩; have HX1 := Lib.hid (HX.out.below hb1); clear hb1 HX HR)
                  go_roundw
                  case rel => exact ⟨i + 1, by omega, by omega, by go_num, HX1⟩
                  case measure => (simp [intOf]; try omega)
                · obtain rfl : i = I5 := by omega
                  have hX5 := HX.out.2.2
                  by_cases hc1 : c = 1
                  · have hm5 : metB ns (i : Int) = false := by
                      rcases HT5.out with h | h
                      · rw [hc] at h; exact absurd hc1 h
                      · exact h
                    rw [hm5] at HR
                    subst hc1
                    clear hc hm5 hX5
                    go_wp2_with (go_at_call 20; refine HR.out.mono ?_; rintro e w1 ⟨rfl, hb1⟩; have HX1 := Lib.hid (HX.out.2.2.trans (hb1.mono HX.out.2.2.size)); clear hb1 HX HR)
                    refine bodyPost_ret (v := .tuple #[.int .i64 i, .int .i64 41]) (by simp [results, Try.results8, go_sem]) rfl ⟨rfl, HX1.out⟩
                  · have cc : ((c : Int) != 1) = true := by simp; omega
                    have HX5 := Lib.hid hX5
                    clear hc HR hX5
                    go_wp2
                    refine bodyPost_ret (v := .tuple #[.int .i64 i, .int .i64 41]) (by simp [results, Try.results8, go_sem]) rfl ⟨rfl, HX5.out⟩
set_option maxRecDepth 100000 in
set_option maxHeartbeats 16000000 in
theorem refCheck_stray (b off cap m : Nat) (ns : List Nd) (w : World) (hm : ns.length = m) (h1 : 1 ≤ m) (h2 : m ≤ 65536) (hP : PageAt w (.slice (some ⟨b, off, none⟩) m cap) ns) (hK : ∀ n ∈ ns, n.ks.length ≤ 70000) (HW : Hid (∀ j n, j < m → ns[j]? = some n → (!wrongN n) = true)) (HL2 : Hid (∀ j n, j < m → ns[j]? = some n → ∀ z ∈ n.ks, 1 ≤ z ∧ z < (m : Int))) (HZB : Hid (∀ j : Nat, 1 ≤ j → j < m → (kidsOf ns).count (j : Int) = 1)) (I5 : Nat) (hI51 : 1 ≤ I5) (hI5 : I5 < m) (HS5' : Hid (∀ j : Nat, 1 ≤ j → j < I5 → metB ns (j : Int) = true)) (HT5' : Hid (metB ns (I5 : Int) = false)) :
    Calls Try.prog 8 #[.slice (some ⟨b, off, none⟩) m cap] w fun e W' => e = .returned (.tuple #[.int .i64 I5, .int .i64 41]) ∧ Below w.heap.size w W' := by
  have hlk : ∀ n ∈ ns, ∀ z ∈ n.ks, 1 ≤ z ∧ z < (ns.length : Int) := fun n hn z hz => by
    obtain ⟨j, hj⟩ := List.mem_iff_getElem?.1 hn
    have := HL2.out j n (by have := (List.getElem?_eq_some_iff.1 hj).1; omega) hj z hz
    omega
  have hT0 : Tr0 ns := ⟨hlk, fun j h h' => HZB.out j h (by omega)⟩
  obtain ⟨O, hO⟩ : ∃ O, (walkL ns.length (kfOf ns)).map Prod.fst = O := ⟨_, rfl⟩
  have HRG : Hid (∀ z ∈ O, 0 ≤ z ∧ z < (m : Int)) := Lib.hid (by rw [← hO, ← hm]; exact walk_rng (by omega) hlk)
  have HOR : Hid (∀ X : World, Below w.heap.size w X → Calls Try.prog 19 #[.slice (some ⟨b, off, none⟩) m cap, .int .i64 0, .slice none 0 0] X (OrdPost X O)) :=
    Lib.hid fun X hX => by
      have h := order_rec b off cap m ns X hm h1 h2 (hP.below hX) hK (fun n hn z hz => by have := hlk n hn z hz; omega) (m + 2) 0 [] _ X (by omega) (by omega) (by simp) (by simp) (Below.refl _ X) (World.ownsRow_nil _ _ _ _)
      have e : ordD (kfOf ns) m (m + 2) 0 [] = O := by rw [← hO, ← ord_walk hT0 (by omega), hm]; rfl
      rw [e] at h; exact h
  have HS5 : Hid (∀ j : Nat, 1 ≤ j → j < I5 → O.contains (j : Int) = true) := Lib.hid (by rw [← hO]; exact HS5'.out)
  have HT5 : Hid (O.contains (I5 : Int) = false) := Lib.hid (by rw [← hO]; exact HT5'.out)
  clear HT5'
  clear HS5' hO hT0 hlk
  have HN : Hid (∀ (j : Nat) (n : Nd), ns[j]? = some n → ∀ X, Below w.heap.size w X → NdAt X b (off + j * 34) n ∧ n.ok X) := Lib.hid (by
    obtain ⟨b', off', e, hc⟩ := page_some hP (by rw [hm]; exact h1)
    injection e with e; injection e with e1 e2
    subst e1 e2
    exact fun j n hn X hX => ⟨(hc j n hn).below hX, (hP.2.1 n (List.mem_iff_getElem?.2 ⟨j, hn⟩)).below hX⟩)
  have HC : Hid (∀ (j : Nat) (n : Nd), ns[j]? = some n → w.cell? ⟨b, off + j * 34 + 1, none⟩ = some n.kv ∧ Ints w n.kv n.ks ∧ b < w.heap.size) := Lib.hid (by
    obtain ⟨b', off', e, _, hc⟩ := page_cells hP h1
    injection e with e; injection e with e1 e2
    subst e1 e2
    exact fun j n hn => (hc j n hn).2)
  have HP := Lib.hid hP
  have HM := Lib.hid hm
  have HKF := Lib.hid hK
  have d1 : decide ((m : Int) < 1) = false := by simp; omega
  have d2 : decide ((m : Int) > 65536) = false := by simp; omega
  clear hm hK hP
  go_enter Try.func8, Try.ntmps8
  go_wp2
  go_loopw [4] (fun s4 X => ∃ i : Nat, i ≤ m ∧ s4 = .int .i64 i ∧ Hid (Below w.heap.size w X)) (fun s4 _ => m - (intOf s4).toNat)
  case atStart => exact ⟨0, by omega, rfl, Lib.hid (Below.refl _ _)⟩
  case round =>
    obtain ⟨i, hi, rfl, HB⟩ := hrel
    by_cases hlt : i < m
    · obtain ⟨n, hn⟩ : ∃ n, ns[i]? = some n := ⟨_, List.getElem?_eq_getElem (by rw [HM.out]; omega)⟩
      obtain ⟨hnd, hok⟩ := HN.out i n hn wr HB.out
      have hr := right_any n wr hok
      rw [HW.out i n hlt hn] at hr
      obtain ⟨cs, hcs⟩ : ∃ cs, n.cells.toArray = cs := ⟨_, rfl⟩
      have LN : Hid (∀ j v, cs[j]? = some v → wr.cell? ((⟨b, off + i * 34, none⟩ : Addr).add j) = some v) := Lib.hid (by rw [← hcs]; exact hnd.load)
      have iN : Hid ((Try.prog.info? 47).map (·.size) = some cs.size) := Lib.hid (by rw [← hcs]; exact nd_info n)
      have HR : Hid (Calls Try.prog 18 #[.agg cs] wr fun e W' => e = .returned (.bool true) ∧ Below wr.heap.size wr W') := Lib.hid (by rw [← hcs]; exact hr)
      clear hr hcs hn hnd hok
      go_wp2_with (first
        | (refine wpList_load_at rfl 47 (.tmp 34) rfl _ rfl cs _ LN.out Try.underlying47 rfl iN.out ?_)
        | (go_at_call 18; refine HR.out.mono ?_; rintro e w1 ⟨rfl, hb1⟩; have HB1 := Lib.hid (HB.out.trans (hb1.mono HB.out.size)); clear hb1 HB HR LN iN))
      go_roundw
      case rel => exact ⟨i + 1, by omega, by go_num, HB1⟩
      case measure => (simp [intOf]; try omega)
    · obtain rfl : m = i := by omega
      have sw := HB.out.size
      obtain ⟨G, hG⟩ : ∃ G, wr.heap.size = G := ⟨_, rfl⟩
      have hGw : w.heap.size ≤ G := by omega
      have hmk := make_ints m (by omega)
      go_wp2
      try rw [hG]
      obtain ⟨W4, hW4⟩ : ∃ W4, wr.alloc (.cells (Array.replicate m (Value.int .i64 0)) 3) = W4 := ⟨_, rfl⟩
      have k4 : Whole W4 G 3 ((tmz m (kidsOf (ns.take 0))).map (Value.int .i64)) := by
        rw [← hW4, ← hG, show (Array.replicate m (Value.int .i64 0)) = ((tmz m (kidsOf (ns.take 0))).map (Value.int .i64)).toArray from by
          apply Array.toList_inj.1
          simp [tmz, kidsOf]]
        exact whole_new wr _ 3 _ rfl
      have b4 : Below w.heap.size w W4 := by rw [← hW4]; exact HB.out.alloc sw _
      have HT0 : Hid (TI G m w W4 (kidsOf (ns.take 0))) := Lib.hid ⟨k4, b4⟩
      rw [hW4]
      clear hW4 k4 b4 hmk hG sw HB
      go_loopw [7] (fun s7 X => ∃ i : Nat, i ≤ m ∧ s7 = .int .i64 i ∧ Hid (TI G m w X (kidsOf (ns.take i)))) (fun s7 _ => m - (intOf s7).toNat)
      case atStart => exact ⟨0, by omega, rfl, HT0⟩
      case round =>
        obtain ⟨i, hi, rfl, HT⟩ := hrel
        clear HT0
        have HPI : Hid (∀ z ∈ kidsOf (ns.take i), 0 ≤ z ∧ z < (m : Int)) := Lib.hid fun z hz => by
          obtain ⟨a, ha, hz'⟩ := List.mem_flatMap.1 hz
          obtain ⟨j, hj⟩ := List.mem_iff_getElem?.1 ha
          rw [List.getElem?_take] at hj
          by_cases e : j < i
          · rw [if_pos e] at hj
            have := HL2.out j a (by omega) hj z hz'
            omega
          · rw [if_neg e] at hj; cases hj
        by_cases hlt : i < m
        · obtain ⟨n, hn⟩ : ∃ n, ns[i]? = some n := ⟨_, List.getElem?_eq_getElem (by rw [HM.out]; omega)⟩
          have hmem : n ∈ ns := List.mem_iff_getElem?.2 ⟨i, hn⟩
          obtain ⟨ck, hI, hb0⟩ := HC.out i n hn
          have hfew := HKF.out n hmem
          obtain ⟨qk, kc, hkv⟩ := hI.form
          rw [hkv] at ck hI
          obtain ⟨kl, hkl⟩ : ∃ kl, n.ks.length = kl := ⟨_, rfl⟩
          rw [hkl] at ck hfew hI
          have HI := Lib.hid hI
          have HKL := Lib.hid hkl
          have HCK := Lib.hid ck
          have HND := Lib.hid hn
          have HS : Hid (kidsOf (ns.take (i + 1)) = kidsOf (ns.take i) ++ n.ks) := Lib.hid (kids_snoc ns i n hn)
          have HLN : Hid (∀ k z, k < kl → n.ks[k]? = some z → 1 ≤ z ∧ z < (m : Int)) := Lib.hid fun k z hk hz => HL2.out i n hlt hn z (List.mem_iff_getElem?.2 ⟨k, hz⟩)
          clear hI hkl ck hn hkv hmem
          go_wp2
          go_loopw [8] (fun s8 X => ∃ k : Nat, k ≤ kl ∧ s8 = .int .i64 k ∧ Hid (TI G m w X (kidsOf (ns.take i) ++ n.ks.take k))) (fun s8 _ => kl - (intOf s8).toNat)
          case atStart => exact ⟨0, by omega, rfl, by simpa using HT⟩
          case round =>
            obtain ⟨k, hk, rfl, HY⟩ := hrel
            obtain ⟨y1, y2⟩ := HY.out
            have dck := (y2.cell (p := ⟨b, off + i * 34 + 1, none⟩) hb0).trans HCK.out
            by_cases hlt2 : k < kl
            · obtain ⟨y, hy⟩ : ∃ y, n.ks[k]? = some y := ⟨_, List.getElem?_eq_getElem (by rw [HKL.out]; omega)⟩
              have hkl2 : k < kl := by omega
              obtain ⟨qb, qo, rfl, cy, ly⟩ := ints_at0' HI.out k y hy
              have dcy := (y2.cell (p := ⟨qb, qo + k, none⟩) ly).trans cy
              obtain ⟨yr0, yr1⟩ := HLN.out k y hlt2 hy
              obtain ⟨yn, rfl⟩ : ∃ yn : Nat, y = (yn : Int) := ⟨y.toNat, by omega⟩
              have hPr : ∀ z ∈ kidsOf (ns.take i) ++ n.ks.take k, 0 ≤ z ∧ z < (m : Int) := fun z hz => by
                rcases List.mem_append.1 hz with h | h
                · exact HPI.out z h
                · obtain ⟨k', hk'⟩ := List.mem_iff_getElem?.1 h
                  rw [List.getElem?_take] at hk'
                  by_cases e : k' < k
                  · rw [if_pos e] at hk'
                    have := HLN.out k' z (by omega) hk'
                    omega
                  · rw [if_neg e] at hk'; cases hk'
              have hval := tmz_val m _ hPr yn (by omega)
              obtain ⟨c, hc⟩ : ∃ c, (kidsOf (ns.take i) ++ n.ks.take k).count (yn : Int) = c := ⟨_, rfl⟩
              have hcb : c ≤ 10000000000 := by
                rw [← hc]
                refine Nat.le_trans List.count_le_length ?_
                have e1 := kids_len ns i HKF.out
                rw [List.length_append, List.length_take]
                have : 70000 * i ≤ 70000 * 65536 := Nat.mul_le_mul_left _ (by omega)
                omega
              rw [hc] at hval
              have cg : wr.cell? ⟨G, yn, none⟩ = some (.int .i64 c) := by rw [y1.cellAt, List.getElem?_map, hval]; rfl
              have fg := y1.free yn
              have S1 : Hid (TI G m w (wr.setCell ⟨G, yn, none⟩ (.int .i64 ((c : Int) + 1))) (kidsOf (ns.take i) ++ n.ks.take (k + 1))) := Lib.hid (by
                have := HY.out.step hGw yn c hval
                rw [List.take_add_one, hy, ← List.append_assoc]
                exact this)
              have z1 : decide ((yn : Int) < 1) = false := by simp; omega
              have z2 : decide ((yn : Int) ≥ (m : Int)) = false := by simp; omega
              clear y1 y2 hy cy HY hval hc hPr
              go_wp2
              go_roundw
              case rel => exact ⟨k + 1, by omega, by go_num, S1⟩
              case measure => (simp [intOf]; try omega)
            · obtain rfl : k = kl := by omega
              have HT2 : Hid (TI G m w wr (kidsOf (ns.take (i + 1)))) := by
                have := HY.out
                rw [List.take_of_length_le (l := n.ks) (by rw [HKL.out]; exact Nat.le_refl _), ← HS.out] at this
                exact Lib.hid this
              clear y1 y2 HY
              go_wp2
              exact ⟨⟨i + 1, by omega, rfl, HT2⟩, by (simp [intOf]; try omega)⟩
        · obtain rfl : m = i := by omega
          have HPA : Hid (∀ z ∈ kidsOf ns, 0 ≤ z ∧ z < (m : Int)) := by
            have := HPI.out
            rw [List.take_of_length_le (by rw [HM.out]; exact Nat.le_refl _)] at this
            exact Lib.hid this
          have HTF : Hid (TI G m w wr (kidsOf ns)) := by
            have := HT.out
            rw [List.take_of_length_le (by rw [HM.out]; exact Nat.le_refl _)] at this
            exact Lib.hid this
          clear HT HPI
          have sw := HTF.out.2.size
          have hGM := HTF.out.1.lt
          obtain ⟨M, hM⟩ : ∃ M, wr.heap.size = M := ⟨_, rfl⟩
          have hMw : w.heap.size ≤ M := by omega
          have hGM2 : G < M := by omega
          have hmk := make_bools m (by omega)
          go_wp2
          try rw [hM]
          obtain ⟨W5, hW5⟩ : ∃ W5, wr.alloc (.cells (metL m []).toArray 4) = W5 := ⟨_, rfl⟩
          have k5 : Whole W5 M 4 (metL m []) := by rw [← hW5, ← hM]; exact whole_new wr _ 4 _ rfl
          have HC0 : Hid (CkI G M m w W5 (kidsOf ns) []) := Lib.hid ⟨by rw [← hW5]; exact HTF.out.1.alloc _, k5, by rw [← hW5]; exact HTF.out.2.alloc sw _⟩
          have hs5 : W5.heap.size = M + 1 := by rw [← hW5, ← hM]; simp
          rw [hW5]
          clear hW5 k5 hmk hM sw hGM HTF
          go_loop [11, 12] (fun s11 s12 => ∃ i : Nat, 1 ≤ i ∧ i ≤ m ∧ s12 = .int .i64 i ∧ s11 = .bool false) (fun _ s12 => m - (intOf s12).toNat)
          case atStart => exact ⟨1, by omega, by omega, rfl, rfl⟩
          case round =>
            obtain ⟨i, hi1, hi, rfl, rfl⟩ := hrel
            by_cases hlt : i < m
            · have ct : W5.cell? ⟨G, i, none⟩ = some (.int .i64 1) := by rw [HC0.out.1.cellAt, List.getElem?_map, tmz_val m _ HPA.out i hlt, HZB.out i hi1 hlt]; rfl
              go_wp2
              go_round
              case rel => exact ⟨i + 1, by omega, by omega, by go_num, rfl⟩
              case measure => (simp [intOf]; try omega)
            · have him : i = m := by omega
              clear him
              have HOR2 := Lib.hid (HOR.out W5 HC0.out.2.2)
              go_wp2_with (go_at_call 19; refine HOR2.out.mono ?_; clear HOR2; rintro e w2 ⟨v2, rfl, o2, b2⟩; have HIO := Lib.hid (ints_own o2).1; have HA := Lib.hid ((ints_own o2).2.2 M (by omega)); have HA2 := Lib.hid ((ints_own o2).2.2 G (by omega)); have HC1 := Lib.hid (HC0.out.below b2); obtain ⟨q2, c2, hv⟩ := (ints_own o2).1.form; subst hv; clear o2 b2)
              obtain ⟨lo, hlo⟩ : ∃ lo, O.length = lo := ⟨_, rfl⟩
              have hlo2 : lo ≤ 9223372036854775807 := by rw [← hlo]; exact HIO.out.1
              rw [hlo] at HIO HA HA2 ⊢
              have HLO := Lib.hid hlo
              clear hlo
              go_loopw [14] (fun s14 X => ∃ i : Nat, i ≤ lo ∧ s14 = .int .i64 i ∧ Hid (CkI G M m w X (kidsOf ns) (O.take i)) ∧ Hid (Ints X (.slice q2 lo c2) O)) (fun s14 _ => lo - (intOf s14).toNat)
              case atStart => exact ⟨0, by omega, rfl, HC1, HIO⟩
              case round =>
                obtain ⟨i4, hi4, rfl, HX, HI4⟩ := hrel
                by_cases hlt4 : i4 < lo
                · obtain ⟨z, hz⟩ : ∃ z, O[i4]? = some z := ⟨_, List.getElem?_eq_getElem (by rw [HLO.out]; exact hlt4)⟩
                  obtain ⟨zr0, zr1⟩ := HRG.out z (List.mem_iff_getElem?.2 ⟨i4, hz⟩)
                  obtain ⟨zn, rfl⟩ : ∃ zn : Nat, z = (zn : Int) := ⟨z.toNat, by omega⟩
                  obtain ⟨ob, oo, rfl, cz, lz⟩ := ints_at0' HI4.out i4 _ hz
                  obtain ⟨x1, x2, x3⟩ := HX.out
                  have cm : wr.cell? ⟨M, zn, none⟩ = some (.bool ((O.take i4).contains (zn : Int))) := by rw [x2.cellAt, metL_get m _ zn (by omega)]
                  have fm := x2.free zn
                  have S1 : Hid (CkI G M m w (wr.setCell ⟨M, zn, none⟩ (.bool true)) (kidsOf ns) (O.take (i4 + 1))) := Lib.hid (by
                    refine ⟨x1.other _ _ (by show G ≠ M; omega), ?_, x3.setCell (p := ⟨M, zn, none⟩) hMw _⟩
                    have := x2.set zn (.bool true)
                    rw [metL_set m _ zn (by omega)] at this
                    rw [List.take_add_one, hz]
                    exact this)
                  have S2 : Hid (Ints (wr.setCell ⟨M, zn, none⟩ (.bool true)) (.slice (some ⟨ob, oo, none⟩) lo c2) O) := Lib.hid (HI4.out.setApart _ _ HA.out)
                  clear x1 x2 x3 hz
                  go_wp2
                  go_roundw
                  case rel => exact ⟨i4 + 1, by omega, by go_num, S1, S2⟩
                  case measure => (simp [intOf]; try omega)
                · obtain rfl : lo = i4 := by omega
                  have HX4 : Hid (CkI G M m w wr (kidsOf ns) O) := by
                    have := HX.out
                    rw [List.take_of_length_le (by rw [HLO.out]; exact Nat.le_refl _)] at this
                    exact Lib.hid this
                  clear HX HI4
                  go_wp2
                  go_loop [15] (fun s15 => ∃ i : Nat, 1 ≤ i ∧ i ≤ I5 ∧ s15 = .int .i64 i) (fun s15 => m - (intOf s15).toNat)
                  case atStart => exact ⟨1, by omega, by omega, rfl⟩
                  case round =>
                    obtain ⟨i5, hi51, hi5, rfl⟩ := hrel
                    by_cases hlt5 : i5 < I5
                    · have ct : wr.cell? ⟨G, i5, none⟩ = some (.int .i64 1) := by rw [HX4.out.1.cellAt, List.getElem?_map, tmz_val m _ HPA.out i5 (by omega), HZB.out i5 hi51 (by omega)]; rfl
                      have cm : wr.cell? ⟨M, i5, none⟩ = some (.bool true) := by rw [HX4.out.2.1.cellAt, metL_get m _ i5 (by omega), HS5.out i5 hi51 hlt5]
                      go_wp2
                      go_round
                      case rel => exact ⟨i5 + 1, by omega, by omega, by go_num⟩
                      case measure => (simp [intOf]; try omega)
                    · obtain rfl : i5 = I5 := by omega
                      have ct : wr.cell? ⟨G, i5, none⟩ = some (.int .i64 1) := by rw [HX4.out.1.cellAt, List.getElem?_map, tmz_val m _ HPA.out i5 (by omega), HZB.out i5 hi51 (by omega)]; rfl
                      have cm : wr.cell? ⟨M, i5, none⟩ = some (.bool false) := by rw [HX4.out.2.1.cellAt, metL_get m _ i5 (by omega), HT5.out]
                      have X3 := Lib.hid HX4.out.2.2
                      go_wp2
                      refine bodyPost_ret (v := .tuple #[.int .i64 i5, .int .i64 41]) (by simp [results, Try.results8, go_sem]) rfl ⟨rfl, X3.out⟩
set_option maxRecDepth 100000 in
set_option maxHeartbeats 16000000 in
theorem refCheck_deep (b off cap m : Nat) (ns : List Nd) (w : World) (hm : ns.length = m) (h1 : 1 ≤ m) (h2 : m ≤ 65536) (hP : PageAt w (.slice (some ⟨b, off, none⟩) m cap) ns) (hK : ∀ n ∈ ns, n.ks.length ≤ 70000) (HW : Hid (∀ j n, j < m → ns[j]? = some n → (!wrongN n) = true)) (HL2 : Hid (∀ j n, j < m → ns[j]? = some n → ∀ z ∈ n.ks, 1 ≤ z ∧ z < (m : Int))) (HZB : Hid (∀ j : Nat, 1 ≤ j → j < m → (kidsOf ns).count (j : Int) = 1)) (F : NoStray ns) (HS5' : Hid (∀ j : Nat, 1 ≤ j → j < m → metB ns (j : Int) = true)) (I6 : Nat) (hI6 : I6 < m) (HD6 : Hid (∀ j z, j < I6 → (depthsP ns)[j]? = some z → deepB z = false)) (HE6 : Hid (∀ z, (depthsP ns)[I6]? = some z → deepB z = true)) :
    Calls Try.prog 8 #[.slice (some ⟨b, off, none⟩) m cap] w fun e W' => e = .returned (.tuple #[.int .i64 I6, .int .i64 42]) ∧ Below w.heap.size w W' := by
  have hlk : ∀ n ∈ ns, ∀ z ∈ n.ks, 1 ≤ z ∧ z < (ns.length : Int) := fun n hn z hz => by
    obtain ⟨j, hj⟩ := List.mem_iff_getElem?.1 hn
    have := HL2.out j n (by have := (List.getElem?_eq_some_iff.1 hj).1; omega) hj z hz
    omega
  have hT0 : Tr0 ns := ⟨hlk, fun j h h' => HZB.out j h (by omega)⟩
  obtain ⟨O, hO⟩ : ∃ O, (walkL ns.length (kfOf ns)).map Prod.fst = O := ⟨_, rfl⟩
  have HRG : Hid (∀ z ∈ O, 0 ≤ z ∧ z < (m : Int)) := Lib.hid (by rw [← hO, ← hm]; exact walk_rng (by omega) hlk)
  have HOR : Hid (∀ X : World, Below w.heap.size w X → Calls Try.prog 19 #[.slice (some ⟨b, off, none⟩) m cap, .int .i64 0, .slice none 0 0] X (OrdPost X O)) :=
    Lib.hid fun X hX => by
      have h := order_rec b off cap m ns X hm h1 h2 (hP.below hX) hK (fun n hn z hz => by have := hlk n hn z hz; omega) (m + 2) 0 [] _ X (by omega) (by omega) (by simp) (by simp) (Below.refl _ X) (World.ownsRow_nil _ _ _ _)
      have e : ordD (kfOf ns) m (m + 2) 0 [] = O := by rw [← hO, ← ord_walk hT0 (by omega), hm]; rfl
      rw [e] at h; exact h
  have HS5 : Hid (∀ j : Nat, 1 ≤ j → j < m → O.contains (j : Int) = true) := Lib.hid (by rw [← hO]; exact HS5'.out)
  clear HS5' hO hT0 hlk
  have HDP : Hid (∀ X : World, Below w.heap.size w X → Calls Try.prog 21 #[.slice (some ⟨b, off, none⟩) m cap] X fun e W' => e = .returned (.slice (some ⟨X.heap.size, 0, none⟩) m m) ∧ Whole W' X.heap.size 3 ((depthsP ns).map (Value.int .i64)) ∧ Below X.heap.size X W') :=
    Lib.hid fun X hX => refDepths_at b off cap m ns X F hm h2 (hP.below hX) hK
  have HDL : Hid ((depthsP ns).length = m) := Lib.hid (by unfold depthsP; rw [depL_len]; exact hm)
  clear F
  have HN : Hid (∀ (j : Nat) (n : Nd), ns[j]? = some n → ∀ X, Below w.heap.size w X → NdAt X b (off + j * 34) n ∧ n.ok X) := Lib.hid (by
    obtain ⟨b', off', e, hc⟩ := page_some hP (by rw [hm]; exact h1)
    injection e with e; injection e with e1 e2
    subst e1 e2
    exact fun j n hn X hX => ⟨(hc j n hn).below hX, (hP.2.1 n (List.mem_iff_getElem?.2 ⟨j, hn⟩)).below hX⟩)
  have HC : Hid (∀ (j : Nat) (n : Nd), ns[j]? = some n → w.cell? ⟨b, off + j * 34 + 1, none⟩ = some n.kv ∧ Ints w n.kv n.ks ∧ b < w.heap.size) := Lib.hid (by
    obtain ⟨b', off', e, _, hc⟩ := page_cells hP h1
    injection e with e; injection e with e1 e2
    subst e1 e2
    exact fun j n hn => (hc j n hn).2)
  have HP := Lib.hid hP
  have HM := Lib.hid hm
  have HKF := Lib.hid hK
  have d1 : decide ((m : Int) < 1) = false := by simp; omega
  have d2 : decide ((m : Int) > 65536) = false := by simp; omega
  clear hm hK hP
  go_enter Try.func8, Try.ntmps8
  go_wp2
  go_loopw [4] (fun s4 X => ∃ i : Nat, i ≤ m ∧ s4 = .int .i64 i ∧ Hid (Below w.heap.size w X)) (fun s4 _ => m - (intOf s4).toNat)
  case atStart => exact ⟨0, by omega, rfl, Lib.hid (Below.refl _ _)⟩
  case round =>
    obtain ⟨i, hi, rfl, HB⟩ := hrel
    by_cases hlt : i < m
    · obtain ⟨n, hn⟩ : ∃ n, ns[i]? = some n := ⟨_, List.getElem?_eq_getElem (by rw [HM.out]; omega)⟩
      obtain ⟨hnd, hok⟩ := HN.out i n hn wr HB.out
      have hr := right_any n wr hok
      rw [HW.out i n hlt hn] at hr
      obtain ⟨cs, hcs⟩ : ∃ cs, n.cells.toArray = cs := ⟨_, rfl⟩
      have LN : Hid (∀ j v, cs[j]? = some v → wr.cell? ((⟨b, off + i * 34, none⟩ : Addr).add j) = some v) := Lib.hid (by rw [← hcs]; exact hnd.load)
      have iN : Hid ((Try.prog.info? 47).map (·.size) = some cs.size) := Lib.hid (by rw [← hcs]; exact nd_info n)
      have HR : Hid (Calls Try.prog 18 #[.agg cs] wr fun e W' => e = .returned (.bool true) ∧ Below wr.heap.size wr W') := Lib.hid (by rw [← hcs]; exact hr)
      clear hr hcs hn hnd hok
      go_wp2_with (first
        | (refine wpList_load_at rfl 47 (.tmp 34) rfl _ rfl cs _ LN.out Try.underlying47 rfl iN.out ?_)
        | (go_at_call 18; refine HR.out.mono ?_; rintro e w1 ⟨rfl, hb1⟩; have HB1 := Lib.hid (HB.out.trans (hb1.mono HB.out.size)); clear hb1 HB HR LN iN))
      go_roundw
      case rel => exact ⟨i + 1, by omega, by go_num, HB1⟩
      case measure => (simp [intOf]; try omega)
    · obtain rfl : m = i := by omega
      have sw := HB.out.size
      obtain ⟨G, hG⟩ : ∃ G, wr.heap.size = G := ⟨_, rfl⟩
      have hGw : w.heap.size ≤ G := by omega
      have hmk := make_ints m (by omega)
      go_wp2
      try rw [hG]
      obtain ⟨W4, hW4⟩ : ∃ W4, wr.alloc (.cells (Array.replicate m (Value.int .i64 0)) 3) = W4 := ⟨_, rfl⟩
      have k4 : Whole W4 G 3 ((tmz m (kidsOf (ns.take 0))).map (Value.int .i64)) := by
        rw [← hW4, ← hG, show (Array.replicate m (Value.int .i64 0)) = ((tmz m (kidsOf (ns.take 0))).map (Value.int .i64)).toArray from by
          apply Array.toList_inj.1
          simp [tmz, kidsOf]]
        exact whole_new wr _ 3 _ rfl
      have b4 : Below w.heap.size w W4 := by rw [← hW4]; exact HB.out.alloc sw _
      have HT0 : Hid (TI G m w W4 (kidsOf (ns.take 0))) := Lib.hid ⟨k4, b4⟩
      rw [hW4]
      clear hW4 k4 b4 hmk hG sw HB
      go_loopw [7] (fun s7 X => ∃ i : Nat, i ≤ m ∧ s7 = .int .i64 i ∧ Hid (TI G m w X (kidsOf (ns.take i)))) (fun s7 _ => m - (intOf s7).toNat)
      case atStart => exact ⟨0, by omega, rfl, HT0⟩
      case round =>
        obtain ⟨i, hi, rfl, HT⟩ := hrel
        clear HT0
        have HPI : Hid (∀ z ∈ kidsOf (ns.take i), 0 ≤ z ∧ z < (m : Int)) := Lib.hid fun z hz => by
          obtain ⟨a, ha, hz'⟩ := List.mem_flatMap.1 hz
          obtain ⟨j, hj⟩ := List.mem_iff_getElem?.1 ha
          rw [List.getElem?_take] at hj
          by_cases e : j < i
          · rw [if_pos e] at hj
            have := HL2.out j a (by omega) hj z hz'
            omega
          · rw [if_neg e] at hj; cases hj
        by_cases hlt : i < m
        · obtain ⟨n, hn⟩ : ∃ n, ns[i]? = some n := ⟨_, List.getElem?_eq_getElem (by rw [HM.out]; omega)⟩
          have hmem : n ∈ ns := List.mem_iff_getElem?.2 ⟨i, hn⟩
          obtain ⟨ck, hI, hb0⟩ := HC.out i n hn
          have hfew := HKF.out n hmem
          obtain ⟨qk, kc, hkv⟩ := hI.form
          rw [hkv] at ck hI
          obtain ⟨kl, hkl⟩ : ∃ kl, n.ks.length = kl := ⟨_, rfl⟩
          rw [hkl] at ck hfew hI
          have HI := Lib.hid hI
          have HKL := Lib.hid hkl
          have HCK := Lib.hid ck
          have HND := Lib.hid hn
          have HS : Hid (kidsOf (ns.take (i + 1)) = kidsOf (ns.take i) ++ n.ks) := Lib.hid (kids_snoc ns i n hn)
          have HLN : Hid (∀ k z, k < kl → n.ks[k]? = some z → 1 ≤ z ∧ z < (m : Int)) := Lib.hid fun k z hk hz => HL2.out i n hlt hn z (List.mem_iff_getElem?.2 ⟨k, hz⟩)
          clear hI hkl ck hn hkv hmem
          go_wp2
          go_loopw [8] (fun s8 X => ∃ k : Nat, k ≤ kl ∧ s8 = .int .i64 k ∧ Hid (TI G m w X (kidsOf (ns.take i) ++ n.ks.take k))) (fun s8 _ => kl - (intOf s8).toNat)
          case atStart => exact ⟨0, by omega, rfl, by simpa using HT⟩
          case round =>
            obtain ⟨k, hk, rfl, HY⟩ := hrel
            obtain ⟨y1, y2⟩ := HY.out
            have dck := (y2.cell (p := ⟨b, off + i * 34 + 1, none⟩) hb0).trans HCK.out
            by_cases hlt2 : k < kl
            · obtain ⟨y, hy⟩ : ∃ y, n.ks[k]? = some y := ⟨_, List.getElem?_eq_getElem (by rw [HKL.out]; omega)⟩
              have hkl2 : k < kl := by omega
              obtain ⟨qb, qo, rfl, cy, ly⟩ := ints_at0' HI.out k y hy
              have dcy := (y2.cell (p := ⟨qb, qo + k, none⟩) ly).trans cy
              obtain ⟨yr0, yr1⟩ := HLN.out k y hlt2 hy
              obtain ⟨yn, rfl⟩ : ∃ yn : Nat, y = (yn : Int) := ⟨y.toNat, by omega⟩
              have hPr : ∀ z ∈ kidsOf (ns.take i) ++ n.ks.take k, 0 ≤ z ∧ z < (m : Int) := fun z hz => by
                rcases List.mem_append.1 hz with h | h
                · exact HPI.out z h
                · obtain ⟨k', hk'⟩ := List.mem_iff_getElem?.1 h
                  rw [List.getElem?_take] at hk'
                  by_cases e : k' < k
                  · rw [if_pos e] at hk'
                    have := HLN.out k' z (by omega) hk'
                    omega
                  · rw [if_neg e] at hk'; cases hk'
              have hval := tmz_val m _ hPr yn (by omega)
              obtain ⟨c, hc⟩ : ∃ c, (kidsOf (ns.take i) ++ n.ks.take k).count (yn : Int) = c := ⟨_, rfl⟩
              have hcb : c ≤ 10000000000 := by
                rw [← hc]
                refine Nat.le_trans List.count_le_length ?_
                have e1 := kids_len ns i HKF.out
                rw [List.length_append, List.length_take]
                have : 70000 * i ≤ 70000 * 65536 := Nat.mul_le_mul_left _ (by omega)
                omega
              rw [hc] at hval
              have cg : wr.cell? ⟨G, yn, none⟩ = some (.int .i64 c) := by rw [y1.cellAt, List.getElem?_map, hval]; rfl
              have fg := y1.free yn
              have S1 : Hid (TI G m w (wr.setCell ⟨G, yn, none⟩ (.int .i64 ((c : Int) + 1))) (kidsOf (ns.take i) ++ n.ks.take (k + 1))) := Lib.hid (by
                have := HY.out.step hGw yn c hval
                rw [List.take_add_one, hy, ← List.append_assoc]
                exact this)
              have z1 : decide ((yn : Int) < 1) = false := by simp; omega
              have z2 : decide ((yn : Int) ≥ (m : Int)) = false := by simp; omega
              clear y1 y2 hy cy HY hval hc hPr
              go_wp2
              go_roundw
              case rel => exact ⟨k + 1, by omega, by go_num, S1⟩
              case measure => (simp [intOf]; try omega)
            · obtain rfl : k = kl := by omega
              have HT2 : Hid (TI G m w wr (kidsOf (ns.take (i + 1)))) := by
                have := HY.out
                rw [List.take_of_length_le (l := n.ks) (by rw [HKL.out]; exact Nat.le_refl _), ← HS.out] at this
                exact Lib.hid this
              clear y1 y2 HY
              go_wp2
              exact ⟨⟨i + 1, by omega, rfl, HT2⟩, by (simp [intOf]; try omega)⟩
        · obtain rfl : m = i := by omega
          have HPA : Hid (∀ z ∈ kidsOf ns, 0 ≤ z ∧ z < (m : Int)) := by
            have := HPI.out
            rw [List.take_of_length_le (by rw [HM.out]; exact Nat.le_refl _)] at this
            exact Lib.hid this
          have HTF : Hid (TI G m w wr (kidsOf ns)) := by
            have := HT.out
            rw [List.take_of_length_le (by rw [HM.out]; exact Nat.le_refl _)] at this
            exact Lib.hid this
          clear HT HPI
          have sw := HTF.out.2.size
          have hGM := HTF.out.1.lt
          obtain ⟨M, hM⟩ : ∃ M, wr.heap.size = M := ⟨_, rfl⟩
          have hMw : w.heap.size ≤ M := by omega
          have hGM2 : G < M := by omega
          have hmk := make_bools m (by omega)
          go_wp2
          try rw [hM]
          obtain ⟨W5, hW5⟩ : ∃ W5, wr.alloc (.cells (metL m []).toArray 4) = W5 := ⟨_, rfl⟩
          have k5 : Whole W5 M 4 (metL m []) := by rw [← hW5, ← hM]; exact whole_new wr _ 4 _ rfl
          have HC0 : Hid (CkI G M m w W5 (kidsOf ns) []) := Lib.hid ⟨by rw [← hW5]; exact HTF.out.1.alloc _, k5, by rw [← hW5]; exact HTF.out.2.alloc sw _⟩
          have hs5 : W5.heap.size = M + 1 := by rw [← hW5, ← hM]; simp
          rw [hW5]
          clear hW5 k5 hmk hM sw hGM HTF
          go_loop [11, 12] (fun s11 s12 => ∃ i : Nat, 1 ≤ i ∧ i ≤ m ∧ s12 = .int .i64 i ∧ s11 = .bool false) (fun _ s12 => m - (intOf s12).toNat)
          case atStart => exact ⟨1, by omega, by omega, rfl, rfl⟩
          case round =>
            obtain ⟨i, hi1, hi, rfl, rfl⟩ := hrel
            by_cases hlt : i < m
            · have ct : W5.cell? ⟨G, i, none⟩ = some (.int .i64 1) := by rw [HC0.out.1.cellAt, List.getElem?_map, tmz_val m _ HPA.out i hlt, HZB.out i hi1 hlt]; rfl
              go_wp2
              go_round
              case rel => exact ⟨i + 1, by omega, by omega, by go_num, rfl⟩
              case measure => (simp [intOf]; try omega)
            · have him : i = m := by omega
              clear him
              have HOR2 := Lib.hid (HOR.out W5 HC0.out.2.2)
              go_wp2_with (go_at_call 19; refine HOR2.out.mono ?_; clear HOR2; rintro e w2 ⟨v2, rfl, o2, b2⟩; have HIO := Lib.hid (ints_own o2).1; have HA := Lib.hid ((ints_own o2).2.2 M (by omega)); have HA2 := Lib.hid ((ints_own o2).2.2 G (by omega)); have HC1 := Lib.hid (HC0.out.below b2); obtain ⟨q2, c2, hv⟩ := (ints_own o2).1.form; subst hv; clear o2 b2)
              obtain ⟨lo, hlo⟩ : ∃ lo, O.length = lo := ⟨_, rfl⟩
              have hlo2 : lo ≤ 9223372036854775807 := by rw [← hlo]; exact HIO.out.1
              rw [hlo] at HIO HA HA2 ⊢
              have HLO := Lib.hid hlo
              clear hlo
              go_loopw [14] (fun s14 X => ∃ i : Nat, i ≤ lo ∧ s14 = .int .i64 i ∧ Hid (CkI G M m w X (kidsOf ns) (O.take i)) ∧ Hid (Ints X (.slice q2 lo c2) O)) (fun s14 _ => lo - (intOf s14).toNat)
              case atStart => exact ⟨0, by omega, rfl, HC1, HIO⟩
              case round =>
                obtain ⟨i4, hi4, rfl, HX, HI4⟩ := hrel
                by_cases hlt4 : i4 < lo
                · obtain ⟨z, hz⟩ : ∃ z, O[i4]? = some z := ⟨_, List.getElem?_eq_getElem (by rw [HLO.out]; exact hlt4)⟩
                  obtain ⟨zr0, zr1⟩ := HRG.out z (List.mem_iff_getElem?.2 ⟨i4, hz⟩)
                  obtain ⟨zn, rfl⟩ : ∃ zn : Nat, z = (zn : Int) := ⟨z.toNat, by omega⟩
                  obtain ⟨ob, oo, rfl, cz, lz⟩ := ints_at0' HI4.out i4 _ hz
                  obtain ⟨x1, x2, x3⟩ := HX.out
                  have cm : wr.cell? ⟨M, zn, none⟩ = some (.bool ((O.take i4).contains (zn : Int))) := by rw [x2.cellAt, metL_get m _ zn (by omega)]
                  have fm := x2.free zn
                  have S1 : Hid (CkI G M m w (wr.setCell ⟨M, zn, none⟩ (.bool true)) (kidsOf ns) (O.take (i4 + 1))) := Lib.hid (by
                    refine ⟨x1.other _ _ (by show G ≠ M; omega), ?_, x3.setCell (p := ⟨M, zn, none⟩) hMw _⟩
                    have := x2.set zn (.bool true)
                    rw [metL_set m _ zn (by omega)] at this
                    rw [List.take_add_one, hz]
                    exact this)
                  have S2 : Hid (Ints (wr.setCell ⟨M, zn, none⟩ (.bool true)) (.slice (some ⟨ob, oo, none⟩) lo c2) O) := Lib.hid (HI4.out.setApart _ _ HA.out)
                  clear x1 x2 x3 hz
                  go_wp2
                  go_roundw
                  case rel => exact ⟨i4 + 1, by omega, by go_num, S1, S2⟩
                  case measure => (simp [intOf]; try omega)
                · obtain rfl : lo = i4 := by omega
                  have HX4 : Hid (CkI G M m w wr (kidsOf ns) O) := by
                    have := HX.out
                    rw [List.take_of_length_le (by rw [HLO.out]; exact Nat.le_refl _)] at this
                    exact Lib.hid this
                  clear HX HI4
                  go_wp2
                  go_loop [15] (fun s15 => ∃ i : Nat, 1 ≤ i ∧ i ≤ m ∧ s15 = .int .i64 i) (fun s15 => m - (intOf s15).toNat)
                  case atStart => exact ⟨1, by omega, by omega, rfl⟩
                  case round =>
                    obtain ⟨i5, hi51, hi5, rfl⟩ := hrel
                    by_cases hlt5 : i5 < m
                    · have ct : wr.cell? ⟨G, i5, none⟩ = some (.int .i64 1) := by rw [HX4.out.1.cellAt, List.getElem?_map, tmz_val m _ HPA.out i5 (by omega), HZB.out i5 hi51 (by omega)]; rfl
                      have cm : wr.cell? ⟨M, i5, none⟩ = some (.bool true) := by rw [HX4.out.2.1.cellAt, metL_get m _ i5 (by omega), HS5.out i5 hi51 hlt5]
                      go_wp2
                      go_round
                      case rel => exact ⟨i5 + 1, by omega, by omega, by go_num⟩
                      case measure => (simp [intOf]; try omega)
                    · obtain rfl : m = i5 := by omega
                      have HDP2 := Lib.hid (HDP.out wr HX4.out.2.2)
                      obtain ⟨D0, hD0⟩ : ∃ D0, wr.heap.size = D0 := ⟨_, rfl⟩
                      go_wp2_with (go_at_call 21; refine HDP2.out.mono ?_; clear HDP2; rintro e w6 ⟨rfl, k6, b6⟩; have HK6 := Lib.hid k6; have HB6 := Lib.hid (HX4.out.2.2.trans (b6.mono HX4.out.2.2.size)); clear k6 b6)
                      go_loop [17] (fun s17 => ∃ i : Nat, i ≤ I6 ∧ s17 = .int .i64 i) (fun s17 => m - (intOf s17).toNat)
                      case atStart => exact ⟨0, by omega, rfl⟩
                      case round =>
                        obtain ⟨i6, hi6, rfl⟩ := hrel
                        by_cases hlt6 : i6 < I6
                        · obtain ⟨z, hz⟩ : ∃ z, (depthsP ns)[i6]? = some z := ⟨_, List.getElem?_eq_getElem (by rw [HDL.out]; omega)⟩
                          have cz := HK6.out.cellAt i6
                          rw [List.getElem?_map, hz] at cz
                          simp only [Option.map_some] at cz
                          have dz : decide (z > 64) = false := by
                            have := HD6.out i6 z hlt6 hz
                            simp [deepB] at this; simp; omega
                          clear hz
                          try rw [hD0] at cz
                          go_wp2
                          go_round
                          case rel => exact ⟨i6 + 1, by omega, by go_num⟩
                          case measure => (simp [intOf]; try omega)
                        · obtain rfl : i6 = I6 := by omega
                          obtain ⟨z, hz⟩ : ∃ z, (depthsP ns)[i6]? = some z := ⟨_, List.getElem?_eq_getElem (by rw [HDL.out]; omega)⟩
                          have cz := HK6.out.cellAt i6
                          rw [List.getElem?_map, hz] at cz
                          simp only [Option.map_some] at cz
                          have dz : decide (z > 64) = true := by
                            have := HE6.out z hz
                            simp [deepB] at this; simp; omega
                          clear hz
                          try rw [hD0] at cz
                          go_wp2
                          refine bodyPost_ret (v := .tuple #[.int .i64 i6, .int .i64 42]) (by simp [results, Try.results8, go_sem]) rfl ⟨rfl, HB6.out⟩
set_option maxRecDepth 100000 in
set_option maxHeartbeats 16000000 in
theorem refCheck_fine (b off cap m : Nat) (ns : List Nd) (w : World) (hm : ns.length = m) (h1 : 1 ≤ m) (h2 : m ≤ 65536) (hP : PageAt w (.slice (some ⟨b, off, none⟩) m cap) ns) (hK : ∀ n ∈ ns, n.ks.length ≤ 70000) (HW : Hid (∀ j n, j < m → ns[j]? = some n → (!wrongN n) = true)) (HL2 : Hid (∀ j n, j < m → ns[j]? = some n → ∀ z ∈ n.ks, 1 ≤ z ∧ z < (m : Int))) (HZB : Hid (∀ j : Nat, 1 ≤ j → j < m → (kidsOf ns).count (j : Int) = 1)) (F : NoStray ns) (HS5' : Hid (∀ j : Nat, 1 ≤ j → j < m → metB ns (j : Int) = true)) (HD6 : Hid (∀ j z, j < m → (depthsP ns)[j]? = some z → deepB z = false)) :
    Calls Try.prog 8 #[.slice (some ⟨b, off, none⟩) m cap] w fun e W' => e = .returned (.tuple #[.int .i64 0, .int .i64 0]) ∧ Below w.heap.size w W' := by
  have hlk : ∀ n ∈ ns, ∀ z ∈ n.ks, 1 ≤ z ∧ z < (ns.length : Int) := fun n hn z hz => by
    obtain ⟨j, hj⟩ := List.mem_iff_getElem?.1 hn
    have := HL2.out j n (by have := (List.getElem?_eq_some_iff.1 hj).1; omega) hj z hz
    omega
  have hT0 : Tr0 ns := ⟨hlk, fun j h h' => HZB.out j h (by omega)⟩
  obtain ⟨O, hO⟩ : ∃ O, (walkL ns.length (kfOf ns)).map Prod.fst = O := ⟨_, rfl⟩
  have HRG : Hid (∀ z ∈ O, 0 ≤ z ∧ z < (m : Int)) := Lib.hid (by rw [← hO, ← hm]; exact walk_rng (by omega) hlk)
  have HOR : Hid (∀ X : World, Below w.heap.size w X → Calls Try.prog 19 #[.slice (some ⟨b, off, none⟩) m cap, .int .i64 0, .slice none 0 0] X (OrdPost X O)) :=
    Lib.hid fun X hX => by
      have h := order_rec b off cap m ns X hm h1 h2 (hP.below hX) hK (fun n hn z hz => by have := hlk n hn z hz; omega) (m + 2) 0 [] _ X (by omega) (by omega) (by simp) (by simp) (Below.refl _ X) (World.ownsRow_nil _ _ _ _)
      have e : ordD (kfOf ns) m (m + 2) 0 [] = O := by rw [← hO, ← ord_walk hT0 (by omega), hm]; rfl
      rw [e] at h; exact h
  have HS5 : Hid (∀ j : Nat, 1 ≤ j → j < m → O.contains (j : Int) = true) := Lib.hid (by rw [← hO]; exact HS5'.out)
  clear HS5' hO hT0 hlk
  have HDP : Hid (∀ X : World, Below w.heap.size w X → Calls Try.prog 21 #[.slice (some ⟨b, off, none⟩) m cap] X fun e W' => e = .returned (.slice (some ⟨X.heap.size, 0, none⟩) m m) ∧ Whole W' X.heap.size 3 ((depthsP ns).map (Value.int .i64)) ∧ Below X.heap.size X W') :=
    Lib.hid fun X hX => refDepths_at b off cap m ns X F hm h2 (hP.below hX) hK
  have HDL : Hid ((depthsP ns).length = m) := Lib.hid (by unfold depthsP; rw [depL_len]; exact hm)
  clear F
  have HN : Hid (∀ (j : Nat) (n : Nd), ns[j]? = some n → ∀ X, Below w.heap.size w X → NdAt X b (off + j * 34) n ∧ n.ok X) := Lib.hid (by
    obtain ⟨b', off', e, hc⟩ := page_some hP (by rw [hm]; exact h1)
    injection e with e; injection e with e1 e2
    subst e1 e2
    exact fun j n hn X hX => ⟨(hc j n hn).below hX, (hP.2.1 n (List.mem_iff_getElem?.2 ⟨j, hn⟩)).below hX⟩)
  have HC : Hid (∀ (j : Nat) (n : Nd), ns[j]? = some n → w.cell? ⟨b, off + j * 34 + 1, none⟩ = some n.kv ∧ Ints w n.kv n.ks ∧ b < w.heap.size) := Lib.hid (by
    obtain ⟨b', off', e, _, hc⟩ := page_cells hP h1
    injection e with e; injection e with e1 e2
    subst e1 e2
    exact fun j n hn => (hc j n hn).2)
  have HP := Lib.hid hP
  have HM := Lib.hid hm
  have HKF := Lib.hid hK
  have d1 : decide ((m : Int) < 1) = false := by simp; omega
  have d2 : decide ((m : Int) > 65536) = false := by simp; omega
  clear hm hK hP
  go_enter Try.func8, Try.ntmps8
  go_wp2
  go_loopw [4] (fun s4 X => ∃ i : Nat, i ≤ m ∧ s4 = .int .i64 i ∧ Hid (Below w.heap.size w X)) (fun s4 _ => m - (intOf s4).toNat)
  case atStart => exact ⟨0, by omega, rfl, Lib.hid (Below.refl _ _)⟩
  case round =>
    obtain ⟨i, hi, rfl, HB⟩ := hrel
    by_cases hlt : i < m
    · obtain ⟨n, hn⟩ : ∃ n, ns[i]? = some n := ⟨_, List.getElem?_eq_getElem (by rw [HM.out]; omega)⟩
      obtain ⟨hnd, hok⟩ := HN.out i n hn wr HB.out
      have hr := right_any n wr hok
      rw [HW.out i n hlt hn] at hr
      obtain ⟨cs, hcs⟩ : ∃ cs, n.cells.toArray = cs := ⟨_, rfl⟩
      have LN : Hid (∀ j v, cs[j]? = some v → wr.cell? ((⟨b, off + i * 34, none⟩ : Addr).add j) = some v) := Lib.hid (by rw [← hcs]; exact hnd.load)
      have iN : Hid ((Try.prog.info? 47).map (·.size) = some cs.size) := Lib.hid (by rw [← hcs]; exact nd_info n)
      have HR : Hid (Calls Try.prog 18 #[.agg cs] wr fun e W' => e = .returned (.bool true) ∧ Below wr.heap.size wr W') := Lib.hid (by rw [← hcs]; exact hr)
      clear hr hcs hn hnd hok
      go_wp2_with (first
        | (refine wpList_load_at rfl 47 (.tmp 34) rfl _ rfl cs _ LN.out Try.underlying47 rfl iN.out ?_)
        | (go_at_call 18; refine HR.out.mono ?_; rintro e w1 ⟨rfl, hb1⟩; have HB1 := Lib.hid (HB.out.trans (hb1.mono HB.out.size)); clear hb1 HB HR LN iN))
      go_roundw
      case rel => exact ⟨i + 1, by omega, by go_num, HB1⟩
      case measure => (simp [intOf]; try omega)
    · obtain rfl : m = i := by omega
      have sw := HB.out.size
      obtain ⟨G, hG⟩ : ∃ G, wr.heap.size = G := ⟨_, rfl⟩
      have hGw : w.heap.size ≤ G := by omega
      have hmk := make_ints m (by omega)
      go_wp2
      try rw [hG]
      obtain ⟨W4, hW4⟩ : ∃ W4, wr.alloc (.cells (Array.replicate m (Value.int .i64 0)) 3) = W4 := ⟨_, rfl⟩
      have k4 : Whole W4 G 3 ((tmz m (kidsOf (ns.take 0))).map (Value.int .i64)) := by
        rw [← hW4, ← hG, show (Array.replicate m (Value.int .i64 0)) = ((tmz m (kidsOf (ns.take 0))).map (Value.int .i64)).toArray from by
          apply Array.toList_inj.1
          simp [tmz, kidsOf]]
        exact whole_new wr _ 3 _ rfl
      have b4 : Below w.heap.size w W4 := by rw [← hW4]; exact HB.out.alloc sw _
      have HT0 : Hid (TI G m w W4 (kidsOf (ns.take 0))) := Lib.hid ⟨k4, b4⟩
      rw [hW4]
      clear hW4 k4 b4 hmk hG sw HB
      go_loopw [7] (fun s7 X => ∃ i : Nat, i ≤ m ∧ s7 = .int .i64 i ∧ Hid (TI G m w X (kidsOf (ns.take i)))) (fun s7 _ => m - (intOf s7).toNat)
      case atStart => exact ⟨0, by omega, rfl, HT0⟩
      case round =>
        obtain ⟨i, hi, rfl, HT⟩ := hrel
        clear HT0
        have HPI : Hid (∀ z ∈ kidsOf (ns.take i), 0 ≤ z ∧ z < (m : Int)) := Lib.hid fun z hz => by
          obtain ⟨a, ha, hz'⟩ := List.mem_flatMap.1 hz
          obtain ⟨j, hj⟩ := List.mem_iff_getElem?.1 ha
          rw [List.getElem?_take] at hj
          by_cases e : j < i
          · rw [if_pos e] at hj
            have := HL2.out j a (by omega) hj z hz'
            omega
          · rw [if_neg e] at hj; cases hj
        by_cases hlt : i < m
        · obtain ⟨n, hn⟩ : ∃ n, ns[i]? = some n := ⟨_, List.getElem?_eq_getElem (by rw [HM.out]; omega)⟩
          have hmem : n ∈ ns := List.mem_iff_getElem?.2 ⟨i, hn⟩
          obtain ⟨ck, hI, hb0⟩ := HC.out i n hn
          have hfew := HKF.out n hmem
          obtain ⟨qk, kc, hkv⟩ := hI.form
          rw [hkv] at ck hI
          obtain ⟨kl, hkl⟩ : ∃ kl, n.ks.length = kl := ⟨_, rfl⟩
          rw [hkl] at ck hfew hI
          have HI := Lib.hid hI
          have HKL := Lib.hid hkl
          have HCK := Lib.hid ck
          have HND := Lib.hid hn
          have HS : Hid (kidsOf (ns.take (i + 1)) = kidsOf (ns.take i) ++ n.ks) := Lib.hid (kids_snoc ns i n hn)
          have HLN : Hid (∀ k z, k < kl → n.ks[k]? = some z → 1 ≤ z ∧ z < (m : Int)) := Lib.hid fun k z hk hz => HL2.out i n hlt hn z (List.mem_iff_getElem?.2 ⟨k, hz⟩)
          clear hI hkl ck hn hkv hmem
          go_wp2
          go_loopw [8] (fun s8 X => ∃ k : Nat, k ≤ kl ∧ s8 = .int .i64 k ∧ Hid (TI G m w X (kidsOf (ns.take i) ++ n.ks.take k))) (fun s8 _ => kl - (intOf s8).toNat)
          case atStart => exact ⟨0, by omega, rfl, by simpa using HT⟩
          case round =>
            obtain ⟨k, hk, rfl, HY⟩ := hrel
            obtain ⟨y1, y2⟩ := HY.out
            have dck := (y2.cell (p := ⟨b, off + i * 34 + 1, none⟩) hb0).trans HCK.out
            by_cases hlt2 : k < kl
            · obtain ⟨y, hy⟩ : ∃ y, n.ks[k]? = some y := ⟨_, List.getElem?_eq_getElem (by rw [HKL.out]; omega)⟩
              have hkl2 : k < kl := by omega
              obtain ⟨qb, qo, rfl, cy, ly⟩ := ints_at0' HI.out k y hy
              have dcy := (y2.cell (p := ⟨qb, qo + k, none⟩) ly).trans cy
              obtain ⟨yr0, yr1⟩ := HLN.out k y hlt2 hy
              obtain ⟨yn, rfl⟩ : ∃ yn : Nat, y = (yn : Int) := ⟨y.toNat, by omega⟩
              have hPr : ∀ z ∈ kidsOf (ns.take i) ++ n.ks.take k, 0 ≤ z ∧ z < (m : Int) := fun z hz => by
                rcases List.mem_append.1 hz with h | h
                · exact HPI.out z h
                · obtain ⟨k', hk'⟩ := List.mem_iff_getElem?.1 h
                  rw [List.getElem?_take] at hk'
                  by_cases e : k' < k
                  · rw [if_pos e] at hk'
                    have := HLN.out k' z (by omega) hk'
                    omega
                  · rw [if_neg e] at hk'; cases hk'
              have hval := tmz_val m _ hPr yn (by omega)
              obtain ⟨c, hc⟩ : ∃ c, (kidsOf (ns.take i) ++ n.ks.take k).count (yn : Int) = c := ⟨_, rfl⟩
              have hcb : c ≤ 10000000000 := by
                rw [← hc]
                refine Nat.le_trans List.count_le_length ?_
                have e1 := kids_len ns i HKF.out
                rw [List.length_append, List.length_take]
                have : 70000 * i ≤ 70000 * 65536 := Nat.mul_le_mul_left _ (by omega)
                omega
              rw [hc] at hval
              have cg : wr.cell? ⟨G, yn, none⟩ = some (.int .i64 c) := by rw [y1.cellAt, List.getElem?_map, hval]; rfl
              have fg := y1.free yn
              have S1 : Hid (TI G m w (wr.setCell ⟨G, yn, none⟩ (.int .i64 ((c : Int) + 1))) (kidsOf (ns.take i) ++ n.ks.take (k + 1))) := Lib.hid (by
                have := HY.out.step hGw yn c hval
                rw [List.take_add_one, hy, ← List.append_assoc]
                exact this)
              have z1 : decide ((yn : Int) < 1) = false := by simp; omega
              have z2 : decide ((yn : Int) ≥ (m : Int)) = false := by simp; omega
              clear y1 y2 hy cy HY hval hc hPr
              go_wp2
              go_roundw
              case rel => exact ⟨k + 1, by omega, by go_num, S1⟩
              case measure => (simp [intOf]; try omega)
            · obtain rfl : k = kl := by omega
              have HT2 : Hid (TI G m w wr (kidsOf (ns.take (i + 1)))) := by
                have := HY.out
                rw [List.take_of_length_le (l := n.ks) (by rw [HKL.out]; exact Nat.le_refl _), ← HS.out] at this
                exact Lib.hid this
              clear y1 y2 HY
              go_wp2
              exact ⟨⟨i + 1, by omega, rfl, HT2⟩, by (simp [intOf]; try omega)⟩
        · obtain rfl : m = i := by omega
          have HPA : Hid (∀ z ∈ kidsOf ns, 0 ≤ z ∧ z < (m : Int)) := by
            have := HPI.out
            rw [List.take_of_length_le (by rw [HM.out]; exact Nat.le_refl _)] at this
            exact Lib.hid this
          have HTF : Hid (TI G m w wr (kidsOf ns)) := by
            have := HT.out
            rw [List.take_of_length_le (by rw [HM.out]; exact Nat.le_refl _)] at this
            exact Lib.hid this
          clear HT HPI
          have sw := HTF.out.2.size
          have hGM := HTF.out.1.lt
          obtain ⟨M, hM⟩ : ∃ M, wr.heap.size = M := ⟨_, rfl⟩
          have hMw : w.heap.size ≤ M := by omega
          have hGM2 : G < M := by omega
          have hmk := make_bools m (by omega)
          go_wp2
          try rw [hM]
          obtain ⟨W5, hW5⟩ : ∃ W5, wr.alloc (.cells (metL m []).toArray 4) = W5 := ⟨_, rfl⟩
          have k5 : Whole W5 M 4 (metL m []) := by rw [← hW5, ← hM]; exact whole_new wr _ 4 _ rfl
          have HC0 : Hid (CkI G M m w W5 (kidsOf ns) []) := Lib.hid ⟨by rw [← hW5]; exact HTF.out.1.alloc _, k5, by rw [← hW5]; exact HTF.out.2.alloc sw _⟩
          have hs5 : W5.heap.size = M + 1 := by rw [← hW5, ← hM]; simp
          rw [hW5]
          clear hW5 k5 hmk hM sw hGM HTF
          go_loop [11, 12] (fun s11 s12 => ∃ i : Nat, 1 ≤ i ∧ i ≤ m ∧ s12 = .int .i64 i ∧ s11 = .bool false) (fun _ s12 => m - (intOf s12).toNat)
          case atStart => exact ⟨1, by omega, by omega, rfl, rfl⟩
          case round =>
            obtain ⟨i, hi1, hi, rfl, rfl⟩ := hrel
            by_cases hlt : i < m
            · have ct : W5.cell? ⟨G, i, none⟩ = some (.int .i64 1) := by rw [HC0.out.1.cellAt, List.getElem?_map, tmz_val m _ HPA.out i hlt, HZB.out i hi1 hlt]; rfl
              go_wp2
              go_round
              case rel => exact ⟨i + 1, by omega, by omega, by go_num, rfl⟩
              case measure => (simp [intOf]; try omega)
            · have him : i = m := by omega
              clear him
              have HOR2 := Lib.hid (HOR.out W5 HC0.out.2.2)
              go_wp2_with (go_at_call 19; refine HOR2.out.mono ?_; clear HOR2; rintro e w2 ⟨v2, rfl, o2, b2⟩; have HIO := Lib.hid (ints_own o2).1; have HA := Lib.hid ((ints_own o2).2.2 M (by omega)); have HA2 := Lib.hid ((ints_own o2).2.2 G (by omega)); have HC1 := Lib.hid (HC0.out.below b2); obtain ⟨q2, c2, hv⟩ := (ints_own o2).1.form; subst hv; clear o2 b2)
              obtain ⟨lo, hlo⟩ : ∃ lo, O.length = lo := ⟨_, rfl⟩
              have hlo2 : lo ≤ 9223372036854775807 := by rw [← hlo]; exact HIO.out.1
              rw [hlo] at HIO HA HA2 ⊢
              have HLO := Lib.hid hlo
              clear hlo
              go_loopw [14] (fun s14 X => ∃ i : Nat, i ≤ lo ∧ s14 = .int .i64 i ∧ Hid (CkI G M m w X (kidsOf ns) (O.take i)) ∧ Hid (Ints X (.slice q2 lo c2) O)) (fun s14 _ => lo - (intOf s14).toNat)
              case atStart => exact ⟨0, by omega, rfl, HC1, HIO⟩
              case round =>
                obtain ⟨i4, hi4, rfl, HX, HI4⟩ := hrel
                by_cases hlt4 : i4 < lo
                · obtain ⟨z, hz⟩ : ∃ z, O[i4]? = some z := ⟨_, List.getElem?_eq_getElem (by rw [HLO.out]; exact hlt4)⟩
                  obtain ⟨zr0, zr1⟩ := HRG.out z (List.mem_iff_getElem?.2 ⟨i4, hz⟩)
                  obtain ⟨zn, rfl⟩ : ∃ zn : Nat, z = (zn : Int) := ⟨z.toNat, by omega⟩
                  obtain ⟨ob, oo, rfl, cz, lz⟩ := ints_at0' HI4.out i4 _ hz
                  obtain ⟨x1, x2, x3⟩ := HX.out
                  have cm : wr.cell? ⟨M, zn, none⟩ = some (.bool ((O.take i4).contains (zn : Int))) := by rw [x2.cellAt, metL_get m _ zn (by omega)]
                  have fm := x2.free zn
                  have S1 : Hid (CkI G M m w (wr.setCell ⟨M, zn, none⟩ (.bool true)) (kidsOf ns) (O.take (i4 + 1))) := Lib.hid (by
                    refine ⟨x1.other _ _ (by show G ≠ M; omega), ?_, x3.setCell (p := ⟨M, zn, none⟩) hMw _⟩
                    have := x2.set zn (.bool true)
                    rw [metL_set m _ zn (by omega)] at this
                    rw [List.take_add_one, hz]
                    exact this)
                  have S2 : Hid (Ints (wr.setCell ⟨M, zn, none⟩ (.bool true)) (.slice (some ⟨ob, oo, none⟩) lo c2) O) := Lib.hid (HI4.out.setApart _ _ HA.out)
                  clear x1 x2 x3 hz
                  go_wp2
                  go_roundw
                  case rel => exact ⟨i4 + 1, by omega, by go_num, S1, S2⟩
                  case measure => (simp [intOf]; try omega)
                · obtain rfl : lo = i4 := by omega
                  have HX4 : Hid (CkI G M m w wr (kidsOf ns) O) := by
                    have := HX.out
                    rw [List.take_of_length_le (by rw [HLO.out]; exact Nat.le_refl _)] at this
                    exact Lib.hid this
                  clear HX HI4
                  go_wp2
                  go_loop [15] (fun s15 => ∃ i : Nat, 1 ≤ i ∧ i ≤ m ∧ s15 = .int .i64 i) (fun s15 => m - (intOf s15).toNat)
                  case atStart => exact ⟨1, by omega, by omega, rfl⟩
                  case round =>
                    obtain ⟨i5, hi51, hi5, rfl⟩ := hrel
                    by_cases hlt5 : i5 < m
                    · have ct : wr.cell? ⟨G, i5, none⟩ = some (.int .i64 1) := by rw [HX4.out.1.cellAt, List.getElem?_map, tmz_val m _ HPA.out i5 (by omega), HZB.out i5 hi51 (by omega)]; rfl
                      have cm : wr.cell? ⟨M, i5, none⟩ = some (.bool true) := by rw [HX4.out.2.1.cellAt, metL_get m _ i5 (by omega), HS5.out i5 hi51 hlt5]
                      go_wp2
                      go_round
                      case rel => exact ⟨i5 + 1, by omega, by omega, by go_num⟩
                      case measure => (simp [intOf]; try omega)
                    · obtain rfl : m = i5 := by omega
                      have HDP2 := Lib.hid (HDP.out wr HX4.out.2.2)
                      obtain ⟨D0, hD0⟩ : ∃ D0, wr.heap.size = D0 := ⟨_, rfl⟩
                      go_wp2_with (go_at_call 21; refine HDP2.out.mono ?_; clear HDP2; rintro e w6 ⟨rfl, k6, b6⟩; have HK6 := Lib.hid k6; have HB6 := Lib.hid (HX4.out.2.2.trans (b6.mono HX4.out.2.2.size)); clear k6 b6)
                      go_loop [17] (fun s17 => ∃ i : Nat, i ≤ m ∧ s17 = .int .i64 i) (fun s17 => m - (intOf s17).toNat)
                      case atStart => exact ⟨0, by omega, rfl⟩
                      case round =>
                        obtain ⟨i6, hi6, rfl⟩ := hrel
                        by_cases hlt6 : i6 < m
                        · obtain ⟨z, hz⟩ : ∃ z, (depthsP ns)[i6]? = some z := ⟨_, List.getElem?_eq_getElem (by rw [HDL.out]; omega)⟩
                          have cz := HK6.out.cellAt i6
                          rw [List.getElem?_map, hz] at cz
                          simp only [Option.map_some] at cz
                          have dz : decide (z > 64) = false := by
                            have := HD6.out i6 z hlt6 hz
                            simp [deepB] at this; simp; omega
                          clear hz
                          try rw [hD0] at cz
                          go_wp2
                          go_round
                          case rel => exact ⟨i6 + 1, by omega, by go_num⟩
                          case measure => (simp [intOf]; try omega)
                        · obtain rfl : m = i6 := by omega
                          go_wp2
                          refine bodyPost_ret (v := .tuple #[.int .i64 0, .int .i64 0]) (by simp [results, Try.results8, go_sem]) rfl ⟨rfl, HB6.out⟩
end Go.Proofs.Ytecnapecmioamaa
