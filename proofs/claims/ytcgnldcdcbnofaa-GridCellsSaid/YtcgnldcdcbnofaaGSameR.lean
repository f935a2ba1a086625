/- Contract of the document's Check of a page. Written by program (mk_TRefCheck.py). -/
/- The document's Check answers what the program's Check answers, for every page. -/
/- The document's lanes: Check, group, Captions. -/
/- The document's rows of a table, as it lists them, are the rows that the program finds. Plain data. -/
/- The document's Rows of a table. Written by program (mk_LRefRows.py). -/
/- SameRows of two lists of the same rows; how many rows a table of a cut page has. -/
import Derived.Test.YtcgnldcdcbnofaaTRefDep
import Derived.Test.YtcgnldcdcbnofaaGRight
import Derived.Test.YtcgnldcdcbnofaaGRefCells
import Derived.Test.YtcgnldcdcbnofaaGCells
namespace Go.Proofs.Ytcgnldcdcbnofaa
open Go.RowKit Go.Shelf
set_option linter.unusedVariables false
set_option linter.unusedSimpArgs false
attribute [local go_sem] Oper.semAt_some

/-- how often each place is a kid -/
def tmz (m : Nat) (P : List Int) : List Int := P.foldl bump (List.replicate m 0)
theorem tmz_len (m : Nat) (P : List Int) : (tmz m P).length = m := by
  unfold tmz
  suffices ∀ (P : List Int) (ts : List Int), (P.foldl bump ts).length = ts.length by rw [this]; simp
  intro P
  induction P with
  | nil => intro ts; rfl
  | cons z P ih => intro ts; rw [List.foldl_cons, ih, bump_len]
theorem tmz_snoc (m : Nat) (P : List Int) (z : Int) : tmz m (P ++ [z]) = bump (tmz m P) z := by simp [tmz, List.foldl_append]
theorem bump_get (ts : List Int) (z j : Nat) (hz : z < ts.length) : (bump ts (z : Int))[j]?.getD 0 = ts[j]?.getD 0 + if z = j then 1 else 0 := by
  unfold bump
  rw [Int.toNat_natCast, List.getElem?_set]
  by_cases e : z = j
  · subst e; rw [if_pos rfl, if_pos hz, if_pos rfl]; rfl
  · rw [if_neg e, if_neg e]; omega
theorem tmz_get (m : Nat) : ∀ (P : List Int), (∀ z ∈ P, 0 ≤ z ∧ z < (m : Int)) → ∀ j, j < m → (tmz m P)[j]?.getD 0 = (P.count (j : Int) : Int) := by
  suffices ∀ (P : List Int), (∀ z ∈ P, 0 ≤ z ∧ z < (m : Int)) → ∀ (ts : List Int), ts.length = m → ∀ j, j < m → (P.foldl bump ts)[j]?.getD 0 = ts[j]?.getD 0 + (P.count (j : Int) : Int) by
    intro P hP j hj
    unfold tmz
    rw [this P hP _ (by simp) j hj]; simp [hj]
  intro P
  induction P with
  | nil => intro _ ts _ j _; simp
  | cons z P ih =>
    intro hP ts ht j hj
    obtain ⟨h0, h1⟩ := hP z (by simp)
    obtain ⟨zn, rfl⟩ : ∃ zn : Nat, z = (zn : Int) := ⟨z.toNat, by omega⟩
    rw [List.foldl_cons, ih (fun y hy => hP y (by simp [hy])) _ (by rw [bump_len]; exact ht) j hj, bump_get ts zn j (by rw [ht]; omega), List.count_cons]
    by_cases e : zn = j
    · subst e; simp; omega
    · rw [if_neg e, if_neg (by simp; omega)]; omega
theorem tmz_val (m : Nat) (P : List Int) (hP : ∀ z ∈ P, 0 ≤ z ∧ z < (m : Int)) (j : Nat) (hj : j < m) : (tmz m P)[j]? = some ((P.count (j : Int) : Nat) : Int) := by
  have h := tmz_get m P hP j hj
  rw [List.getElem?_eq_getElem (by rw [tmz_len]; exact hj)] at h ⊢
  simp only [Option.getD_some] at h
  rw [h]
/-- the worlds in which kids are counted -/
def TI (G m : Nat) (w X : World) (P : List Int) : Prop := Whole X G 3 ((tmz m P).map (Value.int .i64)) ∧ Below w.heap.size w X
theorem TI.step {G m : Nat} {w X : World} {P : List Int} (h : TI G m w X P) (hG : w.heap.size ≤ G) (z : Nat) (c : Int) (hc : (tmz m P)[z]? = some c) : TI G m w (X.setCell ⟨G, z, none⟩ (.int .i64 (c + 1))) (P ++ [(z : Int)]) := by
  refine ⟨?_, h.2.setCell (p := ⟨G, z, none⟩) hG _⟩
  rw [tmz_snoc]
  unfold bump
  rw [Int.toNat_natCast, hc, List.map_set]
  exact h.1.set z _
set_option maxRecDepth 100000 in
set_option maxHeartbeats 16000000 in
theorem refCheck_wrong (b off cap m : Nat) (ns : List Nd) (w : World) (hm : ns.length = m) (h1 : 1 ≤ m) (h2 : m ≤ 65536) (hP : PageAt w (.slice (some ⟨b, off, none⟩) m cap) ns) (hK : ∀ n ∈ ns, n.ks.length ≤ 70000) (I1 : Nat) (hI : I1 < m) (HW : Hid (∀ j n, j < I1 → ns[j]? = some n → (!wrongN n) = true)) (HF : Hid (∀ n, ns[I1]? = some n → (!wrongN n) = false)) :
    Calls Try.prog 20 #[.slice (some ⟨b, off, none⟩) m cap] w fun e W' => e = .returned (.tuple #[.int .i64 I1, .int .i64 50]) ∧ Below w.heap.size w W' := by
  have HN : Hid (∀ (j : Nat) (n : Nd), ns[j]? = some n → ∀ X, Below w.heap.size w X → NdAt X b (off + j * 34) n ∧ n.ok X) := Lib.hid (by
    obtain ⟨b', off', e, hc⟩ := page_some hP (by rw [hm]; exact h1)
    injection e with e; injection e with e1 e2
    subst e1 e2
    exact fun j n hn X hX => ⟨(hc j n hn).below hX, (hP.2.1 n (List.mem_iff_getElem?.2 ⟨j, hn⟩)).below hX⟩)
  have HC : Hid (∀ (j : Nat) (n : Nd), ns[j]? = some n → w.cell? ⟨b, off + j * 34 + 1, none⟩ = some n.kv ∧ Ints w n.kv n.ks ∧ b < w.heap.size) := Lib.hid (by
    obtain ⟨b', off', e, _, hc⟩ := page_cells hP h1
    injection e with e; injection e with e1 e2
    subst e1 e2
    exact fun j n hn => (hc j n hn).2)
  have HP := Lib.hid hP
  have HM := Lib.hid hm
  have HKF := Lib.hid hK
  have d1 : decide ((m : Int) < 1) = false := by simp; omega
  have d2 : decide ((m : Int) > 65536) = false := by simp; omega
  clear hm hK hP
  go_enter Try.func20, Try.ntmps20
  go_wp2
  go_loopw [4] (fun s4 X => ∃ i : Nat, i ≤ I1 ∧ s4 = .int .i64 i ∧ Hid (Below w.heap.size w X)) (fun s4 _ => m - (intOf s4).toNat)
  case atStart => exact ⟨0, by omega, rfl, Lib.hid (Below.refl _ _)⟩
  case round =>
    obtain ⟨i, hi, rfl, HB⟩ := hrel
    by_cases hlt : i < I1
    · obtain ⟨n, hn⟩ : ∃ n, ns[i]? = some n := ⟨_, List.getElem?_eq_getElem (by rw [HM.out]; omega)⟩
      obtain ⟨hnd, hok⟩ := HN.out i n hn wr HB.out
      have hr := right_any n wr hok
      rw [HW.out i n hlt hn] at hr
      obtain ⟨cs, hcs⟩ : ∃ cs, n.cells.toArray = cs := ⟨_, rfl⟩
      have LN : Hid (∀ j v, cs[j]? = some v → wr.cell? ((⟨b, off + i * 34, none⟩ : Addr).add j) = some v) := Lib.hid (by rw [← hcs]; exact hnd.load)
      have iN : Hid ((Try.prog.info? 65).map (·.size) = some cs.size) := Lib.hid (by rw [← hcs]; exact nd_info n)
      have HR : Hid (Calls Try.prog 36 #[.agg cs] wr fun e W' => e = .returned (.bool true) ∧ Below wr.heap.size wr W') := Lib.hid (by rw [← hcs]; exact hr)
      clear hr hcs hn hnd hok
      go_wp2_with (first
        | (refine wpList_load_at rfl 65 (.tmp 34) rfl _ rfl cs _ LN.out Try.underlying65 rfl iN.out ?_)
        | (go_at_call 36; refine HR.out.mono ?_; rintro e w1 ⟨rfl, hb1⟩; have HB1 := Lib.hid (HB.out.trans (hb1.mono HB.out.size)); clear hb1 HB HR LN iN))
      go_roundw
      case rel => exact ⟨i + 1, by omega, by go_num, HB1⟩
      case measure => (simp [intOf]; try omega)
    · obtain rfl : i = I1 := by omega
      obtain ⟨n, hn⟩ : ∃ n, ns[i]? = some n := ⟨_, List.getElem?_eq_getElem (by rw [HM.out]; omega)⟩
      obtain ⟨hnd, hok⟩ := HN.out i n hn wr HB.out
      have hr := right_any n wr hok
      rw [HF.out n hn] at hr
      obtain ⟨cs, hcs⟩ : ∃ cs, n.cells.toArray = cs := ⟨_, rfl⟩
      have LN : Hid (∀ j v, cs[j]? = some v → wr.cell? ((⟨b, off + i * 34, none⟩ : Addr).add j) = some v) := Lib.hid (by rw [← hcs]; exact hnd.load)
      have iN : Hid ((Try.prog.info? 65).map (·.size) = some cs.size) := Lib.hid (by rw [← hcs]; exact nd_info n)
      have HR : Hid (Calls Try.prog 36 #[.agg cs] wr fun e W' => e = .returned (.bool false) ∧ Below wr.heap.size wr W') := Lib.hid (by rw [← hcs]; exact hr)
      have him : i < m := hI
      clear hr hcs hn hnd hok
      go_wp2_with (first
        | (refine wpList_load_at rfl 65 (.tmp 34) rfl _ rfl cs _ LN.out Try.underlying65 rfl iN.out ?_)
        | (go_at_call 36; refine HR.out.mono ?_; rintro e w1 ⟨rfl, hb1⟩; have HB1 := Lib.hid (HB.out.trans (hb1.mono HB.out.size)); clear hb1 HB HR LN iN))
      refine bodyPost_ret (v := .tuple #[.int .i64 i, .int .i64 50]) (by simp [results, Try.results20, go_sem]) rfl ⟨rfl, HB1.out⟩
set_option maxRecDepth 100000 in
set_option maxHeartbeats 16000000 in
theorem refCheck_link (b off cap m : Nat) (ns : List Nd) (w : World) (hm : ns.length = m) (h1 : 1 ≤ m) (h2 : m ≤ 65536) (hP : PageAt w (.slice (some ⟨b, off, none⟩) m cap) ns) (hK : ∀ n ∈ ns, n.ks.length ≤ 70000) (HW : Hid (∀ j n, j < m → ns[j]? = some n → (!wrongN n) = true)) (I2 : Nat) (hI2 : I2 < m) (HL2 : Hid (∀ j n, j < I2 → ns[j]? = some n → ∀ z ∈ n.ks, 1 ≤ z ∧ z < (m : Int))) (HF2 : Hid (∀ n, ns[I2]? = some n → ∃ (k : Nat) (z : Int), n.ks[k]? = some z ∧ ¬ (1 ≤ z ∧ z < (m : Int)) ∧ ∀ k' z', k' < k → n.ks[k']? = some z' → 1 ≤ z' ∧ z' < (m : Int))) :
    Calls Try.prog 20 #[.slice (some ⟨b, off, none⟩) m cap] w fun e W' => e = .returned (.tuple #[.int .i64 I2, .int .i64 40]) ∧ Below w.heap.size w W' := by
  have HN : Hid (∀ (j : Nat) (n : Nd), ns[j]? = some n → ∀ X, Below w.heap.size w X → NdAt X b (off + j * 34) n ∧ n.ok X) := Lib.hid (by
    obtain ⟨b', off', e, hc⟩ := page_some hP (by rw [hm]; exact h1)
    injection e with e; injection e with e1 e2
    subst e1 e2
    exact fun j n hn X hX => ⟨(hc j n hn).below hX, (hP.2.1 n (List.mem_iff_getElem?.2 ⟨j, hn⟩)).below hX⟩)
  have HC : Hid (∀ (j : Nat) (n : Nd), ns[j]? = some n → w.cell? ⟨b, off + j * 34 + 1, none⟩ = some n.kv ∧ Ints w n.kv n.ks ∧ b < w.heap.size) := Lib.hid (by
    obtain ⟨b', off', e, _, hc⟩ := page_cells hP h1
    injection e with e; injection e with e1 e2
    subst e1 e2
    exact fun j n hn => (hc j n hn).2)
  have HP := Lib.hid hP
  have HM := Lib.hid hm
  have HKF := Lib.hid hK
  have d1 : decide ((m : Int) < 1) = false := by simp; omega
  have d2 : decide ((m : Int) > 65536) = false := by simp; omega
  clear hm hK hP
  go_enter Try.func20, Try.ntmps20
  go_wp2
  go_loopw [4] (fun s4 X => ∃ i : Nat, i ≤ m ∧ s4 = .int .i64 i ∧ Hid (Below w.heap.size w X)) (fun s4 _ => m - (intOf s4).toNat)
  case atStart => exact ⟨0, by omega, rfl, Lib.hid (Below.refl _ _)⟩
  case round =>
    obtain ⟨i, hi, rfl, HB⟩ := hrel
    by_cases hlt : i < m
    · obtain ⟨n, hn⟩ : ∃ n, ns[i]? = some n := ⟨_, List.getElem?_eq_getElem (by rw [HM.out]; omega)⟩
      obtain ⟨hnd, hok⟩ := HN.out i n hn wr HB.out
      have hr := right_any n wr hok
      rw [HW.out i n hlt hn] at hr
      obtain ⟨cs, hcs⟩ : ∃ cs, n.cells.toArray = cs := ⟨_, rfl⟩
      have LN : Hid (∀ j v, cs[j]? = some v → wr.cell? ((⟨b, off + i * 34, none⟩ : Addr).add j) = some v) := Lib.hid (by rw [← hcs]; exact hnd.load)
      have iN : Hid ((Try.prog.info? 65).map (·.size) = some cs.size) := Lib.hid (by rw [← hcs]; exact nd_info n)
      have HR : Hid (Calls Try.prog 36 #[.agg cs] wr fun e W' => e = .returned (.bool true) ∧ Below wr.heap.size wr W') := Lib.hid (by rw [← hcs]; exact hr)
      clear hr hcs hn hnd hok
      go_wp2_with (first
        | (refine wpList_load_at rfl 65 (.tmp 34) rfl _ rfl cs _ LN.out Try.underlying65 rfl iN.out ?_)
        | (go_at_call 36; refine HR.out.mono ?_; rintro e w1 ⟨rfl, hb1⟩; have HB1 := Lib.hid (HB.out.trans (hb1.mono HB.out.size)); clear hb1 HB HR LN iN))
      go_roundw
      case rel => exact ⟨i + 1, by omega, by go_num, HB1⟩
      case measure => (simp [intOf]; try omega)
    · obtain rfl : m = i := by omega
      have sw := HB.out.size
      obtain ⟨G, hG⟩ : ∃ G, wr.heap.size = G := ⟨_, rfl⟩
      have hGw : w.heap.size ≤ G := by omega
      have hmk := make_ints m (by omega)
      go_wp2
      try rw [hG]
      obtain ⟨W4, hW4⟩ : ∃ W4, wr.alloc (.cells (Array.replicate m (Value.int .i64 0)) 3) = W4 := ⟨_, rfl⟩
      have k4 : Whole W4 G 3 ((tmz m (kidsOf (ns.take 0))).map (Value.int .i64)) := by
        rw [← hW4, ← hG, show (Array.replicate m (Value.int .i64 0)) = ((tmz m (kidsOf (ns.take 0))).map (Value.int .i64)).toArray from by
          apply Array.toList_inj.1
          simp [tmz, kidsOf]]
        exact whole_new wr _ 3 _ rfl
      have b4 : Below w.heap.size w W4 := by rw [← hW4]; exact HB.out.alloc sw _
      have HT0 : Hid (TI G m w W4 (kidsOf (ns.take 0))) := Lib.hid ⟨k4, b4⟩
      rw [hW4]
      clear hW4 k4 b4 hmk hG sw HB
      go_loopw [7] (fun s7 X => ∃ i : Nat, i ≤ I2 ∧ s7 = .int .i64 i ∧ Hid (TI G m w X (kidsOf (ns.take i)))) (fun s7 _ => m - (intOf s7).toNat)
      case atStart => exact ⟨0, by omega, rfl, HT0⟩
      case round =>
        obtain ⟨i, hi, rfl, HT⟩ := hrel
        clear HT0
        have HPI : Hid (∀ z ∈ kidsOf (ns.take i), 0 ≤ z ∧ z < (m : Int)) := Lib.hid fun z hz => by
          obtain ⟨a, ha, hz'⟩ := List.mem_flatMap.1 hz
          obtain ⟨j, hj⟩ := List.mem_iff_getElem?.1 ha
          rw [List.getElem?_take] at hj
          by_cases e : j < i
          · rw [if_pos e] at hj
            have := HL2.out j a (by omega) hj z hz'
            omega
          · rw [if_neg e] at hj; cases hj
        by_cases hlt : i < I2
        · obtain ⟨n, hn⟩ : ∃ n, ns[i]? = some n := ⟨_, List.getElem?_eq_getElem (by rw [HM.out]; omega)⟩
          have hmem : n ∈ ns := List.mem_iff_getElem?.2 ⟨i, hn⟩
          obtain ⟨ck, hI, hb0⟩ := HC.out i n hn
          have hfew := HKF.out n hmem
          obtain ⟨qk, kc, hkv⟩ := hI.form
          rw [hkv] at ck hI
          obtain ⟨kl, hkl⟩ : ∃ kl, n.ks.length = kl := ⟨_, rfl⟩
          rw [hkl] at ck hfew hI
          have HI := Lib.hid hI
          have HKL := Lib.hid hkl
          have HCK := Lib.hid ck
          have HND := Lib.hid hn
          have HS : Hid (kidsOf (ns.take (i + 1)) = kidsOf (ns.take i) ++ n.ks) := Lib.hid (kids_snoc ns i n hn)
          have HLN : Hid (∀ k z, k < kl → n.ks[k]? = some z → 1 ≤ z ∧ z < (m : Int)) := Lib.hid fun k z hk hz => HL2.out i n hlt hn z (List.mem_iff_getElem?.2 ⟨k, hz⟩)
          clear hI hkl ck hn hkv hmem
          go_wp2
          go_loopw [8] (fun s8 X => ∃ k : Nat, k ≤ kl ∧ s8 = .int .i64 k ∧ Hid (TI G m w X (kidsOf (ns.take i) ++ n.ks.take k))) (fun s8 _ => kl - (intOf s8).toNat)
          case atStart => exact ⟨0, by omega, rfl, by simpa using HT⟩
          case round =>
            obtain ⟨k, hk, rfl, HY⟩ := hrel
            obtain ⟨y1, y2⟩ := HY.out
            have dck := (y2.cell (p := ⟨b, off + i * 34 + 1, none⟩) hb0).trans HCK.out
            by_cases hlt2 : k < kl
            · obtain ⟨y, hy⟩ : ∃ y, n.ks[k]? = some y := ⟨_, List.getElem?_eq_getElem (by rw [HKL.out]; omega)⟩
              have hkl2 : k < kl := by omega
              obtain ⟨qb, qo, rfl, cy, ly⟩ := ints_at0' HI.out k y hy
              have dcy := (y2.cell (p := ⟨qb, qo + k, none⟩) ly).trans cy
              obtain ⟨yr0, yr1⟩ := HLN.out k y hlt2 hy
              obtain ⟨yn, rfl⟩ : ∃ yn : Nat, y = (yn : Int) := ⟨y.toNat, by omega⟩
              have hPr : ∀ z ∈ kidsOf (ns.take i) ++ n.ks.take k, 0 ≤ z ∧ z < (m : Int) := fun z hz => by
                rcases List.mem_append.1 hz with h | h
                · exact HPI.out z h
                · obtain ⟨k', hk'⟩ := List.mem_iff_getElem?.1 h
                  rw [List.getElem?_take] at hk'
                  by_cases e : k' < k
                  · rw [if_pos e] at hk'
                    have := HLN.out k' z (by omega) hk'
                    omega
                  · rw [if_neg e] at hk'; cases hk'
              have hval := tmz_val m _ hPr yn (by omega)
              obtain ⟨c, hc⟩ : ∃ c, (kidsOf (ns.take i) ++ n.ks.take k).count (yn : Int) = c := ⟨_, rfl⟩
              have hcb : c ≤ 10000000000 := by
                rw [← hc]
                refine Nat.le_trans List.count_le_length ?_
                have e1 := kids_len ns i HKF.out
                rw [List.length_append, List.length_take]
                have : 70000 * i ≤ 70000 * 65536 := Nat.mul_le_mul_left _ (by omega)
                omega
              rw [hc] at hval
              have cg : wr.cell? ⟨G, yn, none⟩ = some (.int .i64 c) := by rw [y1.cellAt, List.getElem?_map, hval]; rfl
              have fg := y1.free yn
              have S1 : Hid (TI G m w (wr.setCell ⟨G, yn, none⟩ (.int .i64 ((c : Int) + 1))) (kidsOf (ns.take i) ++ n.ks.take (k + 1))) := Lib.hid (by
                have := HY.out.step hGw yn c hval
                rw [List.take_add_one, hy, ← List.append_assoc]
                exact this)
              have z1 : decide ((yn : Int) < 1) = false := by simp; omega
              have z2 : decide ((yn : Int) ≥ (m : Int)) = false := by simp; omega
              clear y1 y2 hy cy HY hval hc hPr
              go_wp2
              go_roundw
              case rel => exact ⟨k + 1, by omega, by go_num, S1⟩
              case measure => (simp [intOf]; try omega)
            · obtain rfl : k = kl := by omega
              have HT2 : Hid (TI G m w wr (kidsOf (ns.take (i + 1)))) := by
                have := HY.out
                rw [List.take_of_length_le (l := n.ks) (by rw [HKL.out]; exact Nat.le_refl _), ← HS.out] at this
                exact Lib.hid this
              clear y1 y2 HY
              go_wp2
              exact ⟨⟨i + 1, by omega, rfl, HT2⟩, by (simp [intOf]; try omega)⟩
        · obtain rfl : i = I2 := by omega
          obtain ⟨n, hn⟩ : ∃ n, ns[i]? = some n := ⟨_, List.getElem?_eq_getElem (by rw [HM.out]; omega)⟩
          have hmem : n ∈ ns := List.mem_iff_getElem?.2 ⟨i, hn⟩
          obtain ⟨ck, hI, hb0⟩ := HC.out i n hn
          have hfew := HKF.out n hmem
          obtain ⟨qk, kc, hkv⟩ := hI.form
          rw [hkv] at ck hI
          obtain ⟨kl, hkl⟩ : ∃ kl, n.ks.length = kl := ⟨_, rfl⟩
          rw [hkl] at ck hfew hI
          have HI := Lib.hid hI
          have HKL := Lib.hid hkl
          have HCK := Lib.hid ck
          have HND := Lib.hid hn
          have HS : Hid (kidsOf (ns.take (i + 1)) = kidsOf (ns.take i) ++ n.ks) := Lib.hid (kids_snoc ns i n hn)
          obtain ⟨K, y, hKy, hbad, hbef⟩ := HF2.out n hn
          have hKl : K < kl := by have := (List.getElem?_eq_some_iff.1 hKy).1; omega
          have HKY := Lib.hid hKy
          have HLN : Hid (∀ k z, k < K → n.ks[k]? = some z → 1 ≤ z ∧ z < (m : Int)) := Lib.hid hbef
          clear hI hkl ck hn hkv hmem hKy hbef
          have him : i < m := hI2
          go_wp2
          go_loopw [8] (fun s8 X => ∃ k : Nat, k ≤ K ∧ s8 = .int .i64 k ∧ Hid (TI G m w X (kidsOf (ns.take i) ++ n.ks.take k))) (fun s8 _ => kl - (intOf s8).toNat)
          case atStart => exact ⟨0, by omega, rfl, by simpa using HT⟩
          case round =>
            obtain ⟨k, hk, rfl, HY⟩ := hrel
            obtain ⟨y1, y2⟩ := HY.out
            have dck := (y2.cell (p := ⟨b, off + i * 34 + 1, none⟩) hb0).trans HCK.out
            by_cases hlt2 : k < K
            · obtain ⟨y, hy⟩ : ∃ y, n.ks[k]? = some y := ⟨_, List.getElem?_eq_getElem (by rw [HKL.out]; omega)⟩
              have hkl2 : k < kl := by omega
              obtain ⟨qb, qo, rfl, cy, ly⟩ := ints_at0' HI.out k y hy
              have dcy := (y2.cell (p := ⟨qb, qo + k, none⟩) ly).trans cy
              obtain ⟨yr0, yr1⟩ := HLN.out k y hlt2 hy
              obtain ⟨yn, rfl⟩ : ∃ yn : Nat, y = (yn : Int) := ⟨y.toNat, by omega⟩
              have hPr : ∀ z ∈ kidsOf (ns.take i) ++ n.ks.take k, 0 ≤ z ∧ z < (m : Int) := fun z hz => by
                rcases List.mem_append.1 hz with h | h
                · exact HPI.out z h
                · obtain ⟨k', hk'⟩ := List.mem_iff_getElem?.1 h
                  rw [List.getElem?_take] at hk'
                  by_cases e : k' < k
                  · rw [if_pos e] at hk'
                    have := HLN.out k' z (by omega) hk'
                    omega
                  · rw [if_neg e] at hk'; cases hk'
              have hval := tmz_val m _ hPr yn (by omega)
              obtain ⟨c, hc⟩ : ∃ c, (kidsOf (ns.take i) ++ n.ks.take k).count (yn : Int) = c := ⟨_, rfl⟩
              have hcb : c ≤ 10000000000 := by
                rw [← hc]
                refine Nat.le_trans List.count_le_length ?_
                have e1 := kids_len ns i HKF.out
                rw [List.length_append, List.length_take]
                have : 70000 * i ≤ 70000 * 65536 := Nat.mul_le_mul_left _ (by omega)
                omega
              rw [hc] at hval
              have cg : wr.cell? ⟨G, yn, none⟩ = some (.int .i64 c) := by rw [y1.cellAt, List.getElem?_map, hval]; rfl
              have fg := y1.free yn
              have S1 : Hid (TI G m w (wr.setCell ⟨G, yn, none⟩ (.int .i64 ((c : Int) + 1))) (kidsOf (ns.take i) ++ n.ks.take (k + 1))) := Lib.hid (by
                have := HY.out.step hGw yn c hval
                rw [List.take_add_one, hy, ← List.append_assoc]
                exact this)
              have z1 : decide ((yn : Int) < 1) = false := by simp; omega
              have z2 : decide ((yn : Int) ≥ (m : Int)) = false := by simp; omega
              clear y1 y2 hy cy HY hval hc hPr
              go_wp2
              go_roundw
              case rel => exact ⟨k + 1, by omega, by go_num, S1⟩
              case measure => (simp [intOf]; try omega)
            · obtain rfl : k = K := by omega
              obtain ⟨qb, qo, rfl, cy, ly⟩ := ints_at0' HI.out k y HKY.out
              have dcy := (y2.cell (p := ⟨qb, qo + k, none⟩) ly).trans cy
              have Y2 := Lib.hid y2
              clear y1 y2 HY cy
              by_cases zb : y < 1
              · have z1 : decide (y < 1) = true := by simpa using zb
                go_wp2
                refine bodyPost_ret (v := .tuple #[.int .i64 i, .int .i64 40]) (by simp [results, Try.results20, go_sem]) rfl ⟨rfl, Y2.out⟩
              · have z1 : decide (y < 1) = false := by simpa using zb
                have z2 : decide (y ≥ (m : Int)) = true := by simp; omega
                go_wp2
                refine bodyPost_ret (v := .tuple #[.int .i64 i, .int .i64 40]) (by simp [results, Try.results20, go_sem]) rfl ⟨rfl, Y2.out⟩
theorem walk_rng {ns : List Nd} (h1 : 1 ≤ ns.length) (hl : ∀ n ∈ ns, ∀ z ∈ n.ks, 1 ≤ z ∧ z < (ns.length : Int)) : ∀ z ∈ (walkL ns.length (kfOf ns)).map Prod.fst, 0 ≤ z ∧ z < (ns.length : Int) := by
  obtain ⟨vis, st, hr, hn⟩ := walk_facts h1 (kids_in hl)
  have hg := hr.good h1 (kids_in hl)
  intro z hz
  exact hg.vrng z (by rw [hr.vis]; simpa using hz)
/-- the worlds in which what is met is marked -/
def CkI (G M m : Nat) (w X : World) (P : List Int) (L : List Int) : Prop := Whole X G 3 ((tmz m P).map (Value.int .i64)) ∧ Whole X M 4 (metL m L) ∧ Below w.heap.size w X
theorem CkI.below {G M m : Nat} {w X Y : World} {P L : List Int} (h : CkI G M m w X P L) (hb : Below X.heap.size X Y) : CkI G M m w Y P L := ⟨h.1.below hb h.1.lt, h.2.1.below hb h.2.1.lt, h.2.2.trans (hb.mono h.2.2.size)⟩
set_option maxRecDepth 100000 in
set_option maxHeartbeats 16000000 in
theorem refCheck_bad (b off cap m : Nat) (ns : List Nd) (w : World) (hm : ns.length = m) (h1 : 1 ≤ m) (h2 : m ≤ 65536) (hP : PageAt w (.slice (some ⟨b, off, none⟩) m cap) ns) (hK : ∀ n ∈ ns, n.ks.length ≤ 70000) (HW : Hid (∀ j n, j < m → ns[j]? = some n → (!wrongN n) = true)) (HL2 : Hid (∀ j n, j < m → ns[j]? = some n → ∀ z ∈ n.ks, 1 ≤ z ∧ z < (m : Int))) (Z : Nat) (hZ1 : 1 ≤ Z) (hZm : Z < m) (HZ : Hid ((kidsOf ns).count (Z : Int) ≠ 1)) (HZB : Hid (∀ j : Nat, 1 ≤ j → j < Z → (kidsOf ns).count (j : Int) = 1)) (I5 : Nat) (hI51 : 1 ≤ I5) (hI5 : I5 ≤ Z) (HS5 : Hid (∀ j : Nat, 1 ≤ j → j < I5 → (kidsOf ns).count (j : Int) = 1 ∧ metB ns (j : Int) = true)) (HT5 : Hid ((kidsOf ns).count (I5 : Int) ≠ 1 ∨ metB ns (I5 : Int) = false)) :
    Calls Try.prog 20 #[.slice (some ⟨b, off, none⟩) m cap] w fun e W' => e = .returned (.tuple #[.int .i64 I5, .int .i64 41]) ∧ Below w.heap.size w W' := by
  have HRE : Hid (∀ X : World, Below w.heap.size w X → ∀ t, t < m → Calls Try.prog 38 #[.slice (some ⟨b, off, none⟩) m cap, .int .i64 t] X fun e W' => e = .returned (.bool (metB ns (t : Int))) ∧ Below X.heap.size X W') :=
    Lib.hid fun X hX t ht => reached_at b off cap m t ns X hm h1 h2 ht (hP.below hX) hK (fun n hn z hz => by
      obtain ⟨j, hj⟩ := List.mem_iff_getElem?.1 hn
      exact HL2.out j n (by have := (List.getElem?_eq_some_iff.1 hj).1; omega) hj z hz) _ rfl
  have HN : Hid (∀ (j : Nat) (n : Nd), ns[j]? = some n → ∀ X, Below w.heap.size w X → NdAt X b (off + j * 34) n ∧ n.ok X) := Lib.hid (by
    obtain ⟨b', off', e, hc⟩ := page_some hP (by rw [hm]; exact h1)
    injection e with e; injection e with e1 e2
    subst e1 e2
    exact fun j n hn X hX => ⟨(hc j n hn).below hX, (hP.2.1 n (List.mem_iff_getElem?.2 ⟨j, hn⟩)).below hX⟩)
  have HC : Hid (∀ (j : Nat) (n : Nd), ns[j]? = some n → w.cell? ⟨b, off + j * 34 + 1, none⟩ = some n.kv ∧ Ints w n.kv n.ks ∧ b < w.heap.size) := Lib.hid (by
    obtain ⟨b', off', e, _, hc⟩ := page_cells hP h1
    injection e with e; injection e with e1 e2
    subst e1 e2
    exact fun j n hn => (hc j n hn).2)
  have HP := Lib.hid hP
  have HM := Lib.hid hm
  have HKF := Lib.hid hK
  have d1 : decide ((m : Int) < 1) = false := by simp; omega
  have d2 : decide ((m : Int) > 65536) = false := by simp; omega
  clear hm hK hP
  go_enter Try.func20, Try.ntmps20
  go_wp2
  go_loopw [4] (fun s4 X => ∃ i : Nat, i ≤ m ∧ s4 = .int .i64 i ∧ Hid (Below w.heap.size w X)) (fun s4 _ => m - (intOf s4).toNat)
  case atStart => exact ⟨0, by omega, rfl, Lib.hid (Below.refl _ _)⟩
  case round =>
    obtain ⟨i, hi, rfl, HB⟩ := hrel
    by_cases hlt : i < m
    · obtain ⟨n, hn⟩ : ∃ n, ns[i]? = some n := ⟨_, List.getElem?_eq_getElem (by rw [HM.out]; omega)⟩
      obtain ⟨hnd, hok⟩ := HN.out i n hn wr HB.out
      have hr := right_any n wr hok
      rw [HW.out i n hlt hn] at hr
      obtain ⟨cs, hcs⟩ : ∃ cs, n.cells.toArray = cs := ⟨_, rfl⟩
      have LN : Hid (∀ j v, cs[j]? = some v → wr.cell? ((⟨b, off + i * 34, none⟩ : Addr).add j) = some v) := Lib.hid (by rw [← hcs]; exact hnd.load)
      have iN : Hid ((Try.prog.info? 65).map (·.size) = some cs.size) := Lib.hid (by rw [← hcs]; exact nd_info n)
      have HR : Hid (Calls Try.prog 36 #[.agg cs] wr fun e W' => e = .returned (.bool true) ∧ Below wr.heap.size wr W') := Lib.hid (by rw [← hcs]; exact hr)
      clear hr hcs hn hnd hok
      go_wp2_with (first
        | (refine wpList_load_at rfl 65 (.tmp 34) rfl _ rfl cs _ LN.out Try.underlying65 rfl iN.out ?_)
        | (go_at_call 36; refine HR.out.mono ?_; rintro e w1 ⟨rfl, hb1⟩; have HB1 := Lib.hid (HB.out.trans (hb1.mono HB.out.size)); clear hb1 HB HR LN iN))
      go_roundw
      case rel => exact ⟨i + 1, by omega, by go_num, HB1⟩
      case measure => (simp [intOf]; try omega)
    · obtain rfl : m = i := by omega
      have sw := HB.out.size
      obtain ⟨G, hG⟩ : ∃ G, wr.heap.size = G := ⟨_, rfl⟩
      have hGw : w.heap.size ≤ G := by omega
      have hmk := make_ints m (by omega)
      go_wp2
      try rw [hG]
      obtain ⟨W4, hW4⟩ : ∃ W4, wr.alloc (.cells (Array.replicate m (Value.int .i64 0)) 3) = W4 := ⟨_, rfl⟩
      have k4 : Whole W4 G 3 ((tmz m (kidsOf (ns.take 0))).map (Value.int .i64)) := by
        rw [← hW4, ← hG, show (Array.replicate m (Value.int .i64 0)) = ((tmz m (kidsOf (ns.take 0))).map (Value.int .i64)).toArray from by
          apply Array.toList_inj.1
          simp [tmz, kidsOf]]
        exact whole_new wr _ 3 _ rfl
      have b4 : Below w.heap.size w W4 := by rw [← hW4]; exact HB.out.alloc sw _
      have HT0 : Hid (TI G m w W4 (kidsOf (ns.take 0))) := Lib.hid ⟨k4, b4⟩
      rw [hW4]
      clear hW4 k4 b4 hmk hG sw HB
      go_loopw [7] (fun s7 X => ∃ i : Nat, i ≤ m ∧ s7 = .int .i64 i ∧ Hid (TI G m w X (kidsOf (ns.take i)))) (fun s7 _ => m - (intOf s7).toNat)
      case atStart => exact ⟨0, by omega, rfl, HT0⟩
      case round =>
        obtain ⟨i, hi, rfl, HT⟩ := hrel
        clear HT0
        have HPI : Hid (∀ z ∈ kidsOf (ns.take i), 0 ≤ z ∧ z < (m : Int)) := Lib.hid fun z hz => by
          obtain ⟨a, ha, hz'⟩ := List.mem_flatMap.1 hz
          obtain ⟨j, hj⟩ := List.mem_iff_getElem?.1 ha
          rw [List.getElem?_take] at hj
          by_cases e : j < i
          · rw [if_pos e] at hj
            have := HL2.out j a (by omega) hj z hz'
            omega
          · rw [if_neg e] at hj; cases hj
        by_cases hlt : i < m
        · obtain ⟨n, hn⟩ : ∃ n, ns[i]? = some n := ⟨_, List.getElem?_eq_getElem (by rw [HM.out]; omega)⟩
          have hmem : n ∈ ns := List.mem_iff_getElem?.2 ⟨i, hn⟩
          obtain ⟨ck, hI, hb0⟩ := HC.out i n hn
          have hfew := HKF.out n hmem
          obtain ⟨qk, kc, hkv⟩ := hI.form
          rw [hkv] at ck hI
          obtain ⟨kl, hkl⟩ : ∃ kl, n.ks.length = kl := ⟨_, rfl⟩
          rw [hkl] at ck hfew hI
          have HI := Lib.hid hI
          have HKL := Lib.hid hkl
          have HCK := Lib.hid ck
          have HND := Lib.hid hn
          have HS : Hid (kidsOf (ns.take (i + 1)) = kidsOf (ns.take i) ++ n.ks) := Lib.hid (kids_snoc ns i n hn)
          have HLN : Hid (∀ k z, k < kl → n.ks[k]? = some z → 1 ≤ z ∧ z < (m : Int)) := Lib.hid fun k z hk hz => HL2.out i n hlt hn z (List.mem_iff_getElem?.2 ⟨k, hz⟩)
          clear hI hkl ck hn hkv hmem
          go_wp2
          go_loopw [8] (fun s8 X => ∃ k : Nat, k ≤ kl ∧ s8 = .int .i64 k ∧ Hid (TI G m w X (kidsOf (ns.take i) ++ n.ks.take k))) (fun s8 _ => kl - (intOf s8).toNat)
          case atStart => exact ⟨0, by omega, rfl, by simpa using HT⟩
          case round =>
            obtain ⟨k, hk, rfl, HY⟩ := hrel
            obtain ⟨y1, y2⟩ := HY.out
            have dck := (y2.cell (p := ⟨b, off + i * 34 + 1, none⟩) hb0).trans HCK.out
            by_cases hlt2 : k < kl
            · obtain ⟨y, hy⟩ : ∃ y, n.ks[k]? = some y := ⟨_, List.getElem?_eq_getElem (by rw [HKL.out]; omega)⟩
              have hkl2 : k < kl := by omega
              obtain ⟨qb, qo, rfl, cy, ly⟩ := ints_at0' HI.out k y hy
              have dcy := (y2.cell (p := ⟨qb, qo + k, none⟩) ly).trans cy
              obtain ⟨yr0, yr1⟩ := HLN.out k y hlt2 hy
              obtain ⟨yn, rfl⟩ : ∃ yn : Nat, y = (yn : Int) := ⟨y.toNat, by omega⟩
              have hPr : ∀ z ∈ kidsOf (ns.take i) ++ n.ks.take k, 0 ≤ z ∧ z < (m : Int) := fun z hz => by
                rcases List.mem_append.1 hz with h | h
                · exact HPI.out z h
                · obtain ⟨k', hk'⟩ := List.mem_iff_getElem?.1 h
                  rw [List.getElem?_take] at hk'
                  by_cases e : k' < k
                  · rw [if_pos e] at hk'
                    have := HLN.out k' z (by omega) hk'
                    omega
                  · rw [if_neg e] at hk'; cases hk'
              have hval := tmz_val m _ hPr yn (by omega)
              obtain ⟨c, hc⟩ : ∃ c, (kidsOf (ns.take i) ++ n.ks.take k).count (yn : Int) = c := ⟨_, rfl⟩
              have hcb : c ≤ 10000000000 := by
                rw [← hc]
                refine Nat.le_trans List.count_le_length ?_
                have e1 := kids_len ns i HKF.out
                rw [List.length_append, List.length_take]
                have : 70000 * i ≤ 70000 * 65536 := Nat.mul_le_mul_left _ (by omega)
                omega
              rw [hc] at hval
              have cg : wr.cell? ⟨G, yn, none⟩ = some (.int .i64 c) := by rw [y1.cellAt, List.getElem?_map, hval]; rfl
              have fg := y1.free yn
              have S1 : Hid (TI G m w (wr.setCell ⟨G, yn, none⟩ (.int .i64 ((c : Int) + 1))) (kidsOf (ns.take i) ++ n.ks.take (k + 1))) := Lib.hid (by
                have := HY.out.step hGw yn c hval
                rw [List.take_add_one, hy, ← List.append_assoc]
                exact this)
              have z1 : decide ((yn : Int) < 1) = false := by simp; omega
              have z2 : decide ((yn : Int) ≥ (m : Int)) = false := by simp; omega
              clear y1 y2 hy cy HY hval hc hPr
              go_wp2
              go_roundw
              case rel => exact ⟨k + 1, by omega, by go_num, S1⟩
              case measure => (simp [intOf]; try omega)
            · obtain rfl : k = kl := by omega
              have HT2 : Hid (TI G m w wr (kidsOf (ns.take (i + 1)))) := by
                have := HY.out
                rw [List.take_of_length_le (l := n.ks) (by rw [HKL.out]; exact Nat.le_refl _), ← HS.out] at this
                exact Lib.hid this
              clear y1 y2 HY
              go_wp2
              exact ⟨⟨i + 1, by omega, rfl, HT2⟩, by (simp [intOf]; try omega)⟩
        · obtain rfl : m = i := by omega
          have HPA : Hid (∀ z ∈ kidsOf ns, 0 ≤ z ∧ z < (m : Int)) := by
            have := HPI.out
            rw [List.take_of_length_le (by rw [HM.out]; exact Nat.le_refl _)] at this
            exact Lib.hid this
          have HTF : Hid (TI G m w wr (kidsOf ns)) := by
            have := HT.out
            rw [List.take_of_length_le (by rw [HM.out]; exact Nat.le_refl _)] at this
            exact Lib.hid this
          clear HT HPI
          have sw := HTF.out.2.size
          have hGM := HTF.out.1.lt
          obtain ⟨M, hM⟩ : ∃ M, wr.heap.size = M := ⟨_, rfl⟩
          have hMw : w.heap.size ≤ M := by omega
          have hGM2 : G < M := by omega
          have hmk := make_bools m (by omega)
          go_wp2
          try rw [hM]
          obtain ⟨W5, hW5⟩ : ∃ W5, wr.alloc (.cells (metL m []).toArray 4) = W5 := ⟨_, rfl⟩
          have k5 : Whole W5 M 4 (metL m []) := by rw [← hW5, ← hM]; exact whole_new wr _ 4 _ rfl
          have HC0 : Hid (CkI G M m w W5 (kidsOf ns) []) := Lib.hid ⟨by rw [← hW5]; exact HTF.out.1.alloc _, k5, by rw [← hW5]; exact HTF.out.2.alloc sw _⟩
          have hs5 : W5.heap.size = M + 1 := by rw [← hW5, ← hM]; simp
          rw [hW5]
          clear hW5 k5 hmk hM sw hGM HTF
          go_loop [11, 12] (fun s11 s12 => ∃ i : Nat, 1 ≤ i ∧ i ≤ m ∧ s12 = .int .i64 i ∧ s11 = .bool (decide (Z < i))) (fun _ s12 => m - (intOf s12).toNat)
          case atStart => exact ⟨1, by omega, by omega, rfl, by rw [decide_eq_false (by omega)]⟩
          case round =>
            obtain ⟨i, hi1, hi, rfl, rfl⟩ := hrel
            by_cases hlt : i < m
            · by_cases hz1 : Z < i
              · have dz : decide (Z < i) = true := decide_eq_true hz1
                rw [dz]
                go_wp2
                go_round
                case rel => exact ⟨i + 1, by omega, by omega, by go_num, by rw [decide_eq_true (by omega)]⟩
                case measure => (simp [intOf]; try omega)
              · have dz : decide (Z < i) = false := decide_eq_false hz1
                rw [dz]
                obtain ⟨c, hc⟩ : ∃ c, (kidsOf ns).count (i : Int) = c := ⟨_, rfl⟩
                have ct : W5.cell? ⟨G, i, none⟩ = some (.int .i64 c) := by rw [HC0.out.1.cellAt, List.getElem?_map, tmz_val m _ HPA.out i hlt, hc]; rfl
                by_cases hiz : i = Z
                · have cc : ((c : Int) != 1) = true := by
                    have := HZ.out
                    rw [← hiz, hc] at this
                    simp; omega
                  have hzi : Z ≤ i := by omega
                  clear hc hiz
                  go_wp2
                  go_round
                  case rel => exact ⟨i + 1, by omega, by omega, by go_num, by rw [decide_eq_true (by omega)]⟩
                  case measure => (simp [intOf]; try omega)
                · have hc1 : c = 1 := by rw [← hc]; exact HZB.out i hi1 (by omega)
                  subst hc1
                  clear hc
                  go_wp2
                  go_round
                  case rel => exact ⟨i + 1, by omega, by omega, by go_num, by rw [decide_eq_false (by omega)]⟩
                  case measure => (simp [intOf]; try omega)
            · have him : i = m := by omega
              have dz : decide (Z < i) = true := decide_eq_true (by omega)
              rw [dz]
              clear dz
              go_wp2
              go_loopw [15] (fun s15 X => ∃ i : Nat, 1 ≤ i ∧ i ≤ I5 ∧ s15 = .int .i64 i ∧ Hid (CkI G M m w X (kidsOf ns) [])) (fun s15 _ => m - (intOf s15).toNat)
              case atStart => exact ⟨1, by omega, by omega, rfl, HC0⟩
              case round =>
                obtain ⟨i, hi1, hi, rfl, HX⟩ := hrel
                have him5 : i < m := by omega
                obtain ⟨c, hc⟩ : ∃ c, (kidsOf ns).count (i : Int) = c := ⟨_, rfl⟩
                have ct : wr.cell? ⟨G, i, none⟩ = some (.int .i64 c) := by rw [HX.out.1.cellAt, List.getElem?_map, tmz_val m _ HPA.out i him5, hc]; rfl
                have HR := Lib.hid (HRE.out wr HX.out.2.2 i him5)
                by_cases hlt5 : i < I5
                · obtain ⟨g1, g2⟩ := HS5.out i hi1 hlt5
                  have hc1 : c = 1 := by rw [← hc]; exact g1
                  subst hc1
                  rw [g2] at HR
                  clear hc g1 g2
                  go_wp2_with (go_at_call 38; refine HR.out.mono ?_; rintro e w1 ⟨rfl, hb1⟩; have HX1 := Lib.hid (HX.out.below hb1); clear hb1 HX HR)
                  go_roundw
                  case rel => exact ⟨i + 1, by omega, by omega, by go_num, HX1⟩
                  case measure => (simp [intOf]; try omega)
                · obtain rfl : i = I5 := by omega
                  have hX5 := HX.out.2.2
                  by_cases hc1 : c = 1
                  · have hm5 : metB ns (i : Int) = false := by
                      rcases HT5.out with h | h
                      · rw [hc] at h; exact absurd hc1 h
                      · exact h
                    rw [hm5] at HR
                    subst hc1
                    clear hc hm5 hX5
                    go_wp2_with (go_at_call 38; refine HR.out.mono ?_; rintro e w1 ⟨rfl, hb1⟩; have HX1 := Lib.hid (HX.out.2.2.trans (hb1.mono HX.out.2.2.size)); clear hb1 HX HR)
                    refine bodyPost_ret (v := .tuple #[.int .i64 i, .int .i64 41]) (by simp [results, Try.results20, go_sem]) rfl ⟨rfl, HX1.out⟩
                  · have cc : ((c : Int) != 1) = true := by simp; omega
                    have HX5 := Lib.hid hX5
                    clear hc HR hX5
                    go_wp2
                    refine bodyPost_ret (v := .tuple #[.int .i64 i, .int .i64 41]) (by simp [results, Try.results20, go_sem]) rfl ⟨rfl, HX5.out⟩
set_option maxRecDepth 100000 in
set_option maxHeartbeats 16000000 in
theorem refCheck_stray (b off cap m : Nat) (ns : List Nd) (w : World) (hm : ns.length = m) (h1 : 1 ≤ m) (h2 : m ≤ 65536) (hP : PageAt w (.slice (some ⟨b, off, none⟩) m cap) ns) (hK : ∀ n ∈ ns, n.ks.length ≤ 70000) (HW : Hid (∀ j n, j < m → ns[j]? = some n → (!wrongN n) = true)) (HL2 : Hid (∀ j n, j < m → ns[j]? = some n → ∀ z ∈ n.ks, 1 ≤ z ∧ z < (m : Int))) (HZB : Hid (∀ j : Nat, 1 ≤ j → j < m → (kidsOf ns).count (j : Int) = 1)) (I5 : Nat) (hI51 : 1 ≤ I5) (hI5 : I5 < m) (HS5' : Hid (∀ j : Nat, 1 ≤ j → j < I5 → metB ns (j : Int) = true)) (HT5' : Hid (metB ns (I5 : Int) = false)) :
    Calls Try.prog 20 #[.slice (some ⟨b, off, none⟩) m cap] w fun e W' => e = .returned (.tuple #[.int .i64 I5, .int .i64 41]) ∧ Below w.heap.size w W' := by
  have hlk : ∀ n ∈ ns, ∀ z ∈ n.ks, 1 ≤ z ∧ z < (ns.length : Int) := fun n hn z hz => by
    obtain ⟨j, hj⟩ := List.mem_iff_getElem?.1 hn
    have := HL2.out j n (by have := (List.getElem?_eq_some_iff.1 hj).1; omega) hj z hz
    omega
  have hT0 : Tr0 ns := ⟨hlk, fun j h h' => HZB.out j h (by omega)⟩
  obtain ⟨O, hO⟩ : ∃ O, (walkL ns.length (kfOf ns)).map Prod.fst = O := ⟨_, rfl⟩
  have HRG : Hid (∀ z ∈ O, 0 ≤ z ∧ z < (m : Int)) := Lib.hid (by rw [← hO, ← hm]; exact walk_rng (by omega) hlk)
  have HOR : Hid (∀ X : World, Below w.heap.size w X → Calls Try.prog 37 #[.slice (some ⟨b, off, none⟩) m cap, .int .i64 0, .slice none 0 0] X (OrdPost X O)) :=
    Lib.hid fun X hX => by
      have h := order_rec b off cap m ns X hm h1 h2 (hP.below hX) hK (fun n hn z hz => by have := hlk n hn z hz; omega) (m + 2) 0 [] _ X (by omega) (by omega) (by simp) (by simp) (Below.refl _ X) (World.ownsRow_nil _ _ _ _)
      have e : ordD (kfOf ns) m (m + 2) 0 [] = O := by rw [← hO, ← ord_walk hT0 (by omega), hm]; rfl
      rw [e] at h; exact h
  have HS5 : Hid (∀ j : Nat, 1 ≤ j → j < I5 → O.contains (j : Int) = true) := Lib.hid (by rw [← hO]; exact HS5'.out)
  have HT5 : Hid (O.contains (I5 : Int) = false) := Lib.hid (by rw [← hO]; exact HT5'.out)
  clear HT5'
  clear HS5' hO hT0 hlk
  have HN : Hid (∀ (j : Nat) (n : Nd), ns[j]? = some n → ∀ X, Below w.heap.size w X → NdAt X b (off + j * 34) n ∧ n.ok X) := Lib.hid (by
    obtain ⟨b', off', e, hc⟩ := page_some hP (by rw [hm]; exact h1)
    injection e with e; injection e with e1 e2
    subst e1 e2
    exact fun j n hn X hX => ⟨(hc j n hn).below hX, (hP.2.1 n (List.mem_iff_getElem?.2 ⟨j, hn⟩)).below hX⟩)
  have HC : Hid (∀ (j : Nat) (n : Nd), ns[j]? = some n → w.cell? ⟨b, off + j * 34 + 1, none⟩ = some n.kv ∧ Ints w n.kv n.ks ∧ b < w.heap.size) := Lib.hid (by
    obtain ⟨b', off', e, _, hc⟩ := page_cells hP h1
    injection e with e; injection e with e1 e2
    subst e1 e2
    exact fun j n hn => (hc j n hn).2)
  have HP := Lib.hid hP
  have HM := Lib.hid hm
  have HKF := Lib.hid hK
  have d1 : decide ((m : Int) < 1) = false := by simp; omega
  have d2 : decide ((m : Int) > 65536) = false := by simp; omega
  clear hm hK hP
  go_enter Try.func20, Try.ntmps20
  go_wp2
  go_loopw [4] (fun s4 X => ∃ i : Nat, i ≤ m ∧ s4 = .int .i64 i ∧ Hid (Below w.heap.size w X)) (fun s4 _ => m - (intOf s4).toNat)
  case atStart => exact ⟨0, by omega, rfl, Lib.hid (Below.refl _ _)⟩
  case round =>
    obtain ⟨i, hi, rfl, HB⟩ := hrel
    by_cases hlt : i < m
    · obtain ⟨n, hn⟩ : ∃ n, ns[i]? = some n := ⟨_, List.getElem?_eq_getElem (by rw [HM.out]; omega)⟩
      obtain ⟨hnd, hok⟩ := HN.out i n hn wr HB.out
      have hr := right_any n wr hok
      rw [HW.out i n hlt hn] at hr
      obtain ⟨cs, hcs⟩ : ∃ cs, n.cells.toArray = cs := ⟨_, rfl⟩
      have LN : Hid (∀ j v, cs[j]? = some v → wr.cell? ((⟨b, off + i * 34, none⟩ : Addr).add j) = some v) := Lib.hid (by rw [← hcs]; exact hnd.load)
      have iN : Hid ((Try.prog.info? 65).map (·.size) = some cs.size) := Lib.hid (by rw [← hcs]; exact nd_info n)
      have HR : Hid (Calls Try.prog 36 #[.agg cs] wr fun e W' => e = .returned (.bool true) ∧ Below wr.heap.size wr W') := Lib.hid (by rw [← hcs]; exact hr)
      clear hr hcs hn hnd hok
      go_wp2_with (first
        | (refine wpList_load_at rfl 65 (.tmp 34) rfl _ rfl cs _ LN.out Try.underlying65 rfl iN.out ?_)
        | (go_at_call 36; refine HR.out.mono ?_; rintro e w1 ⟨rfl, hb1⟩; have HB1 := Lib.hid (HB.out.trans (hb1.mono HB.out.size)); clear hb1 HB HR LN iN))
      go_roundw
      case rel => exact ⟨i + 1, by omega, by go_num, HB1⟩
      case measure => (simp [intOf]; try omega)
    · obtain rfl : m = i := by omega
      have sw := HB.out.size
      obtain ⟨G, hG⟩ : ∃ G, wr.heap.size = G := ⟨_, rfl⟩
      have hGw : w.heap.size ≤ G := by omega
      have hmk := make_ints m (by omega)
      go_wp2
      try rw [hG]
      obtain ⟨W4, hW4⟩ : ∃ W4, wr.alloc (.cells (Array.replicate m (Value.int .i64 0)) 3) = W4 := ⟨_, rfl⟩
      have k4 : Whole W4 G 3 ((tmz m (kidsOf (ns.take 0))).map (Value.int .i64)) := by
        rw [← hW4, ← hG, show (Array.replicate m (Value.int .i64 0)) = ((tmz m (kidsOf (ns.take 0))).map (Value.int .i64)).toArray from by
          apply Array.toList_inj.1
          simp [tmz, kidsOf]]
        exact whole_new wr _ 3 _ rfl
      have b4 : Below w.heap.size w W4 := by rw [← hW4]; exact HB.out.alloc sw _
      have HT0 : Hid (TI G m w W4 (kidsOf (ns.take 0))) := Lib.hid ⟨k4, b4⟩
      rw [hW4]
      clear hW4 k4 b4 hmk hG sw HB
      go_loopw [7] (fun s7 X => ∃ i : Nat, i ≤ m ∧ s7 = .int .i64 i ∧ Hid (TI G m w X (kidsOf (ns.take i)))) (fun s7 _ => m - (intOf s7).toNat)
      case atStart => exact ⟨0, by omega, rfl, HT0⟩
      case round =>
        obtain ⟨i, hi, rfl, HT⟩ := hrel
        clear HT0
        have HPI : Hid (∀ z ∈ kidsOf (ns.take i), 0 ≤ z ∧ z < (m : Int)) := Lib.hid fun z hz => by
          obtain ⟨a, ha, hz'⟩ := List.mem_flatMap.1 hz
          obtain ⟨j, hj⟩ := List.mem_iff_getElem?.1 ha
          rw [List.getElem?_take] at hj
          by_cases e : j < i
          · rw [if_pos e] at hj
            have := HL2.out j a (by omega) hj z hz'
            omega
          · rw [if_neg e] at hj; cases hj
        by_cases hlt : i < m
        · obtain ⟨n, hn⟩ : ∃ n, ns[i]? = some n := ⟨_, List.getElem?_eq_getElem (by rw [HM.out]; omega)⟩
          have hmem : n ∈ ns := List.mem_iff_getElem?.2 ⟨i, hn⟩
          obtain ⟨ck, hI, hb0⟩ := HC.out i n hn
          have hfew := HKF.out n hmem
          obtain ⟨qk, kc, hkv⟩ := hI.form
          rw [hkv] at ck hI
          obtain ⟨kl, hkl⟩ : ∃ kl, n.ks.length = kl := ⟨_, rfl⟩
          rw [hkl] at ck hfew hI
          have HI := Lib.hid hI
          have HKL := Lib.hid hkl
          have HCK := Lib.hid ck
          have HND := Lib.hid hn
          have HS : Hid (kidsOf (ns.take (i + 1)) = kidsOf (ns.take i) ++ n.ks) := Lib.hid (kids_snoc ns i n hn)
          have HLN : Hid (∀ k z, k < kl → n.ks[k]? = some z → 1 ≤ z ∧ z < (m : Int)) := Lib.hid fun k z hk hz => HL2.out i n hlt hn z (List.mem_iff_getElem?.2 ⟨k, hz⟩)
          clear hI hkl ck hn hkv hmem
          go_wp2
          go_loopw [8] (fun s8 X => ∃ k : Nat, k ≤ kl ∧ s8 = .int .i64 k ∧ Hid (TI G m w X (kidsOf (ns.take i) ++ n.ks.take k))) (fun s8 _ => kl - (intOf s8).toNat)
          case atStart => exact ⟨0, by omega, rfl, by simpa using HT⟩
          case round =>
            obtain ⟨k, hk, rfl, HY⟩ := hrel
            obtain ⟨y1, y2⟩ := HY.out
            have dck := (y2.cell (p := ⟨b, off + i * 34 + 1, none⟩) hb0).trans HCK.out
            by_cases hlt2 : k < kl
            · obtain ⟨y, hy⟩ : ∃ y, n.ks[k]? = some y := ⟨_, List.getElem?_eq_getElem (by rw [HKL.out]; omega)⟩
              have hkl2 : k < kl := by omega
              obtain ⟨qb, qo, rfl, cy, ly⟩ := ints_at0' HI.out k y hy
              have dcy := (y2.cell (p := ⟨qb, qo + k, none⟩) ly).trans cy
              obtain ⟨yr0, yr1⟩ := HLN.out k y hlt2 hy
              obtain ⟨yn, rfl⟩ : ∃ yn : Nat, y = (yn : Int) := ⟨y.toNat, by omega⟩
              have hPr : ∀ z ∈ kidsOf (ns.take i) ++ n.ks.take k, 0 ≤ z ∧ z < (m : Int) := fun z hz => by
                rcases List.mem_append.1 hz with h | h
                · exact HPI.out z h
                · obtain ⟨k', hk'⟩ := List.mem_iff_getElem?.1 h
                  rw [List.getElem?_take] at hk'
                  by_cases e : k' < k
                  · rw [if_pos e] at hk'
                    have := HLN.out k' z (by omega) hk'
                    omega
                  · rw [if_neg e] at hk'; cases hk'
              have hval := tmz_val m _ hPr yn (by omega)
              obtain ⟨c, hc⟩ : ∃ c, (kidsOf (ns.take i) ++ n.ks.take k).count (yn : Int) = c := ⟨_, rfl⟩
              have hcb : c ≤ 10000000000 := by
                rw [← hc]
                refine Nat.le_trans List.count_le_length ?_
                have e1 := kids_len ns i HKF.out
                rw [List.length_append, List.length_take]
                have : 70000 * i ≤ 70000 * 65536 := Nat.mul_le_mul_left _ (by omega)
                omega
              rw [hc] at hval
              have cg : wr.cell? ⟨G, yn, none⟩ = some (.int .i64 c) := by rw [y1.cellAt, List.getElem?_map, hval]; rfl
              have fg := y1.free yn
              have S1 : Hid (TI G m w (wr.setCell ⟨G, yn, none⟩ (.int .i64 ((c : Int) + 1))) (kidsOf (ns.take i) ++ n.ks.take (k + 1))) := Lib.hid (by
                have := HY.out.step hGw yn c hval
                rw [List.take_add_one, hy, ← List.append_assoc]
                exact this)
              have z1 : decide ((yn : Int) < 1) = false := by simp; omega
              have z2 : decide ((yn : Int) ≥ (m : Int)) = false := by simp; omega
              clear y1 y2 hy cy HY hval hc hPr
              go_wp2
              go_roundw
              case rel => exact ⟨k + 1, by omega, by go_num, S1⟩
              case measure => (simp [intOf]; try omega)
            · obtain rfl : k = kl := by omega
              have HT2 : Hid (TI G m w wr (kidsOf (ns.take (i + 1)))) := by
                have := HY.out
                rw [List.take_of_length_le (l := n.ks) (by rw [HKL.out]; exact Nat.le_refl _), ← HS.out] at this
                exact Lib.hid this
              clear y1 y2 HY
              go_wp2
              exact ⟨⟨i + 1, by omega, rfl, HT2⟩, by (simp [intOf]; try omega)⟩
        · obtain rfl : m = i := by omega
          have HPA : Hid (∀ z ∈ kidsOf ns, 0 ≤ z ∧ z < (m : Int)) := by
            have := HPI.out
            rw [List.take_of_length_le (by rw [HM.out]; exact Nat.le_refl _)] at this
            exact Lib.hid this
          have HTF : Hid (TI G m w wr (kidsOf ns)) := by
            have := HT.out
            rw [List.take_of_length_le (by rw [HM.out]; exact Nat.le_refl _)] at this
            exact Lib.hid this
          clear HT HPI
          have sw := HTF.out.2.size
          have hGM := HTF.out.1.lt
          obtain ⟨M, hM⟩ : ∃ M, wr.heap.size = M := ⟨_, rfl⟩
          have hMw : w.heap.size ≤ M := by omega
          have hGM2 : G < M := by omega
          have hmk := make_bools m (by omega)
          go_wp2
          try rw [hM]
          obtain ⟨W5, hW5⟩ : ∃ W5, wr.alloc (.cells (metL m []).toArray 4) = W5 := ⟨_, rfl⟩
          have k5 : Whole W5 M 4 (metL m []) := by rw [← hW5, ← hM]; exact whole_new wr _ 4 _ rfl
          have HC0 : Hid (CkI G M m w W5 (kidsOf ns) []) := Lib.hid ⟨by rw [← hW5]; exact HTF.out.1.alloc _, k5, by rw [← hW5]; exact HTF.out.2.alloc sw _⟩
          have hs5 : W5.heap.size = M + 1 := by rw [← hW5, ← hM]; simp
          rw [hW5]
          clear hW5 k5 hmk hM sw hGM HTF
          go_loop [11, 12] (fun s11 s12 => ∃ i : Nat, 1 ≤ i ∧ i ≤ m ∧ s12 = .int .i64 i ∧ s11 = .bool false) (fun _ s12 => m - (intOf s12).toNat)
          case atStart => exact ⟨1, by omega, by omega, rfl, rfl⟩
          case round =>
            obtain ⟨i, hi1, hi, rfl, rfl⟩ := hrel
            by_cases hlt : i < m
            · have ct : W5.cell? ⟨G, i, none⟩ = some (.int .i64 1) := by rw [HC0.out.1.cellAt, List.getElem?_map, tmz_val m _ HPA.out i hlt, HZB.out i hi1 hlt]; rfl
              go_wp2
              go_round
              case rel => exact ⟨i + 1, by omega, by omega, by go_num, rfl⟩
              case measure => (simp [intOf]; try omega)
            · have him : i = m := by omega
              clear him
              have HOR2 := Lib.hid (HOR.out W5 HC0.out.2.2)
              go_wp2_with (go_at_call 37; refine HOR2.out.mono ?_; clear HOR2; rintro e w2 ⟨v2, rfl, o2, b2⟩; have HIO := Lib.hid (ints_own o2).1; have HA := Lib.hid ((ints_own o2).2.2 M (by omega)); have HA2 := Lib.hid ((ints_own o2).2.2 G (by omega)); have HC1 := Lib.hid (HC0.out.below b2); obtain ⟨q2, c2, hv⟩ := (ints_own o2).1.form; subst hv; clear o2 b2)
              obtain ⟨lo, hlo⟩ : ∃ lo, O.length = lo := ⟨_, rfl⟩
              have hlo2 : lo ≤ 9223372036854775807 := by rw [← hlo]; exact HIO.out.1
              rw [hlo] at HIO HA HA2 ⊢
              have HLO := Lib.hid hlo
              clear hlo
              go_loopw [14] (fun s14 X => ∃ i : Nat, i ≤ lo ∧ s14 = .int .i64 i ∧ Hid (CkI G M m w X (kidsOf ns) (O.take i)) ∧ Hid (Ints X (.slice q2 lo c2) O)) (fun s14 _ => lo - (intOf s14).toNat)
              case atStart => exact ⟨0, by omega, rfl, HC1, HIO⟩
              case round =>
                obtain ⟨i4, hi4, rfl, HX, HI4⟩ := hrel
                by_cases hlt4 : i4 < lo
                · obtain ⟨z, hz⟩ : ∃ z, O[i4]? = some z := ⟨_, List.getElem?_eq_getElem (by rw [HLO.out]; exact hlt4)⟩
                  obtain ⟨zr0, zr1⟩ := HRG.out z (List.mem_iff_getElem?.2 ⟨i4, hz⟩)
                  obtain ⟨zn, rfl⟩ : ∃ zn : Nat, z = (zn : Int) := ⟨z.toNat, by omega⟩
                  obtain ⟨ob, oo, rfl, cz, lz⟩ := ints_at0' HI4.out i4 _ hz
                  obtain ⟨x1, x2, x3⟩ := HX.out
                  have cm : wr.cell? ⟨M, zn, none⟩ = some (.bool ((O.take i4).contains (zn : Int))) := by rw [x2.cellAt, metL_get m _ zn (by omega)]
                  have fm := x2.free zn
                  have S1 : Hid (CkI G M m w (wr.setCell ⟨M, zn, none⟩ (.bool true)) (kidsOf ns) (O.take (i4 + 1))) := Lib.hid (by
                    refine ⟨x1.other _ _ (by show G ≠ M; omega), ?_, x3.setCell (p := ⟨M, zn, none⟩) hMw _⟩
                    have := x2.set zn (.bool true)
                    rw [metL_set m _ zn (by omega)] at this
                    rw [List.take_add_one, hz]
                    exact this)
                  have S2 : Hid (Ints (wr.setCell ⟨M, zn, none⟩ (.bool true)) (.slice (some ⟨ob, oo, none⟩) lo c2) O) := Lib.hid (HI4.out.setApart _ _ HA.out)
                  clear x1 x2 x3 hz
                  go_wp2
                  go_roundw
                  case rel => exact ⟨i4 + 1, by omega, by go_num, S1, S2⟩
                  case measure => (simp [intOf]; try omega)
                · obtain rfl : lo = i4 := by omega
                  have HX4 : Hid (CkI G M m w wr (kidsOf ns) O) := by
                    have := HX.out
                    rw [List.take_of_length_le (by rw [HLO.out]; exact Nat.le_refl _)] at this
                    exact Lib.hid this
                  clear HX HI4
                  go_wp2
                  go_loop [15] (fun s15 => ∃ i : Nat, 1 ≤ i ∧ i ≤ I5 ∧ s15 = .int .i64 i) (fun s15 => m - (intOf s15).toNat)
                  case atStart => exact ⟨1, by omega, by omega, rfl⟩
                  case round =>
                    obtain ⟨i5, hi51, hi5, rfl⟩ := hrel
                    by_cases hlt5 : i5 < I5
                    · have ct : wr.cell? ⟨G, i5, none⟩ = some (.int .i64 1) := by rw [HX4.out.1.cellAt, List.getElem?_map, tmz_val m _ HPA.out i5 (by omega), HZB.out i5 hi51 (by omega)]; rfl
                      have cm : wr.cell? ⟨M, i5, none⟩ = some (.bool true) := by rw [HX4.out.2.1.cellAt, metL_get m _ i5 (by omega), HS5.out i5 hi51 hlt5]
                      go_wp2
                      go_round
                      case rel => exact ⟨i5 + 1, by omega, by omega, by go_num⟩
                      case measure => (simp [intOf]; try omega)
                    · obtain rfl : i5 = I5 := by omega
                      have ct : wr.cell? ⟨G, i5, none⟩ = some (.int .i64 1) := by rw [HX4.out.1.cellAt, List.getElem?_map, tmz_val m _ HPA.out i5 (by omega), HZB.out i5 hi51 (by omega)]; rfl
                      have cm : wr.cell? ⟨M, i5, none⟩ = some (.bool false) := by rw [HX4.out.2.1.cellAt, metL_get m _ i5 (by omega), HT5.out]
                      have X3 := Lib.hid HX4.out.2.2
                      go_wp2
                      refine bodyPost_ret (v := .tuple #[.int .i64 i5, .int .i64 41]) (by simp [results, Try.results20, go_sem]) rfl ⟨rfl, X3.out⟩
set_option maxRecDepth 100000 in
set_option maxHeartbeats 16000000 in
theorem refCheck_deep (b off cap m : Nat) (ns : List Nd) (w : World) (hm : ns.length = m) (h1 : 1 ≤ m) (h2 : m ≤ 65536) (hP : PageAt w (.slice (some ⟨b, off, none⟩) m cap) ns) (hK : ∀ n ∈ ns, n.ks.length ≤ 70000) (HW : Hid (∀ j n, j < m → ns[j]? = some n → (!wrongN n) = true)) (HL2 : Hid (∀ j n, j < m → ns[j]? = some n → ∀ z ∈ n.ks, 1 ≤ z ∧ z < (m : Int))) (HZB : Hid (∀ j : Nat, 1 ≤ j → j < m → (kidsOf ns).count (j : Int) = 1)) (F : NoStray ns) (HS5' : Hid (∀ j : Nat, 1 ≤ j → j < m → metB ns (j : Int) = true)) (I6 : Nat) (hI6 : I6 < m) (HD6 : Hid (∀ j z, j < I6 → (depthsP ns)[j]? = some z → deepB z = false)) (HE6 : Hid (∀ z, (depthsP ns)[I6]? = some z → deepB z = true)) :
    Calls Try.prog 20 #[.slice (some ⟨b, off, none⟩) m cap] w fun e W' => e = .returned (.tuple #[.int .i64 I6, .int .i64 42]) ∧ Below w.heap.size w W' := by
  have hlk : ∀ n ∈ ns, ∀ z ∈ n.ks, 1 ≤ z ∧ z < (ns.length : Int) := fun n hn z hz => by
    obtain ⟨j, hj⟩ := List.mem_iff_getElem?.1 hn
    have := HL2.out j n (by have := (List.getElem?_eq_some_iff.1 hj).1; omega) hj z hz
    omega
  have hT0 : Tr0 ns := ⟨hlk, fun j h h' => HZB.out j h (by omega)⟩
  obtain ⟨O, hO⟩ : ∃ O, (walkL ns.length (kfOf ns)).map Prod.fst = O := ⟨_, rfl⟩
  have HRG : Hid (∀ z ∈ O, 0 ≤ z ∧ z < (m : Int)) := Lib.hid (by rw [← hO, ← hm]; exact walk_rng (by omega) hlk)
  have HOR : Hid (∀ X : World, Below w.heap.size w X → Calls Try.prog 37 #[.slice (some ⟨b, off, none⟩) m cap, .int .i64 0, .slice none 0 0] X (OrdPost X O)) :=
    Lib.hid fun X hX => by
      have h := order_rec b off cap m ns X hm h1 h2 (hP.below hX) hK (fun n hn z hz => by have := hlk n hn z hz; omega) (m + 2) 0 [] _ X (by omega) (by omega) (by simp) (by simp) (Below.refl _ X) (World.ownsRow_nil _ _ _ _)
      have e : ordD (kfOf ns) m (m + 2) 0 [] = O := by rw [← hO, ← ord_walk hT0 (by omega), hm]; rfl
      rw [e] at h; exact h
  have HS5 : Hid (∀ j : Nat, 1 ≤ j → j < m → O.contains (j : Int) = true) := Lib.hid (by rw [← hO]; exact HS5'.out)
  clear HS5' hO hT0 hlk
  have HDP : Hid (∀ X : World, Below w.heap.size w X → Calls Try.prog 39 #[.slice (some ⟨b, off, none⟩) m cap] X fun e W' => e = .returned (.slice (some ⟨X.heap.size, 0, none⟩) m m) ∧ Whole W' X.heap.size 3 ((depthsP ns).map (Value.int .i64)) ∧ Below X.heap.size X W') :=
    Lib.hid fun X hX => refDepths_at b off cap m ns X F hm h2 (hP.below hX) hK
  have HDL : Hid ((depthsP ns).length = m) := Lib.hid (by unfold depthsP; rw [depL_len]; exact hm)
  clear F
  have HN : Hid (∀ (j : Nat) (n : Nd), ns[j]? = some n → ∀ X, Below w.heap.size w X → NdAt X b (off + j * 34) n ∧ n.ok X) := Lib.hid (by
    obtain ⟨b', off', e, hc⟩ := page_some hP (by rw [hm]; exact h1)
    injection e with e; injection e with e1 e2
    subst e1 e2
    exact fun j n hn X hX => ⟨(hc j n hn).below hX, (hP.2.1 n (List.mem_iff_getElem?.2 ⟨j, hn⟩)).below hX⟩)
  have HC : Hid (∀ (j : Nat) (n : Nd), ns[j]? = some n → w.cell? ⟨b, off + j * 34 + 1, none⟩ = some n.kv ∧ Ints w n.kv n.ks ∧ b < w.heap.size) := Lib.hid (by
    obtain ⟨b', off', e, _, hc⟩ := page_cells hP h1
    injection e with e; injection e with e1 e2
    subst e1 e2
    exact fun j n hn => (hc j n hn).2)
  have HP := Lib.hid hP
  have HM := Lib.hid hm
  have HKF := Lib.hid hK
  have d1 : decide ((m : Int) < 1) = false := by simp; omega
  have d2 : decide ((m : Int) > 65536) = false := by simp; omega
  clear hm hK hP
  go_enter Try.func20, Try.ntmps20
  go_wp2
  go_loopw [4] (fun s4 X => ∃ i : Nat, i ≤ m ∧ s4 = .int .i64 i ∧ Hid (Below w.heap.size w X)) (fun s4 _ => m - (intOf s4).toNat)
  case atStart => exact ⟨0, by omega, rfl, Lib.hid (Below.refl _ _)⟩
  case round =>
    obtain ⟨i, hi, rfl, HB⟩ := hrel
    by_cases hlt : i < m
    · obtain ⟨n, hn⟩ : ∃ n, ns[i]? = some n := ⟨_, List.getElem?_eq_getElem (by rw [HM.out]; omega)⟩
      obtain ⟨hnd, hok⟩ := HN.out i n hn wr HB.out
      have hr := right_any n wr hok
      rw [HW.out i n hlt hn] at hr
      obtain ⟨cs, hcs⟩ : ∃ cs, n.cells.toArray = cs := ⟨_, rfl⟩
      have LN : Hid (∀ j v, cs[j]? = some v → wr.cell? ((⟨b, off + i * 34, none⟩ : Addr).add j) = some v) := Lib.hid (by rw [← hcs]; exact hnd.load)
      have iN : Hid ((Try.prog.info? 65).map (·.size) = some cs.size) := Lib.hid (by rw [← hcs]; exact nd_info n)
      have HR : Hid (Calls Try.prog 36 #[.agg cs] wr fun e W' => e = .returned (.bool true) ∧ Below wr.heap.size wr W') := Lib.hid (by rw [← hcs]; exact hr)
      clear hr hcs hn hnd hok
      go_wp2_with (first
        | (refine wpList_load_at rfl 65 (.tmp 34) rfl _ rfl cs _ LN.out Try.underlying65 rfl iN.out ?_)
        | (go_at_call 36; refine HR.out.mono ?_; rintro e w1 ⟨rfl, hb1⟩; have HB1 := Lib.hid (HB.out.trans (hb1.mono HB.out.size)); clear hb1 HB HR LN iN))
      go_roundw
      case rel => exact ⟨i + 1, by omega, by go_num, HB1⟩
      case measure => (simp [intOf]; try omega)
    · obtain rfl : m = i := by omega
      have sw := HB.out.size
      obtain ⟨G, hG⟩ : ∃ G, wr.heap.size = G := ⟨_, rfl⟩
      have hGw : w.heap.size ≤ G := by omega
      have hmk := make_ints m (by omega)
      go_wp2
      try rw [hG]
      obtain ⟨W4, hW4⟩ : ∃ W4, wr.alloc (.cells (Array.replicate m (Value.int .i64 0)) 3) = W4 := ⟨_, rfl⟩
      have k4 : Whole W4 G 3 ((tmz m (kidsOf (ns.take 0))).map (Value.int .i64)) := by
        rw [← hW4, ← hG, show (Array.replicate m (Value.int .i64 0)) = ((tmz m (kidsOf (ns.take 0))).map (Value.int .i64)).toArray from by
          apply Array.toList_inj.1
          simp [tmz, kidsOf]]
        exact whole_new wr _ 3 _ rfl
      have b4 : Below w.heap.size w W4 := by rw [← hW4]; exact HB.out.alloc sw _
      have HT0 : Hid (TI G m w W4 (kidsOf (ns.take 0))) := Lib.hid ⟨k4, b4⟩
      rw [hW4]
      clear hW4 k4 b4 hmk hG sw HB
      go_loopw [7] (fun s7 X => ∃ i : Nat, i ≤ m ∧ s7 = .int .i64 i ∧ Hid (TI G m w X (kidsOf (ns.take i)))) (fun s7 _ => m - (intOf s7).toNat)
      case atStart => exact ⟨0, by omega, rfl, HT0⟩
      case round =>
        obtain ⟨i, hi, rfl, HT⟩ := hrel
        clear HT0
        have HPI : Hid (∀ z ∈ kidsOf (ns.take i), 0 ≤ z ∧ z < (m : Int)) := Lib.hid fun z hz => by
          obtain ⟨a, ha, hz'⟩ := List.mem_flatMap.1 hz
          obtain ⟨j, hj⟩ := List.mem_iff_getElem?.1 ha
          rw [List.getElem?_take] at hj
          by_cases e : j < i
          · rw [if_pos e] at hj
            have := HL2.out j a (by omega) hj z hz'
            omega
          · rw [if_neg e] at hj; cases hj
        by_cases hlt : i < m
        · obtain ⟨n, hn⟩ : ∃ n, ns[i]? = some n := ⟨_, List.getElem?_eq_getElem (by rw [HM.out]; omega)⟩
          have hmem : n ∈ ns := List.mem_iff_getElem?.2 ⟨i, hn⟩
          obtain ⟨ck, hI, hb0⟩ := HC.out i n hn
          have hfew := HKF.out n hmem
          obtain ⟨qk, kc, hkv⟩ := hI.form
          rw [hkv] at ck hI
          obtain ⟨kl, hkl⟩ : ∃ kl, n.ks.length = kl := ⟨_, rfl⟩
          rw [hkl] at ck hfew hI
          have HI := Lib.hid hI
          have HKL := Lib.hid hkl
          have HCK := Lib.hid ck
          have HND := Lib.hid hn
          have HS : Hid (kidsOf (ns.take (i + 1)) = kidsOf (ns.take i) ++ n.ks) := Lib.hid (kids_snoc ns i n hn)
          have HLN : Hid (∀ k z, k < kl → n.ks[k]? = some z → 1 ≤ z ∧ z < (m : Int)) := Lib.hid fun k z hk hz => HL2.out i n hlt hn z (List.mem_iff_getElem?.2 ⟨k, hz⟩)
          clear hI hkl ck hn hkv hmem
          go_wp2
          go_loopw [8] (fun s8 X => ∃ k : Nat, k ≤ kl ∧ s8 = .int .i64 k ∧ Hid (TI G m w X (kidsOf (ns.take i) ++ n.ks.take k))) (fun s8 _ => kl - (intOf s8).toNat)
          case atStart => exact ⟨0, by omega, rfl, by simpa using HT⟩
          case round =>
            obtain ⟨k, hk, rfl, HY⟩ := hrel
            obtain ⟨y1, y2⟩ := HY.out
            have dck := (y2.cell (p := ⟨b, off + i * 34 + 1, none⟩) hb0).trans HCK.out
            by_cases hlt2 : k < kl
            · obtain ⟨y, hy⟩ : ∃ y, n.ks[k]? = some y := ⟨_, List.getElem?_eq_getElem (by rw [HKL.out]; omega)⟩
              have hkl2 : k < kl := by omega
              obtain ⟨qb, qo, rfl, cy, ly⟩ := ints_at0' HI.out k y hy
              have dcy := (y2.cell (p := ⟨qb, qo + k, none⟩) ly).trans cy
              obtain ⟨yr0, yr1⟩ := HLN.out k y hlt2 hy
              obtain ⟨yn, rfl⟩ : ∃ yn : Nat, y = (yn : Int) := ⟨y.toNat, by omega⟩
              have hPr : ∀ z ∈ kidsOf (ns.take i) ++ n.ks.take k, 0 ≤ z ∧ z < (m : Int) := fun z hz => by
                rcases List.mem_append.1 hz with h | h
                · exact HPI.out z h
                · obtain ⟨k', hk'⟩ := List.mem_iff_getElem?.1 h
                  rw [List.getElem?_take] at hk'
                  by_cases e : k' < k
                  · rw [if_pos e] at hk'
                    have := HLN.out k' z (by omega) hk'
                    omega
                  · rw [if_neg e] at hk'; cases hk'
              have hval := tmz_val m _ hPr yn (by omega)
              obtain ⟨c, hc⟩ : ∃ c, (kidsOf (ns.take i) ++ n.ks.take k).count (yn : Int) = c := ⟨_, rfl⟩
              have hcb : c ≤ 10000000000 := by
                rw [← hc]
                refine Nat.le_trans List.count_le_length ?_
                have e1 := kids_len ns i HKF.out
                rw [List.length_append, List.length_take]
                have : 70000 * i ≤ 70000 * 65536 := Nat.mul_le_mul_left _ (by omega)
                omega
              rw [hc] at hval
              have cg : wr.cell? ⟨G, yn, none⟩ = some (.int .i64 c) := by rw [y1.cellAt, List.getElem?_map, hval]; rfl
              have fg := y1.free yn
              have S1 : Hid (TI G m w (wr.setCell ⟨G, yn, none⟩ (.int .i64 ((c : Int) + 1))) (kidsOf (ns.take i) ++ n.ks.take (k + 1))) := Lib.hid (by
                have := HY.out.step hGw yn c hval
                rw [List.take_add_one, hy, ← List.append_assoc]
                exact this)
              have z1 : decide ((yn : Int) < 1) = false := by simp; omega
              have z2 : decide ((yn : Int) ≥ (m : Int)) = false := by simp; omega
              clear y1 y2 hy cy HY hval hc hPr
              go_wp2
              go_roundw
              case rel => exact ⟨k + 1, by omega, by go_num, S1⟩
              case measure => (simp [intOf]; try omega)
            · obtain rfl : k = kl := by omega
              have HT2 : Hid (TI G m w wr (kidsOf (ns.take (i + 1)))) := by
                have := HY.out
                rw [List.take_of_length_le (l := n.ks) (by rw [HKL.out]; exact Nat.le_refl _), ← HS.out] at this
                exact Lib.hid this
              clear y1 y2 HY
              go_wp2
              exact ⟨⟨i + 1, by omega, rfl, HT2⟩, by (simp [intOf]; try omega)⟩
        · obtain rfl : m = i := by omega
          have HPA : Hid (∀ z ∈ kidsOf ns, 0 ≤ z ∧ z < (m : Int)) := by
            have := HPI.out
            rw [List.take_of_length_le (by rw [HM.out]; exact Nat.le_refl _)] at this
            exact Lib.hid this
          have HTF : Hid (TI G m w wr (kidsOf ns)) := by
            have := HT.out
            rw [List.take_of_length_le (by rw [HM.out]; exact Nat.le_refl _)] at this
            exact Lib.hid this
          clear HT HPI
          have sw := HTF.out.2.size
          have hGM := HTF.out.1.lt
          obtain ⟨M, hM⟩ : ∃ M, wr.heap.size = M := ⟨_, rfl⟩
          have hMw : w.heap.size ≤ M := by omega
          have hGM2 : G < M := by omega
          have hmk := make_bools m (by omega)
          go_wp2
          try rw [hM]
          obtain ⟨W5, hW5⟩ : ∃ W5, wr.alloc (.cells (metL m []).toArray 4) = W5 := ⟨_, rfl⟩
          have k5 : Whole W5 M 4 (metL m []) := by rw [← hW5, ← hM]; exact whole_new wr _ 4 _ rfl
          have HC0 : Hid (CkI G M m w W5 (kidsOf ns) []) := Lib.hid ⟨by rw [← hW5]; exact HTF.out.1.alloc _, k5, by rw [← hW5]; exact HTF.out.2.alloc sw _⟩
          have hs5 : W5.heap.size = M + 1 := by rw [← hW5, ← hM]; simp
          rw [hW5]
          clear hW5 k5 hmk hM sw hGM HTF
          go_loop [11, 12] (fun s11 s12 => ∃ i : Nat, 1 ≤ i ∧ i ≤ m ∧ s12 = .int .i64 i ∧ s11 = .bool false) (fun _ s12 => m - (intOf s12).toNat)
          case atStart => exact ⟨1, by omega, by omega, rfl, rfl⟩
          case round =>
            obtain ⟨i, hi1, hi, rfl, rfl⟩ := hrel
            by_cases hlt : i < m
            · have ct : W5.cell? ⟨G, i, none⟩ = some (.int .i64 1) := by rw [HC0.out.1.cellAt, List.getElem?_map, tmz_val m _ HPA.out i hlt, HZB.out i hi1 hlt]; rfl
              go_wp2
              go_round
              case rel => exact ⟨i + 1, by omega, by omega, by go_num, rfl⟩
              case measure => (simp [intOf]; try omega)
            · have him : i = m := by omega
              clear him
              have HOR2 := Lib.hid (HOR.out W5 HC0.out.2.2)
              go_wp2_with (go_at_call 37; refine HOR2.out.mono ?_; clear HOR2; rintro e w2 ⟨v2, rfl, o2, b2⟩; have HIO := Lib.hid (ints_own o2).1; have HA := Lib.hid ((ints_own o2).2.2 M (by omega)); have HA2 := Lib.hid ((ints_own o2).2.2 G (by omega)); have HC1 := Lib.hid (HC0.out.below b2); obtain ⟨q2, c2, hv⟩ := (ints_own o2).1.form; subst hv; clear o2 b2)
              obtain ⟨lo, hlo⟩ : ∃ lo, O.length = lo := ⟨_, rfl⟩
              have hlo2 : lo ≤ 9223372036854775807 := by rw [← hlo]; exact HIO.out.1
              rw [hlo] at HIO HA HA2 ⊢
              have HLO := Lib.hid hlo
              clear hlo
              go_loopw [14] (fun s14 X => ∃ i : Nat, i ≤ lo ∧ s14 = .int .i64 i ∧ Hid (CkI G M m w X (kidsOf ns) (O.take i)) ∧ Hid (Ints X (.slice q2 lo c2) O)) (fun s14 _ => lo - (intOf s14).toNat)
              case atStart => exact ⟨0, by omega, rfl, HC1, HIO⟩
              case round =>
                obtain ⟨i4, hi4, rfl, HX, HI4⟩ := hrel
                by_cases hlt4 : i4 < lo
                · obtain ⟨z, hz⟩ : ∃ z, O[i4]? = some z := ⟨_, List.getElem?_eq_getElem (by rw [HLO.out]; exact hlt4)⟩
                  obtain ⟨zr0, zr1⟩ := HRG.out z (List.mem_iff_getElem?.2 ⟨i4, hz⟩)
                  obtain ⟨zn, rfl⟩ : ∃ zn : Nat, z = (zn : Int) := ⟨z.toNat, by omega⟩
                  obtain ⟨ob, oo, rfl, cz, lz⟩ := ints_at0' HI4.out i4 _ hz
                  obtain ⟨x1, x2, x3⟩ := HX.out
                  have cm : wr.cell? ⟨M, zn, none⟩ = some (.bool ((O.take i4).contains (zn : Int))) := by rw [x2.cellAt, metL_get m _ zn (by omega)]
                  have fm := x2.free zn
                  have S1 : Hid (CkI G M m w (wr.setCell ⟨M, zn, none⟩ (.bool true)) (kidsOf ns) (O.take (i4 + 1))) := Lib.hid (by
                    refine ⟨x1.other _ _ (by show G ≠ M; omega), ?_, x3.setCell (p := ⟨M, zn, none⟩) hMw _⟩
                    have := x2.set zn (.bool true)
                    rw [metL_set m _ zn (by omega)] at this
                    rw [List.take_add_one, hz]
                    exact this)
                  have S2 : Hid (Ints (wr.setCell ⟨M, zn, none⟩ (.bool true)) (.slice (some ⟨ob, oo, none⟩) lo c2) O) := Lib.hid (HI4.out.setApart _ _ HA.out)
                  clear x1 x2 x3 hz
                  go_wp2
                  go_roundw
                  case rel => exact ⟨i4 + 1, by omega, by go_num, S1, S2⟩
                  case measure => (simp [intOf]; try omega)
                · obtain rfl : lo = i4 := by omega
                  have HX4 : Hid (CkI G M m w wr (kidsOf ns) O) := by
                    have := HX.out
                    rw [List.take_of_length_le (by rw [HLO.out]; exact Nat.le_refl _)] at this
                    exact Lib.hid this
                  clear HX HI4
                  go_wp2
                  go_loop [15] (fun s15 => ∃ i : Nat, 1 ≤ i ∧ i ≤ m ∧ s15 = .int .i64 i) (fun s15 => m - (intOf s15).toNat)
                  case atStart => exact ⟨1, by omega, by omega, rfl⟩
                  case round =>
                    obtain ⟨i5, hi51, hi5, rfl⟩ := hrel
                    by_cases hlt5 : i5 < m
                    · have ct : wr.cell? ⟨G, i5, none⟩ = some (.int .i64 1) := by rw [HX4.out.1.cellAt, List.getElem?_map, tmz_val m _ HPA.out i5 (by omega), HZB.out i5 hi51 (by omega)]; rfl
                      have cm : wr.cell? ⟨M, i5, none⟩ = some (.bool true) := by rw [HX4.out.2.1.cellAt, metL_get m _ i5 (by omega), HS5.out i5 hi51 hlt5]
                      go_wp2
                      go_round
                      case rel => exact ⟨i5 + 1, by omega, by omega, by go_num⟩
                      case measure => (simp [intOf]; try omega)
                    · obtain rfl : m = i5 := by omega
                      have HDP2 := Lib.hid (HDP.out wr HX4.out.2.2)
                      obtain ⟨D0, hD0⟩ : ∃ D0, wr.heap.size = D0 := ⟨_, rfl⟩
                      go_wp2_with (go_at_call 39; refine HDP2.out.mono ?_; clear HDP2; rintro e w6 ⟨rfl, k6, b6⟩; have HK6 := Lib.hid k6; have HB6 := Lib.hid (HX4.out.2.2.trans (b6.mono HX4.out.2.2.size)); clear k6 b6)
                      go_loop [17] (fun s17 => ∃ i : Nat, i ≤ I6 ∧ s17 = .int .i64 i) (fun s17 => m - (intOf s17).toNat)
                      case atStart => exact ⟨0, by omega, rfl⟩
                      case round =>
                        obtain ⟨i6, hi6, rfl⟩ := hrel
                        by_cases hlt6 : i6 < I6
                        · obtain ⟨z, hz⟩ : ∃ z, (depthsP ns)[i6]? = some z := ⟨_, List.getElem?_eq_getElem (by rw [HDL.out]; omega)⟩
                          have cz := HK6.out.cellAt i6
                          rw [List.getElem?_map, hz] at cz
                          simp only [Option.map_some] at cz
                          have dz : decide (z > 64) = false := by
                            have := HD6.out i6 z hlt6 hz
                            simp [deepB] at this; simp; omega
                          clear hz
                          try rw [hD0] at cz
                          go_wp2
                          go_round
                          case rel => exact ⟨i6 + 1, by omega, by go_num⟩
                          case measure => (simp [intOf]; try omega)
                        · obtain rfl : i6 = I6 := by omega
                          obtain ⟨z, hz⟩ : ∃ z, (depthsP ns)[i6]? = some z := ⟨_, List.getElem?_eq_getElem (by rw [HDL.out]; omega)⟩
                          have cz := HK6.out.cellAt i6
                          rw [List.getElem?_map, hz] at cz
                          simp only [Option.map_some] at cz
                          have dz : decide (z > 64) = true := by
                            have := HE6.out z hz
                            simp [deepB] at this; simp; omega
                          clear hz
                          try rw [hD0] at cz
                          go_wp2
                          refine bodyPost_ret (v := .tuple #[.int .i64 i6, .int .i64 42]) (by simp [results, Try.results20, go_sem]) rfl ⟨rfl, HB6.out⟩
set_option maxRecDepth 100000 in
set_option maxHeartbeats 16000000 in
theorem refCheck_fine (b off cap m : Nat) (ns : List Nd) (w : World) (hm : ns.length = m) (h1 : 1 ≤ m) (h2 : m ≤ 65536) (hP : PageAt w (.slice (some ⟨b, off, none⟩) m cap) ns) (hK : ∀ n ∈ ns, n.ks.length ≤ 70000) (HW : Hid (∀ j n, j < m → ns[j]? = some n → (!wrongN n) = true)) (HL2 : Hid (∀ j n, j < m → ns[j]? = some n → ∀ z ∈ n.ks, 1 ≤ z ∧ z < (m : Int))) (HZB : Hid (∀ j : Nat, 1 ≤ j → j < m → (kidsOf ns).count (j : Int) = 1)) (F : NoStray ns) (HS5' : Hid (∀ j : Nat, 1 ≤ j → j < m → metB ns (j : Int) = true)) (HD6 : Hid (∀ j z, j < m → (depthsP ns)[j]? = some z → deepB z = false)) :
    Calls Try.prog 20 #[.slice (some ⟨b, off, none⟩) m cap] w fun e W' => e = .returned (.tuple #[.int .i64 0, .int .i64 0]) ∧ Below w.heap.size w W' := by
  have hlk : ∀ n ∈ ns, ∀ z ∈ n.ks, 1 ≤ z ∧ z < (ns.length : Int) := fun n hn z hz => by
    obtain ⟨j, hj⟩ := List.mem_iff_getElem?.1 hn
    have := HL2.out j n (by have := (List.getElem?_eq_some_iff.1 hj).1; omega) hj z hz
    omega
  have hT0 : Tr0 ns := ⟨hlk, fun j h h' => HZB.out j h (by omega)⟩
  obtain ⟨O, hO⟩ : ∃ O, (walkL ns.length (kfOf ns)).map Prod.fst = O := ⟨_, rfl⟩
  have HRG : Hid (∀ z ∈ O, 0 ≤ z ∧ z < (m : Int)) := Lib.hid (by rw [← hO, ← hm]; exact walk_rng (by omega) hlk)
  have HOR : Hid (∀ X : World, Below w.heap.size w X → Calls Try.prog 37 #[.slice (some ⟨b, off, none⟩) m cap, .int .i64 0, .slice none 0 0] X (OrdPost X O)) :=
    Lib.hid fun X hX => by
      have h := order_rec b off cap m ns X hm h1 h2 (hP.below hX) hK (fun n hn z hz => by have := hlk n hn z hz; omega) (m + 2) 0 [] _ X (by omega) (by omega) (by simp) (by simp) (Below.refl _ X) (World.ownsRow_nil _ _ _ _)
      have e : ordD (kfOf ns) m (m + 2) 0 [] = O := by rw [← hO, ← ord_walk hT0 (by omega), hm]; rfl
      rw [e] at h; exact h
  have HS5 : Hid (∀ j : Nat, 1 ≤ j → j < m → O.contains (j : Int) = true) := Lib.hid (by rw [← hO]; exact HS5'.out)
  clear HS5' hO hT0 hlk
  have HDP : Hid (∀ X : World, Below w.heap.size w X → Calls Try.prog 39 #[.slice (some ⟨b, off, none⟩) m cap] X fun e W' => e = .returned (.slice (some ⟨X.heap.size, 0, none⟩) m m) ∧ Whole W' X.heap.size 3 ((depthsP ns).map (Value.int .i64)) ∧ Below X.heap.size X W') :=
    Lib.hid fun X hX => refDepths_at b off cap m ns X F hm h2 (hP.below hX) hK
  have HDL : Hid ((depthsP ns).length = m) := Lib.hid (by unfold depthsP; rw [depL_len]; exact hm)
  clear F
  have HN : Hid (∀ (j : Nat) (n : Nd), ns[j]? = some n → ∀ X, Below w.heap.size w X → NdAt X b (off + j * 34) n ∧ n.ok X) := Lib.hid (by
    obtain ⟨b', off', e, hc⟩ := page_some hP (by rw [hm]; exact h1)
    injection e with e; injection e with e1 e2
    subst e1 e2
    exact fun j n hn X hX => ⟨(hc j n hn).below hX, (hP.2.1 n (List.mem_iff_getElem?.2 ⟨j, hn⟩)).below hX⟩)
  have HC : Hid (∀ (j : Nat) (n : Nd), ns[j]? = some n → w.cell? ⟨b, off + j * 34 + 1, none⟩ = some n.kv ∧ Ints w n.kv n.ks ∧ b < w.heap.size) := Lib.hid (by
    obtain ⟨b', off', e, _, hc⟩ := page_cells hP h1
    injection e with e; injection e with e1 e2
    subst e1 e2
    exact fun j n hn => (hc j n hn).2)
  have HP := Lib.hid hP
  have HM := Lib.hid hm
  have HKF := Lib.hid hK
  have d1 : decide ((m : Int) < 1) = false := by simp; omega
  have d2 : decide ((m : Int) > 65536) = false := by simp; omega
  clear hm hK hP
  go_enter Try.func20, Try.ntmps20
  go_wp2
  go_loopw [4] (fun s4 X => ∃ i : Nat, i ≤ m ∧ s4 = .int .i64 i ∧ Hid (Below w.heap.size w X)) (fun s4 _ => m - (intOf s4).toNat)
  case atStart => exact ⟨0, by omega, rfl, Lib.hid (Below.refl _ _)⟩
  case round =>
    obtain ⟨i, hi, rfl, HB⟩ := hrel
    by_cases hlt : i < m
    · obtain ⟨n, hn⟩ : ∃ n, ns[i]? = some n := ⟨_, List.getElem?_eq_getElem (by rw [HM.out]; omega)⟩
      obtain ⟨hnd, hok⟩ := HN.out i n hn wr HB.out
      have hr := right_any n wr hok
      rw [HW.out i n hlt hn] at hr
      obtain ⟨cs, hcs⟩ : ∃ cs, n.cells.toArray = cs := ⟨_, rfl⟩
      have LN : Hid (∀ j v, cs[j]? = some v → wr.cell? ((⟨b, off + i * 34, none⟩ : Addr).add j) = some v) := Lib.hid (by rw [← hcs]; exact hnd.load)
      have iN : Hid ((Try.prog.info? 65).map (·.size) = some cs.size) := Lib.hid (by rw [← hcs]; exact nd_info n)
      have HR : Hid (Calls Try.prog 36 #[.agg cs] wr fun e W' => e = .returned (.bool true) ∧ Below wr.heap.size wr W') := Lib.hid (by rw [← hcs]; exact hr)
      clear hr hcs hn hnd hok
      go_wp2_with (first
        | (refine wpList_load_at rfl 65 (.tmp 34) rfl _ rfl cs _ LN.out Try.underlying65 rfl iN.out ?_)
        | (go_at_call 36; refine HR.out.mono ?_; rintro e w1 ⟨rfl, hb1⟩; have HB1 := Lib.hid (HB.out.trans (hb1.mono HB.out.size)); clear hb1 HB HR LN iN))
      go_roundw
      case rel => exact ⟨i + 1, by omega, by go_num, HB1⟩
      case measure => (simp [intOf]; try omega)
    · obtain rfl : m = i := by omega
      have sw := HB.out.size
      obtain ⟨G, hG⟩ : ∃ G, wr.heap.size = G := ⟨_, rfl⟩
      have hGw : w.heap.size ≤ G := by omega
      have hmk := make_ints m (by omega)
      go_wp2
      try rw [hG]
      obtain ⟨W4, hW4⟩ : ∃ W4, wr.alloc (.cells (Array.replicate m (Value.int .i64 0)) 3) = W4 := ⟨_, rfl⟩
      have k4 : Whole W4 G 3 ((tmz m (kidsOf (ns.take 0))).map (Value.int .i64)) := by
        rw [← hW4, ← hG, show (Array.replicate m (Value.int .i64 0)) = ((tmz m (kidsOf (ns.take 0))).map (Value.int .i64)).toArray from by
          apply Array.toList_inj.1
          simp [tmz, kidsOf]]
        exact whole_new wr _ 3 _ rfl
      have b4 : Below w.heap.size w W4 := by rw [← hW4]; exact HB.out.alloc sw _
      have HT0 : Hid (TI G m w W4 (kidsOf (ns.take 0))) := Lib.hid ⟨k4, b4⟩
      rw [hW4]
      clear hW4 k4 b4 hmk hG sw HB
      go_loopw [7] (fun s7 X => ∃ i : Nat, i ≤ m ∧ s7 = .int .i64 i ∧ Hid (TI G m w X (kidsOf (ns.take i)))) (fun s7 _ => m - (intOf s7).toNat)
      case atStart => exact ⟨0, by omega, rfl, HT0⟩
      case round =>
        obtain ⟨i, hi, rfl, HT⟩ := hrel
        clear HT0
        have HPI : Hid (∀ z ∈ kidsOf (ns.take i), 0 ≤ z ∧ z < (m : Int)) := Lib.hid fun z hz => by
          obtain ⟨a, ha, hz'⟩ := List.mem_flatMap.1 hz
          obtain ⟨j, hj⟩ := List.mem_iff_getElem?.1 ha
          rw [List.getElem?_take] at hj
          by_cases e : j < i
          · rw [if_pos e] at hj
            have := HL2.out j a (by omega) hj z hz'
            omega
          · rw [if_neg e] at hj; cases hj
        by_cases hlt : i < m
        · obtain ⟨n, hn⟩ : ∃ n, ns[i]? = some n := ⟨_, List.getElem?_eq_getElem (by rw [HM.out]; omega)⟩
          have hmem : n ∈ ns := List.mem_iff_getElem?.2 ⟨i, hn⟩
          obtain ⟨ck, hI, hb0⟩ := HC.out i n hn
          have hfew := HKF.out n hmem
          obtain ⟨qk, kc, hkv⟩ := hI.form
          rw [hkv] at ck hI
          obtain ⟨kl, hkl⟩ : ∃ kl, n.ks.length = kl := ⟨_, rfl⟩
          rw [hkl] at ck hfew hI
          have HI := Lib.hid hI
          have HKL := Lib.hid hkl
          have HCK := Lib.hid ck
          have HND := Lib.hid hn
          have HS : Hid (kidsOf (ns.take (i + 1)) = kidsOf (ns.take i) ++ n.ks) := Lib.hid (kids_snoc ns i n hn)
          have HLN : Hid (∀ k z, k < kl → n.ks[k]? = some z → 1 ≤ z ∧ z < (m : Int)) := Lib.hid fun k z hk hz => HL2.out i n hlt hn z (List.mem_iff_getElem?.2 ⟨k, hz⟩)
          clear hI hkl ck hn hkv hmem
          go_wp2
          go_loopw [8] (fun s8 X => ∃ k : Nat, k ≤ kl ∧ s8 = .int .i64 k ∧ Hid (TI G m w X (kidsOf (ns.take i) ++ n.ks.take k))) (fun s8 _ => kl - (intOf s8).toNat)
          case atStart => exact ⟨0, by omega, rfl, by simpa using HT⟩
          case round =>
            obtain ⟨k, hk, rfl, HY⟩ := hrel
            obtain ⟨y1, y2⟩ := HY.out
            have dck := (y2.cell (p := ⟨b, off + i * 34 + 1, none⟩) hb0).trans HCK.out
            by_cases hlt2 : k < kl
            · obtain ⟨y, hy⟩ : ∃ y, n.ks[k]? = some y := ⟨_, List.getElem?_eq_getElem (by rw [HKL.out]; omega)⟩
              have hkl2 : k < kl := by omega
              obtain ⟨qb, qo, rfl, cy, ly⟩ := ints_at0' HI.out k y hy
              have dcy := (y2.cell (p := ⟨qb, qo + k, none⟩) ly).trans cy
              obtain ⟨yr0, yr1⟩ := HLN.out k y hlt2 hy
              obtain ⟨yn, rfl⟩ : ∃ yn : Nat, y = (yn : Int) := ⟨y.toNat, by omega⟩
              have hPr : ∀ z ∈ kidsOf (ns.take i) ++ n.ks.take k, 0 ≤ z ∧ z < (m : Int) := fun z hz => by
                rcases List.mem_append.1 hz with h | h
                · exact HPI.out z h
                · obtain ⟨k', hk'⟩ := List.mem_iff_getElem?.1 h
                  rw [List.getElem?_take] at hk'
                  by_cases e : k' < k
                  · rw [if_pos e] at hk'
                    have := HLN.out k' z (by omega) hk'
                    omega
                  · rw [if_neg e] at hk'; cases hk'
              have hval := tmz_val m _ hPr yn (by omega)
              obtain ⟨c, hc⟩ : ∃ c, (kidsOf (ns.take i) ++ n.ks.take k).count (yn : Int) = c := ⟨_, rfl⟩
              have hcb : c ≤ 10000000000 := by
                rw [← hc]
                refine Nat.le_trans List.count_le_length ?_
                have e1 := kids_len ns i HKF.out
                rw [List.length_append, List.length_take]
                have : 70000 * i ≤ 70000 * 65536 := Nat.mul_le_mul_left _ (by omega)
                omega
              rw [hc] at hval
              have cg : wr.cell? ⟨G, yn, none⟩ = some (.int .i64 c) := by rw [y1.cellAt, List.getElem?_map, hval]; rfl
              have fg := y1.free yn
              have S1 : Hid (TI G m w (wr.setCell ⟨G, yn, none⟩ (.int .i64 ((c : Int) + 1))) (kidsOf (ns.take i) ++ n.ks.take (k + 1))) := Lib.hid (by
                have := HY.out.step hGw yn c hval
                rw [List.take_add_one, hy, ← List.append_assoc]
                exact this)
              have z1 : decide ((yn : Int) < 1) = false := by simp; omega
              have z2 : decide ((yn : Int) ≥ (m : Int)) = false := by simp; omega
              clear y1 y2 hy cy HY hval hc hPr
              go_wp2
              go_roundw
              case rel => exact ⟨k + 1, by omega, by go_num, S1⟩
              case measure => (simp [intOf]; try omega)
            · obtain rfl : k = kl := by omega
              have HT2 : Hid (TI G m w wr (kidsOf (ns.take (i + 1)))) := by
                have := HY.out
                rw [List.take_of_length_le (l := n.ks) (by rw [HKL.out]; exact Nat.le_refl _), ← HS.out] at this
                exact Lib.hid this
              clear y1 y2 HY
              go_wp2
              exact ⟨⟨i + 1, by omega, rfl, HT2⟩, by (simp [intOf]; try omega)⟩
        · obtain rfl : m = i := by omega
          have HPA : Hid (∀ z ∈ kidsOf ns, 0 ≤ z ∧ z < (m : Int)) := by
            have := HPI.out
            rw [List.take_of_length_le (by rw [HM.out]; exact Nat.le_refl _)] at this
            exact Lib.hid this
          have HTF : Hid (TI G m w wr (kidsOf ns)) := by
            have := HT.out
            rw [List.take_of_length_le (by rw [HM.out]; exact Nat.le_refl _)] at this
            exact Lib.hid this
          clear HT HPI
          have sw := HTF.out.2.size
          have hGM := HTF.out.1.lt
          obtain ⟨M, hM⟩ : ∃ M, wr.heap.size = M := ⟨_, rfl⟩
          have hMw : w.heap.size ≤ M := by omega
          have hGM2 : G < M := by omega
          have hmk := make_bools m (by omega)
          go_wp2
          try rw [hM]
          obtain ⟨W5, hW5⟩ : ∃ W5, wr.alloc (.cells (metL m []).toArray 4) = W5 := ⟨_, rfl⟩
          have k5 : Whole W5 M 4 (metL m []) := by rw [← hW5, ← hM]; exact whole_new wr _ 4 _ rfl
          have HC0 : Hid (CkI G M m w W5 (kidsOf ns) []) := Lib.hid ⟨by rw [← hW5]; exact HTF.out.1.alloc _, k5, by rw [← hW5]; exact HTF.out.2.alloc sw _⟩
          have hs5 : W5.heap.size = M + 1 := by rw [← hW5, ← hM]; simp
          rw [hW5]
          clear hW5 k5 hmk hM sw hGM HTF
          go_loop [11, 12] (fun s11 s12 => ∃ i : Nat, 1 ≤ i ∧ i ≤ m ∧ s12 = .int .i64 i ∧ s11 = .bool false) (fun _ s12 => m - (intOf s12).toNat)
          case atStart => exact ⟨1, by omega, by omega, rfl, rfl⟩
          case round =>
            obtain ⟨i, hi1, hi, rfl, rfl⟩ := hrel
            by_cases hlt : i < m
            · have ct : W5.cell? ⟨G, i, none⟩ = some (.int .i64 1) := by rw [HC0.out.1.cellAt, List.getElem?_map, tmz_val m _ HPA.out i hlt, HZB.out i hi1 hlt]; rfl
              go_wp2
              go_round
              case rel => exact ⟨i + 1, by omega, by omega, by go_num, rfl⟩
              case measure => (simp [intOf]; try omega)
            · have him : i = m := by omega
              clear him
              have HOR2 := Lib.hid (HOR.out W5 HC0.out.2.2)
              go_wp2_with (go_at_call 37; refine HOR2.out.mono ?_; clear HOR2; rintro e w2 ⟨v2, rfl, o2, b2⟩; have HIO := Lib.hid (ints_own o2).1; have HA := Lib.hid ((ints_own o2).2.2 M (by omega)); have HA2 := Lib.hid ((ints_own o2).2.2 G (by omega)); have HC1 := Lib.hid (HC0.out.below b2); obtain ⟨q2, c2, hv⟩ := (ints_own o2).1.form; subst hv; clear o2 b2)
              obtain ⟨lo, hlo⟩ : ∃ lo, O.length = lo := ⟨_, rfl⟩
              have hlo2 : lo ≤ 9223372036854775807 := by rw [← hlo]; exact HIO.out.1
              rw [hlo] at HIO HA HA2 ⊢
              have HLO := Lib.hid hlo
              clear hlo
              go_loopw [14] (fun s14 X => ∃ i : Nat, i ≤ lo ∧ s14 = .int .i64 i ∧ Hid (CkI G M m w X (kidsOf ns) (O.take i)) ∧ Hid (Ints X (.slice q2 lo c2) O)) (fun s14 _ => lo - (intOf s14).toNat)
              case atStart => exact ⟨0, by omega, rfl, HC1, HIO⟩
              case round =>
                obtain ⟨i4, hi4, rfl, HX, HI4⟩ := hrel
                by_cases hlt4 : i4 < lo
                · obtain ⟨z, hz⟩ : ∃ z, O[i4]? = some z := ⟨_, List.getElem?_eq_getElem (by rw [HLO.out]; exact hlt4)⟩
                  obtain ⟨zr0, zr1⟩ := HRG.out z (List.mem_iff_getElem?.2 ⟨i4, hz⟩)
                  obtain ⟨zn, rfl⟩ : ∃ zn : Nat, z = (zn : Int) := ⟨z.toNat, by omega⟩
                  obtain ⟨ob, oo, rfl, cz, lz⟩ := ints_at0' HI4.out i4 _ hz
                  obtain ⟨x1, x2, x3⟩ := HX.out
                  have cm : wr.cell? ⟨M, zn, none⟩ = some (.bool ((O.take i4).contains (zn : Int))) := by rw [x2.cellAt, metL_get m _ zn (by omega)]
                  have fm := x2.free zn
                  have S1 : Hid (CkI G M m w (wr.setCell ⟨M, zn, none⟩ (.bool true)) (kidsOf ns) (O.take (i4 + 1))) := Lib.hid (by
                    refine ⟨x1.other _ _ (by show G ≠ M; omega), ?_, x3.setCell (p := ⟨M, zn, none⟩) hMw _⟩
                    have := x2.set zn (.bool true)
                    rw [metL_set m _ zn (by omega)] at this
                    rw [List.take_add_one, hz]
                    exact this)
                  have S2 : Hid (Ints (wr.setCell ⟨M, zn, none⟩ (.bool true)) (.slice (some ⟨ob, oo, none⟩) lo c2) O) := Lib.hid (HI4.out.setApart _ _ HA.out)
                  clear x1 x2 x3 hz
                  go_wp2
                  go_roundw
                  case rel => exact ⟨i4 + 1, by omega, by go_num, S1, S2⟩
                  case measure => (simp [intOf]; try omega)
                · obtain rfl : lo = i4 := by omega
                  have HX4 : Hid (CkI G M m w wr (kidsOf ns) O) := by
                    have := HX.out
                    rw [List.take_of_length_le (by rw [HLO.out]; exact Nat.le_refl _)] at this
                    exact Lib.hid this
                  clear HX HI4
                  go_wp2
                  go_loop [15] (fun s15 => ∃ i : Nat, 1 ≤ i ∧ i ≤ m ∧ s15 = .int .i64 i) (fun s15 => m - (intOf s15).toNat)
                  case atStart => exact ⟨1, by omega, by omega, rfl⟩
                  case round =>
                    obtain ⟨i5, hi51, hi5, rfl⟩ := hrel
                    by_cases hlt5 : i5 < m
                    · have ct : wr.cell? ⟨G, i5, none⟩ = some (.int .i64 1) := by rw [HX4.out.1.cellAt, List.getElem?_map, tmz_val m _ HPA.out i5 (by omega), HZB.out i5 hi51 (by omega)]; rfl
                      have cm : wr.cell? ⟨M, i5, none⟩ = some (.bool true) := by rw [HX4.out.2.1.cellAt, metL_get m _ i5 (by omega), HS5.out i5 hi51 hlt5]
                      go_wp2
                      go_round
                      case rel => exact ⟨i5 + 1, by omega, by omega, by go_num⟩
                      case measure => (simp [intOf]; try omega)
                    · obtain rfl : m = i5 := by omega
                      have HDP2 := Lib.hid (HDP.out wr HX4.out.2.2)
                      obtain ⟨D0, hD0⟩ : ∃ D0, wr.heap.size = D0 := ⟨_, rfl⟩
                      go_wp2_with (go_at_call 39; refine HDP2.out.mono ?_; clear HDP2; rintro e w6 ⟨rfl, k6, b6⟩; have HK6 := Lib.hid k6; have HB6 := Lib.hid (HX4.out.2.2.trans (b6.mono HX4.out.2.2.size)); clear k6 b6)
                      go_loop [17] (fun s17 => ∃ i : Nat, i ≤ m ∧ s17 = .int .i64 i) (fun s17 => m - (intOf s17).toNat)
                      case atStart => exact ⟨0, by omega, rfl⟩
                      case round =>
                        obtain ⟨i6, hi6, rfl⟩ := hrel
                        by_cases hlt6 : i6 < m
                        · obtain ⟨z, hz⟩ : ∃ z, (depthsP ns)[i6]? = some z := ⟨_, List.getElem?_eq_getElem (by rw [HDL.out]; omega)⟩
                          have cz := HK6.out.cellAt i6
                          rw [List.getElem?_map, hz] at cz
                          simp only [Option.map_some] at cz
                          have dz : decide (z > 64) = false := by
                            have := HD6.out i6 z hlt6 hz
                            simp [deepB] at this; simp; omega
                          clear hz
                          try rw [hD0] at cz
                          go_wp2
                          go_round
                          case rel => exact ⟨i6 + 1, by omega, by go_num⟩
                          case measure => (simp [intOf]; try omega)
                        · obtain rfl : m = i6 := by omega
                          go_wp2
                          refine bodyPost_ret (v := .tuple #[.int .i64 0, .int .i64 0]) (by simp [results, Try.results20, go_sem]) rfl ⟨rfl, HB6.out⟩
end Go.Proofs.Ytcgnldcdcbnofaa

namespace Go.Proofs.Ytcgnldcdcbnofaa
open Go.RowKit Go.Shelf
set_option linter.unusedVariables false
set_option linter.unusedSimpArgs false
attribute [local go_sem] Oper.semAt_some

theorem first_hit {α : Type} (p : α → Bool) : ∀ l : List α, l.any p = true → ∃ (k : Nat) (x : α), l[k]? = some x ∧ p x = true ∧ ∀ (j : Nat) (y : α), j < k → l[j]? = some y → p y = false
  | [], h => by simp at h
  | a :: l, h => by
    cases ha : p a with
    | true => exact ⟨0, a, rfl, ha, fun j y hj => by omega⟩
    | false =>
      rw [List.any_cons, ha, Bool.false_or] at h
      obtain ⟨k, x, h1, h2, h3⟩ := first_hit p l h
      refine ⟨k + 1, x, by simpa using h1, h2, fun j y hj hy => ?_⟩
      cases j with
      | zero => simp at hy; rw [← hy]; exact ha
      | succ j => exact h3 j y (by omega) (by simpa using hy)
theorem idx_cases {α : Type} (p : α → Bool) (l : List α) : (l.any p = false ∧ idxI p l = -1) ∨ ∃ (k : Nat) (x : α), l[k]? = some x ∧ p x = true ∧ (∀ j y, j < k → l[j]? = some y → p y = false) ∧ idxI p l = (k : Int) := by
  cases h : l.any p with
  | false => exact .inl ⟨rfl, idxI_none p l h⟩
  | true =>
    obtain ⟨k, x, h1, h2, h3⟩ := first_hit p l h
    refine .inr ⟨k, x, h1, h2, h3, idxI_hit p l k x ?_ h1 h2⟩
    rw [List.any_eq_false]
    intro y hy
    obtain ⟨j, hj⟩ := List.mem_iff_getElem?.1 hy
    rw [List.getElem?_take] at hj
    by_cases e : j < k
    · rw [if_pos e] at hj; rw [h3 j y e hj]; simp
    · rw [if_neg e] at hj; cases hj
theorem least_of {P : Nat → Prop} : ∀ n, P n → ∃ k, P k ∧ k ≤ n ∧ ∀ j, j < k → ¬ P j := by
  intro n
  induction n using Nat.strongRecOn with
  | _ n ih =>
    intro hn
    by_cases h : ∃ j, j < n ∧ P j
    · obtain ⟨j, h1, h2⟩ := h
      obtain ⟨k, h3, h4, h5⟩ := ih j h1 h2
      exact ⟨k, h3, by omega, h5⟩
    · exact ⟨n, hn, by omega, fun j hj hp => h ⟨j, hj, hp⟩⟩
theorem dep_met {ns : List Nd} (h1 : 1 ≤ ns.length) (hl : ∀ n ∈ ns, ∀ z ∈ n.ks, 1 ≤ z ∧ z < (ns.length : Int)) (j : Nat) (hj : j < ns.length) : (depthsP ns)[j]?.getD 0 = 0 ↔ metB ns (j : Int) = false := by
  have hki := kids_in hl
  obtain ⟨vis, st, hr, hn⟩ := walk_facts h1 hki
  have hg := hr.good h1 hki
  have hvis := hr.vis
  have hrng : ∀ x ∈ walkL ns.length (kfOf ns), 0 ≤ x.1 := fun x hx => (hg.vrng x.1 (by rw [hvis]; simp; exact ⟨x.2, hx⟩)).1
  cases hm : metB ns (j : Int) with
  | false =>
    have hno : ¬ ∃ x ∈ walkL ns.length (kfOf ns), x.1 = (j : Int) := by
      rintro ⟨x, hx, e⟩
      have : metB ns (j : Int) = true := by
        simp only [metB, List.contains_iff_mem]
        exact List.mem_map.2 ⟨x, hx, e⟩
      rw [hm] at this; cases this
    have := set_get ns.length (List.replicate ns.length 0) (by simp) (walkL ns.length (kfOf ns)) hrng j hj 0 (fun y hy e => absurd ⟨y, hy, e⟩ hno)
    rw [if_neg hno] at this
    unfold depthsP depL
    rw [this]; simp [hj]
  | true =>
    obtain ⟨d, hd⟩ := reach_met h1 hl ((reach_iff h1 hl j).2 hm)
    have hnd : ((walkL ns.length (kfOf ns)).map Prod.fst).Nodup := by have := hg.nd; rw [hvis] at this; exact (List.reverse_perm _).nodup_iff.1 this
    have hset := set_get ns.length (List.replicate ns.length 0) (by simp) (walkL ns.length (kfOf ns)) hrng j hj d (fun y hy ey => by
      have := count_unique (P := walkL ns.length (kfOf ns)) (z := (j : Int)) (by rw [hnd.count, if_pos (List.mem_map.2 ⟨_, hd, rfl⟩)]) y hy _ hd ey rfl
      rw [this])
    rw [if_pos ⟨_, hd, rfl⟩] at hset
    have hd1 := (hr.one _ hd).1
    have h2 : (depthsP ns)[j]?.getD 0 = (d : Int) := hset
    rw [h2]
    constructor
    · intro h; omega
    · intro h; cases h
set_option maxRecDepth 100000 in
set_option maxHeartbeats 1000000 in
theorem refCheck_size (q : Option Addr) (m cap : Nat) (w : World) (hm : m < 1 ∨ 65536 < m) (hs : m ≤ 9223372036854775807) :
    Calls Try.prog 20 #[.slice q m cap] w fun e W' => e = .returned (.tuple #[.int .i64 0, .int .i64 43]) ∧ Below w.heap.size w W' := by
  by_cases h : m < 1
  · have d1 : decide ((m : Int) < 1) = true := by simp; omega
    clear hm
    go_enter Try.func20, Try.ntmps20
    go_wp2
    refine bodyPost_ret (v := .tuple #[.int .i64 0, .int .i64 43]) (by simp [results, Try.results20, go_sem]) rfl ⟨rfl, Below.refl _ _⟩
  · have d1 : decide ((m : Int) < 1) = false := by simp; omega
    have d2 : decide ((m : Int) > 65536) = true := by simp; omega
    clear hm
    go_enter Try.func20, Try.ntmps20
    go_wp2
    refine bodyPost_ret (v := .tuple #[.int .i64 0, .int .i64 43]) (by simp [results, Try.results20, go_sem]) rfl ⟨rfl, Below.refl _ _⟩
/-- the document's Check -/
theorem refCheck_any (lv : Value) (ns : List Nd) (w : World) (hP : PageAt w lv ns) (hK : ∀ n ∈ ns, n.ks.length ≤ 70000) :
    Calls Try.prog 20 #[lv] w fun e W' => e = .returned (.tuple #[.int .i64 (checkP ns).1, .int .i64 (checkP ns).2]) ∧ Below w.heap.size w W' := by
  obtain ⟨q, cap, rfl⟩ := hP.form
  by_cases hlen : ¬ (1 ≤ ns.length ∧ ns.length ≤ 65536)
  · have e : checkP ns = (0, 43) := by unfold checkP; rw [if_pos hlen]
    rw [e]
    exact refCheck_size q _ cap w (by omega) hP.1
  have h1 : 1 ≤ ns.length := by omega
  have h2 : ns.length ≤ 65536 := by omega
  obtain ⟨b, off, rfl, _, _⟩ := page_cells hP h1
  rcases idx_cases wrongN ns with ⟨hw, ew⟩ | ⟨I1, n1, w1, w2, w3, ew⟩
  case inr =>
    have e : checkP ns = ((I1 : Int), 50) := by unfold checkP; rw [if_neg hlen, ew, if_pos (by omega)]
    rw [e]
    exact refCheck_wrong b off cap _ ns w rfl h1 h2 hP hK I1 (List.getElem?_eq_some_iff.1 w1).1 (Lib.hid fun j n hj hn => by rw [w3 j n hj hn]; rfl) (Lib.hid fun n hn => by rw [w1] at hn; injection hn with hn; rw [← hn, w2]; rfl)
  have HW : Hid (∀ j n, j < ns.length → ns[j]? = some n → (!wrongN n) = true) := Lib.hid fun j n hj hn => by
    rw [List.any_eq_false] at hw
    simpa using hw n (List.mem_iff_getElem?.2 ⟨j, hn⟩)
  rcases idx_cases (unlinkedN ns.length) ns with ⟨hu, eu⟩ | ⟨I2, n2, u1, u2, u3, eu⟩
  case inr =>
    have e : checkP ns = ((I2 : Int), 40) := by unfold checkP; rw [if_neg hlen, ew, if_neg (by omega), eu, if_pos (by omega)]
    rw [e]
    refine refCheck_link b off cap _ ns w rfl h1 h2 hP hK HW I2 (List.getElem?_eq_some_iff.1 u1).1 (Lib.hid fun j n hj hn z hz => ?_) (Lib.hid fun n hn => ?_)
    · have h3 := u3 j n hj hn
      unfold unlinkedN at h3
      rw [List.any_eq_false] at h3
      have := outB_false (by simpa using h3 z hz)
      omega
    · rw [u1] at hn; injection hn with hn; subst hn
      unfold unlinkedN at u2
      obtain ⟨k, z, k1, k2, k3⟩ := first_hit _ _ u2
      refine ⟨k, z, k1, fun h => ?_, fun k' z' hk' hz' => ?_⟩
      · rw [outB_in (by omega) (by omega)] at k2; cases k2
      · have := outB_false (k3 k' z' hk' hz'); omega
  have hl := linked (m := ns.length) (ns := ns) (by rw [eu]; omega)
  have HL2 : Hid (∀ j n, j < ns.length → ns[j]? = some n → ∀ z ∈ n.ks, 1 ≤ z ∧ z < (ns.length : Int)) := Lib.hid fun j n _ hn => hl n (List.mem_iff_getElem?.2 ⟨j, hn⟩)
  have hk0 : ∀ z ∈ kidsOf ns, 0 ≤ z := fun z hz => by
    obtain ⟨a, ha, hz'⟩ := List.mem_flatMap.1 hz
    have := hl a ha z hz'; omega
  have hlz : ((tms ns.length (kidsOf ns)).zip (depthsP ns)).length = ns.length := by simp [tms_len, depthsP, depL_len]
  have hzip : ∀ j x, ((tms ns.length (kidsOf ns)).zip (depthsP ns))[j]? = some x → j < ns.length ∧ (strayB x = true ↔ (((kidsOf ns).count (j : Int) : Int) + if j = 0 then 1 else 0) ≠ 1 ∨ metB ns (j : Int) = false) := fun j x hx => by
    have hj : j < ns.length := by have := (List.getElem?_eq_some_iff.1 hx).1; rw [hlz] at this; exact this
    refine ⟨hj, ?_⟩
    have ht := tms_get ns.length (kidsOf ns) hk0 j hj
    have hd := dep_met h1 hl j hj
    have a1 : j < (tms ns.length (kidsOf ns)).length := by rw [tms_len]; exact hj
    have a2 : j < (depthsP ns).length := by unfold depthsP; rw [depL_len]; exact hj
    rw [List.getElem?_eq_getElem a1] at ht
    rw [List.getElem?_eq_getElem a2] at hd
    simp only [Option.getD_some] at ht hd
    have hx2 := (List.getElem?_eq_some_iff.1 hx).2
    rw [List.getElem_zip] at hx2
    rw [← hx2, ← ht, ← hd]
    simp [strayB]
  have h00 : (kidsOf ns).count (0 : Int) = 0 := List.count_eq_zero_of_not_mem (fun h => by
    obtain ⟨a, ha, hz'⟩ := List.mem_flatMap.1 h
    have := hl a ha _ hz'; omega)
  have hm0 : metB ns ((0 : Nat) : Int) = true := (reach_iff h1 hl 0).1 .root
  rcases idx_cases strayB ((tms ns.length (kidsOf ns)).zip (depthsP ns)) with ⟨hs, es⟩ | ⟨I, x, s1, s2, s3, es⟩
  case inr =>
    have e : checkP ns = ((I : Int), 41) := by unfold checkP; rw [if_neg hlen, ew, if_neg (by omega), eu, if_neg (by omega), show strayP ns = (I : Int) from es, if_pos (by omega)]
    rw [e]
    obtain ⟨hIm, hIs⟩ := hzip I x s1
    have hIs := hIs.1 s2
    have hI1 : 1 ≤ I := by
      apply Classical.byContradiction
      intro h
      obtain rfl : I = 0 := by omega
      rw [hm0] at hIs
      rcases hIs with h | h
      · rw [show ((0 : Nat) : Int) = 0 from rfl, h00] at h; simp at h
      · cases h
    rw [if_neg (by omega)] at hIs
    have hbefore : ∀ j : Nat, 1 ≤ j → j < I → (kidsOf ns).count (j : Int) = 1 ∧ metB ns (j : Int) = true := fun j hj1 hj => by
      obtain ⟨y, hy⟩ : ∃ y, ((tms ns.length (kidsOf ns)).zip (depthsP ns))[j]? = some y := ⟨_, List.getElem?_eq_getElem (by rw [hlz]; omega)⟩
      have h3 := s3 j y hj hy
      obtain ⟨_, h4⟩ := hzip j y hy
      rw [h3, if_neg (by omega)] at h4
      have h5 : ¬ ((((kidsOf ns).count (j : Int) : Int) + 0) ≠ 1 ∨ metB ns (j : Int) = false) := fun h => by have := h4.2 h; cases this
      refine ⟨?_, ?_⟩
      · apply Classical.byContradiction; intro h; exact h5 (.inl (by omega))
      · cases hmj : metB ns (j : Int) with
        | true => rfl
        | false => exact absurd (.inr hmj) h5
    by_cases hbad : ∃ j : Nat, 1 ≤ j ∧ j < ns.length ∧ (kidsOf ns).count (j : Int) ≠ 1
    · obtain ⟨j, hj⟩ := hbad
      obtain ⟨Z, ⟨z1, z2, z3⟩, _, z4⟩ := least_of (P := fun j : Nat => 1 ≤ j ∧ j < ns.length ∧ (kidsOf ns).count (j : Int) ≠ 1) j hj
      have hIZ : I ≤ Z := by
        apply Classical.byContradiction
        intro h
        exact z3 (hbefore Z z1 (by omega)).1
      refine refCheck_bad b off cap _ ns w rfl h1 h2 hP hK HW HL2 Z z1 z2 (Lib.hid z3) (Lib.hid fun j j1 j2 => ?_) I hI1 hIZ (Lib.hid hbefore) (Lib.hid ?_)
      · apply Classical.byContradiction; intro h; exact z4 j j2 ⟨j1, by omega, h⟩
      · rcases hIs with h | h
        · exact .inl (by omega)
        · exact .inr h
    · have hgood : ∀ j : Nat, 1 ≤ j → j < ns.length → (kidsOf ns).count (j : Int) = 1 := fun j j1 j2 => by
        apply Classical.byContradiction; intro h; exact hbad ⟨j, j1, j2, h⟩
      refine refCheck_stray b off cap _ ns w rfl h1 h2 hP hK HW HL2 (Lib.hid hgood) I hI1 hIm (Lib.hid fun j j1 j2 => (hbefore j j1 j2).2) (Lib.hid ?_)
      rcases hIs with h | h
      · exact absurd (by have := hgood I hI1 hIm; omega) h
      · exact h
  have F : NoStray ns := ⟨h1, hl, hs⟩
  have hgood : ∀ j : Nat, j < ns.length → ((((kidsOf ns).count (j : Int) : Nat) : Int) + (if j = 0 then 1 else 0)) = 1 ∧ metB ns (j : Int) = true := fun j hj => by
    obtain ⟨y, hy⟩ : ∃ y, ((tms ns.length (kidsOf ns)).zip (depthsP ns))[j]? = some y := ⟨_, List.getElem?_eq_getElem (by rw [hlz]; exact hj)⟩
    obtain ⟨_, h4⟩ := hzip j y hy
    have h3 : strayB y = false := by
      rw [List.any_eq_false] at hs
      simpa using hs y (List.mem_iff_getElem?.2 ⟨j, hy⟩)
    rw [h3] at h4
    refine ⟨?_, ?_⟩
    · apply Classical.byContradiction; intro h; have := h4.2 (.inl h); cases this
    · cases hmj : metB ns (j : Int) with
      | true => rfl
      | false => have := h4.2 (.inr hmj); cases this
  have HZB : Hid (∀ j : Nat, 1 ≤ j → j < ns.length → (kidsOf ns).count (j : Int) = 1) := Lib.hid fun j j1 j2 => by
    have := (hgood j j2).1
    rw [if_neg (by omega)] at this; omega
  have HS5 : Hid (∀ j : Nat, 1 ≤ j → j < ns.length → metB ns (j : Int) = true) := Lib.hid fun j _ j2 => (hgood j j2).2
  rcases idx_cases deepB (depthsP ns) with ⟨hd, ed⟩ | ⟨I6, z6, t1, t2, t3, ed⟩
  · have e : checkP ns = (0, 0) := by unfold checkP; rw [if_neg hlen, ew, if_neg (by omega), eu, if_neg (by omega), show strayP ns = -1 from es, if_neg (by omega), ed, if_neg (by omega)]
    rw [e]
    refine refCheck_fine b off cap _ ns w rfl h1 h2 hP hK HW HL2 HZB F HS5 (Lib.hid fun j z _ hz => ?_)
    rw [List.any_eq_false] at hd
    simpa using hd z (List.mem_iff_getElem?.2 ⟨j, hz⟩)
  · have e : checkP ns = ((I6 : Int), 42) := by unfold checkP; rw [if_neg hlen, ew, if_neg (by omega), eu, if_neg (by omega), show strayP ns = -1 from es, if_neg (by omega), ed, if_pos (by omega)]
    rw [e]
    exact refCheck_deep b off cap _ ns w rfl h1 h2 hP hK HW HL2 HZB F HS5 I6 (by have := (List.getElem?_eq_some_iff.1 t1).1; unfold depthsP at this; rw [depL_len] at this; exact this) (Lib.hid t3) (Lib.hid fun z hz => by rw [t1] at hz; injection hz with hz; rw [← hz]; exact t2)
end Go.Proofs.Ytcgnldcdcbnofaa

namespace Go.Proofs.Ytcgnldcdcbnofaa
open Go.RowKit Go.Shelf
set_option linter.unusedVariables false
set_option linter.unusedSimpArgs false
attribute [local go_sem] Oper.semAt_some

set_option maxRecDepth 100000 in
set_option maxHeartbeats 2000000 in
theorem refLchk_at (q : Option Addr) (m cap : Nat) (p : Int) (ns : List Nd) (w : World) (x c : Int) (hm : ns.length = m) (hP : PageAt w (.slice q m cap) ns) (hc : c = (checkP ns).2)
    (H : Hid (Calls Try.prog 20 #[.slice q m cap] w fun e W' => e = .returned (.tuple #[.int .i64 x, .int .i64 c]) ∧ Below w.heap.size w W')) :
    Calls Try.prog 8 #[.slice q m cap, .int .i64 p] w fun e W' => e = .returned (.int .i64 (lchkP ns p)) ∧ Below w.heap.size w W' := by
  have hms : m ≤ 9223372036854775807 := by have := hP.1; omega
  by_cases h0 : c = 0
  · have hl : lchkP ns p = if isTab ns p = true then 0 else 2 := by unfold lchkP; rw [← hc, if_pos h0]
    subst h0
    by_cases hp0 : p < 0
    · have e : isTab ns p = false := by unfold isTab; rw [decide_eq_false (by omega)]; rfl
      rw [hl, e]
      have d1 : decide (p < 0) = true := by simpa using hp0
      clear hc hl e hP
      go_enter Try.func8, Try.ntmps8
      go_wp2_with (go_at_call 20; refine H.out.mono ?_; clear H; rintro e w1 ⟨rfl, hb1⟩; have HB1 := Lib.hid hb1; clear hb1)
      go_ret
      exact ⟨rfl, HB1.out⟩
    · have d1 : decide (p < 0) = false := by simpa using hp0
      obtain ⟨pn, rfl⟩ : ∃ pn : Nat, p = (pn : Int) := ⟨p.toNat, by omega⟩
      by_cases hpm : m ≤ pn
      · have e : isTab ns (pn : Int) = false := by unfold isTab; rw [decide_eq_false (p := ((pn : Int) < (ns.length : Int))) (by omega)]; simp
        rw [hl, e]
        have d2 : decide ((pn : Int) ≥ (m : Int)) = true := by simp; omega
        clear hc hl e hP
        go_enter Try.func8, Try.ntmps8
        go_wp2_with (go_at_call 20; refine H.out.mono ?_; clear H; rintro e w1 ⟨rfl, hb1⟩; have HB1 := Lib.hid hb1; clear hb1)
        go_ret
        exact ⟨rfl, HB1.out⟩
      · have d2 : decide ((pn : Int) ≥ (m : Int)) = false := by simp; omega
        have hpl : pn < m := by omega
        obtain ⟨b, off, rfl⟩ := some_page hP (by omega)
        have HP := Lib.hid hP
        have e : isTab ns (pn : Int) = (kdOf ns pn == 2) := by unfold isTab; rw [decide_eq_true (by omega), decide_eq_true (by omega)]; simp
        rw [hl, e]
        clear hc hl e hP
        have HK : Hid (∀ X, Below w.heap.size w X → X.cell? ⟨b, off + pn * 34, none⟩ = some (.int .i64 (kdOf ns pn))) := Lib.hid fun X hX => by
          exact kd_at (HP.out.below hX) pn (by omega)
        by_cases hk : kdOf ns pn = 2
        · rw [hk] at HK ⊢
          go_enter Try.func8, Try.ntmps8
          go_wp2_with (go_at_call 20; refine H.out.mono ?_; clear H; rintro e w1 ⟨rfl, hb1⟩; have HB1 := Lib.hid hb1; have ck := HK.out w1 hb1; clear hb1)
          go_ret
          exact ⟨rfl, HB1.out⟩
        · have d3 : (kdOf ns pn != 2) = true := by simpa using hk
          have d4 : (kdOf ns pn == 2) = false := by simpa using hk
          rw [d4]
          go_enter Try.func8, Try.ntmps8
          go_wp2_with (go_at_call 20; refine H.out.mono ?_; clear H; rintro e w1 ⟨rfl, hb1⟩; have HB1 := Lib.hid hb1; have ck := HK.out w1 hb1; clear hb1)
          go_ret
          exact ⟨rfl, HB1.out⟩
  · have hl : lchkP ns p = c := by unfold lchkP; rw [← hc, if_neg h0]
    rw [hl]
    have hc' : (c != 0) = true := by simpa using h0
    clear hc hl hP
    go_enter Try.func8, Try.ntmps8
    go_wp2_with (go_at_call 20; refine H.out.mono ?_; clear H; rintro e w1 ⟨rfl, hb1⟩; have HB1 := Lib.hid hb1; clear hb1)
    go_ret
    exact ⟨rfl, HB1.out⟩
theorem refLchk_any (lv : Value) (p : Int) (ns : List Nd) (w : World) (hP : PageAt w lv ns) (hK : ∀ n ∈ ns, n.ks.length ≤ 70000) :
    Calls Try.prog 8 #[lv, .int .i64 p] w fun e W' => e = .returned (.int .i64 (lchkP ns p)) ∧ Below w.heap.size w W' := by
  have H := refCheck_any lv ns w hP hK
  obtain ⟨q, cap, rfl⟩ := hP.form
  exact refLchk_at q _ cap p ns w _ _ rfl hP rfl (Lib.hid H)
/-- the rows among kids -/
def grpP (ns : List Nd) (g : Int) (ks : List Int) : List (Int × Int) := (ks.filter fun z => decide (kdOf ns z.toNat = 9)).map fun z => (z, g)
theorem grp_fnd (ns : List Nd) (g : Int) : fndP ns 9 [g] = grpP ns g (kfOf ns g) := by simp [fndP, kindK, grpP]
theorem grp_snoc (ns : List Nd) (g : Int) (ks : List Int) (k : Nat) (z : Int) (h : ks[k]? = some z) : grpP ns g (ks.take (k + 1)) = grpP ns g (ks.take k) ++ (if kdOf ns z.toNat = 9 then [(z, g)] else []) := by
  unfold grpP
  rw [List.take_add_one, h, List.filter_append, List.map_append]
  by_cases hz : kdOf ns z.toNat = 9 <;> simp [hz]
theorem grp_len (ns : List Nd) (g : Int) (ks : List Int) : (grpP ns g ks).length ≤ ks.length := by unfold grpP; rw [List.length_map]; exact List.length_filter_le _ _
theorem Try.infoLane6 : (Try.prog.info? 70).map (fun i => (i.zero, i.size, i.bytes)) = some (some (.agg #[.int .i64 0, .int .i64 0]), 2, 16) := by kernel_rfl
set_option maxRecDepth 100000 in
set_option maxHeartbeats 4000000 in
theorem refGroup_at (b off cap m g : Nat) (ns : List Nd) (w : World) (hm : ns.length = m) (hg : g < m) (h2 : m ≤ 65536) (hP : PageAt w (.slice (some ⟨b, off, none⟩) m cap) ns) (hK : ∀ n ∈ ns, n.ks.length ≤ 70000)
    (hL : ∀ n ∈ ns, ∀ z ∈ n.ks, 0 ≤ z ∧ z < (m : Int)) :
    Calls Try.prog 40 #[.slice (some ⟨b, off, none⟩) m cap, .int .i64 g] w fun e W' => ∃ v, e = .returned v ∧ OwnL w.heap.size W' v (fndP ns 9 [(g : Int)]) ∧ Below w.heap.size w W' := by
  obtain ⟨n, hn⟩ : ∃ n, ns[g]? = some n := ⟨_, List.getElem?_eq_getElem (by rw [hm]; exact hg)⟩
  have hmem : n ∈ ns := List.mem_iff_getElem?.2 ⟨g, hn⟩
  have hF : fndP ns 9 [(g : Int)] = grpP ns g n.ks := by rw [grp_fnd]; unfold kfOf; rw [Int.toNat_natCast, hn]; rfl
  rw [hF]
  have hc : w.cell? ⟨b, off + g * 34 + 1, none⟩ = some n.kv ∧ Ints w n.kv n.ks ∧ b < w.heap.size := by
    obtain ⟨b', off', e, _, hc⟩ := page_cells hP (by omega)
    injection e with e; injection e with e1 e2
    subst e1 e2
    exact (hc g n hn).2
  obtain ⟨ck, hI, hb0⟩ := hc
  have hfew := hK n hmem
  have HLN := Lib.hid (hL n hmem)
  obtain ⟨qk, kc, hkv⟩ := hI.form
  rw [hkv] at ck hI
  obtain ⟨kl, hkl⟩ : ∃ kl, n.ks.length = kl := ⟨_, rfl⟩
  rw [hkl] at ck hfew hI
  have HI := Lib.hid hI
  have HKL := Lib.hid hkl
  have HCK := Lib.hid ck
  have HP := Lib.hid hP
  obtain ⟨i0, hi0, hz0', hz1', hz2'⟩ := info_parts Try.infoLane6
  have HZ1 := Lib.hid hz0'
  have HZ2 := Lib.hid hz1'
  have HZ3 := Lib.hid hz2'
  clear hz0' hz1' hz2' hm hK hL hP hn hmem hF hI hkl ck hkv
  go_enter Try.func40, Try.ntmps40
  go_wp2
  go_loopw [5, 6] (fun s5 s6 X => ∃ k : Nat, k ≤ kl ∧ s6 = .int .i64 k ∧ Hid (OwnL w.heap.size X s5 (grpP ns g (n.ks.take k))) ∧ Hid (Below w.heap.size w X)) (fun _ s6 _ => kl - (intOf s6).toNat)
  case atStart => exact ⟨0, by omega, rfl, Lib.hid (by rw [List.take_zero]; exact World.ownsRow_nil _ _ _ _), Lib.hid (Below.refl _ _)⟩
  case round =>
    obtain ⟨k, hk, rfl, HO, HB⟩ := hrel
    have dck := (HB.out.cell (p := ⟨b, off + g * 34 + 1, none⟩) hb0).trans HCK.out
    by_cases hlt : k < kl
    · obtain ⟨y, hy⟩ : ∃ y, n.ks[k]? = some y := ⟨_, List.getElem?_eq_getElem (by rw [HKL.out]; exact hlt)⟩
      obtain ⟨qb, qo, rfl, cy, ly⟩ := ints_at0' HI.out k y hy
      have dcy := (HB.out.cell (p := ⟨qb, qo + k, none⟩) ly).trans cy
      obtain ⟨yr0, yr1⟩ := HLN.out y (List.mem_iff_getElem?.2 ⟨k, hy⟩)
      obtain ⟨yn, rfl⟩ : ∃ yn : Nat, y = (yn : Int) := ⟨y.toNat, by omega⟩
      have ckd := kd_at (HP.out.below HB.out) yn (by omega)
      have HG := Lib.hid (grp_snoc ns g n.ks k (yn : Int) hy)
      have hgl : (grpP ns g (n.ks.take k)).length ≤ 70000 := by
        refine Nat.le_trans (grp_len _ _ _) ?_
        rw [List.length_take]; omega
      obtain ⟨gl, hgl2⟩ : ∃ gl, (grpP ns g (n.ks.take k)).length = gl := ⟨_, rfl⟩
      rw [hgl2] at hgl
      have hO := HO.out
      unfold OwnL at hO
      rw [hgl2] at hO
      have HO2 := Lib.hid hO
      have HGL := Lib.hid hgl2
      have hsz := HB.out.size
      clear hy cy hO hgl2
      by_cases hk9 : kdOf ns yn = 9
      · have g9 : (kdOf ns yn == 9) = true := by simpa using hk9
        have HG2 : Hid (grpP ns g (n.ks.take (k + 1)) = grpP ns g (n.ks.take k) ++ [((yn : Int), (g : Int))]) := Lib.hid (by rw [HG.out, Int.toNat_natCast, if_pos hk9])
        clear HG hk9 HO
        go_wp2_with (at_builtin; refine wpList_append_own_at _ rfl _ _ 66 rfl w.heap.size 70 i0 (.agg #[.int .i64 0, .int .i64 0]) 2 16 Try.underlying66 hi0 HZ1.out HZ2.out HZ3.out rfl (by decide) _ _ _ rfl (HO2.out.alloc _) ⟨wr.heap.size, 0, none⟩ 1 1 [.int .i64 (yn : Int), .int .i64 (g : Int)] rfl rfl (lay_new _ [.int .i64 (yn : Int), .int .i64 (g : Int)] 70 wr.heap.size (by simp)) (by simp [Value.oneCell']) (by unfold maxLen; omega) (by omega) (by simp; omega) ?_; intro v1 w1 hown1 hgrow1 _ _; have HO3 : Hid (OwnL w.heap.size w1 v1 (grpP ns g (n.ks.take (k + 1)))) := Lib.hid (by rw [HG2.out]; unfold OwnL; rw [List.length_append, HGL.out, List.flatMap_append]; exact hown1); have HB3 := Lib.hid ((HB.out.alloc hsz _).grown hgrow1 (by simp; omega) (fun g e => (HO2.out.lt g e).1)); clear hown1 hgrow1 HO2 HB)
        go_roundw
        case rel => exact ⟨k + 1, by omega, by go_num, HO3, HB3⟩
        case measure => (simp [intOf]; try omega)
      · have g9 : (kdOf ns yn == 9) = false := by simpa using hk9
        have HO3 : Hid (OwnL w.heap.size wr u5 (grpP ns g (n.ks.take (k + 1)))) := Lib.hid (by rw [HG.out, Int.toNat_natCast, if_neg hk9, List.append_nil]; exact HO.out)
        clear HG hk9 HO2
        go_wp2
        go_roundw
        case rel => exact ⟨k + 1, by omega, by go_num, HO3, HB⟩
        case measure => (simp [intOf]; try omega)
    · obtain rfl : kl = k := by omega
      have HO3 : Hid (OwnL w.heap.size wr u5 (grpP ns g n.ks)) := Lib.hid (by have := HO.out; rw [List.take_of_length_le (by rw [HKL.out]; exact Nat.le_refl _)] at this; exact this)
      clear HO
      go_wp2
      go_ret
      exact ⟨_, rfl, HO3.out, HB.out⟩
/-- the captions among kids -/
def cptP (ns : List Nd) (ks : List Int) : List Int := ks.filter fun z => decide (kdOf ns z.toNat = 3)
theorem cpt_snoc (ns : List Nd) (ks : List Int) (k : Nat) (z : Int) (h : ks[k]? = some z) : cptP ns (ks.take (k + 1)) = cptP ns (ks.take k) ++ (if kdOf ns z.toNat = 3 then [z] else []) := by
  unfold cptP
  rw [List.take_add_one, h, List.filter_append]
  by_cases hz : kdOf ns z.toNat = 3 <;> simp [hz]
theorem cpt_len (ns : List Nd) (ks : List Int) : (cptP ns ks).length ≤ ks.length := List.length_filter_le _ _
end Go.Proofs.Ytcgnldcdcbnofaa

namespace Go.Proofs.Ytcgnldcdcbnofaa
open Go.RowKit Go.Shelf
set_option linter.unusedVariables false

/-- head, body, foot; how many heads and feet -/
structure DR where
  head : List (Int × Int)
  body : List (Int × Int)
  foot : List (Int × Int)
  nh : Nat
  nf : Nat
def DR.zero : DR := ⟨[], [], [], 0, 0⟩
def drStep (ns : List Nd) (s : DR) (z : Int) : DR :=
  if kdOf ns z.toNat = 9 then { s with body := s.body ++ [(z, -1)] }
  else if kdOf ns z.toNat = 6 then (if s.nh = 0 then { s with head := fndP ns 9 [z], nh := s.nh + 1 } else { s with body := s.body ++ fndP ns 9 [z], nh := s.nh + 1 })
  else if kdOf ns z.toNat = 8 then (if s.nf = 0 then { s with foot := fndP ns 9 [z], nf := s.nf + 1 } else { s with body := s.body ++ fndP ns 9 [z], nf := s.nf + 1 })
  else if kdOf ns z.toNat = 7 then { s with body := s.body ++ fndP ns 9 [z] } else s
def drOf (ns : List Nd) (ks : List Int) : DR := ks.foldl (drStep ns) DR.zero
theorem dr_snoc (ns : List Nd) (ks : List Int) (k : Nat) (z : Int) (h : ks[k]? = some z) : drOf ns (ks.take (k + 1)) = drStep ns (drOf ns (ks.take k)) z := by
  rw [List.take_add_one, h]; simp [drOf, List.foldl_append]
def kF (ns : List Nd) (k : Int) (ks : List Int) : List Int := ks.filter fun z => decide (kdOf ns z.toNat = k)
theorem kF_snoc (ns : List Nd) (k : Int) (pre : List Int) (z : Int) : kF ns k (pre ++ [z]) = kF ns k pre ++ (if kdOf ns z.toNat = k then [z] else []) := by
  unfold kF
  rw [List.filter_append]
  by_cases hz : kdOf ns z.toNat = k <;> simp [hz]
theorem fnd_nil (ns : List Nd) (k : Int) : fndP ns k [] = [] := rfl
theorem dr_pre (ns : List Nd) (ks : List Int) (hd : ks.Nodup) : ∀ (pre suf : List Int), ks = pre ++ suf →
    (drOf ns pre).head = fndP ns 9 ((kF ns 6 pre).take 1) ∧ (drOf ns pre).foot = fndP ns 9 ((kF ns 8 pre).take 1) ∧ ((drOf ns pre).nh = (kF ns 6 pre).length) ∧ ((drOf ns pre).nf = (kF ns 8 pre).length) ∧
    (drOf ns pre).body = pre.flatMap (oneR ns ((kF ns 6 ks).take 1 ++ (kF ns 8 ks).take 1)) := by
  suffices ∀ (n : Nat) (pre suf : List Int), pre.length = n → ks = pre ++ suf →
    (drOf ns pre).head = fndP ns 9 ((kF ns 6 pre).take 1) ∧ (drOf ns pre).foot = fndP ns 9 ((kF ns 8 pre).take 1) ∧ ((drOf ns pre).nh = (kF ns 6 pre).length) ∧ ((drOf ns pre).nf = (kF ns 8 pre).length) ∧
    (drOf ns pre).body = pre.flatMap (oneR ns ((kF ns 6 ks).take 1 ++ (kF ns 8 ks).take 1)) from fun pre suf h => this pre.length pre suf rfl h
  intro n
  induction n with
  | zero =>
    intro pre suf hl h
    obtain rfl : pre = [] := List.eq_nil_of_length_eq_zero hl
    exact ⟨rfl, rfl, rfl, rfl, rfl⟩
  | succ n ih =>
    intro pre suf hl h
    obtain ⟨pre, z, rfl⟩ : ∃ p z, pre = p ++ [z] := ⟨pre.dropLast, pre.getLast (by intro e; rw [e] at hl; simp at hl), (List.dropLast_concat_getLast _).symm⟩
    simp at hl
    obtain ⟨i1, i2, i3, i4, i5⟩ := ih pre (z :: suf) hl (by rw [h]; simp)
    have hs : drOf ns (pre ++ [z]) = drStep ns (drOf ns pre) z := by simp [drOf, List.foldl_append]
    have hzp : z ∉ pre := by
      intro hz
      rw [h, List.append_assoc] at hd
      exact (List.nodup_append.1 hd).2.2 z hz z (by simp) rfl
    have first : ∀ k : Int, kdOf ns z.toNat = k → (kF ns k ks).take 1 = if (kF ns k pre).length = 0 then [z] else (kF ns k pre).take 1 := fun k hk => by
      have e : kF ns k ks = kF ns k pre ++ z :: kF ns k suf := by
        rw [h]; unfold kF
        rw [List.filter_append, List.filter_append]
        simp [hk]
      rw [e]
      cases hq : kF ns k pre with
      | nil => simp
      | cons y t => simp
    have other : ∀ k k' : Int, kdOf ns z.toNat = k → k ≠ k' → z ∉ (kF ns k' ks).take 1 := fun k k' hk hne hz => by
      have := (List.mem_filter.1 (List.mem_of_mem_take hz)).2
      simp at this
      exact hne (hk.symm.trans this)
    have hone : oneR ns ((kF ns 6 ks).take 1 ++ (kF ns 8 ks).take 1) z = if kdOf ns z.toNat = 9 then [(z, -1)] else if kdOf ns z.toNat = 6 then (if (kF ns 6 pre).length = 0 then [] else fndP ns 9 [z]) else if kdOf ns z.toNat = 8 then (if (kF ns 8 pre).length = 0 then [] else fndP ns 9 [z]) else if kdOf ns z.toNat = 7 then fndP ns 9 [z] else [] := by
      have notin : ∀ k : Int, (kF ns k pre).length ≠ 0 → z ∉ (kF ns k pre).take 1 := fun k _ hz => hzp (List.mem_filter.1 (List.mem_of_mem_take hz)).1
      unfold oneR
      by_cases k9 : kdOf ns z.toNat = 9
      · rw [if_pos k9, if_pos k9]
      · rw [if_neg k9, if_neg k9]
        by_cases k6 : kdOf ns z.toNat = 6
        · rw [if_pos (.inl k6), if_pos k6, first 6 k6]
          by_cases h0 : (kF ns 6 pre).length = 0
          · rw [if_pos h0, if_pos h0, if_pos (by simp)]
          · rw [if_neg h0, if_neg h0, if_neg]
            simp only [List.contains_iff_mem, List.mem_append, not_or]
            exact ⟨notin 6 h0, other 6 8 k6 (by decide)⟩
        · rw [if_neg k6]
          by_cases k8 : kdOf ns z.toNat = 8
          · rw [if_pos (.inr k8), if_pos k8, first 8 k8]
            by_cases h0 : (kF ns 8 pre).length = 0
            · rw [if_pos h0, if_pos h0, if_pos (by simp)]
            · rw [if_neg h0, if_neg h0, if_neg]
              simp only [List.contains_iff_mem, List.mem_append, not_or]
              exact ⟨other 8 6 k8 (by decide), notin 8 h0⟩
          · rw [if_neg (fun h => h.elim k6 k8), if_neg k8]
    rw [hs, kF_snoc, kF_snoc, List.flatMap_append]
    simp only [List.flatMap_cons, List.flatMap_nil, List.append_nil]
    rw [hone, ← i5]
    unfold drStep
    by_cases k9 : kdOf ns z.toNat = 9
    · simp [k9, i1, i2, i3, i4]
    · by_cases k6 : kdOf ns z.toNat = 6
      · rw [i3]
        by_cases h0 : (kF ns 6 pre).length = 0
        · have e0 : kF ns 6 pre = [] := List.eq_nil_of_length_eq_zero h0
          simp [k6, e0, i2, i4]
        · have e1 : (kF ns 6 pre ++ [z]).take 1 = (kF ns 6 pre).take 1 := by
            cases hq : kF ns 6 pre with
            | nil => rw [hq] at h0; simp at h0
            | cons y t => simp
          have h0' : ¬ kF ns 6 pre = [] := fun e => h0 (by rw [e]; rfl)
          simp [k6, h0', i1, i2, i3, i4, e1]
      · by_cases k8 : kdOf ns z.toNat = 8
        · rw [i4]
          by_cases h0 : (kF ns 8 pre).length = 0
          · have e0 : kF ns 8 pre = [] := List.eq_nil_of_length_eq_zero h0
            simp [k8, e0, i1, i3]
          · have e1 : (kF ns 8 pre ++ [z]).take 1 = (kF ns 8 pre).take 1 := by
              cases hq : kF ns 8 pre with
              | nil => rw [hq] at h0; simp at h0
              | cons y t => simp
            have h0' : ¬ kF ns 8 pre = [] := fun e => h0 (by rw [e]; rfl)
            simp [k8, h0', i1, i2, i3, i4, e1]
        · by_cases k7 : kdOf ns z.toNat = 7
          · simp [k7, i1, i2, i3, i4]
          · simp [k9, k6, k8, k7, i1, i2, i3, i4]
theorem dr_rows (ns : List Nd) (p : Int) (hd : (kfOf ns p).Nodup) : (drOf ns (kfOf ns p)).head ++ (drOf ns (kfOf ns p)).body ++ (drOf ns (kfOf ns p)).foot = rowsP ns p := by
  obtain ⟨h1, h2, _, _, h5⟩ := dr_pre ns (kfOf ns p) hd (kfOf ns p) [] (by simp)
  rw [h1, h2, h5]
  rfl
end Go.Proofs.Ytcgnldcdcbnofaa

namespace Go.Proofs.Ytcgnldcdcbnofaa
open Go.RowKit Go.Shelf
set_option linter.unusedVariables false
set_option linter.unusedSimpArgs false
attribute [local go_sem] Oper.semAt_some

/-- three lists that lie apart -/
def Own3 (B : Nat) (X : World) (a b c : Value) (H D F : List (Int × Int)) : Prop :=
  OwnL B X a H ∧ OwnL B X b D ∧ OwnL B X c F ∧ (∀ g, b.ownBlock = some g → a.ownBlock ≠ some g ∧ c.ownBlock ≠ some g) ∧ (∀ g, a.ownBlock = some g → c.ownBlock ≠ some g)
theorem OwnL.belowQ {B : Nat} {X Y : World} {v : Value} {E : List (Int × Int)} (h : OwnL B X v E) (hb : Below X.heap.size X Y) : OwnL B Y v E := own_same34 h fun g e => hb.block g (h.lt g e).2
theorem Own3.nil (B : Nat) (X : World) : Own3 B X (.slice none 0 0) (.slice none 0 0) (.slice none 0 0) [] [] [] :=
  ⟨World.ownsRow_nil _ _ _ _, World.ownsRow_nil _ _ _ _, World.ownsRow_nil _ _ _ _, (fun g h => (by cases h)), (fun g h => (by cases h))⟩
theorem Own3.below {B : Nat} {X Y : World} {a b c : Value} {H D F : List (Int × Int)} (h : Own3 B X a b c H D F) (hb : Below X.heap.size X Y) : Own3 B Y a b c H D F := ⟨h.1.belowQ hb, h.2.1.belowQ hb, h.2.2.1.belowQ hb, h.2.2.2⟩
theorem Own3.head {B : Nat} {X Y : World} {a b c v : Value} {H D F E : List (Int × Int)} (h : Own3 B X a b c H D F) (hb : Below X.heap.size X Y) (hv : OwnL X.heap.size Y v E) (hB : B ≤ X.heap.size) : Own3 B Y v b c E D F := by
  refine ⟨hv.mono hB, h.2.1.belowQ hb, h.2.2.1.belowQ hb, fun g hg => ⟨fun e => ?_, (h.2.2.2.1 g hg).2⟩, fun g hg e => ?_⟩
  · have h1 := (h.2.1.lt g hg).2; have h2 := (hv.lt g e).1; omega
  · have h1 := (h.2.2.1.lt g e).2; have h2 := (hv.lt g hg).1; omega
theorem Own3.foot {B : Nat} {X Y : World} {a b c v : Value} {H D F E : List (Int × Int)} (h : Own3 B X a b c H D F) (hb : Below X.heap.size X Y) (hv : OwnL X.heap.size Y v E) (hB : B ≤ X.heap.size) : Own3 B Y a b v H D E := by
  refine ⟨h.1.belowQ hb, h.2.1.belowQ hb, hv.mono hB, fun g hg => ⟨(h.2.2.2.1 g hg).1, fun e => ?_⟩, fun g hg e => ?_⟩
  · have h1 := (h.2.1.lt g hg).2; have h2 := (hv.lt g e).1; omega
  · have h1 := (h.1.lt g hg).2; have h2 := (hv.lt g e).1; omega
theorem kept_row {B e size n : Nat} {X Y : World} {v : Value} {xs : List Value} {row : Option Nat} (h : X.ownsRow B e size v n xs) (hg : X.grownBy Y row) (hn : ∀ g, row = some g → v.ownBlock ≠ some g) : Y.ownsRow B e size v n xs := by
  refine h.kept hg ?_
  cases hv : v.ownBlock with
  | none => exact .inl rfl
  | some g => exact .inr (fun e => hn g e.symm hv)
theorem Own3.app {B n : Nat} {X Y : World} {a b c v : Value} {H D F E : List (Int × Int)} (h : Own3 B X a b c H D F) (hn : n = D.length + E.length) (hv : Y.ownsRow B 70 2 v n (D.flatMap encL ++ E.flatMap encL)) (hg : X.grownBy Y b.ownBlock) (hb : v.ownBlock = b.ownBlock ∨ v.ownBlock = some X.heap.size) : Own3 B Y a v c H (D ++ E) F := by
  refine ⟨kept_row h.1 hg fun g e => (h.2.2.2.1 g e).1, ?_, kept_row h.2.2.1 hg fun g e => (h.2.2.2.1 g e).2, fun g e => ?_, h.2.2.2.2⟩
  · unfold OwnL; rw [List.length_append, List.flatMap_append, ← hn]; exact hv
  · rcases hb with hb | hb
    · exact h.2.2.2.1 g (by rw [← hb]; exact e)
    · rw [hb] at e
      injection e with e
      exact ⟨fun e' => by have := (h.1.lt g e').2; omega, fun e' => by have := (h.2.2.1.lt g e').2; omega⟩
theorem own_srcQ {B : Nat} {X : World} {v : Value} {E : List (Int × Int)} (h : OwnL B X v E) : ∃ q c, v = .slice q E.length c ∧ (q = none → E.length = 0) ∧ ∀ a, q = some a → ∀ j u, (E.flatMap encL)[j]? = some u → X.cell? (a.add j) = some u := by
  have hc := fun g (hg : v.ownBlock = some g) => World.ownsRow.cells h hg
  rcases h.2 with ⟨rfl, h0⟩ | ⟨g, cap, cur, rfl, _⟩
  · exact ⟨none, 0, by rw [h0], (fun _ => h0), (fun a ha => (by cases ha))⟩
  · exact ⟨some ⟨g, 0, none⟩, cap, rfl, (fun e => (by cases e)), (fun a ha j u hj => (by injection ha with ha; subst ha; exact hc g rfl j u hj))⟩
theorem own_cellsQ {B e size n l c : Nat} {X : World} {q : Option Addr} {xs : List Value} (h : X.ownsRow B e size (.slice q l c) n xs) : ∀ a, q = some a → ∀ j u, xs[j]? = some u → X.cell? (a.add j) = some u := by
  have hc := fun g (hg : (Value.slice q l c).ownBlock = some g) => World.ownsRow.cells h hg
  intro a ha j u hj
  subst ha
  rcases h.2 with ⟨e, h0⟩ | ⟨g, cap, cur, e, _⟩
  · cases e
  · injection e with e1
    injection e1 with e1
    subst e1
    exact hc g rfl j u hj
theorem lanes_one (E : List (Int × Int)) : ∀ u ∈ E.flatMap encL, u.oneCell' = true := fun u hu => by
  obtain ⟨x, _, hx⟩ := List.mem_flatMap.1 hu
  simp [encL] at hx
  rcases hx with rfl | rfl <;> rfl
theorem lanes_len (E : List (Int × Int)) : (E.flatMap encL).length = E.length * 2 := by
  induction E with
  | nil => rfl
  | cons x E ih => rw [List.flatMap_cons, List.length_append, ih]; simp [encL]; omega
theorem dr_len {ns : List Nd} (hO : PageOk ns) (ks : List Int) : ∀ k, k ≤ ks.length → (drOf ns (ks.take k)).body.length ≤ 70000 * k ∧ (drOf ns (ks.take k)).head.length ≤ 70000 ∧ (drOf ns (ks.take k)).foot.length ≤ 70000 ∧ (drOf ns (ks.take k)).nh ≤ k ∧ (drOf ns (ks.take k)).nf ≤ k
  | 0, _ => by simp [drOf, DR.zero]
  | k + 1, hk => by
    obtain ⟨h1, h2, h3, h4, h5⟩ := dr_len hO ks k (by omega)
    obtain ⟨z, hz⟩ : ∃ z, ks[k]? = some z := ⟨_, List.getElem?_eq_getElem (by omega)⟩
    rw [dr_snoc ns ks k z hz]
    have hf := fnd_one_few hO z
    unfold drStep
    split
    · refine ⟨?_, h2, h3, by dsimp only; omega, by dsimp only; omega⟩; simp; omega
    · split
      · split
        · exact ⟨by simp; omega, hf, h3, by dsimp only; omega, by dsimp only; omega⟩
        · refine ⟨?_, h2, h3, by dsimp only; omega, by dsimp only; omega⟩; simp; omega
      · split
        · split
          · exact ⟨by simp; omega, h2, hf, by dsimp only; omega, by dsimp only; omega⟩
          · refine ⟨?_, h2, h3, by dsimp only; omega, by dsimp only; omega⟩; simp; omega
        · split
          · refine ⟨?_, h2, h3, by dsimp only; omega, by dsimp only; omega⟩; simp; omega
          · exact ⟨by omega, h2, h3, by omega, by omega⟩
set_option maxRecDepth 100000 in
set_option maxHeartbeats 8000000 in
theorem refRows_at (b off cap m p : Nat) (ns : List Nd) (w : World) (hO : PageOk ns) (hm : ns.length = m) (hp : p < m) (h2 : m ≤ 65536) (hP : PageAt w (.slice (some ⟨b, off, none⟩) m cap) ns) (hK : ∀ n ∈ ns, n.ks.length ≤ 70000)
    (hL : ∀ n ∈ ns, ∀ z ∈ n.ks, 0 ≤ z ∧ z < (m : Int)) (hd : (kfOf ns (p : Int)).Nodup) :
    Calls Try.prog 21 #[.slice (some ⟨b, off, none⟩) m cap, .int .i64 p] w fun e W' => ∃ v, e = .returned v ∧ OwnL w.heap.size W' v (rowsP ns p) ∧ Below w.heap.size w W' := by
  obtain ⟨n, hn⟩ : ∃ n, ns[p]? = some n := ⟨_, List.getElem?_eq_getElem (by rw [hm]; exact hp)⟩
  have hmem : n ∈ ns := List.mem_iff_getElem?.2 ⟨p, hn⟩
  have hkf := kindK_ge ns p hn
  have hR := dr_rows ns (p : Int) hd
  rw [hkf] at hR
  rw [← hR]
  have HDL := Lib.hid (dr_len hO n.ks)
  have HFW := Lib.hid (fun z => fnd_one_few hO z)
  have HGR : Hid (∀ X : World, Below w.heap.size w X → ∀ g : Nat, g < m → Calls Try.prog 40 #[.slice (some ⟨b, off, none⟩) m cap, .int .i64 g] X fun e W' => ∃ v, e = .returned v ∧ OwnL X.heap.size W' v (fndP ns 9 [(g : Int)]) ∧ Below X.heap.size X W') :=
    Lib.hid fun X hX g hg => refGroup_at b off cap m g ns X hm hg h2 (hP.below hX) hK hL
  have hc : w.cell? ⟨b, off + p * 34 + 1, none⟩ = some n.kv ∧ Ints w n.kv n.ks ∧ b < w.heap.size := by
    obtain ⟨b', off', e, _, hc⟩ := page_cells hP (by omega)
    injection e with e; injection e with e1 e2
    subst e1 e2
    exact (hc p n hn).2
  obtain ⟨ck, hI, hb0⟩ := hc
  have hfew := hK n hmem
  have HLN := Lib.hid (hL n hmem)
  obtain ⟨qk, kc, hkv⟩ := hI.form
  rw [hkv] at ck hI
  obtain ⟨kl, hkl⟩ : ∃ kl, n.ks.length = kl := ⟨_, rfl⟩
  rw [hkl] at ck hfew hI
  have HI := Lib.hid hI
  have HKL := Lib.hid hkl
  have HCK := Lib.hid ck
  have HP := Lib.hid hP
  obtain ⟨i0, hi0, hz0', hz1', hz2'⟩ := info_parts Try.infoLane
  have HZ1 := Lib.hid hz0'
  have HZ2 := Lib.hid hz1'
  have HZ3 := Lib.hid hz2'
  clear hz0' hz1' hz2' hm hK hL hP hn hmem hI hkl ck hkv hkf hR hd hO
  go_enter Try.func21, Try.ntmps21
  go_wp2
  go_loopw [5, 6, 7, 8, 9, 10] (fun s5 s6 s7 s8 s9 s10 X => ∃ (k nh nf : Nat) (H D F : List (Int × Int)), k ≤ kl ∧ nh ≤ k ∧ nf ≤ k ∧ D.length ≤ 70000 * k ∧ s10 = .int .i64 k ∧ s8 = .int .i64 nh ∧ s9 = .int .i64 nf ∧ Hid (drOf ns (n.ks.take k) = ⟨H, D, F, nh, nf⟩) ∧ Hid (Own3 w.heap.size X s5 s6 s7 H D F) ∧ Hid (Below w.heap.size w X)) (fun _ _ _ _ _ s10 _ => kl - (intOf s10).toNat)
  case atStart => exact ⟨0, 0, 0, [], [], [], by omega, by omega, by omega, by simp, rfl, rfl, rfl, Lib.hid rfl, Lib.hid (Own3.nil _ _), Lib.hid (Below.refl _ _)⟩
  case round =>
    obtain ⟨k, nh, nf, H, D, F, hk, hnh, hnf, hDl, rfl, rfl, rfl, HS, HO, HB⟩ := hrel
    have dck := (HB.out.cell (p := ⟨b, off + p * 34 + 1, none⟩) hb0).trans HCK.out
    have hsz := HB.out.size
    by_cases hlt : k < kl
    · obtain ⟨y, hy⟩ : ∃ y, n.ks[k]? = some y := ⟨_, List.getElem?_eq_getElem (by rw [HKL.out]; exact hlt)⟩
      obtain ⟨qb, qo, rfl, cy, ly⟩ := ints_at0' HI.out k y hy
      have dcy := (HB.out.cell (p := ⟨qb, qo + k, none⟩) ly).trans cy
      obtain ⟨yr0, yr1⟩ := HLN.out y (List.mem_iff_getElem?.2 ⟨k, hy⟩)
      obtain ⟨yn, rfl⟩ : ∃ yn : Nat, y = (yn : Int) := ⟨y.toNat, by omega⟩
      have ckd := kd_at (HP.out.below HB.out) yn (by omega)
      have hs := dr_snoc ns n.ks k (yn : Int) hy
      rw [HS.out] at hs
      obtain ⟨hl1, _, _, hl4, hl5⟩ := HDL.out (k + 1) (by rw [HKL.out]; omega)
      have HG := HGR.out wr HB.out yn (by omega)
      have hfw := HFW.out (yn : Int)
      have HGG := Lib.hid HG
      unfold drStep at hs
      rw [Int.toNat_natCast] at hs
      clear hy cy HS HG
      by_cases k9 : kdOf ns yn = 9
      · rw [k9] at ckd
        rw [if_pos k9] at hs
        rw [hs] at hl1
        simp only at hl1
        clear HGG hl4 hl5 k9
        have hEE : True := trivial
        have O1 := Lib.hid (HO.out.below ((Below.refl _ wr).alloc (Nat.le_refl _) (.cells #[.int .i64 (yn : Int), .int .i64 (-1)] 70)))
        have B1 := Lib.hid (HB.out.alloc hsz (.cells #[.int .i64 (yn : Int), .int .i64 (-1)] 70))
        clear HO
        go_wp2_with (at_builtin; refine wpList_append_any rfl _ _ 66 rfl w.heap.size 70 i0 (.agg #[.int .i64 0, .int .i64 0]) 2 16 Try.underlying66 hi0 HZ1.out HZ2.out HZ3.out rfl (by decide) _ _ _ rfl O1.out.2.1 (some ⟨wr.heap.size, 0, none⟩) 1 1 ([((yn : Int), (-1 : Int))].flatMap encL) rfl rfl (fun h => by cases h) (fun a ha j u hj => by injection ha with ha; subst ha; exact lay_new wr [.int .i64 (yn : Int), .int .i64 (-1)] 70 wr.heap.size rfl j u hj) (lanes_one _) (by unfold maxLen; omega) (by omega) B1.out.size ?_; intro v2 w2 ho2 hg2 hv2; have O2 := Lib.hid (O1.out.app (E := [((yn : Int), (-1 : Int))]) rfl ho2 hg2 hv2); have B2 := Lib.hid (B1.out.grown hg2 B1.out.size (fun g e => (O1.out.2.1.lt g e).1)); clear ho2 hg2 hv2 O1 B1 HB)
        go_roundw
        case rel => exact ⟨k + 1, nh, nf, _, _, _, by omega, by omega, by omega, hl1, by go_num, by go_num, by go_num, Lib.hid hs, O2, B2⟩
        case measure => (simp [intOf]; try omega)
      · by_cases k6 : kdOf ns yn = 6
        · rw [k6] at ckd
          rw [if_neg k9, if_pos k6] at hs
          by_cases h0 : nh = 0
          · subst h0
            rw [if_pos rfl] at hs
            rw [hs] at hl1
            simp only at hl1
            have hEE : True := trivial
            clear k9 k6
            go_wp2_with (go_at_call 40; refine HGG.out.mono ?_; clear HGG; rintro e w1 ⟨v1, rfl, o1, b1⟩; have O2 := Lib.hid (HO.out.head b1 o1 HB.out.size); have B2 := Lib.hid (HB.out.trans (b1.mono HB.out.size)); clear o1 b1 HO HB)
            go_roundw
            case rel => exact ⟨k + 1, 0 + 1, nf, _, _, _, by omega, by omega, by omega, hl1, by go_num, by go_num, by go_num, Lib.hid hs, O2, B2⟩
            case measure => (simp [intOf]; try omega)
          · have g0 : ((nh : Int) == 0) = false := by simp; omega
            rw [if_neg h0] at hs
            rw [hs] at hl1
            simp only at hl1
            clear k9 k6
            go_wp2_with (first
              | (go_at_call 40; refine HGG.out.mono ?_; clear HGG; rintro e w1 ⟨v1, rfl, o1, b1⟩; obtain ⟨q1, c1, hv1, n1, s1⟩ := own_srcQ o1; subst hv1; have O1 := Lib.hid (HO.out.below b1); have B1 := Lib.hid (HB.out.trans (b1.mono HB.out.size)); have S1 := Lib.hid s1; clear o1 b1 s1 HO HB; generalize hEE : fndP ns 9 [(yn : Int)] = E at *)
              | (at_builtin; refine wpList_append_any rfl _ _ 66 rfl w.heap.size 70 i0 (.agg #[.int .i64 0, .int .i64 0]) 2 16 Try.underlying66 hi0 HZ1.out HZ2.out HZ3.out rfl (by decide) _ _ _ rfl O1.out.2.1 q1 E.length c1 (E.flatMap encL) rfl (lanes_len E) n1 S1.out (lanes_one E) (by unfold maxLen; omega) (by omega) B1.out.size ?_; intro v2 w2 ho2 hg2 hv2; have O2 := Lib.hid (O1.out.app rfl ho2 hg2 hv2); have B2 := Lib.hid (B1.out.grown hg2 B1.out.size (fun g e => (O1.out.2.1.lt g e).1)); clear ho2 hg2 hv2 O1 B1 S1 n1))
            go_roundw
            case rel => exact ⟨k + 1, nh + 1, nf, _, _, _, by omega, by omega, by omega, hl1, by go_num, by go_num, by go_num, Lib.hid hs, O2, B2⟩
            case measure => (simp [intOf]; try omega)
        · by_cases k8 : kdOf ns yn = 8
          · rw [k8] at ckd
            rw [if_neg k9, if_neg k6, if_pos k8] at hs
            by_cases h0 : nf = 0
            · subst h0
              rw [if_pos rfl] at hs
              rw [hs] at hl1
              simp only at hl1
              have hEE : True := trivial
              clear k9 k6 k8
              go_wp2_with (go_at_call 40; refine HGG.out.mono ?_; clear HGG; rintro e w1 ⟨v1, rfl, o1, b1⟩; have O2 := Lib.hid (HO.out.foot b1 o1 HB.out.size); have B2 := Lib.hid (HB.out.trans (b1.mono HB.out.size)); clear o1 b1 HO HB)
              go_roundw
              case rel => exact ⟨k + 1, nh, 0 + 1, _, _, _, by omega, by omega, by omega, hl1, by go_num, by go_num, by go_num, Lib.hid hs, O2, B2⟩
              case measure => (simp [intOf]; try omega)
            · have g0 : ((nf : Int) == 0) = false := by simp; omega
              rw [if_neg h0] at hs
              rw [hs] at hl1
              simp only at hl1
              clear k9 k6 k8
              go_wp2_with (first
                | (go_at_call 40; refine HGG.out.mono ?_; clear HGG; rintro e w1 ⟨v1, rfl, o1, b1⟩; obtain ⟨q1, c1, hv1, n1, s1⟩ := own_srcQ o1; subst hv1; have O1 := Lib.hid (HO.out.below b1); have B1 := Lib.hid (HB.out.trans (b1.mono HB.out.size)); have S1 := Lib.hid s1; clear o1 b1 s1 HO HB; generalize hEE : fndP ns 9 [(yn : Int)] = E at *)
                | (at_builtin; refine wpList_append_any rfl _ _ 66 rfl w.heap.size 70 i0 (.agg #[.int .i64 0, .int .i64 0]) 2 16 Try.underlying66 hi0 HZ1.out HZ2.out HZ3.out rfl (by decide) _ _ _ rfl O1.out.2.1 q1 E.length c1 (E.flatMap encL) rfl (lanes_len E) n1 S1.out (lanes_one E) (by unfold maxLen; omega) (by omega) B1.out.size ?_; intro v2 w2 ho2 hg2 hv2; have O2 := Lib.hid (O1.out.app rfl ho2 hg2 hv2); have B2 := Lib.hid (B1.out.grown hg2 B1.out.size (fun g e => (O1.out.2.1.lt g e).1)); clear ho2 hg2 hv2 O1 B1 S1 n1))
              go_roundw
              case rel => exact ⟨k + 1, nh, nf + 1, _, _, _, by omega, by omega, by omega, hl1, by go_num, by go_num, by go_num, Lib.hid hs, O2, B2⟩
              case measure => (simp [intOf]; try omega)
          · by_cases k7 : kdOf ns yn = 7
            · rw [k7] at ckd
              rw [if_neg k9, if_neg k6, if_neg k8, if_pos k7] at hs
              rw [hs] at hl1
              simp only at hl1
              clear k9 k6 k8 k7
              go_wp2_with (first
                | (go_at_call 40; refine HGG.out.mono ?_; clear HGG; rintro e w1 ⟨v1, rfl, o1, b1⟩; obtain ⟨q1, c1, hv1, n1, s1⟩ := own_srcQ o1; subst hv1; have O1 := Lib.hid (HO.out.below b1); have B1 := Lib.hid (HB.out.trans (b1.mono HB.out.size)); have S1 := Lib.hid s1; clear o1 b1 s1 HO HB; generalize hEE : fndP ns 9 [(yn : Int)] = E at *)
                | (at_builtin; refine wpList_append_any rfl _ _ 66 rfl w.heap.size 70 i0 (.agg #[.int .i64 0, .int .i64 0]) 2 16 Try.underlying66 hi0 HZ1.out HZ2.out HZ3.out rfl (by decide) _ _ _ rfl O1.out.2.1 q1 E.length c1 (E.flatMap encL) rfl (lanes_len E) n1 S1.out (lanes_one E) (by unfold maxLen; omega) (by omega) B1.out.size ?_; intro v2 w2 ho2 hg2 hv2; have O2 := Lib.hid (O1.out.app rfl ho2 hg2 hv2); have B2 := Lib.hid (B1.out.grown hg2 B1.out.size (fun g e => (O1.out.2.1.lt g e).1)); clear ho2 hg2 hv2 O1 B1 S1 n1))
              go_roundw
              case rel => exact ⟨k + 1, nh, nf, _, _, _, by omega, by omega, by omega, hl1, by go_num, by go_num, by go_num, Lib.hid hs, O2, B2⟩
              case measure => (simp [intOf]; try omega)
            · rw [if_neg k9, if_neg k6, if_neg k8, if_neg k7] at hs
              rw [hs] at hl1
              simp only at hl1
              have g9 : (kdOf ns yn == 9) = false := by simpa using k9
              have g6 : (kdOf ns yn == 6) = false := by simpa using k6
              have g8 : (kdOf ns yn == 8) = false := by simpa using k8
              have g7 : (kdOf ns yn == 7) = false := by simpa using k7
              clear k9 k6 k8 k7 HGG
              have O2 := HO
              have B2 := HB
              go_wp2
              go_roundw
              case rel => exact ⟨k + 1, nh, nf, _, _, _, by omega, by omega, by omega, hl1, by go_num, rfl, rfl, Lib.hid hs, O2, B2⟩
              case measure => (simp [intOf]; try omega)
    · obtain rfl : kl = k := by omega
      have hs := HS.out
      rw [List.take_of_length_le (by rw [HKL.out]; exact Nat.le_refl _)] at hs
      obtain ⟨_, hlh, hlf, _, _⟩ := HDL.out kl (by rw [HKL.out]; exact Nat.le_refl _)
      rw [HS.out] at hlh hlf
      simp only at hlh hlf
      have HS2 := Lib.hid hs
      obtain ⟨q6, c6, hv6, n6, s6⟩ := own_srcQ HO.out.2.1
      obtain ⟨q7, c7, hv7, n7, s7⟩ := own_srcQ HO.out.2.2.1
      subst hv6 hv7
      have S6 := Lib.hid s6
      clear s6 s7 HS hs
      go_wp2_with (first
        | (at_builtin; refine wpList_append_any rfl _ _ 66 rfl w.heap.size 70 i0 (.agg #[.int .i64 0, .int .i64 0]) 2 16 Try.underlying66 hi0 HZ1.out HZ2.out HZ3.out rfl (by decide) _ _ _ rfl HO.out.1 q6 D.length c6 (D.flatMap encL) rfl (lanes_len D) n6 S6.out (lanes_one D) (by unfold maxLen; omega) (by omega) HB.out.size ?_; intro v2 w2 ho2 hg2 hv2; have O7 := Lib.hid (kept_row HO.out.2.2.1 hg2 (fun g e => HO.out.2.2.2.2 g e)); have S7 := Lib.hid (own_cellsQ O7.out); have O2 := Lib.hid ho2; have B2 := Lib.hid (HB.out.grown hg2 HB.out.size (fun g e => (HO.out.1.lt g e).1)); clear ho2 hg2 hv2 S6 HO HB)
        | (at_builtin; refine wpList_append_any rfl _ _ 66 rfl w.heap.size 70 i0 (.agg #[.int .i64 0, .int .i64 0]) 2 16 Try.underlying66 hi0 HZ1.out HZ2.out HZ3.out rfl (by decide) _ _ _ rfl O2.out q7 F.length c7 (F.flatMap encL) rfl (lanes_len F) n7 S7.out (lanes_one F) (by unfold maxLen; omega) (by omega) B2.out.size ?_; intro v3 w3 ho3 hg3 hv3; have O3 := Lib.hid ho3; have B3 := Lib.hid (B2.out.grown hg3 B2.out.size (fun g e => (O2.out.lt g e).1)); clear ho3 hg3 hv3 S7 O2 B2 O7))
      go_ret
      refine ⟨_, rfl, ?_, B3.out⟩
      rw [HS2.out]
      unfold OwnL
      simp only
      rw [List.length_append, List.length_append, List.flatMap_append, List.flatMap_append]
      exact O3.out
end Go.Proofs.Ytcgnldcdcbnofaa

namespace Go.Proofs.Ytcgnldcdcbnofaa
open Go.RowKit Go.Shelf
set_option linter.unusedVariables false
set_option linter.unusedSimpArgs false
attribute [local go_sem] Oper.semAt_some

theorem sp_eqlC (a b c : Int) (X : World) : (binOp .neq 48 (.agg #[.int .i64 a, .int .i64 b, .int .i64 c]) (.agg #[.int .i64 a, .int .i64 b, .int .i64 c])).run Try.prog X = .ok (.bool false) X := by go_simp
theorem nodup_inC {α : Type} [DecidableEq α] : ∀ (l m : List α), l.Nodup → (∀ z ∈ l, z ∈ m) → l.length ≤ m.length
  | [], m, _, _ => Nat.zero_le _
  | x :: l, m, hn, hs => by
    have hx := hs x (by simp)
    have h := nodup_inC l (m.erase x) (List.nodup_cons.1 hn).2 fun z hz => by
      have hne : z ≠ x := fun e => (List.nodup_cons.1 hn).1 (e ▸ hz)
      exact (List.mem_erase_of_ne hne).2 (hs z (by simp [hz]))
    rw [List.length_erase_of_mem hx] at h
    have := List.length_pos_of_mem hx
    simp; omega
theorem rows_inC {ns : List Nd} (hO : PageOk ns) (p : Int) : ∀ x ∈ rowsP ns p, 0 ≤ x.1 ∧ x.1 < (ns.length : Int) := fun x hx => by
  obtain ⟨_, ⟨_, h⟩ | ⟨_, _, h⟩⟩ := rows_mem hx
  · exact kf_link hO h
  · exact kf_link hO h
theorem rows_fewC {ns : List Nd} (h : Tr ns) (hO : PageOk ns) {p : Nat} (hk : kdOf ns p = 2) : (rowsP ns p).length ≤ ns.length := by
  have hn : ((rowsP ns p).map Prod.fst).Nodup := List.nodup_iff_count.2 fun z => rows_once h hO hk z
  have hl := nodup_inC _ ((List.range ns.length).map Int.ofNat) hn (fun z hz => by
    obtain ⟨x, hx, rfl⟩ := List.mem_map.1 hz
    obtain ⟨h1, h2⟩ := rows_inC hO p x hx
    obtain ⟨n, hn'⟩ := Int.eq_ofNat_of_zero_le h1
    rw [hn'] at h2 ⊢
    exact List.mem_map.2 ⟨n, List.mem_range.2 (by omega), rfl⟩)
  rw [List.length_map, List.length_map, List.length_range] at hl
  exact hl
set_option maxRecDepth 100000 in
set_option maxHeartbeats 2000000 in
theorem sameRows_same (p p' : Option Addr) (nR c c' : Nat) (hv hv' : Nat → Value) (rows : List (List Sp)) (w : World) (h : RowsIn w.heap.size w (.slice p nR c) hv rows) (h' : RowsIn w.heap.size w (.slice p' nR c') hv' rows) (hn : rows.length = nR) (hl : nR ≤ 100000) (hr : ∀ r ∈ rows, r.length ≤ 100000) :
    Calls Try.prog 10 #[.slice p nR c, .slice p' nR c'] w fun e W' => e = .returned (.bool true) ∧ Below w.heap.size w W' := by
  have HA := Lib.hid h
  have HB := Lib.hid h'
  have HN := Lib.hid hn
  have HR := Lib.hid hr
  clear h h' hn hr
  go_enter Try.func10, Try.ntmps10
  go_wp2
  go_loopw [5] (fun s5 X => ∃ i : Nat, i ≤ nR ∧ s5 = .int .i64 (i : Int) ∧ Hid (Below w.heap.size w X)) (fun s5 _ => nR - (intOf s5).toNat)
  case atStart => exact ⟨0, Nat.zero_le _, rfl, Lib.hid (Below.refl _ _)⟩
  case round =>
    obtain ⟨i, hi, rfl, HX⟩ := hrel
    by_cases hlt : i < nR
    · obtain ⟨row, hrow⟩ : ∃ row, rows[i]? = some row := ⟨_, List.getElem?_eq_getElem (by rw [HN.out]; exact hlt)⟩
      obtain ⟨ba, oa, hpa, lba, ca, ra⟩ := HA.out.at i row hrow
      obtain ⟨bb, ob, hpb, lbb, cb, rb⟩ := HB.out.at i row hrow
      subst hpa hpb
      obtain ⟨qa, cpa, hva⟩ := ra.form
      obtain ⟨qb, cpb, hvb⟩ := rb.form
      obtain ⟨rl, hrl⟩ : ∃ rl, row.length = rl := ⟨_, rfl⟩
      have hrl1 : rl ≤ 100000 := by rw [← hrl]; exact HR.out row (List.mem_iff_getElem?.2 ⟨i, hrow⟩)
      rw [hrl] at hva hvb
      rw [hva] at ca ra
      rw [hvb] at cb rb
      have HRA := Lib.hid ra
      have HRB := Lib.hid rb
      have HRL := Lib.hid hrl
      have lw := HX.out.size
      have e0 := (HX.out.cell (p := ⟨ba, oa + i, none⟩) lba).trans ca
      have e1 := (HX.out.cell (p := ⟨bb, ob + i, none⟩) lbb).trans cb
      have l0 : ba < wr.heap.size := by omega
      have l1 : bb < wr.heap.size := by omega
      have HCA := Lib.hid ca
      have HCB := Lib.hid cb
      clear hrow hva hvb hrl ca cb ra rb lw
      go_wp2
      go_quiet (fail)
      go_wp2
      have HXD := Lib.hid (HX.out.trans (below_dn w.heap.size wr nq))
      clear e0 e1 l0 l1 HX
      generalize wr.drewN nq = wd at HXD ⊢
      go_loopw [6] (fun s6 X => ∃ k : Nat, k ≤ rl ∧ s6 = .int .i64 (k : Int) ∧ Hid (Below w.heap.size w X)) (fun s6 _ => rl - (intOf s6).toNat)
      case atStart => exact ⟨0, Nat.zero_le _, rfl, HXD⟩
      case round =>
        clear HXD
        obtain ⟨k, hk, rfl, HX⟩ := hrel
        have lw := HX.out.size
        have e0 := (HX.out.cell (p := ⟨ba, oa + i, none⟩) lba).trans HCA.out
        have e1 := (HX.out.cell (p := ⟨bb, ob + i, none⟩) lbb).trans HCB.out
        have l0 : ba < wr.heap.size := by omega
        have l1 : bb < wr.heap.size := by omega
        by_cases hlk : k < rl
        · obtain ⟨x, hx⟩ : ∃ x, row[k]? = some x := ⟨_, List.getElem?_eq_getElem (by rw [HRL.out]; exact hlk)⟩
          obtain ⟨xa, xo, hqa, lxa, xn, xc, xr⟩ := HRA.out.at k x hx
          obtain ⟨ya, yo, hqb, lya, yn, yc, yr⟩ := HRB.out.at k x hx
          subst hqa hqb
          obtain ⟨sn, sc, sr⟩ := x
          dsimp only at xn xc xr yn yc yr
          have f0 := (HX.out.cell (p := ⟨xa, xo + k * 3, none⟩) lxa).trans xn
          have f1 := (HX.out.cell (p := ⟨xa, xo + k * 3 + 1, none⟩) lxa).trans xc
          have f2 := (HX.out.cell (p := ⟨xa, xo + k * 3 + 2, none⟩) lxa).trans xr
          have g0 := (HX.out.cell (p := ⟨ya, yo + k * 3, none⟩) lya).trans yn
          have g1 := (HX.out.cell (p := ⟨ya, yo + k * 3 + 1, none⟩) lya).trans yc
          have g2 := (HX.out.cell (p := ⟨ya, yo + k * 3 + 2, none⟩) lya).trans yr
          have m0 : xa < wr.heap.size := by omega
          have m1 : ya < wr.heap.size := by omega
          have hE : ∀ X : World, (binOp .neq 48 (.agg #[.int .i64 sn, .int .i64 sc, .int .i64 sr]) (.agg #[.int .i64 sn, .int .i64 sc, .int .i64 sr])).run Try.prog X = .ok (.bool false) X := fun X => sp_eqlC sn sc sr X
          clear hx xn xc xr yn yc yr lw
          go_wp2
          go_quiet (fail)
          go_wp2
          go_roundw
          case rel => exact ⟨k + 1, by omega, by go_num, Lib.hid (HX.out.trans (below_dn _ _ _))⟩
          case measure => simp [intOf]; omega
        · clear lw
          go_wp2
          go_roundw
          case rel => exact ⟨i + 1, by omega, by go_num, HX⟩
          case measure => simp [intOf]; omega
    · go_wp2
      go_ret
      exact ⟨rfl, HX.out⟩
end Go.Proofs.Ytcgnldcdcbnofaa
