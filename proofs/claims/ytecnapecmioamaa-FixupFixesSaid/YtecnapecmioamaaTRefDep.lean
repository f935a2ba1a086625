/- The document's parents and depths of a page. -/
import Derived.Test.YtecnapecmioamaaTRec
namespace Go.Proofs.Ytecnapecmioamaa
open Go.RowKit Go.Shelf
set_option linter.unusedVariables false
set_option linter.unusedSimpArgs false
attribute [local go_sem] Oper.semAt_some

theorem NoStray.tr0 {ns : List Nd} (F : NoStray ns) : Tr0 ns := by
  have hk0 : ∀ z ∈ kidsOf ns, 0 ≤ z := fun z hz => by
    obtain ⟨a, ha, hz'⟩ := List.mem_flatMap.1 hz
    have := F.link a ha z hz'; omega
  refine ⟨F.link, fun j h1 h2 => ?_⟩
  have hs := F.stray
  rw [List.any_eq_false] at hs
  have hl : j < (tms ns.length (kidsOf ns)).length := by rw [tms_len]; exact h2
  have hd : j < (depthsP ns).length := by unfold depthsP; rw [depL_len]; exact h2
  have h3 := hs ((tms ns.length (kidsOf ns))[j], (depthsP ns)[j]) (List.mem_iff_getElem?.2 ⟨j, by rw [List.getElem?_eq_getElem (by simp; omega)]; simp⟩)
  simp [strayB] at h3
  have ht := tms_get ns.length (kidsOf ns) hk0 j h2
  rw [List.getElem?_eq_getElem hl] at ht
  simp only [Option.getD_some] at ht
  rw [h3.1, if_neg (by omega)] at ht
  omega
set_option maxRecDepth 100000 in
set_option maxHeartbeats 4000000 in
theorem refParents_at (b off cap m : Nat) (ns : List Nd) (w : World) (hm : ns.length = m) (h1 : 1 ≤ m) (h2 : m ≤ 65536) (hP : PageAt w (.slice (some ⟨b, off, none⟩) m cap) ns) (hK : ∀ n ∈ ns, n.ks.length ≤ 70000)
    (hL : ∀ n ∈ ns, ∀ z ∈ n.ks, 1 ≤ z ∧ z < (m : Int)) :
    Calls Try.prog 40 #[.slice (some ⟨b, off, none⟩) m cap] w fun e W' => e = .returned (.slice (some ⟨w.heap.size, 0, none⟩) m m) ∧ Whole W' w.heap.size 3 ((parentsP ns).map (Value.int .i64)) ∧ Below w.heap.size w W' := by
  have HC : Hid (∀ (j : Nat) (n : Nd), ns[j]? = some n → w.cell? ⟨b, off + j * 34 + 1, none⟩ = some n.kv ∧ Ints w n.kv n.ks ∧ b < w.heap.size) := Lib.hid (by
    obtain ⟨b', off', e, _, hc⟩ := page_cells hP h1
    injection e with e; injection e with e1 e2
    subst e1 e2
    exact fun j n hn => (hc j n hn).2)
  have HM := Lib.hid hm
  have HKF := Lib.hid hK
  have HLI := Lib.hid hL
  have hmk := make_ints m (by omega)
  have q1 : (Array.replicate m (Value.int .i64 0))[0]? = some (.int .i64 0) := by rw [Array.getElem?_replicate, if_pos (by omega)]
  clear hm hK hL hP
  go_enter Try.func40, Try.ntmps40
  go_wp2
  obtain ⟨W4, hW4⟩ : ∃ W4, w.alloc (.cells ((Array.replicate m (Value.int .i64 0)).setIfInBounds 0 (.int .i64 (-1))) 3) = W4 := ⟨_, rfl⟩
  have k4 : Whole W4 w.heap.size 3 ((parL m (pairsOf (ns.take 0))).map (Value.int .i64)) := by
    rw [← hW4, show (Array.replicate m (Value.int .i64 0)).setIfInBounds 0 (.int .i64 (-1)) = ((parL m (pairsOf (ns.take 0))).map (Value.int .i64)).toArray from by
      apply Array.toList_inj.1
      simp [parL, pairsOf, List.map_set]]
    exact whole_new w _ 3 _ rfl
  have b4 : Below w.heap.size w W4 := by rw [← hW4]; exact (Below.refl _ w).alloc (Nat.le_refl _) _
  have HI : Hid (Whole W4 w.heap.size 3 ((parL m (pairsOf (ns.take 0))).map (Value.int .i64)) ∧ Below w.heap.size w W4) := Lib.hid ⟨k4, b4⟩
  rw [hW4]
  clear hW4 k4 b4 hmk q1
  go_loopw [4] (fun s4 X => ∃ i : Nat, i ≤ m ∧ s4 = .int .i64 i ∧ Hid (Whole X w.heap.size 3 ((parL m (pairsOf (ns.take i))).map (Value.int .i64)) ∧ Below w.heap.size w X)) (fun s4 _ => m - (intOf s4).toNat)
  case atStart => exact ⟨0, by omega, rfl, HI⟩
  case round =>
    obtain ⟨i, hi, rfl, HX⟩ := hrel
    clear HI
    by_cases hlt : i < m
    · obtain ⟨n, hn⟩ : ∃ n, ns[i]? = some n := ⟨_, List.getElem?_eq_getElem (by rw [HM.out]; exact hlt)⟩
      have hmem : n ∈ ns := List.mem_iff_getElem?.2 ⟨i, hn⟩
      obtain ⟨ck, hI, hb0⟩ := HC.out i n hn
      have hfew := HKF.out n hmem
      have HLN := Lib.hid (HLI.out n hmem)
      obtain ⟨qk, kc, hkv⟩ := hI.form
      rw [hkv] at ck hI
      obtain ⟨kl, hkl⟩ : ∃ kl, n.ks.length = kl := ⟨_, rfl⟩
      rw [hkl] at ck hfew hI
      have HI := Lib.hid hI
      have HKL := Lib.hid hkl
      have HCK := Lib.hid ck
      have HN := Lib.hid hn
      have HS : Hid (pairsOf (ns.take (i + 1)) = pairsOf (ns.take i) ++ n.ks.map (fun z => (z, i))) := Lib.hid (pairs_snoc ns i n hn)
      clear hI hkl ck hn hkv hmem
      go_wp2
      go_loopw [5] (fun s5 X => ∃ k : Nat, k ≤ kl ∧ s5 = .int .i64 k ∧ Hid (Whole X w.heap.size 3 ((parL m (pairsOf (ns.take i) ++ (n.ks.take k).map (fun z => (z, i)))).map (Value.int .i64)) ∧ Below w.heap.size w X)) (fun s5 _ => kl - (intOf s5).toNat)
      case atStart => exact ⟨0, by omega, rfl, by simpa using HX⟩
      case round =>
        obtain ⟨k, hk, rfl, HY⟩ := hrel
        obtain ⟨y1, y2⟩ := HY.out
        have dck := (y2.cell (p := ⟨b, off + i * 34 + 1, none⟩) hb0).trans HCK.out
        by_cases hlt2 : k < kl
        · obtain ⟨y, hy⟩ : ∃ y, n.ks[k]? = some y := ⟨_, List.getElem?_eq_getElem (by rw [HKL.out]; exact hlt2)⟩
          obtain ⟨qb, qo, rfl, cy, ly⟩ := ints_at0' HI.out k y hy
          have dcy := (y2.cell (p := ⟨qb, qo + k, none⟩) ly).trans cy
          obtain ⟨yr0, yr1⟩ := HLN.out y (List.mem_iff_getElem?.2 ⟨k, hy⟩)
          obtain ⟨yn, rfl⟩ : ∃ yn : Nat, y = (yn : Int) := ⟨y.toNat, by omega⟩
          have fm := y1.free yn
          have cg : ∃ v, wr.cell? ⟨w.heap.size, yn, none⟩ = some v := by
            rw [y1.cellAt, List.getElem?_map]
            exact ⟨_, by rw [List.getElem?_eq_getElem (by rw [parL_len]; omega)]; rfl⟩
          obtain ⟨v0, cg⟩ := cg
          have S1 : Hid (Whole (wr.setCell ⟨w.heap.size, yn, none⟩ (.int .i64 i)) w.heap.size 3 ((parL m (pairsOf (ns.take i) ++ (n.ks.take (k + 1)).map (fun z => (z, i)))).map (Value.int .i64)) ∧ Below w.heap.size w (wr.setCell ⟨w.heap.size, yn, none⟩ (.int .i64 i))) := Lib.hid (by
            refine ⟨?_, y2.setCell (p := ⟨w.heap.size, yn, none⟩) (Nat.le_refl _) _⟩
            have := y1.set yn (.int .i64 i)
            rw [List.take_add_one, hy, List.map_append, ← List.append_assoc]
            simp only [Option.toList_some, List.map_cons, List.map_nil]
            rw [parL_snoc, List.map_set, Int.toNat_natCast]
            exact this)
          clear y1 y2 HY hy cy
          go_wp2
          go_roundw
          case rel => exact ⟨k + 1, by omega, by go_num, S1⟩
          case measure => (simp [intOf]; try omega)
        · obtain rfl : k = kl := by omega
          clear y1 y2
          have HY2 : Hid (Whole wr w.heap.size 3 ((parL m (pairsOf (ns.take (i + 1)))).map (Value.int .i64)) ∧ Below w.heap.size w wr) := by
            have := HY.out
            rw [List.take_of_length_le (l := n.ks) (by rw [HKL.out]; exact Nat.le_refl _), ← HS.out] at this
            exact Lib.hid this
          go_wp2
          exact ⟨⟨i + 1, by omega, rfl, HY2⟩, by (simp [intOf]; try omega)⟩
    · obtain rfl : i = m := by omega
      have hfin := HX.out
      rw [List.take_of_length_le (by rw [HM.out]; exact Nat.le_refl _)] at hfin
      have HE := Lib.hid hfin
      clear hfin HX
      go_wp2
      go_ret
      refine ⟨rfl, ?_, HE.out.2⟩
      unfold parentsP
      rw [HM.out]
      exact HE.out.1
/-- depths that are known so far -/
def depD (d : List Int) (o : List Int) (m : Nat) : List Int := o.foldl (fun D z => D.set z.toNat (d[z.toNat]?.getD 0)) (List.replicate m 0)
theorem depD_len (d o : List Int) (m : Nat) : (depD d o m).length = m := by
  unfold depD
  suffices ∀ (o D : List Int), (o.foldl (fun D z => D.set z.toNat (d[z.toNat]?.getD 0)) D).length = D.length by rw [this]; simp
  intro o
  induction o with
  | nil => intro D; rfl
  | cons z o ih => intro D; rw [List.foldl_cons, ih]; simp
theorem depD_snoc (d o : List Int) (m : Nat) (z : Int) : depD d (o ++ [z]) m = (depD d o m).set z.toNat (d[z.toNat]?.getD 0) := by simp [depD, List.foldl_append]
theorem depD_get (d : List Int) (m : Nat) (o : List Int) (j : Nat) (hj : j < m) (h : ∃ z ∈ o, z.toNat = j) : (depD d o m)[j]? = some (d[j]?.getD 0) := by
  suffices ∀ (o D : List Int), j < D.length → ((∃ z ∈ o, z.toNat = j) ∨ D[j]? = some (d[j]?.getD 0)) → (o.foldl (fun D z => D.set z.toNat (d[z.toNat]?.getD 0)) D)[j]? = some (d[j]?.getD 0) from this o _ (by simp; exact hj) (.inl h)
  intro o
  induction o with
  | nil => intro D _ h; rcases h with ⟨z, hz, _⟩ | h; cases hz; exact h
  | cons z o ih =>
    intro D hD h
    rw [List.foldl_cons]
    refine ih _ (by simp; exact hD) ?_
    by_cases e : z.toNat = j
    · right; subst e; rw [List.getElem?_set_self hD]
    · rcases h with ⟨y, hy, hyj⟩ | h
      · rcases List.mem_cons.1 hy with h1 | h1
        · subst h1; exact absurd hyj e
        · exact .inl ⟨y, h1, hyj⟩
      · right; rw [List.getElem?_set_ne e]; exact h
theorem Ords0.bound {m : Nat} {o d p : List Int} (h : Ords0 m o d p) : ∀ (k i : Nat), o[k]? = some (i : Int) → d[i]?.getD 0 ≤ (k : Int) + 1 := by
  intro k
  induction k using Nat.strongRecOn with
  | _ k ih =>
    intro i hk
    by_cases h0 : i = 0
    · subst h0; rw [h.d0]; simp; omega
    · obtain ⟨j, q, e, h1, h2, h3, h4, h5, h6⟩ := h.up k i hk (by omega)
      have := ih j h1 q h2
      omega
theorem depD_all {m : Nat} {o d p : List Int} (h : Ords0 m o d p) : depD d o m = d := by
  apply List.ext_getElem?
  intro j
  by_cases hj : j < m
  · rw [depD_get d m o j hj ⟨(j : Int), h.all j hj, by simp⟩, List.getElem?_eq_getElem (by rw [h.ld]; exact hj)]; rfl
  · rw [List.getElem?_eq_none_iff.2 (by rw [depD_len]; omega), List.getElem?_eq_none_iff.2 (by rw [h.ld]; omega)]
/-- the worlds in which it computes -/
def DW (g gp m i : Nat) (w X : World) (d o p : List Int) (ov : Value) : Prop :=
  Whole X g 3 ((depD d (o.take i) m).map (Value.int .i64)) ∧ Whole X gp 3 (p.map (Value.int .i64)) ∧ Ints X ov o ∧ Below w.heap.size w X
theorem DW.step {gp m i : Nat} {w X : World} {d o p : List Int} {ov : Value} (h : DW w.heap.size gp m i w X d o p ov) (hA : Apart w.heap.size ov o) (hne : gp ≠ w.heap.size) (z : Nat) (hz : o[i]? = some (z : Int)) (v : Int) (hv : v = d[z]?.getD 0) :
    DW w.heap.size gp m (i + 1) w (X.setCell ⟨w.heap.size, z, none⟩ (.int .i64 v)) d o p ov := by
  obtain ⟨h1, h2, h3, h4⟩ := h
  refine ⟨?_, h2.other _ _ hne, h3.setApart _ _ hA, h4.setCell (p := ⟨w.heap.size, z, none⟩) (Nat.le_refl _) _⟩
  rw [List.take_add_one, hz]
  simp only [Option.toList_some]
  rw [depD_snoc, List.map_set, Int.toNat_natCast, ← hv]
  exact h1.set z _
set_option maxRecDepth 100000 in
set_option maxHeartbeats 4000000 in
theorem refDepths_at (b off cap m : Nat) (ns : List Nd) (w : World) (F : NoStray ns) (hm : ns.length = m) (h2 : m ≤ 65536) (hP : PageAt w (.slice (some ⟨b, off, none⟩) m cap) ns) (hK : ∀ n ∈ ns, n.ks.length ≤ 70000) :
    Calls Try.prog 21 #[.slice (some ⟨b, off, none⟩) m cap] w fun e W' => e = .returned (.slice (some ⟨w.heap.size, 0, none⟩) m m) ∧ Whole W' w.heap.size 3 ((depthsP ns).map (Value.int .i64)) ∧ Below w.heap.size w W' := by
  have h1 : 1 ≤ m := by rw [← hm]; exact F.len1
  have hL : ∀ n ∈ ns, ∀ z ∈ n.ks, 1 ≤ z ∧ z < (m : Int) := by rw [← hm]; exact F.link
  have HPR : Hid (∀ X : World, Below w.heap.size w X → Calls Try.prog 40 #[.slice (some ⟨b, off, none⟩) m cap] X fun e W' => e = .returned (.slice (some ⟨X.heap.size, 0, none⟩) m m) ∧ Whole W' X.heap.size 3 ((parentsP ns).map (Value.int .i64)) ∧ Below X.heap.size X W') :=
    Lib.hid fun X hX => refParents_at b off cap m ns X hm h1 h2 (hP.below hX) hK hL
  have hO := ords0 F
  rw [← ord_walk F.tr0 F.len1, hm] at hO
  have HOR : Hid (∀ X : World, Below w.heap.size w X → Calls Try.prog 19 #[.slice (some ⟨b, off, none⟩) m cap, .int .i64 0, .slice none 0 0] X (OrdPost X (ordN (kfOf ns) m 0 []))) :=
    Lib.hid fun X hX => order_rec b off cap m ns X hm h1 h2 (hP.below hX) hK (fun n hn z hz => by have := hL n hn z hz; omega) (m + 2) 0 [] _ X (by omega) (by omega) (by simp) (by simp) (Below.refl _ X) (World.ownsRow_nil _ _ _ _)
  obtain ⟨o, ho⟩ : ∃ o, ordN (kfOf ns) m 0 [] = o := ⟨_, rfl⟩
  obtain ⟨d, hd⟩ : ∃ d, depthsP ns = d := ⟨_, rfl⟩
  obtain ⟨p, hp⟩ : ∃ p, parentsP ns = p := ⟨_, rfl⟩
  rw [ho, hd, hp] at hO
  rw [ho] at HOR
  rw [hp] at HPR
  rw [hd]
  have HO := Lib.hid hO
  have hmk := make_ints m (by omega)
  clear hm hP hK hL F hO ho hd hp
  go_enter Try.func21, Try.ntmps21
  go_wp2_with (first
    | (go_at_call 40; refine (HPR.out _ ((Below.refl _ w).alloc (Nat.le_refl _) _)).mono ?_; clear HPR; rintro e w1 ⟨rfl, k1, b1⟩; have K0 := Lib.hid ((whole_new w ((List.replicate m (0 : Int)).map (Value.int .i64)) 3 _ rfl).below (by simpa using b1) (by simp)); have HB1 := Lib.hid (((Below.refl _ w).alloc (Nat.le_refl _) _).trans (b1.mono (by simp))); have K1 : Hid (Whole w1 (w.heap.size + 1) 3 (p.map (Value.int .i64))) := Lib.hid (by simpa using k1); clear k1 b1)
    | (go_at_call 19; refine (HOR.out _ HB1.out).mono ?_; clear HOR; rintro e w2 ⟨v2, rfl, o2, b2⟩; have HA := Lib.hid ((ints_own o2).2.2 w.heap.size (by have := K1.out.lt; omega)); have HD : Hid (DW w.heap.size (w.heap.size + 1) m 0 w w2 d o p v2) := Lib.hid ⟨by simpa [depD] using K0.out.below b2 K0.out.lt, K1.out.below b2 K1.out.lt, (ints_own o2).1, HB1.out.trans (b2.mono HB1.out.size)⟩; obtain ⟨q2, c2, hv⟩ := (ints_own o2).1.form; rw [HO.out.lo] at hv; subst hv; clear o2 b2 K0 K1 HB1))
  go_loopw [6] (fun s6 X => ∃ i : Nat, i ≤ m ∧ s6 = .int .i64 i ∧ Hid (DW w.heap.size (w.heap.size + 1) m i w X d o p (.slice q2 m c2))) (fun s6 _ => m - (intOf s6).toNat)
  case atStart => exact ⟨0, by omega, rfl, HD⟩
  case round =>
    obtain ⟨i, hi, rfl, HX⟩ := hrel
    clear HD
    obtain ⟨x1, x2, x3, x4⟩ := HX.out
    by_cases hlt : i < m
    · obtain ⟨z, hz⟩ : ∃ z, o[i]? = some z := ⟨_, List.getElem?_eq_getElem (by rw [HO.out.lo]; exact hlt)⟩
      obtain ⟨zr0, zr1⟩ := HO.out.rng z (List.mem_iff_getElem?.2 ⟨i, hz⟩)
      obtain ⟨zn, rfl⟩ : ∃ zn : Nat, z = (zn : Int) := ⟨z.toNat, by omega⟩
      obtain ⟨ob, oo, rfl, cz, lz⟩ := ints_at0' x3 i _ hz
      have fg := x1.free zn
      have cg : ∃ v, wr.cell? ⟨w.heap.size, zn, none⟩ = some v := by
        rw [x1.cellAt, List.getElem?_map]
        exact ⟨_, by rw [List.getElem?_eq_getElem (by rw [depD_len]; omega)]; rfl⟩
      obtain ⟨v0, cg⟩ := cg
      have hzm : zn < m := by omega
      by_cases h0 : zn = 0
      · subst h0
        have S1 := Lib.hid (HX.out.step HA.out (by omega) 0 hz 1 (by rw [HO.out.d0]; rfl))
        have cz0 : wr.cell? ⟨ob, oo + i, none⟩ = some (.int .i64 0) := cz
        clear x1 x2 x3 x4 cz hz
        go_wp2
        go_roundw
        case rel => exact ⟨i + 1, by omega, by go_num, S1⟩
        case measure => (simp [intOf]; try omega)
      · obtain ⟨j, q, e, u1, u2, u3, u4, u5, u6⟩ := HO.out.up i zn hz (by omega)
        have hb := HO.out.bound i zn hz
        have cp : wr.cell? ⟨w.heap.size + 1, zn, none⟩ = some (.int .i64 q) := by
          rw [x2.cellAt, List.getElem?_map, List.getElem?_eq_getElem (by rw [HO.out.lp]; omega)]
          rw [List.getElem?_eq_getElem (by rw [HO.out.lp]; omega)] at u4
          simp only [Option.getD_some] at u4
          rw [u4]; rfl
        have cq : wr.cell? ⟨w.heap.size, q, none⟩ = some (.int .i64 e) := by
          rw [x1.cellAt, List.getElem?_map, depD_get d m (o.take i) q u3 ⟨(q : Int), List.mem_iff_getElem?.2 ⟨j, by rw [List.getElem?_take, if_pos u1]; exact u2⟩, by simp⟩, u5]; rfl
        have he : e ≤ 70000 := by omega
        have gz : ((zn : Int) == 0) = false := by simp; omega
        have X1 := Lib.hid x1
        have X2 := Lib.hid x2
        have HU6 := Lib.hid u6
        have HZ := Lib.hid hz
        have HS := Lib.hid x4.size
        clear x1 x2 x3 x4 u1 u2 u4 u5 u6 hb hz
        go_wp2
        refine region_still_tailF 17 (by kernel_rfl) (by decide +kernel) (fun w2 hw2 => ?_)
        have bW : Below wr.heap.size wr w2 := by rw [← hw2]; exact (Below.refl _ wr).drew
        have cp2 := (bW.cell (p := ⟨w.heap.size + 1, zn, none⟩) X2.out.lt).trans cp
        have cq2 := (bW.cell (p := ⟨w.heap.size, q, none⟩) X1.out.lt).trans cq
        have cz2 := (bW.cell (p := ⟨ob, oo + i, none⟩) lz).trans cz
        have cg2 := (bW.cell (p := ⟨w.heap.size, zn, none⟩) X1.out.lt).trans cg
        have fg2 := (X1.out.below bW X1.out.lt).free zn
        have S1 : Hid (DW w.heap.size (w.heap.size + 1) m (i + 1) w (w2.setCell ⟨w.heap.size, zn, none⟩ (.int .i64 ((e : Int) + 1))) d o p (.slice (some ⟨ob, oo, none⟩) m c2)) := Lib.hid (by
          obtain ⟨y1, y2, y3, y4⟩ := HX.out
          have h1 : DW w.heap.size (w.heap.size + 1) m i w w2 d o p (.slice (some ⟨ob, oo, none⟩) m c2) := ⟨y1.below bW y1.lt, y2.below bW y2.lt, y3.below bW, y4.trans (bW.mono y4.size)⟩
          exact h1.step HA.out (by omega) zn HZ.out _ HU6.out.symm)
        clear hw2 bW cp cq cz cg fg X1 X2 HX
        simp only [List.take_succ_cons, List.take_zero, List.drop_succ_cons, List.drop_zero]
        repeat still_step
        refine wpStill_nil ?_
        go_wp2
        go_roundw
        case rel => exact ⟨i + 1, by omega, by go_num, S1⟩
        case measure => (simp [intOf]; try omega)
    · obtain rfl : i = m := by omega
      have X1 : Hid (Whole wr w.heap.size 3 (d.map (Value.int .i64)) ∧ Below w.heap.size w wr) := Lib.hid ⟨by
        rw [List.take_of_length_le (by rw [HO.out.lo]; exact Nat.le_refl _), depD_all HO.out] at x1; exact x1, x4⟩
      clear x1 x2 x3 x4 HX
      go_wp2
      go_ret
      exact ⟨rfl, X1.out.1, X1.out.2⟩
end Go.Proofs.Ytecnapecmioamaa
