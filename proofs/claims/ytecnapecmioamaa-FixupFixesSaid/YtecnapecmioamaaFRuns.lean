/- Contract of the runs of kids (fixup.runs), as an iterator: the longest ones that all may stand there, or all may not. -/
import Derived.Test.YtecnapecmioamaaFPerm
import Derived.Test.YtecnapecmioamaaTComp
import Derived.Test.YtecnapecmioamaaTKeep
import Derived.Test.YtecnapecmioamaaTGrow
namespace Go.Proofs.Ytecnapecmioamaa
open Go.RowKit Go.Shelf Go.Maps
set_option linter.unusedVariables false
attribute [local go_sem] Oper.semAt_some

/-- kids f to t are a longest run of those for which p is r -/
structure RunAt (p : Int → Bool) (ks : List Int) (r : Bool) (f t : Nat) : Prop where
  lt : f < t
  le : t ≤ ks.length
  all : ∀ j z, f ≤ j → j < t → ks[j]? = some z → p z = r
  nxt : ∀ z, ks[t]? = some z → p z = !r
def endR (pre : List (Bool × Nat × Nat)) : Nat := (pre.getLast?.map (fun x => x.2.2)).getD 0
theorem endR_snoc (pre : List (Bool × Nat × Nat)) (x : Bool × Nat × Nat) : endR (pre ++ [x]) = x.2.2 := by simp [endR]
def nxtR (p : Int → Bool) (ks : List Int) (pre : List (Bool × Nat × Nat)) (x : Bool × Nat × Nat) : Prop := x.2.1 = endR pre ∧ RunAt p ks x.1 x.2.1 x.2.2
def encR (qb qo c : Nat) (x : Bool × Nat × Nat) : Array Value := #[.bool x.1, .slice (some ⟨qb, qo + x.2.1, none⟩) (x.2.2 - x.2.1) (c - x.2.1)]
/-- what the iterator reads: the three boxes, the kids, the nodes' kinds; all of it below B -/
structure RunMem (B gl gk gm qb qo c L o m cap : Nat) (mm : Int) (ks : List Int) (kd : Nat → Int) (X : World) : Prop where
  size : B ≤ X.heap.size
  lt : gl < B ∧ gk < B ∧ gm < B ∧ qb < B ∧ L < B
  bl : X.cell? ⟨gl, 0, none⟩ = some (.slice (some ⟨L, o, none⟩) m cap)
  bk : X.cell? ⟨gk, 0, none⟩ = some (.slice (some ⟨qb, qo, none⟩) ks.length c)
  bm : X.cell? ⟨gm, 0, none⟩ = some (.int .u64 mm)
  kid : ∀ j, j < ks.length → X.cell? ⟨qb, qo + j, none⟩ = some (.int .i64 (ks[j]?.getD 0))
  kind : ∀ i, i < m → X.cell? ⟨L, o + i * 34, none⟩ = some (.int .i64 (kd i))
theorem RunMem.below {B gl gk gm qb qo c L o m cap : Nat} {mm : Int} {ks : List Int} {kd : Nat → Int} {X Y : World} (h : RunMem B gl gk gm qb qo c L o m cap mm ks kd X) (hb : Below B X Y) : RunMem B gl gk gm qb qo c L o m cap mm ks kd Y := by
  obtain ⟨h1, h2, h3, h4, h5, h6, h7⟩ := h
  exact ⟨Nat.le_trans h1 hb.size, h2, (hb.cell (p := ⟨gl, 0, none⟩) h2.1).trans h3, (hb.cell (p := ⟨gk, 0, none⟩) h2.2.1).trans h4, (hb.cell (p := ⟨gm, 0, none⟩) h2.2.2.1).trans h5,
    fun j hj => (hb.cell (p := ⟨qb, qo + j, none⟩) h2.2.2.2.1).trans (h6 j hj), fun i hi => (hb.cell (p := ⟨L, o + i * 34, none⟩) h2.2.2.2.2).trans (h7 i hi)⟩
set_option maxRecDepth 100000 in
set_option maxHeartbeats 2000000 in
theorem runs_in (n : Nat) (hn : 1 ≤ n) (l B gl gk gm qb qo c L o m cap kl : Nat) (mm : Int) (ks : List Int) (kd : Nat → Int) (hkl : ks.length = kl) (hklc : kl ≤ c) (hc : c ≤ 9223372036854775807) (hm : m ≤ 1000000) (hmm : 0 ≤ mm)
    (hks : ∀ z ∈ ks, 0 ≤ z ∧ z < (m : Int)) (J Jx : List (Bool × Nat × Nat) → World → Prop)
    (hY : ∀ pre x W, J pre W → nxtR (fun z => hasB mm (kd z.toNat)) ks pre x → YieldAt Fence.wide (n - 1) Try.prog l (encR qb qo c x) W fun e W' =>
      (e = .returned (.bool true) ∧ J (pre ++ [x]) W' ∧ KeepR (RunMem B gl gk gm qb qo c L o m cap mm ks kd) W W') ∨ (e = .returned (.bool false) ∧ Jx (pre ++ [x]) W'))
    (W : World) (hJ : AbidesFrom W.heap.size J) (hR : RunMem B gl gk gm qb qo c L o m cap mm ks kd W) (h0 : J [] W) :
    CallsIn Fence.wide n Try.prog 37 #[.func (.yield l) #[] #[], .pointer (some ⟨gk, 0, none⟩), .pointer (some ⟨gm, 0, none⟩), .pointer (some ⟨gl, 0, none⟩)] W fun e W' => (∃ v, e = .returned v) ∧
      ((∃ ys, endR ys = kl ∧ J ys W') ∨ (∃ pre, True ∧ Jx pre W')) := by
  refine callsIn_of_wp Try.func37 rfl trivial ?_ rfl
  simp only [Try.ntmps37, List.size_toArray, List.length_cons, List.length_nil, Nat.reduceAdd, Nat.reduceSub, Array.replicate_succ, Array.replicate_zero, List.push_toArray, List.append_toArray, List.nil_append, List.cons_append]
  obtain ⟨p, hp⟩ : ∃ p : Int → Bool, (fun z : Int => hasB mm (kd z.toNat)) = p := ⟨_, rfl⟩
  have hpz : ∀ z : Int, hasB mm (kd z.toNat) = p z := fun z => congrFun hp z
  rw [hp] at hY
  have HY := Lib.hid hY
  have HJ := Lib.hid hJ
  have HPZ := Lib.hid hpz
  have HKS := Lib.hid hks
  have HR0 := Lib.hid hR
  have H0 := Lib.hid h0
  have HKL := Lib.hid hkl
  have HH := Lib.hid (fun k X => (has_any mm k X hmm).mono (fun e w' h => (⟨h.1, h.2.symm⟩ : e = .returned (.bool (hasB mm k)) ∧ w' = X)))
  clear hY hJ hpz hks hR h0 hkl hp
  gi_wp2
  gi_loopw [5, 6] (fun s5 s6 X => ∃ (t : Nat) (pre : List (Bool × Nat × Nat)), t ≤ kl ∧ s5 = .int .i64 t ∧ s6 = .int .i64 t ∧ Hid (endR pre = t) ∧ Hid (J pre X) ∧ Hid (RunMem B gl gk gm qb qo c L o m cap mm ks kd X) ∧ W.heap.size ≤ X.heap.size) (fun s5 _ _ => kl - (intOf s5).toNat)
  case atStart => exact ⟨0, [], Nat.zero_le _, rfl, rfl, Lib.hid rfl, H0, HR0, Nat.le_refl _⟩
  case round =>
    obtain ⟨f, pre, hf, rfl, rfl, HE, HJp, HRr, hsz⟩ := hrel
    obtain ⟨R1, R2, R3, R4, R5, R6, R7⟩ := HRr.out
    rw [HKL.out] at R4 R6
    by_cases hlt : f < kl
    · obtain ⟨z, hz⟩ : ∃ z, ks[f]? = some z := ⟨_, List.getElem?_eq_getElem (by rw [HKL.out]; exact hlt)⟩
      have hzr := HKS.out z (List.mem_iff_getElem?.2 ⟨f, hz⟩)
      obtain ⟨zn, rfl⟩ : ∃ zn : Nat, z = (zn : Int) := ⟨z.toNat, by omega⟩
      have cz := R6 f hlt
      rw [hz] at cz
      have ck := R7 zn (by omega)
      simp only [Option.getD_some] at cz
      have HZ := Lib.hid hz
      have la := R2.1
      have lb := R2.2.1
      have lc := R2.2.2.1
      have ld := R2.2.2.2.1
      have le := R2.2.2.2.2
      obtain ⟨r, hr⟩ : ∃ r, p (zn : Int) = r := ⟨_, rfl⟩
      have HC := Lib.hid (fun X => show Calls Try.prog 38 #[.int .u64 mm, .int .i64 (kd zn)] X (fun e w' => e = .returned (.bool r) ∧ w' = X) from by
        have h := HH.out (kd zn) X
        have e := HPZ.out (zn : Int)
        rw [Int.toNat_natCast, hr] at e
        rw [e] at h
        exact h)
      have HRR := Lib.hid hr
      clear R6 R7 hz R2 hr
      gi_wp2
      refine wpIn_wide.2 ?_
      go_quiet ((go_at_call 38; exact Calls.quiet_of_same (HC.out _)))
      have bU := below_dn wr.heap.size wr nq
      have jU := Lib.hid (abides_below HJ.out HJp.out bU)
      have rU := Lib.hid (HRr.out.below (bU.mono R1))
      have sU : W.heap.size ≤ (wr.drewN nq).heap.size := Nat.le_trans hsz bU.size
      obtain ⟨U, hU⟩ : ∃ U, wr.drewN nq = U := ⟨_, rfl⟩
      rw [hU] at jU rU sU ⊢
      clear hU bU HJp HRr R1 R3 R4 R5 cz ck hsz HC
      go_wp2
      gi_wp2
      gi_loopw [6] (fun s6 X => ∃ t : Nat, f ≤ t ∧ t ≤ kl ∧ s6 = .int .i64 t ∧ Hid (∀ j z, f ≤ j → j < t → ks[j]? = some z → p z = r) ∧ Hid (J pre X) ∧ Hid (RunMem B gl gk gm qb qo c L o m cap mm ks kd X) ∧ W.heap.size ≤ X.heap.size) (fun s6 _ => kl - (intOf s6).toNat)
      case atStart => exact ⟨f, Nat.le_refl _, hf, rfl, Lib.hid (fun j z h1 h2 => by omega), jU, rU, sU⟩
      case round =>
        obtain ⟨t, hft, htk, rfl, HA, HJp, HRr, hsz⟩ := hrel
        obtain ⟨R1, R2, R3, R4, R5, R6, R7⟩ := HRr.out
        rw [HKL.out] at R4 R6
        by_cases htl : t < kl
        · obtain ⟨z, hz⟩ : ∃ z, ks[t]? = some z := ⟨_, List.getElem?_eq_getElem (by rw [HKL.out]; exact htl)⟩
          have hzr := HKS.out z (List.mem_iff_getElem?.2 ⟨t, hz⟩)
          obtain ⟨yn, rfl⟩ : ∃ yn : Nat, z = (yn : Int) := ⟨z.toNat, by omega⟩
          have cz := R6 t htl
          rw [hz] at cz
          have ck := R7 yn (by omega)
          simp only [Option.getD_some] at cz
          obtain ⟨x, hx⟩ : ∃ x, p (yn : Int) = x := ⟨_, rfl⟩
          have HC := Lib.hid (fun X => show Calls Try.prog 38 #[.int .u64 mm, .int .i64 (kd yn)] X (fun e w' => e = .returned (.bool x) ∧ w' = X) from by
            have h := HH.out (kd yn) X
            have e := HPZ.out (yn : Int)
            rw [Int.toNat_natCast, hx] at e
            rw [e] at h
            exact h)
          have hdt : decide (t < kl) = true := by simpa using htl
          by_cases hxr : x = r
          · have HA2 : Hid (∀ j z, f ≤ j → j < t + 1 → ks[j]? = some z → p z = r) := Lib.hid (fun j z h1 h2 h3 => by
              by_cases hj : j < t
              · exact HA.out j z h1 hj h3
              · obtain rfl : j = t := by omega
                rw [hz] at h3; injection h3 with h3
                rw [← h3, hx, hxr])
            have hxr' : (x == r) = true := by simpa using hxr
            clear R6 R7 hz R2 hx HA hxr
            gi_wp2
            refine wpIn_wide.2 ?_
            go_quiet ((go_at_call 38; exact Calls.quiet_of_same (HC.out _)))
            have bU := below_dn wr.heap.size wr nq
            have jU := Lib.hid (abides_below HJ.out HJp.out bU)
            have rU := Lib.hid (HRr.out.below (bU.mono R1))
            have sU : W.heap.size ≤ (wr.drewN nq).heap.size := Nat.le_trans hsz bU.size
            obtain ⟨U, hU⟩ : ∃ U, wr.drewN nq = U := ⟨_, rfl⟩
            rw [hU] at jU rU sU ⊢
            clear hU bU HJp HRr R1 R3 R4 R5 hsz
            clear cz ck HC
            go_wp2
            gi_wp2
            go_roundw
            case rel => exact ⟨t + 1, by omega, by omega, by go_num, HA2, jU, rU, sU⟩
            case measure => simp [intOf]; omega
          · have HN : Hid (∀ z, ks[t]? = some z → p z = !r) := Lib.hid (fun z h => by
              rw [hz] at h; injection h with h
              rw [← h, hx]; cases x <;> cases r <;> simp_all)
            have hft2 : f < t := by
              by_cases hj : f = t
              · subst hj
                rw [HZ.out] at hz; injection hz with hz
                exact absurd (by rw [← hx, ← hz]; exact HRR.out) hxr
              · omega
            have hxr' : (x == r) = false := by simpa using hxr
            clear R6 R7 hz R2 hx hxr
            gi_wp2
            refine wpIn_wide.2 ?_
            go_quiet ((go_at_call 38; exact Calls.quiet_of_same (HC.out _)))
            have bU := below_dn wr.heap.size wr nq
            have jU := Lib.hid (abides_below HJ.out HJp.out bU)
            have rU := Lib.hid (HRr.out.below (bU.mono R1))
            have sU : W.heap.size ≤ (wr.drewN nq).heap.size := Nat.le_trans hsz bU.size
            obtain ⟨U, hU⟩ : ∃ U, wr.drewN nq = U := ⟨_, rfl⟩
            rw [hU] at jU rU sU ⊢
            clear hU bU HJp HRr R1 R3 R4 R5 hsz
            clear cz ck HC
            have RA : Hid (RunAt p ks r f t) := Lib.hid ⟨hft2, by rw [HKL.out]; exact htk, HA.out, HN.out⟩
            obtain ⟨R1, R2, R3, R4, R5, R6, R7⟩ := rU.out
            rw [HKL.out] at R4
            have hfc : ¬ c = f := by omega
            obtain ⟨fn, tmps, assign, body, hy, hR⟩ := HY.out _ (r, f, t) _ jU.out ⟨HE.out.symm, RA.out⟩
            dsimp only [encR] at hy
            have HRn := Lib.hid hR
            clear R1 R2 R6 R7 hR HY
            go_wp2
            gi_wp2
            refine HRn.out.mono ?_
            rintro e W3 (⟨rfl, hJ3, hk3⟩ | ⟨rfl, hJx3⟩)
            · have H3 := Lib.hid hJ3
              have KR3 := Lib.hid (hk3.2 rU.out)
              have hs3 : W.heap.size ≤ W3.heap.size := Nat.le_trans sU hk3.1
              have HE3 : Hid (endR (pre ++ [(r, f, t)]) = t) := Lib.hid (endR_snoc _ _)
              clear hJ3 hk3 HRn
              gi_wp2
              go_roundw
              case rel => exact ⟨t, pre ++ [(r, f, t)], htk, rfl, rfl, HE3, H3, KR3, hs3⟩
              case measure => simp [intOf]; omega
            · have H3 := Lib.hid hJx3
              clear hJx3 HRn
              gi_wp2
              exact bodyPost_ret (v := .tuple #[]) (results_none rfl _ _ _) rfl ⟨⟨_, rfl⟩, .inr ⟨_, trivial, H3.out⟩⟩
        · have HN : Hid (∀ z, ks[t]? = some z → p z = !r) := Lib.hid (fun z h => by
            have := (List.getElem?_eq_some_iff.1 h).1
            rw [HKL.out] at this; omega)
          have hft2 : f < t := by omega
          have hdt : decide (t < kl) = false := by simpa using htl
          clear R6 R7 R2
          gi_wp2
          refine wpIn_wide.2 ?_
          go_quiet (fail)
          have bU := below_dn wr.heap.size wr nq
          have jU := Lib.hid (abides_below HJ.out HJp.out bU)
          have rU := Lib.hid (HRr.out.below (bU.mono R1))
          have sU : W.heap.size ≤ (wr.drewN nq).heap.size := Nat.le_trans hsz bU.size
          obtain ⟨U, hU⟩ : ∃ U, wr.drewN nq = U := ⟨_, rfl⟩
          rw [hU] at jU rU sU ⊢
          clear hU bU HJp HRr R1 R3 R4 R5 hsz
          have RA : Hid (RunAt p ks r f t) := Lib.hid ⟨hft2, by rw [HKL.out]; exact htk, HA.out, HN.out⟩
          obtain ⟨R1, R2, R3, R4, R5, R6, R7⟩ := rU.out
          rw [HKL.out] at R4
          have hfc : ¬ c = f := by omega
          obtain ⟨fn, tmps, assign, body, hy, hR⟩ := HY.out _ (r, f, t) _ jU.out ⟨HE.out.symm, RA.out⟩
          dsimp only [encR] at hy
          have HRn := Lib.hid hR
          clear R1 R2 R6 R7 hR HY
          go_wp2
          gi_wp2
          refine HRn.out.mono ?_
          rintro e W3 (⟨rfl, hJ3, hk3⟩ | ⟨rfl, hJx3⟩)
          · have H3 := Lib.hid hJ3
            have KR3 := Lib.hid (hk3.2 rU.out)
            have hs3 : W.heap.size ≤ W3.heap.size := Nat.le_trans sU hk3.1
            have HE3 : Hid (endR (pre ++ [(r, f, t)]) = t) := Lib.hid (endR_snoc _ _)
            clear hJ3 hk3 HRn
            gi_wp2
            go_roundw
            case rel => exact ⟨t, pre ++ [(r, f, t)], htk, rfl, rfl, HE3, H3, KR3, hs3⟩
            case measure => simp [intOf]; omega
          · have H3 := Lib.hid hJx3
            clear hJx3 HRn
            gi_wp2
            exact bodyPost_ret (v := .tuple #[]) (results_none rfl _ _ _) rfl ⟨⟨_, rfl⟩, .inr ⟨_, trivial, H3.out⟩⟩
    · have HE2 : Hid (endR pre = kl) := Lib.hid (by rw [HE.out]; omega)
      clear R1 R2 R3 R5 R6 R7
      gi_wp2
      go_end0
      exact ⟨⟨_, rfl⟩, .inl ⟨_, HE2.out, HJp.out⟩⟩
/-- no kids: no runs -/
def encR0 (x : Bool × Nat × Nat) : Array Value := encR 0 0 0 x
set_option maxRecDepth 100000 in
set_option maxHeartbeats 1000000 in
theorem runs_in0 (n : Nat) (hn : 1 ≤ n) (l gl gk gm : Nat) (q : Option Addr) (c : Nat) (J Jx : List (Bool × Nat × Nat) → World → Prop)
    (W : World) (bk : W.cell? ⟨gk, 0, none⟩ = some (.slice q 0 c)) (lk : gk < W.heap.size) (h0 : J [] W) :
    CallsIn Fence.wide n Try.prog 37 #[.func (.yield l) #[] #[], .pointer (some ⟨gk, 0, none⟩), .pointer (some ⟨gm, 0, none⟩), .pointer (some ⟨gl, 0, none⟩)] W fun e W' => (∃ v, e = .returned v) ∧
      ((∃ ys, endR ys = 0 ∧ J ys W') ∨ (∃ pre, True ∧ Jx pre W')) := by
  refine callsIn_of_wp Try.func37 rfl trivial ?_ rfl
  simp only [Try.ntmps37, List.size_toArray, List.length_cons, List.length_nil, Nat.reduceAdd, Nat.reduceSub, Array.replicate_succ, Array.replicate_zero, List.push_toArray, List.append_toArray, List.nil_append, List.cons_append]
  have H0 := Lib.hid h0
  clear h0
  gi_wp2
  gi_loopw [5, 6] (fun s5 s6 X => s5 = .int .i64 0 ∧ s6 = .int .i64 0 ∧ X = W) (fun s5 _ _ => 0)
  case atStart => exact ⟨rfl, rfl, rfl⟩
  case round =>
    obtain ⟨rfl, rfl, rfl⟩ := hrel
    gi_wp2
    go_end0
    exact ⟨⟨_, rfl⟩, .inl ⟨_, rfl, H0.out⟩⟩
set_option maxRecDepth 100000 in
set_option maxHeartbeats 1000000 in
theorem runsF_any (p1 p2 : Option Addr) (l1 c1 l2 c2 : Nat) (mm : Int) (w : World) :
    Calls Try.prog 17 #[.slice p1 l1 c1, .slice p2 l2 c2, .int .u64 mm] w fun e w' => e = .returned (.func (.func 37) #[] #[.pointer (some ⟨w.heap.size + 1, 0, none⟩), .pointer (some ⟨w.heap.size + 1 + 1, 0, none⟩), .pointer (some ⟨w.heap.size, 0, none⟩)]) ∧
      w' = ((w.alloc (.cells #[.slice p1 l1 c1] 22)).alloc (.cells #[.slice p2 l2 c2] 34)).alloc (.cells #[.int .u64 mm] 56) := by
  go_enter Try.func17, Try.ntmps17
  go_wp2
  go_ret
  exact ⟨rfl, rfl⟩
end Go.Proofs.Ytecnapecmioamaa
