/- Contract of the runs of kids (fixup.runs), as an iterator: the longest ones that all may stand there, or all may not. -/
/- A page that is fixed, as plain data: a node's kids are run through, one by one; runs of those that may not stand there are laid into new nodes. -/
import Derived.Test.YtilighhccjdceaaFPerm
import Derived.Test.YtilighhccjdceaaTComp
import Derived.Test.YtilighhccjdceaaTKeep
import Derived.Test.YtilighhccjdceaaTGrow
namespace Go.Proofs.Ytilighhccjdceaa
open Go.RowKit Go.Shelf Go.Maps
set_option linter.unusedVariables false
attribute [local go_sem] Oper.semAt_some

/-- kids f to t are a longest run of those for which p is r -/
structure RunAt (p : Int → Bool) (ks : List Int) (r : Bool) (f t : Nat) : Prop where
  lt : f < t
  le : t ≤ ks.length
  all : ∀ j z, f ≤ j → j < t → ks[j]? = some z → p z = r
  nxt : ∀ z, ks[t]? = some z → p z = !r
def endR (pre : List (Bool × Nat × Nat)) : Nat := (pre.getLast?.map (fun x => x.2.2)).getD 0
theorem endR_snoc (pre : List (Bool × Nat × Nat)) (x : Bool × Nat × Nat) : endR (pre ++ [x]) = x.2.2 := by simp [endR]
def nxtR (p : Int → Bool) (ks : List Int) (pre : List (Bool × Nat × Nat)) (x : Bool × Nat × Nat) : Prop := x.2.1 = endR pre ∧ RunAt p ks x.1 x.2.1 x.2.2
def encR (qb qo c : Nat) (x : Bool × Nat × Nat) : Array Value := #[.bool x.1, .slice (some ⟨qb, qo + x.2.1, none⟩) (x.2.2 - x.2.1) (c - x.2.1)]
/-- what the iterator reads: the three boxes, the kids, the nodes' kinds; all of it below B -/
structure RunMem (B gl gk gm qb qo c L o m cap : Nat) (mm : Int) (ks : List Int) (kd : Nat → Int) (X : World) : Prop where
  size : B ≤ X.heap.size
  lt : gl < B ∧ gk < B ∧ gm < B ∧ qb < B ∧ L < B
  bl : X.cell? ⟨gl, 0, none⟩ = some (.slice (some ⟨L, o, none⟩) m cap)
  bk : X.cell? ⟨gk, 0, none⟩ = some (.slice (some ⟨qb, qo, none⟩) ks.length c)
  bm : X.cell? ⟨gm, 0, none⟩ = some (.int .u64 mm)
  kid : ∀ j, j < ks.length → X.cell? ⟨qb, qo + j, none⟩ = some (.int .i64 (ks[j]?.getD 0))
  kind : ∀ i, i < m → X.cell? ⟨L, o + i * 34, none⟩ = some (.int .i64 (kd i))
theorem RunMem.below {B gl gk gm qb qo c L o m cap : Nat} {mm : Int} {ks : List Int} {kd : Nat → Int} {X Y : World} (h : RunMem B gl gk gm qb qo c L o m cap mm ks kd X) (hb : Below B X Y) : RunMem B gl gk gm qb qo c L o m cap mm ks kd Y := by
  obtain ⟨h1, h2, h3, h4, h5, h6, h7⟩ := h
  exact ⟨Nat.le_trans h1 hb.size, h2, (hb.cell (p := ⟨gl, 0, none⟩) h2.1).trans h3, (hb.cell (p := ⟨gk, 0, none⟩) h2.2.1).trans h4, (hb.cell (p := ⟨gm, 0, none⟩) h2.2.2.1).trans h5,
    fun j hj => (hb.cell (p := ⟨qb, qo + j, none⟩) h2.2.2.2.1).trans (h6 j hj), fun i hi => (hb.cell (p := ⟨L, o + i * 34, none⟩) h2.2.2.2.2).trans (h7 i hi)⟩
set_option maxRecDepth 100000 in
set_option maxHeartbeats 2000000 in
theorem runs_in (n : Nat) (hn : 1 ≤ n) (l B gl gk gm qb qo c L o m cap kl : Nat) (mm : Int) (ks : List Int) (kd : Nat → Int) (hkl : ks.length = kl) (hklc : kl ≤ c) (hc : c ≤ 9223372036854775807) (hm : m ≤ 1000000) (hmm : 0 ≤ mm)
    (hks : ∀ z ∈ ks, 0 ≤ z ∧ z < (m : Int)) (J Jx : List (Bool × Nat × Nat) → World → Prop)
    (hY : ∀ pre x W, J pre W → nxtR (fun z => hasB mm (kd z.toNat)) ks pre x → YieldAt Fence.wide (n - 1) Try.prog l (encR qb qo c x) W fun e W' =>
      (e = .returned (.bool true) ∧ J (pre ++ [x]) W' ∧ KeepR (RunMem B gl gk gm qb qo c L o m cap mm ks kd) W W') ∨ (e = .returned (.bool false) ∧ Jx (pre ++ [x]) W'))
    (W : World) (hJ : AbidesFrom W.heap.size J) (hR : RunMem B gl gk gm qb qo c L o m cap mm ks kd W) (h0 : J [] W) :
    CallsIn Fence.wide n Try.prog 63 #[.func (.yield l) #[] #[], .pointer (some ⟨gk, 0, none⟩), .pointer (some ⟨gm, 0, none⟩), .pointer (some ⟨gl, 0, none⟩)] W fun e W' => (∃ v, e = .returned v) ∧
      ((∃ ys, endR ys = kl ∧ J ys W') ∨ (∃ pre, True ∧ Jx pre W')) := by
  refine callsIn_of_wp Try.func63 rfl trivial ?_ rfl
  simp only [Try.ntmps63, List.size_toArray, List.length_cons, List.length_nil, Nat.reduceAdd, Nat.reduceSub, Array.replicate_succ, Array.replicate_zero, List.push_toArray, List.append_toArray, List.nil_append, List.cons_append]
  obtain ⟨p, hp⟩ : ∃ p : Int → Bool, (fun z : Int => hasB mm (kd z.toNat)) = p := ⟨_, rfl⟩
  have hpz : ∀ z : Int, hasB mm (kd z.toNat) = p z := fun z => congrFun hp z
  rw [hp] at hY
  have HY := Lib.hid hY
  have HJ := Lib.hid hJ
  have HPZ := Lib.hid hpz
  have HKS := Lib.hid hks
  have HR0 := Lib.hid hR
  have H0 := Lib.hid h0
  have HKL := Lib.hid hkl
  have HH := Lib.hid (fun k X => (has_any mm k X hmm).mono (fun e w' h => (⟨h.1, h.2.symm⟩ : e = .returned (.bool (hasB mm k)) ∧ w' = X)))
  clear hY hJ hpz hks hR h0 hkl hp
  gi_wp2
  gi_loopw [5, 6] (fun s5 s6 X => ∃ (t : Nat) (pre : List (Bool × Nat × Nat)), t ≤ kl ∧ s5 = .int .i64 t ∧ s6 = .int .i64 t ∧ Hid (endR pre = t) ∧ Hid (J pre X) ∧ Hid (RunMem B gl gk gm qb qo c L o m cap mm ks kd X) ∧ W.heap.size ≤ X.heap.size) (fun s5 _ _ => kl - (intOf s5).toNat)
  case atStart => exact ⟨0, [], Nat.zero_le _, rfl, rfl, Lib.hid rfl, H0, HR0, Nat.le_refl _⟩
  case round =>
    obtain ⟨f, pre, hf, rfl, rfl, HE, HJp, HRr, hsz⟩ := hrel
    obtain ⟨R1, R2, R3, R4, R5, R6, R7⟩ := HRr.out
    rw [HKL.out] at R4 R6
    by_cases hlt : f < kl
    · obtain ⟨z, hz⟩ : ∃ z, ks[f]? = some z := ⟨_, List.getElem?_eq_getElem (by rw [HKL.out]; exact hlt)⟩
      have hzr := HKS.out z (List.mem_iff_getElem?.2 ⟨f, hz⟩)
      obtain ⟨zn, rfl⟩ : ∃ zn : Nat, z = (zn : Int) := ⟨z.toNat, by omega⟩
      have cz := R6 f hlt
      rw [hz] at cz
      have ck := R7 zn (by omega)
      simp only [Option.getD_some] at cz
      have HZ := Lib.hid hz
      have la := R2.1
      have lb := R2.2.1
      have lc := R2.2.2.1
      have ld := R2.2.2.2.1
      have le := R2.2.2.2.2
      obtain ⟨r, hr⟩ : ∃ r, p (zn : Int) = r := ⟨_, rfl⟩
      have HC := Lib.hid (fun X => show Calls Try.prog 64 #[.int .u64 mm, .int .i64 (kd zn)] X (fun e w' => e = .returned (.bool r) ∧ w' = X) from by
        have h := HH.out (kd zn) X
        have e := HPZ.out (zn : Int)
        rw [Int.toNat_natCast, hr] at e
        rw [e] at h
        exact h)
      have HRR := Lib.hid hr
      clear R6 R7 hz R2 hr
      gi_wp2
      refine wpIn_wide.2 ?_
      go_quiet ((go_at_call 64; exact Calls.quiet_of_same (HC.out _)))
      have bU := below_dn wr.heap.size wr nq
      have jU := Lib.hid (abides_below HJ.out HJp.out bU)
      have rU := Lib.hid (HRr.out.below (bU.mono R1))
      have sU : W.heap.size ≤ (wr.drewN nq).heap.size := Nat.le_trans hsz bU.size
      obtain ⟨U, hU⟩ : ∃ U, wr.drewN nq = U := ⟨_, rfl⟩
      rw [hU] at jU rU sU ⊢
      clear hU bU HJp HRr R1 R3 R4 R5 cz ck hsz HC
      go_wp2
      gi_wp2
      gi_loopw [6] (fun s6 X => ∃ t : Nat, f ≤ t ∧ t ≤ kl ∧ s6 = .int .i64 t ∧ Hid (∀ j z, f ≤ j → j < t → ks[j]? = some z → p z = r) ∧ Hid (J pre X) ∧ Hid (RunMem B gl gk gm qb qo c L o m cap mm ks kd X) ∧ W.heap.size ≤ X.heap.size) (fun s6 _ => kl - (intOf s6).toNat)
      case atStart => exact ⟨f, Nat.le_refl _, hf, rfl, Lib.hid (fun j z h1 h2 => by omega), jU, rU, sU⟩
      case round =>
        obtain ⟨t, hft, htk, rfl, HA, HJp, HRr, hsz⟩ := hrel
        obtain ⟨R1, R2, R3, R4, R5, R6, R7⟩ := HRr.out
        rw [HKL.out] at R4 R6
        by_cases htl : t < kl
        · obtain ⟨z, hz⟩ : ∃ z, ks[t]? = some z := ⟨_, List.getElem?_eq_getElem (by rw [HKL.out]; exact htl)⟩
          have hzr := HKS.out z (List.mem_iff_getElem?.2 ⟨t, hz⟩)
          obtain ⟨yn, rfl⟩ : ∃ yn : Nat, z = (yn : Int) := ⟨z.toNat, by omega⟩
          have cz := R6 t htl
          rw [hz] at cz
          have ck := R7 yn (by omega)
          simp only [Option.getD_some] at cz
          obtain ⟨x, hx⟩ : ∃ x, p (yn : Int) = x := ⟨_, rfl⟩
          have HC := Lib.hid (fun X => show Calls Try.prog 64 #[.int .u64 mm, .int .i64 (kd yn)] X (fun e w' => e = .returned (.bool x) ∧ w' = X) from by
            have h := HH.out (kd yn) X
            have e := HPZ.out (yn : Int)
            rw [Int.toNat_natCast, hx] at e
            rw [e] at h
            exact h)
          have hdt : decide (t < kl) = true := by simpa using htl
          by_cases hxr : x = r
          · have HA2 : Hid (∀ j z, f ≤ j → j < t + 1 → ks[j]? = some z → p z = r) := Lib.hid (fun j z h1 h2 h3 => by
              by_cases hj : j < t
              · exact HA.out j z h1 hj h3
              · obtain rfl : j = t := by omega
                rw [hz] at h3; injection h3 with h3
                rw [← h3, hx, hxr])
            have hxr' : (x == r) = true := by simpa using hxr
            clear R6 R7 hz R2 hx HA hxr
            gi_wp2
            refine wpIn_wide.2 ?_
            go_quiet ((go_at_call 64; exact Calls.quiet_of_same (HC.out _)))
            have bU := below_dn wr.heap.size wr nq
            have jU := Lib.hid (abides_below HJ.out HJp.out bU)
            have rU := Lib.hid (HRr.out.below (bU.mono R1))
            have sU : W.heap.size ≤ (wr.drewN nq).heap.size := Nat.le_trans hsz bU.size
            obtain ⟨U, hU⟩ : ∃ U, wr.drewN nq = U := ⟨_, rfl⟩
            rw [hU] at jU rU sU ⊢
            clear hU bU HJp HRr R1 R3 R4 R5 hsz
            clear cz ck HC
            go_wp2
            gi_wp2
            go_roundw
            case rel => exact ⟨t + 1, by omega, by omega, by go_num, HA2, jU, rU, sU⟩
            case measure => simp [intOf]; omega
          · have HN : Hid (∀ z, ks[t]? = some z → p z = !r) := Lib.hid (fun z h => by
              rw [hz] at h; injection h with h
              rw [← h, hx]; cases x <;> cases r <;> simp_all)
            have hft2 : f < t := by
              by_cases hj : f = t
              · subst hj
                rw [HZ.out] at hz; injection hz with hz
                exact absurd (by rw [← hx, ← hz]; exact HRR.out) hxr
              · omega
            have hxr' : (x == r) = false := by simpa using hxr
            clear R6 R7 hz R2 hx hxr
            gi_wp2
            refine wpIn_wide.2 ?_
            go_quiet ((go_at_call 64; exact Calls.quiet_of_same (HC.out _)))
            have bU := below_dn wr.heap.size wr nq
            have jU := Lib.hid (abides_below HJ.out HJp.out bU)
            have rU := Lib.hid (HRr.out.below (bU.mono R1))
            have sU : W.heap.size ≤ (wr.drewN nq).heap.size := Nat.le_trans hsz bU.size
            obtain ⟨U, hU⟩ : ∃ U, wr.drewN nq = U := ⟨_, rfl⟩
            rw [hU] at jU rU sU ⊢
            clear hU bU HJp HRr R1 R3 R4 R5 hsz
            clear cz ck HC
            have RA : Hid (RunAt p ks r f t) := Lib.hid ⟨hft2, by rw [HKL.out]; exact htk, HA.out, HN.out⟩
            obtain ⟨R1, R2, R3, R4, R5, R6, R7⟩ := rU.out
            rw [HKL.out] at R4
            have hfc : ¬ c = f := by omega
            obtain ⟨fn, tmps, assign, body, hy, hR⟩ := HY.out _ (r, f, t) _ jU.out ⟨HE.out.symm, RA.out⟩
            dsimp only [encR] at hy
            have HRn := Lib.hid hR
            clear R1 R2 R6 R7 hR HY
            go_wp2
            gi_wp2
            refine HRn.out.mono ?_
            rintro e W3 (⟨rfl, hJ3, hk3⟩ | ⟨rfl, hJx3⟩)
            · have H3 := Lib.hid hJ3
              have KR3 := Lib.hid (hk3.2 rU.out)
              have hs3 : W.heap.size ≤ W3.heap.size := Nat.le_trans sU hk3.1
              have HE3 : Hid (endR (pre ++ [(r, f, t)]) = t) := Lib.hid (endR_snoc _ _)
              clear hJ3 hk3 HRn
              gi_wp2
              go_roundw
              case rel => exact ⟨t, pre ++ [(r, f, t)], htk, rfl, rfl, HE3, H3, KR3, hs3⟩
              case measure => simp [intOf]; omega
            · have H3 := Lib.hid hJx3
              clear hJx3 HRn
              gi_wp2
              exact bodyPost_ret (v := .tuple #[]) (results_none rfl _ _ _) rfl ⟨⟨_, rfl⟩, .inr ⟨_, trivial, H3.out⟩⟩
        · have HN : Hid (∀ z, ks[t]? = some z → p z = !r) := Lib.hid (fun z h => by
            have := (List.getElem?_eq_some_iff.1 h).1
            rw [HKL.out] at this; omega)
          have hft2 : f < t := by omega
          have hdt : decide (t < kl) = false := by simpa using htl
          clear R6 R7 R2
          gi_wp2
          refine wpIn_wide.2 ?_
          go_quiet (fail)
          have bU := below_dn wr.heap.size wr nq
          have jU := Lib.hid (abides_below HJ.out HJp.out bU)
          have rU := Lib.hid (HRr.out.below (bU.mono R1))
          have sU : W.heap.size ≤ (wr.drewN nq).heap.size := Nat.le_trans hsz bU.size
          obtain ⟨U, hU⟩ : ∃ U, wr.drewN nq = U := ⟨_, rfl⟩
          rw [hU] at jU rU sU ⊢
          clear hU bU HJp HRr R1 R3 R4 R5 hsz
          have RA : Hid (RunAt p ks r f t) := Lib.hid ⟨hft2, by rw [HKL.out]; exact htk, HA.out, HN.out⟩
          obtain ⟨R1, R2, R3, R4, R5, R6, R7⟩ := rU.out
          rw [HKL.out] at R4
          have hfc : ¬ c = f := by omega
          obtain ⟨fn, tmps, assign, body, hy, hR⟩ := HY.out _ (r, f, t) _ jU.out ⟨HE.out.symm, RA.out⟩
          dsimp only [encR] at hy
          have HRn := Lib.hid hR
          clear R1 R2 R6 R7 hR HY
          go_wp2
          gi_wp2
          refine HRn.out.mono ?_
          rintro e W3 (⟨rfl, hJ3, hk3⟩ | ⟨rfl, hJx3⟩)
          · have H3 := Lib.hid hJ3
            have KR3 := Lib.hid (hk3.2 rU.out)
            have hs3 : W.heap.size ≤ W3.heap.size := Nat.le_trans sU hk3.1
            have HE3 : Hid (endR (pre ++ [(r, f, t)]) = t) := Lib.hid (endR_snoc _ _)
            clear hJ3 hk3 HRn
            gi_wp2
            go_roundw
            case rel => exact ⟨t, pre ++ [(r, f, t)], htk, rfl, rfl, HE3, H3, KR3, hs3⟩
            case measure => simp [intOf]; omega
          · have H3 := Lib.hid hJx3
            clear hJx3 HRn
            gi_wp2
            exact bodyPost_ret (v := .tuple #[]) (results_none rfl _ _ _) rfl ⟨⟨_, rfl⟩, .inr ⟨_, trivial, H3.out⟩⟩
    · have HE2 : Hid (endR pre = kl) := Lib.hid (by rw [HE.out]; omega)
      clear R1 R2 R3 R5 R6 R7
      gi_wp2
      go_end0
      exact ⟨⟨_, rfl⟩, .inl ⟨_, HE2.out, HJp.out⟩⟩
/-- no kids: no runs -/
def encR0 (x : Bool × Nat × Nat) : Array Value := encR 0 0 0 x
set_option maxRecDepth 100000 in
set_option maxHeartbeats 1000000 in
theorem runs_in0 (n : Nat) (hn : 1 ≤ n) (l gl gk gm : Nat) (q : Option Addr) (c : Nat) (J Jx : List (Bool × Nat × Nat) → World → Prop)
    (W : World) (bk : W.cell? ⟨gk, 0, none⟩ = some (.slice q 0 c)) (lk : gk < W.heap.size) (h0 : J [] W) :
    CallsIn Fence.wide n Try.prog 63 #[.func (.yield l) #[] #[], .pointer (some ⟨gk, 0, none⟩), .pointer (some ⟨gm, 0, none⟩), .pointer (some ⟨gl, 0, none⟩)] W fun e W' => (∃ v, e = .returned v) ∧
      ((∃ ys, endR ys = 0 ∧ J ys W') ∨ (∃ pre, True ∧ Jx pre W')) := by
  refine callsIn_of_wp Try.func63 rfl trivial ?_ rfl
  simp only [Try.ntmps63, List.size_toArray, List.length_cons, List.length_nil, Nat.reduceAdd, Nat.reduceSub, Array.replicate_succ, Array.replicate_zero, List.push_toArray, List.append_toArray, List.nil_append, List.cons_append]
  have H0 := Lib.hid h0
  clear h0
  gi_wp2
  gi_loopw [5, 6] (fun s5 s6 X => s5 = .int .i64 0 ∧ s6 = .int .i64 0 ∧ X = W) (fun s5 _ _ => 0)
  case atStart => exact ⟨rfl, rfl, rfl⟩
  case round =>
    obtain ⟨rfl, rfl, rfl⟩ := hrel
    gi_wp2
    go_end0
    exact ⟨⟨_, rfl⟩, .inl ⟨_, rfl, H0.out⟩⟩
set_option maxRecDepth 100000 in
set_option maxHeartbeats 1000000 in
theorem runsF_any (p1 p2 : Option Addr) (l1 c1 l2 c2 : Nat) (mm : Int) (w : World) :
    Calls Try.prog 46 #[.slice p1 l1 c1, .slice p2 l2 c2, .int .u64 mm] w fun e w' => e = .returned (.func (.func 63) #[] #[.pointer (some ⟨w.heap.size + 1, 0, none⟩), .pointer (some ⟨w.heap.size + 1 + 1, 0, none⟩), .pointer (some ⟨w.heap.size, 0, none⟩)]) ∧
      w' = ((w.alloc (.cells #[.slice p1 l1 c1] 22)).alloc (.cells #[.slice p2 l2 c2] 29)).alloc (.cells #[.int .u64 mm] 76) := by
  go_enter Try.func46, Try.ntmps46
  go_wp2
  go_ret
  exact ⟨rfl, rfl⟩
end Go.Proofs.Ytilighhccjdceaa

namespace Go.Proofs.Ytilighhccjdceaa
open Go.RowKit Go.Shelf
set_option linter.unusedVariables false

/-- kids so far, runs of new nodes so far, whether the last kid was one that went into a new node -/
def stepK (p : Int → Bool) (n : Nat) (st : List Int × List (List Int) × Bool) (z : Int) : List Int × List (List Int) × Bool :=
  if p z then (st.1 ++ [z], st.2.1, false)
  else if st.2.2 then (st.1, st.2.1.dropLast ++ [st.2.1.getLast?.getD [] ++ [z]], true)
  else (st.1 ++ [((n + st.2.1.length : Nat) : Int)], st.2.1 ++ [[z]], true)
def FK (p : Int → Bool) (n : Nat) (ks : List Int) : List Int × List (List Int) × Bool := ks.foldl (stepK p n) ([], [], false)
theorem FK_append (p : Int → Bool) (n : Nat) (a b : List Int) : FK p n (a ++ b) = b.foldl (stepK p n) (FK p n a) := by unfold FK; rw [List.foldl_append]
theorem fold_true (p : Int → Bool) (n : Nat) : ∀ (run : List Int) (st : List Int × List (List Int) × Bool), (∀ z ∈ run, p z = true) → run ≠ [] → run.foldl (stepK p n) st = (st.1 ++ run, st.2.1, false) := by
  intro run
  induction run with
  | nil => intro st _ h; exact absurd rfl h
  | cons a run ih =>
    intro st h _
    have ha := h a (by simp)
    rw [List.foldl_cons]
    have e : stepK p n st a = (st.1 ++ [a], st.2.1, false) := by unfold stepK; rw [if_pos ha]
    rw [e]
    by_cases hr : run = []
    · subst hr; rfl
    · rw [ih _ (fun z hz => h z (by simp [hz])) hr]; simp
theorem fold_false' (p : Int → Bool) (n : Nat) : ∀ (run : List Int) (kids : List Int) (news : List (List Int)) (last : List Int), (∀ z ∈ run, p z = false) → run.foldl (stepK p n) (kids, news ++ [last], true) = (kids, news ++ [last ++ run], true) := by
  intro run
  induction run with
  | nil => intro _ _ _ _; simp
  | cons a run ih =>
    intro kids news last h
    have ha := h a (by simp)
    rw [List.foldl_cons]
    have e : stepK p n (kids, news ++ [last], true) a = (kids, news ++ [last ++ [a]], true) := by unfold stepK; rw [if_neg (by simp [ha])]; simp
    rw [e, ih _ _ _ (fun z hz => h z (by simp [hz]))]; simp
theorem fold_false (p : Int → Bool) (n : Nat) (run kids : List Int) (news : List (List Int)) (h : ∀ z ∈ run, p z = false) (hr : run ≠ []) : run.foldl (stepK p n) (kids, news, false) = (kids ++ [((n + news.length : Nat) : Int)], news ++ [run], true) := by
  cases run with
  | nil => exact absurd rfl hr
  | cons a run =>
    have ha := h a (by simp)
    rw [List.foldl_cons]
    have e : stepK p n (kids, news, false) a = (kids ++ [((n + news.length : Nat) : Int)], news ++ [[a]], true) := by unfold stepK; rw [if_neg (by simp [ha])]; simp
    rw [e, fold_false' p n run _ _ _ (fun z hz => h z (by simp [hz]))]; simp
/-- the run behind place f, up to t -/
def runOf (ks : List Int) (f t : Nat) : List Int := (ks.drop f).take (t - f)
theorem take_run (ks : List Int) (f t : Nat) (h : f ≤ t) : ks.take t = ks.take f ++ runOf ks f t := by
  unfold runOf
  rw [← List.take_add, show f + (t - f) = t by omega]
theorem runOf_len (ks : List Int) (f t : Nat) (h : t ≤ ks.length) : (runOf ks f t).length = t - f := by unfold runOf; simp; omega
theorem runOf_get (ks : List Int) (f t j : Nat) (h : j < t - f) : (runOf ks f t)[j]? = ks[f + j]? := by unfold runOf; rw [List.getElem?_take_of_lt h, List.getElem?_drop]
theorem RunAt.mem {p : Int → Bool} {ks : List Int} {r : Bool} {f t : Nat} (h : RunAt p ks r f t) : ∀ z ∈ runOf ks f t, p z = r := fun z hz => by
  obtain ⟨j, hj⟩ := List.mem_iff_getElem?.1 hz
  have hl := (List.getElem?_eq_some_iff.1 hj).1
  rw [runOf_len ks f t h.le] at hl
  rw [runOf_get ks f t j hl] at hj
  exact h.all _ z (by omega) (by omega) hj
theorem RunAt.ne {p : Int → Bool} {ks : List Int} {r : Bool} {f t : Nat} (h : RunAt p ks r f t) : runOf ks f t ≠ [] := fun e => by
  have := runOf_len ks f t h.le
  rw [e] at this
  have := h.lt
  simp at *; omega
/-- what is known at the end of a run -/
def KInv (p : Int → Bool) (n : Nat) (ks : List Int) (f : Nat) (kids : List Int) (news : List (List Int)) : Prop := ∃ op, FK p n (ks.take f) = (kids, news, op) ∧ (op = true → ∀ z, ks[f]? = some z → p z = true)
theorem KInv.start (p : Int → Bool) (n : Nat) (ks : List Int) : KInv p n ks 0 [] [] := ⟨false, rfl, fun h => by cases h⟩
theorem KInv.right {p : Int → Bool} {n : Nat} {ks kids : List Int} {f t : Nat} {news : List (List Int)} (h : KInv p n ks f kids news) (hr : RunAt p ks true f t) : KInv p n ks t (kids ++ runOf ks f t) news := by
  obtain ⟨op, h1, h2⟩ := h
  refine ⟨false, ?_, fun h => by cases h⟩
  rw [take_run ks f t (Nat.le_of_lt hr.lt), FK_append, h1, fold_true p n _ _ hr.mem hr.ne]
theorem KInv.wrong {p : Int → Bool} {n : Nat} {ks kids : List Int} {f t : Nat} {news : List (List Int)} (h : KInv p n ks f kids news) (hr : RunAt p ks false f t) : KInv p n ks t (kids ++ [((n + news.length : Nat) : Int)]) (news ++ [runOf ks f t]) := by
  obtain ⟨op, h1, h2⟩ := h
  have hop : op = false := by
    cases op with
    | false => rfl
    | true =>
      obtain ⟨z, hz⟩ : ∃ z, ks[f]? = some z := ⟨_, List.getElem?_eq_getElem (by have := hr.lt; have := hr.le; omega)⟩
      have a := h2 rfl z hz
      have b := hr.all f z (Nat.le_refl _) hr.lt hz
      rw [a] at b; cases b
  subst hop
  refine ⟨true, ?_, fun _ z hz => by simpa using hr.nxt z hz⟩
  rw [take_run ks f t (Nat.le_of_lt hr.lt), FK_append, h1, fold_false p n _ _ _ hr.mem hr.ne]
theorem KInv.done {p : Int → Bool} {n : Nat} {ks kids : List Int} {f : Nat} {news : List (List Int)} (h : KInv p n ks f kids news) (hf : ks.length ≤ f) : (FK p n ks).1 = kids ∧ (FK p n ks).2.1 = news := by
  obtain ⟨op, h1, _⟩ := h
  rw [List.take_of_length_le hf] at h1
  rw [h1]; exact ⟨rfl, rfl⟩
/-- how many there are: each kid is one, or goes into a new one -/
theorem FK_len (p : Int → Bool) (n : Nat) (ks : List Int) : (FK p n ks).2.1.length ≤ ks.length ∧ (FK p n ks).1.length ≤ ks.length ∧ ((FK p n ks).2.2 = true → (FK p n ks).2.1 ≠ []) := by
  suffices ∀ (b : List Int) (st : List Int × List (List Int) × Bool) (k : Nat), st.2.1.length ≤ k → st.1.length ≤ k → (st.2.2 = true → st.2.1 ≠ []) →
      (b.foldl (stepK p n) st).2.1.length ≤ k + b.length ∧ (b.foldl (stepK p n) st).1.length ≤ k + b.length ∧ ((b.foldl (stepK p n) st).2.2 = true → (b.foldl (stepK p n) st).2.1 ≠ []) by
    have := this ks ([], [], false) 0 (by simp) (by simp) (by simp)
    simpa [FK] using this
  intro b
  induction b with
  | nil => intro st k h1 h2 h3; exact ⟨by simpa using h1, by simpa using h2, h3⟩
  | cons a b ih =>
    intro st k h1 h2 h3
    rw [List.foldl_cons, List.length_cons]
    have := ih (stepK p n st a) (k + 1) ?_ ?_ ?_
    · obtain ⟨x, y, z⟩ := this
      exact ⟨by omega, by omega, z⟩
    all_goals
      unfold stepK
      split
      · simp; try omega
      · split
        · rename_i h4
          have h5 := h3 h4
          have : 0 < st.2.1.length := List.length_pos_iff.2 h5
          simp; try omega
        · simp; try omega

def newSty : Sty := { Sty.zero with cs := 1, rs := 1 }
/-- a node without where its slices lie -/
def Nd.bare (n : Nd) : Nd := { n with kv := .slice none 0 0, wv := .slice none 0 0 }
def newNd (k : Int) (run : List Int) : Nd := { Nd.zero with k := aroundP k, ks := run, s := newSty }
/-- the kind of a node by its place -/
def mayAt (k : Int) (ns : List Nd) (z : Int) : Bool := mayP k (kdOf ns z.toNat)
def fixB (ns : List Nd) (i : Nat) : List Nd :=
  match ns[i]? with
  | none => ns
  | some n => ns.set i { n with ks := (FK (mayAt n.k ns) ns.length n.ks).1 } ++ (FK (mayAt n.k ns) ns.length n.ks).2.1.map (newNd n.k)
theorem kdOf_bare (ns : List Nd) (i : Nat) : kdOf (ns.map Nd.bare) i = kdOf ns i := by
  unfold kdOf
  rw [List.getElem?_map]
  cases ns[i]? <;> rfl
theorem kdOf_append (ns l : List Nd) (i : Nat) (h : i < ns.length) : kdOf (ns ++ l) i = kdOf ns i := by
  unfold kdOf
  rw [List.getElem?_append_left h]
end Go.Proofs.Ytilighhccjdceaa
