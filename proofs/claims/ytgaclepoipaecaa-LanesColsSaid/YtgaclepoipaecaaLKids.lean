/- Contract of lanes.kids, as an iterator: the kids of a node, and their kinds. -/
import Derived.Test.YtgaclepoipaecaaTGrow
import Derived.Test.YtgaclepoipaecaaSSides
namespace Go.Proofs.Ytgaclepoipaecaa
open Go.RowKit Go.Shelf
set_option linter.unusedVariables false
attribute [local go_sem] Oper.semAt_some

/-- the next kid -/
def nxtK (ks : List Int) (kd : Nat → Int) (pre : List (Int × Int)) (x : Int × Int) : Prop := ks[pre.length]? = some x.1 ∧ x.2 = kd x.1.toNat
def encK (x : Int × Int) : Array Value := #[.int .i64 x.1, .int .i64 x.2]
/-- what the iterator reads: two boxes, the node's kids, the nodes' kinds; all of it below B -/
structure KidMem (B gl ga qb qo c L o m cap p : Nat) (ks : List Int) (kd : Nat → Int) (X : World) : Prop where
  size : B ≤ X.heap.size
  lt : gl < B ∧ ga < B ∧ qb < B ∧ L < B
  bl : X.cell? ⟨gl, 0, none⟩ = some (.slice (some ⟨L, o, none⟩) m cap)
  ba : X.cell? ⟨ga, 0, none⟩ = some (.int .i64 p)
  bk : X.cell? ⟨L, o + p * 34 + 1, none⟩ = some (.slice (some ⟨qb, qo, none⟩) ks.length c)
  kid : ∀ j, j < ks.length → X.cell? ⟨qb, qo + j, none⟩ = some (.int .i64 (ks[j]?.getD 0))
  kind : ∀ i, i < m → X.cell? ⟨L, o + i * 34, none⟩ = some (.int .i64 (kd i))
theorem KidMem.below {B gl ga qb qo c L o m cap p : Nat} {ks : List Int} {kd : Nat → Int} {X Y : World} (h : KidMem B gl ga qb qo c L o m cap p ks kd X) (hb : Below B X Y) : KidMem B gl ga qb qo c L o m cap p ks kd Y := by
  obtain ⟨h1, h2, h3, h4, h5, h6, h7⟩ := h
  exact ⟨Nat.le_trans h1 hb.size, h2, (hb.cell (p := ⟨gl, 0, none⟩) h2.1).trans h3, (hb.cell (p := ⟨ga, 0, none⟩) h2.2.1).trans h4, (hb.cell (p := ⟨L, o + p * 34 + 1, none⟩) h2.2.2.2).trans h5,
    fun j hj => (hb.cell (p := ⟨qb, qo + j, none⟩) h2.2.2.1).trans (h6 j hj), fun i hi => (hb.cell (p := ⟨L, o + i * 34, none⟩) h2.2.2.2).trans (h7 i hi)⟩
set_option maxRecDepth 100000 in
set_option maxHeartbeats 2000000 in
theorem lkids_in (n : Nat) (hn : 1 ≤ n) (l B gl ga qb qo c L o m cap p kl : Nat) (ks : List Int) (kd : Nat → Int) (hkl : ks.length = kl) (hklc : kl ≤ c) (hc : c ≤ 9223372036854775807) (hm : m ≤ 1000000) (hp : p < m)
    (hks : ∀ z ∈ ks, 0 ≤ z ∧ z < (m : Int)) (J Jx : List (Int × Int) → World → Prop)
    (hY : ∀ pre x W, J pre W → nxtK ks kd pre x → YieldAt Fence.wide (n - 1) Try.prog l (encK x) W fun e W' =>
      (e = .returned (.bool true) ∧ J (pre ++ [x]) W' ∧ KeepR (KidMem B gl ga qb qo c L o m cap p ks kd) W W') ∨ (e = .returned (.bool false) ∧ Jx (pre ++ [x]) W'))
    (W : World) (hR : KidMem B gl ga qb qo c L o m cap p ks kd W) (h0 : J [] W) :
    CallsIn Fence.wide n Try.prog 37 #[.func (.yield l) #[] #[], .pointer (some ⟨gl, 0, none⟩), .pointer (some ⟨ga, 0, none⟩)] W fun e W' => (∃ v, e = .returned v) ∧
      ((∃ ys, ys.length = kl ∧ J ys W') ∨ (∃ pre, True ∧ Jx pre W')) := by
  refine callsIn_of_wp Try.func37 rfl trivial ?_ rfl
  simp only [Try.ntmps37, List.size_toArray, List.length_cons, List.length_nil, Nat.reduceAdd, Nat.reduceSub, Array.replicate_succ, Array.replicate_zero, List.push_toArray, List.append_toArray, List.nil_append, List.cons_append]
  have HY := Lib.hid hY
  have HKS := Lib.hid hks
  have HR0 := Lib.hid hR
  have H0 := Lib.hid h0
  have HKL := Lib.hid hkl
  obtain ⟨R1, R2, R3, R4, R5, R6, R7⟩ := hR
  rw [hkl] at R5
  have la := R2.1
  have lb := R2.2.1
  have ld := R2.2.2.2
  clear hY hks h0 hkl R6 R7 R2
  gi_wp2
  gi_loopw [5, 12] (fun _ s12 X => ∃ (t : Nat) (pre : List (Int × Int)), t ≤ kl ∧ s12 = .int .i64 t ∧ pre.length = t ∧ Hid (J pre X) ∧ Hid (KidMem B gl ga qb qo c L o m cap p ks kd X)) (fun _ s12 _ => kl - (intOf s12).toNat)
  case atStart => exact ⟨0, [], Nat.zero_le _, rfl, rfl, H0, HR0⟩
  case round =>
    obtain ⟨t, pre, ht, rfl, hpl, HJ, HR⟩ := hrel
    clear R1 R3 R4 R5 la lb ld
    obtain ⟨R1, R2, R3, R4, R5, R6, R7⟩ := HR.out
    rw [HKL.out] at R6
    by_cases hlt : t < kl
    · obtain ⟨z, hz⟩ : ∃ z, ks[t]? = some z := ⟨_, List.getElem?_eq_getElem (by rw [HKL.out]; exact hlt)⟩
      have hzr := HKS.out z (List.mem_iff_getElem?.2 ⟨t, hz⟩)
      obtain ⟨zn, rfl⟩ : ∃ zn : Nat, z = (zn : Int) := ⟨z.toNat, by omega⟩
      have cz := R6 t hlt
      rw [hz] at cz
      have ck := R7 zn (by omega)
      simp only [Option.getD_some] at cz
      have la := R2.1
      have lc := R2.2.2.1
      have ld := R2.2.2.2
      obtain ⟨fn, tmps, assign, body, hy, hR⟩ := HY.out pre ((zn : Int), kd zn) _ HJ.out ⟨by rw [hpl]; exact hz, by simp⟩
      dsimp only [encK] at hy
      have HRn := Lib.hid hR
      have hpl' : (pre ++ [((zn : Int), kd zn)]).length = t + 1 := by simp [hpl]
      have HPL := Lib.hid hpl'
      clear R6 R7 hz R2 R4 R5 hR HJ hpl' hpl
      gi_wp2
      refine HRn.out.mono ?_
      rintro e W3 (⟨rfl, hJ3, hk3⟩ | ⟨rfl, hJx3⟩)
      · have H3 := Lib.hid hJ3
        have KR3 := Lib.hid (hk3.2 HR.out)
        clear hJ3 hk3 HRn HY R3 cz ck
        gi_wp2
        go_roundw
        case rel => exact ⟨t + 1, _, by omega, by go_num, HPL.out, H3, KR3⟩
        case measure => simp [intOf]; omega
      · have H3 := Lib.hid hJx3
        clear hJx3 HRn HY R3 cz ck
        gi_wp2
        exact bodyPost_ret (v := .tuple #[]) (results_none rfl _ _ _) rfl ⟨⟨_, rfl⟩, .inr ⟨_, trivial, H3.out⟩⟩
    · have HE2 : Hid (pre.length = kl) := Lib.hid (by omega)
      clear R1 R2 R3 R4 R5 R6 R7
      gi_wp2
      go_end0
      exact ⟨⟨_, rfl⟩, .inl ⟨_, HE2.out, HJ.out⟩⟩
/-- what the iterator reads, whatever slice the kids lie in -/
structure KidM (B gl ga L o m cap p : Nat) (kv : Value) (ks : List Int) (kd : Nat → Int) (X : World) : Prop where
  size : B ≤ X.heap.size
  lt : gl < B ∧ ga < B ∧ L < B
  bl : X.cell? ⟨gl, 0, none⟩ = some (.slice (some ⟨L, o, none⟩) m cap)
  ba : X.cell? ⟨ga, 0, none⟩ = some (.int .i64 p)
  bk : X.cell? ⟨L, o + p * 34 + 1, none⟩ = some kv
  ints : Ints X kv ks
  low : ks = [] ∨ ∃ qb qo c, kv = .slice (some ⟨qb, qo, none⟩) ks.length c ∧ qb < B
  kind : ∀ i, i < m → X.cell? ⟨L, o + i * 34, none⟩ = some (.int .i64 (kd i))
set_option maxRecDepth 100000 in
set_option maxHeartbeats 1000000 in
theorem lkids_in0 (n : Nat) (hn : 1 ≤ n) (l gl ga L o m cap p : Nat) (q : Option Addr) (c : Nat) (hm : m ≤ 1000000) (hp : p < m) (J Jx : List (Int × Int) → World → Prop)
    (W : World) (bl : W.cell? ⟨gl, 0, none⟩ = some (.slice (some ⟨L, o, none⟩) m cap)) (ba : W.cell? ⟨ga, 0, none⟩ = some (.int .i64 p)) (bk : W.cell? ⟨L, o + p * 34 + 1, none⟩ = some (.slice q 0 c)) (la : gl < W.heap.size) (lb : ga < W.heap.size) (ld : L < W.heap.size) (h0 : J [] W) :
    CallsIn Fence.wide n Try.prog 37 #[.func (.yield l) #[] #[], .pointer (some ⟨gl, 0, none⟩), .pointer (some ⟨ga, 0, none⟩)] W fun e W' => (∃ v, e = .returned v) ∧
      ((∃ ys, ys.length = 0 ∧ J ys W') ∨ (∃ pre, True ∧ Jx pre W')) := by
  refine callsIn_of_wp Try.func37 rfl trivial ?_ rfl
  simp only [Try.ntmps37, List.size_toArray, List.length_cons, List.length_nil, Nat.reduceAdd, Nat.reduceSub, Array.replicate_succ, Array.replicate_zero, List.push_toArray, List.append_toArray, List.nil_append, List.cons_append]
  have H0 := Lib.hid h0
  clear h0
  gi_wp2
  gi_loopw [5, 12] (fun _ s12 X => s12 = .int .i64 0 ∧ X = W) (fun _ _ _ => 0)
  case atStart => exact ⟨rfl, rfl⟩
  case round =>
    obtain ⟨rfl, rfl⟩ := hrel
    gi_wp2
    go_end0
    exact ⟨⟨_, rfl⟩, .inl ⟨_, rfl, H0.out⟩⟩
theorem KidM.below {B gl ga L o m cap p : Nat} {kv : Value} {ks : List Int} {kd : Nat → Int} {X Y : World} (h : KidM B gl ga L o m cap p kv ks kd X) (hb : Below B X Y) : KidM B gl ga L o m cap p kv ks kd Y := by
  obtain ⟨h1, h2, h3, h4, h5, h6, h7, h8⟩ := h
  refine ⟨Nat.le_trans h1 hb.size, h2, (hb.cell (p := ⟨gl, 0, none⟩) h2.1).trans h3, (hb.cell (p := ⟨ga, 0, none⟩) h2.2.1).trans h4, (hb.cell (p := ⟨L, o + p * 34 + 1, none⟩) h2.2.2).trans h5, ?_, h7, fun i hi => (hb.cell (p := ⟨L, o + i * 34, none⟩) h2.2.2).trans (h8 i hi)⟩
  rcases h7 with rfl | ⟨qb, qo, c, rfl, hq⟩
  · obtain ⟨q, c, rfl⟩ := h6.form
    exact ⟨h6.1, .inl ⟨q, c, rfl, rfl⟩⟩
  · obtain ⟨g1, ⟨a, c', e, rfl⟩ | ⟨b, off, c', e, hc⟩⟩ := h6
    · exact ⟨g1, .inl ⟨some ⟨qb, qo, none⟩, c, rfl, rfl⟩⟩
    · injection e with e1 e2 e3
      injection e1 with e1; injection e1 with e1 e4
      subst e1 e4
      exact ⟨g1, .inr ⟨_, _, c, rfl, fun j hj => (hb.cell (p := ⟨_, _ + j, none⟩) hq).trans (hc j hj)⟩⟩
theorem KidM.mem {B gl ga L o m cap p : Nat} {qb qo c : Nat} {ks : List Int} {kd : Nat → Int} {X : World} (hne : ks ≠ []) (hq : qb < B) (h : KidM B gl ga L o m cap p (.slice (some ⟨qb, qo, none⟩) ks.length c) ks kd X) : KidMem B gl ga qb qo c L o m cap p ks kd X := by
  obtain ⟨h1, h2, h3, h4, h5, h6, h7, h8⟩ := h
  refine ⟨h1, ⟨h2.1, h2.2.1, hq, h2.2.2⟩, h3, h4, h5, fun j hj => ?_, h8⟩
  obtain ⟨_, ⟨a, c', e, rfl⟩ | ⟨b, off, c', e, hc⟩⟩ := h6
  · exact absurd rfl hne
  · injection e with e1 e2 e3
    injection e1 with e1; injection e1 with e1 e4
    subst e1 e4
    exact hc j hj
theorem KidMem.gen {B gl ga L o m cap p : Nat} {qb qo c : Nat} {ks : List Int} {kd : Nat → Int} {X : World} (hl : ks.length ≤ 9223372036854775807) (h : KidMem B gl ga qb qo c L o m cap p ks kd X) : KidM B gl ga L o m cap p (.slice (some ⟨qb, qo, none⟩) ks.length c) ks kd X :=
  ⟨h.size, ⟨h.lt.1, h.lt.2.1, h.lt.2.2.2⟩, h.bl, h.ba, h.bk, ⟨hl, .inr ⟨qb, qo, c, rfl, h.kid⟩⟩, .inr ⟨qb, qo, c, rfl, h.lt.2.2.1⟩, h.kind⟩
theorem KidM.grownN {B gl ga L o m cap p : Nat} {kv : Value} {ks : List Int} {kd : Nat → Int} {X Y : World} {row : Option Nat} (h : KidM B gl ga L o m cap p kv ks kd X) (hg : X.grownBy Y row) (hr : NoCells X row) : KidM B gl ga L o m cap p kv ks kd Y :=
  ⟨Nat.le_trans h.size hg.size, h.lt, cell_grown hg hr h.bl, cell_grown hg hr h.ba, cell_grown hg hr h.bk, h.ints.grownN hg hr, h.low, fun i hi => cell_grown hg hr (h.kind i hi)⟩
theorem lkids_next (n : Nat) (hn : 1 ≤ n) (B gl ga L o m cap p : Nat) (kv : Value) (ks : List Int) (kd : Nat → Int) (hc : CapOk kv) (hm : m ≤ 1000000) (hp : p < m)
    (hks : ∀ z ∈ ks, 0 ≤ z ∧ z < (m : Int)) (w : World) (hR : KidM B gl ga L o m cap p kv ks kd w) (hB : B = w.heap.size) :
    SeqNext Fence.wide n Try.prog 37 #[.pointer (some ⟨gl, 0, none⟩), .pointer (some ⟨ga, 0, none⟩)] encK (KeepR (KidM B gl ga L o m cap p kv ks kd)) (nxtK ks kd) (fun ys => ys.length = ks.length) (fun _ => True) w := by
  intro l J Jx W hW hJ hY h0
  have hi := hR.ints
  have hlow := hR.low
  by_cases hne : ks = []
  · subst hne
    obtain ⟨q, c, rfl⟩ := hi.form
    have hR' := hR.below (hB ▸ hW)
    have hs := hR'.size
    exact lkids_in0 n hn l gl ga L o m cap p q c hm hp J Jx W hR'.bl hR'.ba hR'.bk (by have := hR'.lt; omega) (by have := hR'.lt; omega) (by have := hR'.lt; omega) h0
  · rcases hlow with h | ⟨qb, qo, c, rfl, hq⟩
    · exact absurd h hne
    obtain ⟨p', l', c', e, hlc, hcc⟩ := hc
    injection e with e1 e2 e3
    subst e2 e3
    refine lkids_in n hn l B gl ga qb qo c L o m cap p ks.length ks kd rfl hlc hcc hm hp hks J Jx (fun pre x V hj hx => ?_) W ((hR.mem hne hq).below (hB ▸ hW)) h0
    obtain ⟨fn, tmps, asg, body, h1, h2⟩ := hY pre x V hj hx
    refine ⟨fn, tmps, asg, body, h1, h2.mono ?_⟩
    rintro e W' (⟨a, b, c⟩ | h)
    · exact .inl ⟨a, b, c.1, fun hr => (c.2 (hr.gen hi.small)).mem hne hq⟩
    · exact .inr h
theorem kidsF_any (p1 : Option Addr) (l1 c1 : Nat) (at' : Int) (w : World) :
    Calls Try.prog 22 #[.slice p1 l1 c1, .int .i64 at'] w fun e w' => e = .returned (.func (.func 37) #[] #[.pointer (some ⟨w.heap.size, 0, none⟩), .pointer (some ⟨w.heap.size + 1, 0, none⟩)]) ∧
      w' = (w.alloc (.cells #[.slice p1 l1 c1] 22)).alloc (.cells #[.int .i64 at'] 3) := by
  go_enter Try.func22, Try.ntmps22
  go_wp2
  go_ret
  exact ⟨rfl, rfl⟩
end Go.Proofs.Ytgaclepoipaecaa
