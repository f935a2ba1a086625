/- Contract of lanes.Cols for a table of whose kids none is a group of columns. -/
import Derived.Test.YtgeciomehldjdaaLSpans
import Derived.Test.YtgeciomehldjdaaLRepeat
namespace Go.Proofs.Ytgeciomehldjdaa
open Go.RowKit Go.Shelf Go.Maps
set_option linter.unusedVariables false
attribute [local go_sem] Oper.semAt_some

def repX (x : (Int × Int) × Int) : List (Int × Int) := List.replicate x.2.toNat x.1
def colsS (kd : Nat → Int) (CS : Nat → Int) (ks : List Int) : List ((Int × Int) × Int) := ks.flatMap fun z => if kd z.toNat = 5 then [((z, -1), CS z.toNat)] else []
def colsT (kd : Nat → Int) (CS : Nat → Int) (ks : List Int) : List (Int × Int) := (colsS kd CS ks).flatMap repX
theorem spans_colsS {ns1 ns : List Nd} {CS : Nat → Int} : ∀ {ks : List Int}, (∀ z ∈ ks, kdOf ns1 z.toNat ≠ 4) → kdOf ns1 = kdOf ns → (∀ z ∈ ks, csOf ns1 z = CS z.toNat) → spansP ns1 ks = colsS (kdOf ns) CS ks
  | [], _, _, _ => rfl
  | z :: ks, h1, h2, h3 => by
    have ih := spans_colsS (ks := ks) (fun y hy => h1 y (List.mem_cons_of_mem _ hy)) h2 (fun y hy => h3 y (List.mem_cons_of_mem _ hy))
    unfold spansP colsS at ih ⊢
    rw [List.flatMap_cons, List.flatMap_cons, ih]
    congr 1
    unfold spans1
    rw [if_neg (h1 z (List.mem_cons_self ..)), h2, h3 z (List.mem_cons_self ..)]
theorem colsS_mem {kd : Nat → Int} {CS : Nat → Int} {ks : List Int} {x : (Int × Int) × Int} (h : x ∈ colsS kd CS ks) : ∃ z ∈ ks, kd z.toNat = 5 ∧ x = ((z, -1), CS z.toNat) := by
  unfold colsS at h
  obtain ⟨z, hz, hx⟩ := List.mem_flatMap.1 h
  split at hx
  · rename_i h5; exact ⟨z, hz, h5, by simpa using hx⟩
  · cases hx
/-- what the rounds over the spans keep -/
structure ColW (N NR base : Nat) (S pre : List ((Int × Int) × Int)) (v : Value) (w X : World) : Prop where
  isPre : pre = S.take pre.length
  few : (pre.flatMap repX).length ≤ 10000
  r0 : Whole X N 25 [.slice none 0 0]
  r1 : Whole X (N + 1) 26 [.int .i64 0]
  lb : Whole X NR 25 [v]
  own : OwnL base X v (pre.flatMap repX)
  low : Below N w X
def ColI (N NR base : Nat) (S : List ((Int × Int) × Int)) (w : World) (pre : List ((Int × Int) × Int)) (X : World) : Prop := ∃ v, ColW N NR base S pre v w X
def ColX (N : Nat) (many : Prop) (w : World) (c : Code) (pre : List ((Int × Int) × Int)) (X : World) : Prop :=
  c = .ret ∧ many ∧ Whole X N 25 [.slice none 0 0] ∧ Whole X (N + 1) 26 [.int .i64 43] ∧ Below N w X
theorem ColW.step {N NR LB base e c : Nat} {q : Option Addr} {S pre : List ((Int × Int) × Int)} {w V Z : World} (h : ColW N NR base S pre (.slice q e c) w V) (hz : Below V.heap.size V Z) (x : Int × Int) (s : Nat) (hx : S[pre.length]? = some (x, (s : Int))) (hfit : (pre.flatMap repX).length + s ≤ 10000) (hb : N + 2 ≤ base ∧ base < NR ∧ NR < V.heap.size)
    (q2 : Option Addr) (c2 : Nat) (hq : q2 = none → (List.replicate s x).length = 0) (hc : ∀ a, q2 = some a → ∀ j u, ((List.replicate s x).flatMap encL)[j]? = some u → Z.cell? (a.add j) = some u) :
    ∃ v' X2, (Builtin.append_ #[25, 25] 25 #[.slice q e c, .slice q2 s c2]).run Try.prog Z = .ok v' X2 ∧ (∃ p2 k2 c2, v' = .slice p2 k2 c2) ∧ Whole X2 NR 25 [.slice q e c] ∧
      (∀ (a : Addr) (u : Value), V.cell? a = some u → NR < a.block → (∀ g, (Value.slice q e c).ownBlock = some g → g ≠ a.block) → X2.cell? a = some u ∧ (X2.setCell ⟨NR, 0, none⟩ v').cell? a = some u) ∧
      KeepsOthers V (X2.setCell ⟨NR, 0, none⟩ v') ∧ KU NR LB V (X2.setCell ⟨NR, 0, none⟩ v') ∧ ColI N NR base S w (pre ++ [(x, (s : Int))]) (X2.setCell ⟨NR, 0, none⟩ v') := by
  have hlen : (List.replicate s x).length = s := List.length_replicate
  obtain ⟨v', X2, hr, ⟨p2, c3, e2⟩, hlb, a4, a5, a6, a7, a8, a9, a10, a11⟩ := box_step h.lb h.own hz (by omega) (List.replicate s x) q2 c2 hq hc (by rw [hlen]; omega)
  rw [hlen] at hr
  have hpx : (pre ++ [(x, (s : Int))]).flatMap repX = pre.flatMap repX ++ List.replicate s x := by
    rw [List.flatMap_append, List.flatMap_cons, List.flatMap_nil, List.append_nil]
    simp [repX]
  have hBel := a8 base V (Nat.le_refl _) (by omega) (Below.refl _ _)
  have hcN : (X2.setCell ⟨NR, 0, none⟩ v').cell? ⟨NR, 0, none⟩ = some v' := a4.cellAt 0
  have hcV : V.cell? ⟨NR, 0, none⟩ = some (.slice q e c) := h.lb.cellAt 0
  refine ⟨v', X2, hr, ⟨p2, _, c3, e2⟩, hlb, fun a u hau hab hg => a10 a u hau (by omega) (fun e => hg _ e rfl), a6, ⟨⟨hBel.os, hBel.tape, hBel.output⟩, a6.size, fun g h1 h2 _ h4 => a11 g h1 h2 (fun e => h4 ⟨_, hcV, e⟩), ?_, ?_, ⟨_, hcN⟩⟩, v', ?_, ?_, ?_, ?_, a4, by rw [hpx]; exact a5, ?_⟩
  · rintro g ⟨u, hu, hg⟩
    rw [hcN] at hu
    injection hu with hu
    subst hu
    rcases a9 with e | e
    · exact .inl ⟨_, hcV, by rw [← e]; exact hg⟩
    · rw [e] at hg
      injection hg with hg
      have := hz.size
      exact .inr (by omega)
  · rintro g ⟨u, hu, hg⟩
    rw [hcN] at hu
    injection hu with hu
    subst hu
    exact (a5.lt g hg).2
  · rw [List.length_append, List.length_singleton, List.take_add_one, hx, ← h.isPre]; rfl
  · rw [hpx, List.length_append, hlen]; exact hfit
  · exact (a7 N _ _ h.r0 (by decide) (by omega)).2
  · exact (a7 (N + 1) _ _ h.r1 (by decide) (by omega)).2
  · exact a8 N w (by omega) (by omega) h.low
set_option maxRecDepth 100000 in
set_option maxHeartbeats 4000000 in
theorem cols_cols (b off cap m p : Nat) (k : Nat) (CS : Nat → Int) (ns : List Nd) (w : World) (hm : ns.length = m) (hm2 : m ≤ 65536) (hp : p < m) (hk : k ≤ 10000)
    (hK : ∀ n ∈ ns, n.ks.length ≤ 70000) (hlink : ∀ n ∈ ns, ∀ z ∈ n.ks, 0 ≤ z ∧ z < (m : Int))
    (H : Hid (Calls Try.prog 12 #[.slice (some ⟨b, off, none⟩) m cap] ((w.alloc (.cells #[.slice none 0 0] 25)).alloc (.cells #[.int .i64 0] 26)) fun e W' => ∃ L c ns', e = .returned (.tuple #[.slice (some ⟨L, 0, none⟩) m c, .int .i64 0]) ∧ ns'.map Nd.k = ns.map Nd.k ∧ ns'.map Nd.ks = ns.map Nd.ks ∧ (∀ i n', ns'[i]? = some n' → n'.s.cs = CS i) ∧ PageAt W' (.slice (some ⟨L, 0, none⟩) m c) ns' ∧ Below (w.heap.size + 2) ((w.alloc (.cells #[.slice none 0 0] 25)).alloc (.cells #[.int .i64 0] 26)) W'))
    (ht : isTab ns p = true) (hno : ∀ z ∈ kfOf ns p, kdOf ns z.toNat ≠ 4) (hCS : ∀ z ∈ kfOf ns p, kdOf ns z.toNat = 5 → 1 ≤ CS z.toNat ∧ CS z.toNat ≤ 1000) :
    Calls Try.prog 7 #[.slice (some ⟨b, off, none⟩) m cap, .int .i64 p, .int .i64 k] w fun e W' => ((∃ v, (colsT (kdOf ns) CS (kfOf ns p)).length ≤ 10000 ∧ e = .returned (.tuple #[v, .int .i64 0]) ∧ OwnL w.heap.size W' v (colsT (kdOf ns) CS (kfOf ns p) ++ bare (k - (colsT (kdOf ns) CS (kfOf ns p)).length))) ∨ (10000 < (colsT (kdOf ns) CS (kfOf ns p)).length ∧ e = .returned (.tuple #[.slice none 0 0, .int .i64 43]))) ∧ Below w.heap.size w W' := by
  obtain ⟨T, hT0⟩ : ∃ T, colsT (kdOf ns) CS (kfOf ns p) = T := ⟨_, rfl⟩
  rw [hT0]
  have HT0 := Lib.hid hT0
  clear hT0
  refine (callsIn_wide (n := 3)).1 (callsIn_of_wp_marks Try.func7 rfl trivial (wpIn_wide.2 ?_) rfl)
  simp only [Try.ntmps7, List.size_toArray, List.length_cons, List.length_nil, Nat.reduceAdd, Nat.reduceSub, Array.replicate_succ, Array.replicate_zero, List.push_toArray, List.append_toArray, List.nil_append, List.cons_append]
  have HM := Lib.hid hm
  have HT := Lib.hid ht
  have HSF := Lib.hid (fun q l c (Y : World) => spansF_any q l c (p : Int) Y)
  obtain ⟨W0, hW0⟩ : ∃ W0, (w.alloc (.cells #[.slice none 0 0] 25)).alloc (.cells #[.int .i64 0] 26) = W0 := ⟨_, rfl⟩
  have k0 := Lib.hid (show Whole W0 w.heap.size 25 [.slice none 0 0] by rw [← hW0]; exact (whole_new w [.slice none 0 0] 25 _ rfl).alloc _)
  have k1 := Lib.hid (show Whole W0 (w.heap.size + 1) 26 [.int .i64 0] by rw [← hW0]; exact whole_new (w.alloc (.cells #[.slice none 0 0] 25)) [.int .i64 0] 26 _ (by simp))
  have b0 := Lib.hid (show Below w.heap.size w W0 by rw [← hW0]; exact ((Below.refl _ w).alloc (Nat.le_refl _) _).alloc (by simp) _)
  have s0 : W0.heap.size = w.heap.size + 2 := by rw [← hW0]; simp
  have z0 : w.heap.size + 2 ≤ W0.heap.size := by omega
  rw [hW0] at H
  clear s0
  have dk1 : decide ((k : Int) < 0) = false := by simp
  have dk2 : decide ((k : Int) > 10000) = false := by simp; omega
  have dk3 : decide (10000 < (k : Int)) = false := by simp; omega
  obtain ⟨i0, hi0, hz0', hz1', hz2'⟩ := info_parts Try.infoLane
  have HZ0 := Lib.hid hi0
  have HZ1 := Lib.hid hz0'
  have HZ2 := Lib.hid hz1'
  have HZ3 := Lib.hid hz2'
  clear hm ht hi0 hz0' hz1' hz2'
  go_wp2_with fail
  refine H.out.mono ?_
  clear H
  rintro e w1 ⟨L, c, ns1, rfl, hk1, hks1, hcs1, hP1, hb1⟩
  have HP1 := Lib.hid hP1
  have hl1 : ns1.length = m := by have := congrArg List.length hk1; simpa [HM.out] using this
  have HTB := Lib.hid (show Calls Try.prog 13 #[.slice (some ⟨L, 0, none⟩) m c, .int .i64 p] w1 fun e W' => e = .returned (.bool true) ∧ w1 = W' from by
    have h := (tab_any (some ⟨L, 0, none⟩) m c p ns1 w1 hP1).mono (fun e w' h => (⟨h.1, h.2.symm⟩ : e = .returned (.bool (isTab ns1 p)) ∧ w1 = w'))
    have e : isTab ns1 p = true := by rw [← HT.out]; unfold isTab; rw [kd_same hk1, hl1, HM.out]
    rwa [e] at h)
  have k01 := Lib.hid (k0.out.below hb1 (by omega))
  have k11 := Lib.hid (k1.out.below hb1 (by omega))
  have B1 := Lib.hid (b0.out.trans (hb1.mono (by omega)))
  have HK1 := Lib.hid hk1
  have HCS1 := Lib.hid hcs1
  have HKS1 := Lib.hid hks1
  have HL1 := Lib.hid hl1
  have z1 : w.heap.size + 2 ≤ w1.heap.size := by have := hb1.size; omega
  clear hP1 hl1 k0 k1 b0 hk1 hks1 hcs1 hb1 hW0 z0
  go_wp2_with (first
    | (go_at_call 13; refine HTB.out.mono ?_; rintro e w' ⟨rfl, rfl⟩; clear HTB)
    | (at_make; refine wpList_make_own _ rfl _ _ 25 rfl w1.heap.size 49 i0 _ 2 Try.underlying25 HZ0.out HZ1.out HZ2.out .i64 .i64 _ k rfl rfl rfl (by rw [HZ3.out]; omega) (by unfold maxLen; omega) (Nat.le_refl _) ?_; intro w2 ho2 hg2; have B2 := Lib.hid ((Below.refl w1.heap.size w1).grown hg2 (Nat.le_refl _) (fun g e => by cases e)); have HO2 := Lib.hid ho2; clear ho2 hg2)
    | (go_at_call 14; refine (HSF.out _ _ _ _).mono ?_; rintro e w' ⟨rfl, rfl⟩))
  obtain ⟨N, hN⟩ : ∃ N, w.heap.size = N := ⟨_, rfl⟩
  obtain ⟨base, hbase⟩ : ∃ base, w1.heap.size = base := ⟨_, rfl⟩
  obtain ⟨NR, hNR⟩ : ∃ NR, w2.heap.size = NR := ⟨_, rfl⟩
  obtain ⟨W13, hW13⟩ : ∃ W13, w2.alloc (.cells #[.slice (some ⟨base, 0, none⟩) 0 k] 25) = W13 := ⟨_, rfl⟩
  obtain ⟨W3, hW3⟩ : ∃ W3, (W13.alloc (.cells #[.slice (some ⟨L, 0, none⟩) m c] 22)).alloc (.cells #[.int .i64 (p : Int)] 3) = W3 := ⟨_, rfl⟩
  have s13 : W13.heap.size = NR + 1 := by rw [← hW13]; simp [hNR]
  have s3 : W3.heap.size = NR + 3 := by rw [← hW3]; simp [s13]
  have hbR : base ≤ NR := by rw [← hbase, ← hNR]; exact B2.out.size
  have hNb : N + 2 ≤ base := by omega
  have b13 : Below NR w2 W13 := by rw [← hW13]; exact (Below.refl NR w2).alloc (by omega) _
  have b33 : Below NR W13 W3 := by rw [← hW3]; exact ((Below.refl NR W13).alloc (by omega) _).alloc (by simp; omega) _
  have b23 : Below NR w2 W3 := b13.trans b33
  have b1w3 : Below base w1 W3 := (by have := B2.out; rw [hbase] at this; exact this.trans (b23.mono hbR))
  have bw3 : Below N w W3 := by have := B1.out; rw [hN] at this; exact this.trans (b1w3.mono (by omega))
  have y0 : Whole W3 (NR + 1) 22 [.slice (some ⟨L, 0, none⟩) m c] := by rw [← hW3]; exact (whole_new W13 [.slice (some ⟨L, 0, none⟩) m c] 22 _ s13.symm).alloc _
  have y1 : Whole W3 (NR + 2) 3 [.int .i64 (p : Int)] := by rw [← hW3]; exact whole_new (W13.alloc (.cells #[.slice (some ⟨L, 0, none⟩) m c] 22)) [.int .i64 (p : Int)] 3 _ (by simp [s13])
  have y2 : Whole W3 NR 25 [.slice (some ⟨base, 0, none⟩) 0 k] := by
    rw [← hW3, ← hW13]
    exact ((whole_new w2 [.slice (some ⟨base, 0, none⟩) 0 k] 25 _ hNR.symm).alloc _).alloc _
  obtain ⟨n, hn⟩ : ∃ n, ns1[p]? = some n := ⟨_, List.getElem?_eq_getElem (by rw [HL1.out]; exact hp)⟩
  have hmem : n ∈ ns1 := List.mem_iff_getElem?.2 ⟨p, hn⟩
  have hkf : kfOf ns (p : Int) = n.ks := by
    have := congrArg (fun l => l[p]?) HKS1.out
    simp only [List.getElem?_map, hn] at this
    unfold kfOf
    rw [Int.toNat_natCast]
    cases hq : ns[p]? with
    | none => rw [hq] at this; simp at this
    | some n0 => rw [hq] at this; simp at this; exact this.symm
  have hnk : ∃ n0 ∈ ns, n0.ks = n.ks := by
    unfold kfOf at hkf
    rw [Int.toNat_natCast] at hkf
    cases hq : ns[p]? with
    | none => have := (List.getElem?_eq_none_iff.1 hq); have := HM.out; omega
    | some n0 => rw [hq] at hkf; exact ⟨n0, List.mem_iff_getElem?.2 ⟨p, hq⟩, hkf⟩
  obtain ⟨n0, hn0, en0⟩ := hnk
  have hlinkn : ∀ z ∈ n.ks, 0 ≤ z ∧ z < (m : Int) := fun z hz => hlink n0 hn0 z (by rw [en0]; exact hz)
  have hkd : kdOf ns1 = kdOf ns := kd_same HK1.out
  obtain ⟨b', off', e, _, hcs⟩ := page_cells HP1.out (by omega)
  injection e with e; injection e with e1 e2
  subst e1 e2
  obtain ⟨cn0, cn1, hIk, hbw0⟩ := hcs p n hn
  rw [hbase] at hbw0
  have hcapn : CapOk n.kv := (HP1.out.2.1 n hmem).2.2.1
  have hSp : SpanM (NR + 1) (NR + 2) L 0 m c p n.kv n.ks (kdOf ns1) W3 := by
    refine ⟨by omega, y0.cellAt 0, y1.cellAt 0, (b1w3.cell (p := ⟨L, 0 + p * 34 + 1, none⟩) hbw0).trans cn1, hIk.below (by rw [hbase]; exact b1w3), fun j hj => ?_⟩
    have hj' := List.getElem?_eq_getElem (show j < ns1.length by rw [HL1.out]; exact hj)
    have := (hcs j _ hj').1
    unfold kdOf
    rw [hj']
    exact (b1w3.cell (p := ⟨L, 0 + j * 34, none⟩) hbw0).trans this
  have hno' : ∀ z ∈ n.ks, kdOf ns1 z.toNat ≠ 4 := fun z hz => by rw [hkd]; exact hno z (by rw [hkf]; exact hz)
  have hsp : spansP ns1 n.ks = colsS (kdOf ns) CS n.ks := spans_colsS hno' hkd (fun z hz => by
    have hzr := hlinkn z hz
    have hj' := List.getElem?_eq_getElem (show z.toNat < ns1.length by rw [HL1.out]; omega)
    unfold csOf
    rw [hj']
    exact HCS1.out _ _ hj')
  have HMAX : Hid (∀ x ∈ colsS (kdOf ns) CS n.ks, 1 ≤ x.2 ∧ x.2 ≤ 1000) := Lib.hid (fun x hx => by
    obtain ⟨z, hz, h5, rfl⟩ := colsS_mem hx
    exact hCS z (by rw [hkf]; exact hz) h5)
  obtain ⟨S, hS⟩ : ∃ S, colsS (kdOf ns) CS n.ks = S := ⟨_, rfl⟩
  have HTS : Hid (T = S.flatMap repX) := Lib.hid (by rw [← HT0.out, hkf]; unfold colsT; rw [hS])
  rw [hS] at hsp HMAX
  have hC0 : ColI N NR base S w [] W3 := by
    refine ⟨_, rfl, by simp, ?_, ?_, y2, ?_, by exact bw3⟩
    · have := k01.out; rw [hN] at this; exact this.below b1w3 (by omega)
    · have := k11.out; rw [hN] at this; exact this.below b1w3 (by omega)
    · have := HO2.out
      rw [hbase] at this
      exact own_belowN this (by rw [hNR]; exact b23)
  have HNN := Lib.hid hN
  have hkv : n.ks = [] ∨ ∃ qb qo c, n.kv = .slice (some ⟨qb, qo, none⟩) n.ks.length c ∧ qb < base := by
    obtain ⟨_, ⟨a, cap', e, hz⟩ | ⟨b', o', cap', e, hc⟩⟩ := hIk
    · exact .inl hz
    · by_cases hz : n.ks = []
      · exact .inl hz
      · exact .inr ⟨b', o', cap', e, by rw [← hbase]; exact cell_lt (hc 0 (List.length_pos_iff.2 hz))⟩
  have hown3 : ∀ g, ownN NR W3 g → base ≤ g ∧ g < W3.heap.size ∧ g ≠ NR + 1 ∧ g ≠ NR + 2 := by
    rintro g ⟨u, hu, hg⟩
    have := y2.cellAt 0
    simp at this
    rw [this] at hu
    injection hu with hu
    subst hu
    simp [Value.ownBlock] at hg
    omega
  have hBR : base < NR := ?baseNR
  simp only [hbase, hNR, hN]
  rw [hW13, hW3]
  have HSEQ := Lib.hid (fun (nn : Nat) => spans_cols nn (NR + 1) (NR + 2) L m c p NR (NR + 4) base n.kv n.ks ns1 hcapn (by omega) hp HL1.out hlinkn hno' w1 W3 HP1.out hbase b1w3 hSp (by omega) (by omega) (by omega) hkv hown3 ⟨_, y2.cellAt 0⟩)
  rw [hsp] at HSEQ
  clear hW13 hW3 s13 b13 b33 b23 b1w3 bw3 y0 y1 y2 cn0 cn1 hIk hbw0 hcs k01 k11 HO2 B1 B2 HSF HP1
  refine (wpIn_wide (n := 3)).1 (range_own (F := Fence.wide) rfl (by omega) (gf := 27) (lb := #[.pointer (some ⟨NR + 1, 0, none⟩), .pointer (some ⟨NR + 1 + 1, 0, none⟩)]) rfl trivial (enters_of Try.func27 (by kernel_rfl) rfl)
    (Kp := KpS NR (NR + 4)) (fun _ _ _ h k => h.trans k) (fun W o hl => ?put)
    (HSEQ.out _) (fun x => rfl)
    (ColI N NR base S w) (ColX N (10000 < T.length) w) ?own ?ownx
    hC0 ?round ?done ?stop)
  case put =>
    rw [s3] at hl ⊢
    exact KpS.put (by omega) W o hl
  case own =>
    rintro pre X1 Y1 row ⟨v, g⟩ hg hr
    have hnc : NoCells X1 row := fun r e => (hr r e).2
    exact ⟨v, g.isPre, g.few, g.r0.grown hg (g.r0.ne hnc), g.r1.grown hg (g.r1.ne hnc), g.lb.grown hg (g.lb.ne hnc), own_grown g.own hg hnc, (ownFrom_below (β := Unit) (show N ≤ w.heap.size by have := HNN.out; omega) (show N ≤ W3.heap.size by omega)) () X1 Y1 row g.low hg hr⟩
  case ownx =>
    rintro c' pre X1 Y1 row ⟨rfl, h1, h2, h3, h4⟩ hg hr
    have hnc : NoCells X1 row := fun r e => (hr r e).2
    exact ⟨rfl, h1, h2.grown hg (h2.ne hnc), h3.grown hg (h3.ne hnc), (ownFrom_below (β := Unit) (show N ≤ w.heap.size by have := HNN.out; omega) (show N ≤ W3.heap.size by omega)) () X1 Y1 row h4 hg hr⟩
  case stop =>
    rintro D c' pre V hD _ ⟨rfl, h1, h2, h3, h4⟩ hmk
    have H1 := Lib.hid h1
    have HV := Lib.hid (And.intro h2 (And.intro h3 h4))
    have HM2 := Lib.hid ((Marks.nil N V).cons (D := D) (by omega) hmk (fun E hE => by cases hE))
    clear h1 h2 h3 h4 hmk hSp hC0
    gi_wp2
    refine leaves_marks N [D] _ HM2.out (fun W' hck hbk => ?_)
    have r0 : W'.cell? ⟨N, 0, none⟩ = some (.slice none 0 0) := hck.cell (HV.out.1.cellAt 0)
    have r1 : W'.cell? ⟨N + 1, 0, none⟩ = some (.int .i64 43) := hck.cell (HV.out.2.1.cellAt 0)
    refine ⟨.tuple #[.slice none 0 0, .int .i64 43], ?_, .inr ⟨H1.out, rfl⟩, by exact HV.out.2.2.trans hbk⟩
    simp [results, Try.results7, go_sem, r0, r1]
  case baseNR =>
    have := (HO2.out.lt w1.heap.size rfl).2
    omega
  case round =>
    rintro l' pre ⟨⟨x1, x2⟩, sp⟩ V hlq ⟨v, g⟩ hnx
    obtain ⟨s, rfl⟩ : ∃ s : Nat, sp = (s : Int) := ⟨sp.toNat, by have := (HMAX.out _ (List.mem_iff_getElem?.2 ⟨_, hnx⟩)).1; dsimp only at this; omega⟩
    have hs1 : 1 ≤ s ∧ s ≤ 1000 := by have := HMAX.out _ (List.mem_iff_getElem?.2 ⟨_, hnx⟩); dsimp only at this; omega
    have hal : Below V.heap.size V (V.alloc (.cells #[.int .i64 x1, .int .i64 x2] 49)) := (Below.refl _ V).alloc (Nat.le_refl _) _
    have hVN : NR < V.heap.size := g.lb.lt
    refine ⟨{ tmps := #[.slice (some ⟨b, off, none⟩) m cap, .int .i64 p, .int .i64 k, undef, undef, undef, .pointer (some ⟨N, 0, none⟩), .pointer (some ⟨N + 1, 0, none⟩), .slice (some ⟨L, 0, none⟩) m c, .int .i64 0, .pointer (some ⟨NR, 0, none⟩), .pointer (some ⟨V.heap.size, 0, none⟩), .int .i64 s, .tuple #[.slice (some ⟨L, 0, none⟩) m c, .int .i64 0], .slice (some ⟨b, off, none⟩) m cap, .tuple #[.slice (some ⟨L, 0, none⟩) m c, .int .i64 0], .slice (some ⟨L, 0, none⟩) m c, .int .i64 0, .int .i64 0, .bool false, undef, .slice (some ⟨L, 0, none⟩) m c, .int .i64 p, .bool true, .bool false, .bool false, .int .i64 k, .bool false, .bool false, .bool false, .int .i64 k, .bool false, .bool false, .int .i64 k, .slice (some ⟨base, 0, none⟩) 0 k, .slice (some ⟨L, 0, none⟩) m c, .int .i64 p, .func (.func 27) #[] #[.pointer (some ⟨NR + 1, 0, none⟩), .pointer (some ⟨NR + 1 + 1, 0, none⟩)], .agg #[.int .i64 x1, .int .i64 x2], .int .i64 s, undef, undef, undef, undef, undef, undef, undef, undef, undef, undef, undef, undef, undef, undef, undef, undef, undef, undef, undef, undef], defers := [] }, V.alloc (.cells #[.int .i64 x1, .int .i64 x2] 49), ?_, (KeepsOthers.alloc V _).from _, fun hg hu => KU.of_below hal hg hu, ?_⟩
    · intro K hK
      dsimp only [encSp]
      gi_wp2
      exact hK
    · intro V₂ hgV hnc' hbl
      obtain ⟨P, hP⟩ : ∃ P, V.heap.size = P := ⟨_, rfl⟩
      have kl := whole_new V [.int .i64 x1, .int .i64 x2] 49 _ hP.symm
      obtain ⟨q, c', rfl, _, _⟩ := own_src g.own
      have hav : ∀ gg, (Value.slice q (pre.flatMap repX).length c').ownBlock = some gg → gg ≠ P := fun gg e => by have := (g.own.lt gg e).2; omega
      have G1 : ColW N NR base S pre (.slice q (pre.flatMap repX).length c') w (V.alloc (.cells #[.int .i64 x1, .int .i64 x2] 49)) :=
        ⟨g.isPre, g.few, g.r0.alloc _, g.r1.alloc _, g.lb.alloc _, own_belowN g.own hal, g.low.trans (hal.mono (by omega))⟩
      have G2 : ColW N NR base S pre (.slice q (pre.flatMap repX).length c') w V₂ :=
        ⟨G1.isPre, G1.few, G1.r0.grown hgV (G1.r0.ne hnc'), G1.r1.grown hgV (G1.r1.ne hnc'), G1.lb.grown hgV (G1.lb.ne hnc'), own_grown G1.own hgV hnc', (ownFrom_below (β := Unit) (show N ≤ w.heap.size by have := HNN.out; omega) (show N ≤ W3.heap.size by omega)) () _ V₂ (some l') G1.low hgV (fun r e => by injection e with e; exact ⟨by omega, hnc' r (by rw [e])⟩)⟩
      have kl2 := kl.grown hgV (kl.ne hnc')
      have lP : P < V₂.heap.size := kl2.lt
      obtain ⟨e, he⟩ : ∃ e, (pre.flatMap repX).length = e := ⟨_, rfl⟩
      have heb : e ≤ 10000 := by have := g.few; omega
      have HE := Lib.hid he
      rw [he] at G2 hav
      have cN := G2.lb.cellAt 0
      have lN := G2.lb.lt
      have G := Lib.hid G2
      have KL := Lib.hid kl2
      have HNX := Lib.hid hnx
      have HAV := Lib.hid hav
      clear hal kl g G1 G2 kl2 hgV hnc' hbl hSp hC0 he hav hnx
      rw [hP]
      by_cases hov : 10000 < e + s
      · have d1 : decide ((s : Int) > 10000 - (e : Int)) = true := by simp; omega
        have d2 : decide (10000 - (e : Int) < (s : Int)) = true := by simp; omega
        have HBIG : Hid (10000 < T.length) := Lib.hid (by
          have h1 : S = S.take pre.length ++ S.drop pre.length := (List.take_append_drop _ S).symm
          have h2 : S.drop pre.length = ((x1, x2), (s : Int)) :: S.drop (pre.length + 1) := by
            obtain ⟨hl, ee⟩ := List.getElem?_eq_some_iff.1 HNX.out
            rw [List.drop_eq_getElem_cons hl, ee]
          rw [HTS.out, h1, ← G.out.isPre, h2, List.flatMap_append, List.flatMap_cons, List.length_append, List.length_append, HE.out]
          simp [repX]
          omega)
        have c0 := G.out.r0.cellAt 0
        have f0 := G.out.r0.free 0
        have l0 := G.out.r0.lt
        have c1 := G.out.r1.cellAt 0
        have f1 := G.out.r1.free 0
        have l1 := G.out.r1.lt
        gi_wp2
        exact ⟨((KeepsOthers.setCell _ _ _).trans (KeepsOthers.setCell _ _ _)).from _, rfl, HBIG.out, (G.out.r0.set 0 _).other _ _ (show N ≠ N + 1 by omega), (G.out.r1.other ⟨N, 0, none⟩ _ (show N + 1 ≠ N by omega)).set 0 _,
          (G.out.low.setCell (p := ⟨N, 0, none⟩) (Nat.le_refl _) _).setCell (p := ⟨N + 1, 0, none⟩) (show N ≤ N + 1 by omega) _⟩
      · have d1 : decide ((s : Int) > 10000 - (e : Int)) = false := by simp; omega
        have d2 : decide (10000 - (e : Int) < (s : Int)) = false := by simp; omega
        gi_wp2
        refine wpIn_round_held (S := fun X => X.cell? ⟨P, 0, none⟩ = some (.int .i64 x1) ∧ X.cell? ⟨P, 1, none⟩ = some (.int .i64 x2)) (by kernel_rfl) (by kernel_rfl) (by simp only [LetsOut, Exit.inBlock]; rintro ⟨x, y, h⟩; exact h) ?_
        obtain ⟨V3, hV3⟩ : ∃ V3, V₂.drew = V3 := ⟨_, rfl⟩
        have SV : Hid (Below V₂.heap.size V₂ V3) := Lib.hid (by rw [← hV3]; exact below_dn _ V₂ 1)
        have sV3 : V3.heap.size ≤ V₂.heap.size ∧ V₂.heap.size ≤ V3.heap.size := by rw [← hV3]; exact ⟨Nat.le_refl _, Nat.le_refl _⟩
        have G3 : ColW N NR base S pre (.slice q e c') w V3 := ⟨G.out.isPre, G.out.few, G.out.r0.below SV.out G.out.r0.lt, G.out.r1.below SV.out G.out.r1.lt, G.out.lb.below SV.out lN, own_belowN G.out.own SV.out, G.out.low.trans (SV.out.mono (by omega))⟩
        have w1' : V3.cell? ⟨P, 0, none⟩ = some (.int .i64 x1) ∧ V3.cell? ⟨P, 1, none⟩ = some (.int .i64 x2) := ⟨(SV.out.cell (p := ⟨P, 0, none⟩) lP).trans (KL.out.cellAt 0), (SV.out.cell (p := ⟨P, 1, none⟩) lP).trans (KL.out.cellAt 1)⟩
        have w3 : V3.cell? ⟨NR, 0, none⟩ = some (.slice q e c') := G3.lb.cellAt 0
        have lN3 : NR < V3.heap.size := by omega
        have lP3 : P < V3.heap.size := by omega
        have HG3 := Lib.hid G3
        rw [hV3]
        clear hV3 cN G3
        -- what a world behind the draw still knows
        have HSB : ∀ U : World, Below V3.heap.size V3 U → Hid ((U.cell? ⟨P, 0, none⟩ = some (.int .i64 x1) ∧ U.cell? ⟨P, 1, none⟩ = some (.int .i64 x2)) ∧ U.cell? ⟨NR, 0, none⟩ = some (.slice q e c') ∧ NR < U.heap.size) := fun U hU => Lib.hid ⟨⟨(hU.cell (p := ⟨P, 0, none⟩) lP3).trans w1'.1, (hU.cell (p := ⟨P, 1, none⟩) lP3).trans w1'.2⟩, (hU.cell (p := ⟨NR, 0, none⟩) lN3).trans w3, by have := hU.size; omega⟩
        have HREP := Lib.hid (repeatL_any V3.heap.size 0 1 (x1, x2) s (V3.alloc (.cells #[.int .i64 x1, .int .i64 x2] 49)) (fun j u hu => lay_new V3 [.int .i64 x1, .int .i64 x2] 49 _ rfl j u hu) hs1.1 (by omega))
        have TL : ∀ U : World, Below V3.heap.size V3 U → ∀ (qq : Option Addr) (qc : Nat), (qq = none → (List.replicate s (x1, x2)).length = 0) → (∀ a, qq = some a → ∀ j u, ((List.replicate s (x1, x2)).flatMap encL)[j]? = some u → U.cell? (a.add j) = some u) →
            Hid (∃ v' X2, (Builtin.append_ #[25, 25] 25 #[.slice q e c', .slice qq s qc]).run Try.prog U = .ok v' X2 ∧ (∃ p2 k2 c2, v' = .slice p2 k2 c2) ∧ Whole X2 NR 25 [.slice q e c'] ∧
              (X2.cell? ⟨P, 0, none⟩ = some (.int .i64 x1) ∧ X2.cell? ⟨P, 1, none⟩ = some (.int .i64 x2)) ∧ ((X2.setCell ⟨NR, 0, none⟩ v').cell? ⟨P, 0, none⟩ = some (.int .i64 x1) ∧ (X2.setCell ⟨NR, 0, none⟩ v').cell? ⟨P, 1, none⟩ = some (.int .i64 x2)) ∧
              ownPostG (NR + 3) (KpS NR (NR + 4)) (ColI N NR base S w) (ColX N (10000 < T.length) w) (pre ++ [((x1, x2), (s : Int))]) V₂ .normal { tmps := #[], defers := [] } (X2.setCell ⟨NR, 0, none⟩ v')) := fun U hU qq qc h1 h2 => by
          obtain ⟨v', X2, a1, a2, a3, a4, a5, a6, a7⟩ := HG3.out.step (LB := NR + 4) hU (x1, x2) s HNX.out (by rw [HE.out]; omega) ⟨by omega, by omega, lN3⟩ qq qc h1 h2
          have b0 := a4 ⟨P, 0, none⟩ _ w1'.1 (show NR < P by omega) (fun g hg => HAV.out g hg)
          have b1 := a4 ⟨P, 1, none⟩ _ w1'.2 (show NR < P by omega) (fun g hg => HAV.out g hg)
          exact Lib.hid ⟨v', X2, a1, a2, a3, ⟨b0.1, b1.1⟩, ⟨b0.2, b1.2⟩, ((⟨SV.out.size, fun j o hj _ => (SV.out.block j (Array.getElem?_eq_some_iff.1 hj).1).trans hj⟩ : KeepsOthers V₂ V3).trans a5).from _, fun hg hu => (KU.of_below SV.out hg hu).trans a6, a7⟩
        clear HG3 KL G
        refine wpAnyH_take (i := 1) (v := .agg #[.int .i64 x1, .int .i64 x2]) rfl (by kernel_rfl) (by kernel_rfl) (by kernel_rfl) (fun _ _ _ h => h) (Or.inl ⟨by rfl, ?_⟩) w1' ?_
        · rintro X ⟨hX1, hX2⟩; go_simp
        refine wpAnyH_take (i := 3) (v := .int .i64 s) rfl (by kernel_rfl) (by kernel_rfl) (by kernel_rfl) (fun _ _ _ h => h) (Or.inl ⟨by rfl, ?_⟩) w1' ?_
        · rintro X ⟨hX1, hX2⟩; go_simp
        refine wpAnyH_all (rs := [0, 2]) (by kernel_rfl) (by simp) ?_
        intro i2 hi2
        rcases (show i2 = 0 ∨ i2 = 2 by simpa using hi2) with rfl | rfl
        · refine wpOp_step rfl (fun K hK => ?_)
          go_simp
          refine hK _ _ ⟨w1', ?_⟩
          clear hK K hi2
          refine wpAnyH_all (rs := [2]) (by kernel_rfl) (by simp) ?_
          intro i2 hi2; obtain rfl : i2 = 2 := by simpa using hi2
          refine wpOp_step rfl (fun K hK => ?_)
          go_simp
          have y1 := (HSB (V3.alloc (.cells #[.int .i64 x1, .int .i64 x2] 49)) ((Below.refl _ V3).alloc (Nat.le_refl _) _)).out
          obtain ⟨ys, y3, y4⟩ := y1
          refine hK _ _ ⟨ys, ?_⟩
          clear hK K hi2
          refine wpAnyH_all (rs := [4]) (by kernel_rfl) (by simp) ?_
          intro i2 hi2; obtain rfl : i2 = 4 := by simpa using hi2
          refine wpOp_step rfl (fun K hK => ?_)
          go_simp
          refine HREP.out.mono ?_
          rintro e' U ⟨v2, rfl, ho, bU⟩
          have BU := ((Below.refl V3.heap.size V3).alloc (Nat.le_refl _) (.cells #[.int .i64 x1, .int .i64 x2] 49)).trans (bU.mono (by simp))
          obtain ⟨us, u3, u4⟩ := (HSB U BU).out
          obtain ⟨qq, qc, rfl, hqq, hqs⟩ : ∃ qq qc, v2 = .slice qq s qc ∧ (qq = none → (List.replicate s (x1, x2)).length = 0) ∧ ∀ a, qq = some a → ∀ j u, ((List.replicate s (x1, x2)).flatMap encL)[j]? = some u → U.cell? (a.add j) = some u := by
            obtain ⟨qq, qc, e1, h1, h2⟩ := own_src ho
            exact ⟨qq, qc, by rw [e1, List.length_replicate], h1, h2⟩
          have HT3 := TL U BU qq qc hqq hqs
          refine hK _ _ ⟨us, ?_⟩
          clear hK K hi2 ho hqq hqs
          obtain ⟨v', X2, hr7, ⟨p2, k2, c2, rfl⟩, hlb, f1, f2, hend⟩ := HT3.out
          have c7 := hlb.cellAt 0
          have f7 := hlb.free 0
          have l7 := hlb.lt
          have HEND := Lib.hid hend
          clear hend hlb
          refine wpAnyH_all (rs := [5]) (by kernel_rfl) (by simp) ?_
          intro i2 hi2; obtain rfl : i2 = 5 := by simpa using hi2
          refine wpOp_step rfl (fun K hK => ?_)
          refine wp_append_run _ _ _ rfl _ _ _ rfl rfl hr7 ?_
          refine hK _ _ ⟨f1, ?_⟩
          clear hK K hi2
          refine wpAnyH_all (rs := [6]) (by kernel_rfl) (by simp) ?_
          intro i2 hi2; obtain rfl : i2 = 6 := by simpa using hi2
          refine wpOp_step rfl (fun K hK => ?_)
          go_simp
          refine hK _ _ ⟨f2, ?_⟩
          clear hK K hi2
          refine wpAnyH_done (by kernel_rfl) ?_ _
          gi_wp2
          exact HEND.out
        · refine wpOp_step rfl (fun K hK => ?_)
          go_simp
          have y1 := (HSB (V3.alloc (.cells #[.int .i64 x1, .int .i64 x2] 49)) ((Below.refl _ V3).alloc (Nat.le_refl _) _)).out
          obtain ⟨ys, y3, y4⟩ := y1
          refine hK _ _ ⟨ys, ?_⟩
          clear hK K hi2
          refine wpAnyH_all (rs := [0, 4]) (by kernel_rfl) (by simp) ?_
          intro i2 hi2
          rcases (show i2 = 0 ∨ i2 = 4 by simpa using hi2) with rfl | rfl
          · refine wpOp_step rfl (fun K hK => ?_)
            go_simp
            refine hK _ _ ⟨ys, ?_⟩
            clear hK K hi2
            refine wpAnyH_all (rs := [4]) (by kernel_rfl) (by simp) ?_
            intro i2 hi2; obtain rfl : i2 = 4 := by simpa using hi2
            refine wpOp_step rfl (fun K hK => ?_)
            go_simp
            refine HREP.out.mono ?_
            rintro e' U ⟨v2, rfl, ho, bU⟩
            have BU := ((Below.refl V3.heap.size V3).alloc (Nat.le_refl _) (.cells #[.int .i64 x1, .int .i64 x2] 49)).trans (bU.mono (by simp))
            obtain ⟨us, u3, u4⟩ := (HSB U BU).out
            obtain ⟨qq, qc, rfl, hqq, hqs⟩ : ∃ qq qc, v2 = .slice qq s qc ∧ (qq = none → (List.replicate s (x1, x2)).length = 0) ∧ ∀ a, qq = some a → ∀ j u, ((List.replicate s (x1, x2)).flatMap encL)[j]? = some u → U.cell? (a.add j) = some u := by
              obtain ⟨qq, qc, e1, h1, h2⟩ := own_src ho
              exact ⟨qq, qc, by rw [e1, List.length_replicate], h1, h2⟩
            have HT3 := TL U BU qq qc hqq hqs
            refine hK _ _ ⟨us, ?_⟩
            clear hK K hi2 ho hqq hqs
            obtain ⟨v', X2, hr7, ⟨p2, k2, c2, rfl⟩, hlb, f1, f2, hend⟩ := HT3.out
            have c7 := hlb.cellAt 0
            have f7 := hlb.free 0
            have l7 := hlb.lt
            have HEND := Lib.hid hend
            clear hend hlb
            refine wpAnyH_all (rs := [5]) (by kernel_rfl) (by simp) ?_
            intro i2 hi2; obtain rfl : i2 = 5 := by simpa using hi2
            refine wpOp_step rfl (fun K hK => ?_)
            refine wp_append_run _ _ _ rfl _ _ _ rfl rfl hr7 ?_
            refine hK _ _ ⟨f1, ?_⟩
            clear hK K hi2
            refine wpAnyH_all (rs := [6]) (by kernel_rfl) (by simp) ?_
            intro i2 hi2; obtain rfl : i2 = 6 := by simpa using hi2
            refine wpOp_step rfl (fun K hK => ?_)
            go_simp
            refine hK _ _ ⟨f2, ?_⟩
            clear hK K hi2
            refine wpAnyH_done (by kernel_rfl) ?_ _
            gi_wp2
            exact HEND.out
          · refine wpOp_step rfl (fun K hK => ?_)
            go_simp
            refine HREP.out.mono ?_
            rintro e' U ⟨v2, rfl, ho, bU⟩
            have BU := ((Below.refl V3.heap.size V3).alloc (Nat.le_refl _) (.cells #[.int .i64 x1, .int .i64 x2] 49)).trans (bU.mono (by simp))
            obtain ⟨us, u3, u4⟩ := (HSB U BU).out
            obtain ⟨qq, qc, rfl, hqq, hqs⟩ : ∃ qq qc, v2 = .slice qq s qc ∧ (qq = none → (List.replicate s (x1, x2)).length = 0) ∧ ∀ a, qq = some a → ∀ j u, ((List.replicate s (x1, x2)).flatMap encL)[j]? = some u → U.cell? (a.add j) = some u := by
              obtain ⟨qq, qc, e1, h1, h2⟩ := own_src ho
              exact ⟨qq, qc, by rw [e1, List.length_replicate], h1, h2⟩
            have HT3 := TL U BU qq qc hqq hqs
            refine hK _ _ ⟨us, ?_⟩
            clear hK K hi2 ho hqq hqs
            refine wpAnyH_all (rs := [0]) (by kernel_rfl) (by simp) ?_
            intro i2 hi2; obtain rfl : i2 = 0 := by simpa using hi2
            refine wpOp_step rfl (fun K hK => ?_)
            go_simp
            refine hK _ _ ⟨us, ?_⟩
            clear hK K hi2
            obtain ⟨v', X2, hr7, ⟨p2, k2, c2, rfl⟩, hlb, f1, f2, hend⟩ := HT3.out
            have c7 := hlb.cellAt 0
            have f7 := hlb.free 0
            have l7 := hlb.lt
            have HEND := Lib.hid hend
            clear hend hlb
            refine wpAnyH_all (rs := [5]) (by kernel_rfl) (by simp) ?_
            intro i2 hi2; obtain rfl : i2 = 5 := by simpa using hi2
            refine wpOp_step rfl (fun K hK => ?_)
            refine wp_append_run _ _ _ rfl _ _ _ rfl rfl hr7 ?_
            refine hK _ _ ⟨f1, ?_⟩
            clear hK K hi2
            refine wpAnyH_all (rs := [6]) (by kernel_rfl) (by simp) ?_
            intro i2 hi2; obtain rfl : i2 = 6 := by simpa using hi2
            refine wpOp_step rfl (fun K hK => ?_)
            go_simp
            refine hK _ _ ⟨f2, ?_⟩
            clear hK K hi2
            refine wpAnyH_done (by kernel_rfl) ?_ _
            gi_wp2
            exact HEND.out
  case done =>
    rintro D xs V hD rfl ⟨v, g⟩ hmk
    have hTl : T.length ≤ 10000 := by have := g.few; rw [HTS.out]; exact this
    have HB := Lib.hid (show BareW N NR base D v (T ++ bare 0) w V from ⟨g.r0, g.r1, g.lb, by rw [HTS.out]; simpa [bare] using g.own, g.low, hmk⟩)
    have HD := Lib.hid hD
    clear g hmk hSp hC0
    obtain ⟨tl, htl⟩ : ∃ tl, T.length = tl := ⟨_, rfl⟩
    have HTL := Lib.hid htl
    rw [htl] at hTl
    clear htl
    have hb0 : (T ++ bare 0).length = tl := by rw [List.length_append, HTL.out]; simp [bare]
    go_wp2
    go_loopw [51] (fun _ X => ∃ (t : Nat) (v : Value), (t = 0 ∨ tl + t ≤ k) ∧ Hid (BareW N NR base D v (T ++ bare t) w X) ∧ lenAt NR X = tl + t) (fun _ X => k - lenAt NR X)
    case atStart =>
      obtain ⟨q, c', rfl, _, _⟩ := own_src HB.out.own
      exact ⟨0, _, .inl rfl, HB, by rw [lenAt_of HB.out.lb, hb0]; rfl⟩
    case round =>
      clear HB hb0
      obtain ⟨t, v, htk, HX, hlen⟩ := hrel
      obtain ⟨q, c', rfl, _, _⟩ := own_src HX.out.own
      have hbl0 : (T ++ bare t).length = tl + t := by rw [List.length_append, HTL.out]; unfold bare; rw [List.length_replicate]
      have hE1 : T ++ bare (t + 1) = (T ++ bare t) ++ [(-1, -1)] := by rw [bare_succ, ← List.append_assoc]
      obtain ⟨E, hE⟩ : ∃ E, T ++ bare t = E := ⟨_, rfl⟩
      rw [hE] at hbl0 hE1 HX
      obtain ⟨u, hu⟩ : ∃ u, tl + t = u := ⟨_, rfl⟩
      have hbl : E.length = u := by rw [hbl0, hu]
      have HEE := Lib.hid hE
      have HE1 := Lib.hid hE1
      have HUU := Lib.hid hu
      clear hE hE1 hbl0
      rw [hu] at hlen htk
      rw [hbl] at HX
      have cN := HX.out.lb.cellAt 0
      have lN := HX.out.lb.lt
      have lD : D < wr.heap.size := (Array.getElem?_eq_some_iff.1 HX.out.mkd).1
      by_cases hlt : u < k
      · have hd : decide ((u : Int) < (k : Int)) = true := by simp; omega
        have hz : Below wr.heap.size wr (wr.alloc (.cells #[.int .i64 (-1), .int .i64 (-1)] 49)) := (Below.refl _ wr).alloc (Nat.le_refl _) _
        obtain ⟨v', X2, hr7, ⟨p2, c2, rfl⟩, hlb, a4, a5, a6, a7, a8, a9, a10, a11⟩ := box_step HX.out.lb HX.out.own hz (by omega) [((-1 : Int), (-1 : Int))] (some ⟨wr.heap.size, 0, none⟩) 1 (fun e => by cases e) (fun a e j u hj => by injection e with e; subst e; exact lay_new wr [.int .i64 (-1), .int .i64 (-1)] 49 _ rfl j u hj) (by rw [hbl, List.length_singleton]; omega)
        rw [List.length_append, hbl, List.length_singleton] at *
        have c7 := hlb.cellAt 0
        have f7 := hlb.free 0
        have l7 := hlb.lt
        have HB2 : Hid (BareW N NR base D (.slice p2 (u + 1) c2) (T ++ bare (t + 1)) w (X2.setCell ⟨NR, 0, none⟩ (.slice p2 (u + 1) c2))) := Lib.hid ⟨(a7 _ _ _ HX.out.r0 (by decide) (by omega)).2, (a7 _ _ _ HX.out.r1 (by decide) (by omega)).2, a4, by rw [HE1.out]; exact a5, a8 N w (by omega) (by omega) HX.out.low, a6.same D _ HX.out.mkd rfl⟩
        clear a4 a5 a6 a7 a8 a9 a10 a11 HX hz
        clear hu
        go_wp2_with (at_builtin; refine wpList_plain rfl (fun K hK => wp_append_run _ _ 25 rfl _ _ _ rfl rfl hr7 (hK _ _ ?_)); clear hK K)
        go_roundw
        case rel => exact ⟨t + 1, _, .inr (by have := HUU.out; omega), HB2, by rw [lenAt_of HB2.out.lb]; have := HUU.out; omega⟩
        case measure => rw [lenAt_of HB2.out.lb, hlen]; omega
      · have hkt : k - tl = t := by omega
        have hd : decide ((u : Int) < (k : Int)) = false := by simp; omega
        have c0 := HX.out.r0.cellAt 0
        have f0 := HX.out.r0.free 0
        have l0 := HX.out.r0.lt
        have c1 := HX.out.r1.cellAt 0
        have f1 := HX.out.r1.free 0
        have l1 := HX.out.r1.lt
        have HKT := Lib.hid hkt
        clear hlen htk hkt hu
        go_wp2
        have HXX := HX.out
        have q0 : Whole (wr.setCell ⟨N, 0, none⟩ (.slice q u c')) N 25 [.slice q u c'] := HXX.r0.set 0 _
        have q1 : Whole ((wr.setCell ⟨N, 0, none⟩ (.slice q u c')).setCell ⟨N + 1, 0, none⟩ (.int .i64 0)) N 25 [.slice q u c'] := q0.other _ _ (show N ≠ N + 1 by omega)
        have q2 : Whole ((wr.setCell ⟨N, 0, none⟩ (.slice q u c')).setCell ⟨N + 1, 0, none⟩ (.int .i64 0)) (N + 1) 26 [.int .i64 0] := (HXX.r1.other ⟨N, 0, none⟩ _ (show N + 1 ≠ N by omega)).set 0 _
        have o2 : OwnL base ((wr.setCell ⟨N, 0, none⟩ (.slice q u c')).setCell ⟨N + 1, 0, none⟩ (.int .i64 0)) (.slice q u c') E := own_setCell (own_setCell HXX.own (whole_own HXX.r0 HXX.own (by decide))) (whole_own (HXX.r1.other ⟨N, 0, none⟩ (.slice q u c') (show N + 1 ≠ N by omega)) (own_setCell HXX.own (whole_own HXX.r0 HXX.own (by decide))) (by decide))
        have m2 : ((wr.setCell ⟨N, 0, none⟩ (.slice q u c')).setCell ⟨N + 1, 0, none⟩ (.int .i64 0)).heap[D]? = some (.deferred (some [])) := ((KeepsOthers.setCell _ _ _).trans (KeepsOthers.setCell _ _ _)).same D _ HXX.mkd rfl
        have b2 : Below N w ((wr.setCell ⟨N, 0, none⟩ (.slice q u c')).setCell ⟨N + 1, 0, none⟩ (.int .i64 0)) := (HXX.low.setCell (p := ⟨N, 0, none⟩) (Nat.le_refl _) _).setCell (p := ⟨N + 1, 0, none⟩) (show N ≤ N + 1 by omega) _
        generalize (wr.setCell ⟨N, 0, none⟩ (.slice q u c')).setCell ⟨N + 1, 0, none⟩ (.int .i64 0) = Y at *
        refine leaves_marks N [D] _ ((Marks.nil _ _).cons (by have := HD.out; omega) m2 (by simp)) (fun W' hck hbk => ?_)
        have r0 : W'.cell? ⟨N, 0, none⟩ = some (.slice q u c') := hck.cell (q1.cellAt 0)
        have r1 : W'.cell? ⟨N + 1, 0, none⟩ = some (.int .i64 0) := hck.cell (q2.cellAt 0)
        refine ⟨.tuple #[.slice q u c', .int .i64 0], ?_, .inl ⟨_, by rw [HTL.out]; exact hTl, rfl, by rw [HTL.out, HKT.out, HEE.out]; exact own_from (own_cellsKept o2 hck) (by have := HNN.out; omega)⟩, by rw [HNN.out]; exact b2.trans hbk⟩
        simp [results, Try.results7, go_sem, r0, r1]
end Go.Proofs.Ytgeciomehldjdaa
