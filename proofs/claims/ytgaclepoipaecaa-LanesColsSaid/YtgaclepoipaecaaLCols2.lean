/- Contract of lanes.Cols for a table of whose kids none is a group of columns. -/
/- The document's span and many (so many lanes more), what its Cols is made of. -/
/- The document's columns of a table, every page. -/
/- What the document's Cols lists is what the spans of the computed page come to. -/
/- Contract of lanes.Cols for any table, groups of columns too; its errors. -/
import Derived.Test.YtgaclepoipaecaaLRepeat
import Derived.Test.YtgaclepoipaecaaLLaw
namespace Go.Proofs.Ytgaclepoipaecaa
open Go.RowKit Go.Shelf Go.Maps
set_option linter.unusedVariables false
attribute [local go_sem] Oper.semAt_some

def repX (x : (Int × Int) × Int) : List (Int × Int) := List.replicate x.2.toNat x.1
def colsS (kd : Nat → Int) (CS : Nat → Int) (ks : List Int) : List ((Int × Int) × Int) := ks.flatMap fun z => if kd z.toNat = 5 then [((z, -1), CS z.toNat)] else []
def colsT (kd : Nat → Int) (CS : Nat → Int) (ks : List Int) : List (Int × Int) := (colsS kd CS ks).flatMap repX
theorem spans_colsS {ns1 ns : List Nd} {CS : Nat → Int} : ∀ {ks : List Int}, (∀ z ∈ ks, kdOf ns1 z.toNat ≠ 4) → kdOf ns1 = kdOf ns → (∀ z ∈ ks, csOf ns1 z = CS z.toNat) → spansP ns1 ks = colsS (kdOf ns) CS ks
  | [], _, _, _ => rfl
  | z :: ks, h1, h2, h3 => by
    have ih := spans_colsS (ks := ks) (fun y hy => h1 y (List.mem_cons_of_mem _ hy)) h2 (fun y hy => h3 y (List.mem_cons_of_mem _ hy))
    unfold spansP colsS at ih ⊢
    rw [List.flatMap_cons, List.flatMap_cons, ih]
    congr 1
    unfold spans1
    rw [if_neg (h1 z (List.mem_cons_self ..)), h2, h3 z (List.mem_cons_self ..)]
theorem colsS_mem {kd : Nat → Int} {CS : Nat → Int} {ks : List Int} {x : (Int × Int) × Int} (h : x ∈ colsS kd CS ks) : ∃ z ∈ ks, kd z.toNat = 5 ∧ x = ((z, -1), CS z.toNat) := by
  unfold colsS at h
  obtain ⟨z, hz, hx⟩ := List.mem_flatMap.1 h
  split at hx
  · rename_i h5; exact ⟨z, hz, h5, by simpa using hx⟩
  · cases hx
/-- what the rounds over the spans keep -/
structure ColW (N NR base : Nat) (S pre : List ((Int × Int) × Int)) (v : Value) (w X : World) : Prop where
  isPre : pre = S.take pre.length
  few : (pre.flatMap repX).length ≤ 10000
  r0 : Whole X N 25 [.slice none 0 0]
  r1 : Whole X (N + 1) 26 [.int .i64 0]
  lb : Whole X NR 25 [v]
  own : OwnL base X v (pre.flatMap repX)
  low : Below N w X
def ColI (N NR base : Nat) (S : List ((Int × Int) × Int)) (w : World) (pre : List ((Int × Int) × Int)) (X : World) : Prop := ∃ v, ColW N NR base S pre v w X
def ColX (N : Nat) (many : Prop) (w : World) (c : Code) (pre : List ((Int × Int) × Int)) (X : World) : Prop :=
  c = .ret ∧ many ∧ Whole X N 25 [.slice none 0 0] ∧ Whole X (N + 1) 26 [.int .i64 43] ∧ Below N w X
theorem ColW.step {N NR LB base e c : Nat} {q : Option Addr} {S pre : List ((Int × Int) × Int)} {w V Z : World} (h : ColW N NR base S pre (.slice q e c) w V) (hz : Below V.heap.size V Z) (x : Int × Int) (s : Nat) (hx : S[pre.length]? = some (x, (s : Int))) (hfit : (pre.flatMap repX).length + s ≤ 10000) (hb : N + 2 ≤ base ∧ base < NR ∧ NR < V.heap.size)
    (q2 : Option Addr) (c2 : Nat) (hq : q2 = none → (List.replicate s x).length = 0) (hc : ∀ a, q2 = some a → ∀ j u, ((List.replicate s x).flatMap encL)[j]? = some u → Z.cell? (a.add j) = some u) :
    ∃ v' X2, (Builtin.append_ #[25, 25] 25 #[.slice q e c, .slice q2 s c2]).run Try.prog Z = .ok v' X2 ∧ (∃ p2 k2 c2, v' = .slice p2 k2 c2) ∧ Whole X2 NR 25 [.slice q e c] ∧
      (∀ (a : Addr) (u : Value), V.cell? a = some u → NR < a.block → (∀ g, (Value.slice q e c).ownBlock = some g → g ≠ a.block) → X2.cell? a = some u ∧ (X2.setCell ⟨NR, 0, none⟩ v').cell? a = some u) ∧
      KeepsOthers V (X2.setCell ⟨NR, 0, none⟩ v') ∧ KU NR LB V (X2.setCell ⟨NR, 0, none⟩ v') ∧ ColI N NR base S w (pre ++ [(x, (s : Int))]) (X2.setCell ⟨NR, 0, none⟩ v') := by
  have hlen : (List.replicate s x).length = s := List.length_replicate
  obtain ⟨v', X2, hr, ⟨p2, c3, e2⟩, hlb, a4, a5, a6, a7, a8, a9, a10, a11⟩ := box_step h.lb h.own hz (by omega) (List.replicate s x) q2 c2 hq hc (by rw [hlen]; omega)
  rw [hlen] at hr
  have hpx : (pre ++ [(x, (s : Int))]).flatMap repX = pre.flatMap repX ++ List.replicate s x := by
    rw [List.flatMap_append, List.flatMap_cons, List.flatMap_nil, List.append_nil]
    simp [repX]
  have hBel := a8 base V (Nat.le_refl _) (by omega) (Below.refl _ _)
  have hcN : (X2.setCell ⟨NR, 0, none⟩ v').cell? ⟨NR, 0, none⟩ = some v' := a4.cellAt 0
  have hcV : V.cell? ⟨NR, 0, none⟩ = some (.slice q e c) := h.lb.cellAt 0
  refine ⟨v', X2, hr, ⟨p2, _, c3, e2⟩, hlb, fun a u hau hab hg => a10 a u hau (by omega) (fun e => hg _ e rfl), a6, ⟨⟨hBel.os, hBel.tape, hBel.output⟩, a6.size, fun g h1 h2 _ h4 => a11 g h1 h2 (fun e => h4 ⟨_, hcV, e⟩), ?_, ?_, ⟨_, hcN⟩⟩, v', ?_, ?_, ?_, ?_, a4, by rw [hpx]; exact a5, ?_⟩
  · rintro g ⟨u, hu, hg⟩
    rw [hcN] at hu
    injection hu with hu
    subst hu
    rcases a9 with e | e
    · exact .inl ⟨_, hcV, by rw [← e]; exact hg⟩
    · rw [e] at hg
      injection hg with hg
      have := hz.size
      exact .inr (by omega)
  · rintro g ⟨u, hu, hg⟩
    rw [hcN] at hu
    injection hu with hu
    subst hu
    exact (a5.lt g hg).2
  · rw [List.length_append, List.length_singleton, List.take_add_one, hx, ← h.isPre]; rfl
  · rw [hpx, List.length_append, hlen]; exact hfit
  · exact (a7 N _ _ h.r0 (by decide) (by omega)).2
  · exact (a7 (N + 1) _ _ h.r1 (by decide) (by omega)).2
  · exact a8 N w (by omega) (by omega) h.low
set_option maxRecDepth 100000 in
set_option maxHeartbeats 4000000 in
theorem cols_cols (b off cap m p : Nat) (k : Nat) (CS : Nat → Int) (ns : List Nd) (w : World) (hm : ns.length = m) (hm2 : m ≤ 65536) (hp : p < m) (hk : k ≤ 10000)
    (hK : ∀ n ∈ ns, n.ks.length ≤ 70000) (hlink : ∀ n ∈ ns, ∀ z ∈ n.ks, 0 ≤ z ∧ z < (m : Int))
    (H : Hid (Calls Try.prog 11 #[.slice (some ⟨b, off, none⟩) m cap] ((w.alloc (.cells #[.slice none 0 0] 25)).alloc (.cells #[.int .i64 0] 26)) fun e W' => ∃ L c ns', e = .returned (.tuple #[.slice (some ⟨L, 0, none⟩) m c, .int .i64 0]) ∧ ns'.map Nd.k = ns.map Nd.k ∧ ns'.map Nd.ks = ns.map Nd.ks ∧ (∀ i n', ns'[i]? = some n' → n'.s.cs = CS i) ∧ PageAt W' (.slice (some ⟨L, 0, none⟩) m c) ns' ∧ Below (w.heap.size + 2) ((w.alloc (.cells #[.slice none 0 0] 25)).alloc (.cells #[.int .i64 0] 26)) W'))
    (ht : isTab ns p = true) (hno : ∀ z ∈ kfOf ns p, kdOf ns z.toNat ≠ 4) (hCS : ∀ z ∈ kfOf ns p, kdOf ns z.toNat = 5 → 1 ≤ CS z.toNat ∧ CS z.toNat ≤ 1000) :
    Calls Try.prog 6 #[.slice (some ⟨b, off, none⟩) m cap, .int .i64 p, .int .i64 k] w fun e W' => ((∃ v, (colsT (kdOf ns) CS (kfOf ns p)).length ≤ 10000 ∧ e = .returned (.tuple #[v, .int .i64 0]) ∧ OwnL w.heap.size W' v (colsT (kdOf ns) CS (kfOf ns p) ++ bare (k - (colsT (kdOf ns) CS (kfOf ns p)).length))) ∨ (10000 < (colsT (kdOf ns) CS (kfOf ns p)).length ∧ e = .returned (.tuple #[.slice none 0 0, .int .i64 43]))) ∧ Below w.heap.size w W' := by
  obtain ⟨T, hT0⟩ : ∃ T, colsT (kdOf ns) CS (kfOf ns p) = T := ⟨_, rfl⟩
  rw [hT0]
  have HT0 := Lib.hid hT0
  clear hT0
  refine (callsIn_wide (n := 3)).1 (callsIn_of_wp_marks Try.func6 rfl trivial (wpIn_wide.2 ?_) rfl)
  simp only [Try.ntmps6, List.size_toArray, List.length_cons, List.length_nil, Nat.reduceAdd, Nat.reduceSub, Array.replicate_succ, Array.replicate_zero, List.push_toArray, List.append_toArray, List.nil_append, List.cons_append]
  have HM := Lib.hid hm
  have HT := Lib.hid ht
  have HSF := Lib.hid (fun q l c (Y : World) => spansF_any q l c (p : Int) Y)
  obtain ⟨W0, hW0⟩ : ∃ W0, (w.alloc (.cells #[.slice none 0 0] 25)).alloc (.cells #[.int .i64 0] 26) = W0 := ⟨_, rfl⟩
  have k0 := Lib.hid (show Whole W0 w.heap.size 25 [.slice none 0 0] by rw [← hW0]; exact (whole_new w [.slice none 0 0] 25 _ rfl).alloc _)
  have k1 := Lib.hid (show Whole W0 (w.heap.size + 1) 26 [.int .i64 0] by rw [← hW0]; exact whole_new (w.alloc (.cells #[.slice none 0 0] 25)) [.int .i64 0] 26 _ (by simp))
  have b0 := Lib.hid (show Below w.heap.size w W0 by rw [← hW0]; exact ((Below.refl _ w).alloc (Nat.le_refl _) _).alloc (by simp) _)
  have s0 : W0.heap.size = w.heap.size + 2 := by rw [← hW0]; simp
  have z0 : w.heap.size + 2 ≤ W0.heap.size := by omega
  rw [hW0] at H
  clear s0
  have dk1 : decide ((k : Int) < 0) = false := by simp
  have dk2 : decide ((k : Int) > 10000) = false := by simp; omega
  have dk3 : decide (10000 < (k : Int)) = false := by simp; omega
  obtain ⟨i0, hi0, hz0', hz1', hz2'⟩ := info_parts Try.infoLane
  have HZ0 := Lib.hid hi0
  have HZ1 := Lib.hid hz0'
  have HZ2 := Lib.hid hz1'
  have HZ3 := Lib.hid hz2'
  clear hm ht hi0 hz0' hz1' hz2'
  go_wp2_with fail
  refine H.out.mono ?_
  clear H
  rintro e w1 ⟨L, c, ns1, rfl, hk1, hks1, hcs1, hP1, hb1⟩
  have HP1 := Lib.hid hP1
  have hl1 : ns1.length = m := by have := congrArg List.length hk1; simpa [HM.out] using this
  have HTB := Lib.hid (show Calls Try.prog 12 #[.slice (some ⟨L, 0, none⟩) m c, .int .i64 p] w1 fun e W' => e = .returned (.bool true) ∧ w1 = W' from by
    have h := (tab_any (some ⟨L, 0, none⟩) m c p ns1 w1 hP1).mono (fun e w' h => (⟨h.1, h.2.symm⟩ : e = .returned (.bool (isTab ns1 p)) ∧ w1 = w'))
    have e : isTab ns1 p = true := by rw [← HT.out]; unfold isTab; rw [kd_same hk1, hl1, HM.out]
    rwa [e] at h)
  have k01 := Lib.hid (k0.out.below hb1 (by omega))
  have k11 := Lib.hid (k1.out.below hb1 (by omega))
  have B1 := Lib.hid (b0.out.trans (hb1.mono (by omega)))
  have HK1 := Lib.hid hk1
  have HCS1 := Lib.hid hcs1
  have HKS1 := Lib.hid hks1
  have HL1 := Lib.hid hl1
  have z1 : w.heap.size + 2 ≤ w1.heap.size := by have := hb1.size; omega
  clear hP1 hl1 k0 k1 b0 hk1 hks1 hcs1 hb1 hW0 z0
  go_wp2_with (first
    | (go_at_call 12; refine HTB.out.mono ?_; rintro e w' ⟨rfl, rfl⟩; clear HTB)
    | (at_make; refine wpList_make_own _ rfl _ _ 25 rfl w1.heap.size 48 i0 _ 2 Try.underlying25 HZ0.out HZ1.out HZ2.out .i64 .i64 _ k rfl rfl rfl (by rw [HZ3.out]; omega) (by unfold maxLen; omega) (Nat.le_refl _) ?_; intro w2 ho2 hg2; have B2 := Lib.hid ((Below.refl w1.heap.size w1).grown hg2 (Nat.le_refl _) (fun g e => by cases e)); have HO2 := Lib.hid ho2; clear ho2 hg2)
    | (go_at_call 13; refine (HSF.out _ _ _ _).mono ?_; rintro e w' ⟨rfl, rfl⟩))
  obtain ⟨N, hN⟩ : ∃ N, w.heap.size = N := ⟨_, rfl⟩
  obtain ⟨base, hbase⟩ : ∃ base, w1.heap.size = base := ⟨_, rfl⟩
  obtain ⟨NR, hNR⟩ : ∃ NR, w2.heap.size = NR := ⟨_, rfl⟩
  obtain ⟨W13, hW13⟩ : ∃ W13, w2.alloc (.cells #[.slice (some ⟨base, 0, none⟩) 0 k] 25) = W13 := ⟨_, rfl⟩
  obtain ⟨W3, hW3⟩ : ∃ W3, (W13.alloc (.cells #[.slice (some ⟨L, 0, none⟩) m c] 22)).alloc (.cells #[.int .i64 (p : Int)] 3) = W3 := ⟨_, rfl⟩
  have s13 : W13.heap.size = NR + 1 := by rw [← hW13]; simp [hNR]
  have s3 : W3.heap.size = NR + 3 := by rw [← hW3]; simp [s13]
  have hbR : base ≤ NR := by rw [← hbase, ← hNR]; exact B2.out.size
  have hNb : N + 2 ≤ base := by omega
  have b13 : Below NR w2 W13 := by rw [← hW13]; exact (Below.refl NR w2).alloc (by omega) _
  have b33 : Below NR W13 W3 := by rw [← hW3]; exact ((Below.refl NR W13).alloc (by omega) _).alloc (by simp; omega) _
  have b23 : Below NR w2 W3 := b13.trans b33
  have b1w3 : Below base w1 W3 := (by have := B2.out; rw [hbase] at this; exact this.trans (b23.mono hbR))
  have bw3 : Below N w W3 := by have := B1.out; rw [hN] at this; exact this.trans (b1w3.mono (by omega))
  have y0 : Whole W3 (NR + 1) 22 [.slice (some ⟨L, 0, none⟩) m c] := by rw [← hW3]; exact (whole_new W13 [.slice (some ⟨L, 0, none⟩) m c] 22 _ s13.symm).alloc _
  have y1 : Whole W3 (NR + 2) 3 [.int .i64 (p : Int)] := by rw [← hW3]; exact whole_new (W13.alloc (.cells #[.slice (some ⟨L, 0, none⟩) m c] 22)) [.int .i64 (p : Int)] 3 _ (by simp [s13])
  have y2 : Whole W3 NR 25 [.slice (some ⟨base, 0, none⟩) 0 k] := by
    rw [← hW3, ← hW13]
    exact ((whole_new w2 [.slice (some ⟨base, 0, none⟩) 0 k] 25 _ hNR.symm).alloc _).alloc _
  obtain ⟨n, hn⟩ : ∃ n, ns1[p]? = some n := ⟨_, List.getElem?_eq_getElem (by rw [HL1.out]; exact hp)⟩
  have hmem : n ∈ ns1 := List.mem_iff_getElem?.2 ⟨p, hn⟩
  have hkf : kfOf ns (p : Int) = n.ks := by
    have := congrArg (fun l => l[p]?) HKS1.out
    simp only [List.getElem?_map, hn] at this
    unfold kfOf
    rw [Int.toNat_natCast]
    cases hq : ns[p]? with
    | none => rw [hq] at this; simp at this
    | some n0 => rw [hq] at this; simp at this; exact this.symm
  have hnk : ∃ n0 ∈ ns, n0.ks = n.ks := by
    unfold kfOf at hkf
    rw [Int.toNat_natCast] at hkf
    cases hq : ns[p]? with
    | none => have := (List.getElem?_eq_none_iff.1 hq); have := HM.out; omega
    | some n0 => rw [hq] at hkf; exact ⟨n0, List.mem_iff_getElem?.2 ⟨p, hq⟩, hkf⟩
  obtain ⟨n0, hn0, en0⟩ := hnk
  have hlinkn : ∀ z ∈ n.ks, 0 ≤ z ∧ z < (m : Int) := fun z hz => hlink n0 hn0 z (by rw [en0]; exact hz)
  have hkd : kdOf ns1 = kdOf ns := kd_same HK1.out
  obtain ⟨b', off', e, _, hcs⟩ := page_cells HP1.out (by omega)
  injection e with e; injection e with e1 e2
  subst e1 e2
  obtain ⟨cn0, cn1, hIk, hbw0⟩ := hcs p n hn
  rw [hbase] at hbw0
  have hcapn : CapOk n.kv := (HP1.out.2.1 n hmem).2.2.1
  have hSp : SpanM (NR + 1) (NR + 2) L 0 m c p n.kv n.ks (kdOf ns1) W3 := by
    refine ⟨by omega, y0.cellAt 0, y1.cellAt 0, (b1w3.cell (p := ⟨L, 0 + p * 34 + 1, none⟩) hbw0).trans cn1, hIk.below (by rw [hbase]; exact b1w3), fun j hj => ?_⟩
    have hj' := List.getElem?_eq_getElem (show j < ns1.length by rw [HL1.out]; exact hj)
    have := (hcs j _ hj').1
    unfold kdOf
    rw [hj']
    exact (b1w3.cell (p := ⟨L, 0 + j * 34, none⟩) hbw0).trans this
  have hno' : ∀ z ∈ n.ks, kdOf ns1 z.toNat ≠ 4 := fun z hz => by rw [hkd]; exact hno z (by rw [hkf]; exact hz)
  have hsp : spansP ns1 n.ks = colsS (kdOf ns) CS n.ks := spans_colsS hno' hkd (fun z hz => by
    have hzr := hlinkn z hz
    have hj' := List.getElem?_eq_getElem (show z.toNat < ns1.length by rw [HL1.out]; omega)
    unfold csOf
    rw [hj']
    exact HCS1.out _ _ hj')
  have HMAX : Hid (∀ x ∈ colsS (kdOf ns) CS n.ks, 1 ≤ x.2 ∧ x.2 ≤ 1000) := Lib.hid (fun x hx => by
    obtain ⟨z, hz, h5, rfl⟩ := colsS_mem hx
    exact hCS z (by rw [hkf]; exact hz) h5)
  obtain ⟨S, hS⟩ : ∃ S, colsS (kdOf ns) CS n.ks = S := ⟨_, rfl⟩
  have HTS : Hid (T = S.flatMap repX) := Lib.hid (by rw [← HT0.out, hkf]; unfold colsT; rw [hS])
  rw [hS] at hsp HMAX
  have hC0 : ColI N NR base S w [] W3 := by
    refine ⟨_, rfl, by simp, ?_, ?_, y2, ?_, by exact bw3⟩
    · have := k01.out; rw [hN] at this; exact this.below b1w3 (by omega)
    · have := k11.out; rw [hN] at this; exact this.below b1w3 (by omega)
    · have := HO2.out
      rw [hbase] at this
      exact own_belowN this (by rw [hNR]; exact b23)
  have HNN := Lib.hid hN
  have hkv : n.ks = [] ∨ ∃ qb qo c, n.kv = .slice (some ⟨qb, qo, none⟩) n.ks.length c ∧ qb < base := by
    obtain ⟨_, ⟨a, cap', e, hz⟩ | ⟨b', o', cap', e, hc⟩⟩ := hIk
    · exact .inl hz
    · by_cases hz : n.ks = []
      · exact .inl hz
      · exact .inr ⟨b', o', cap', e, by rw [← hbase]; exact cell_lt (hc 0 (List.length_pos_iff.2 hz))⟩
  have hown3 : ∀ g, ownN NR W3 g → base ≤ g ∧ g < W3.heap.size ∧ g ≠ NR + 1 ∧ g ≠ NR + 2 := by
    rintro g ⟨u, hu, hg⟩
    have := y2.cellAt 0
    simp at this
    rw [this] at hu
    injection hu with hu
    subst hu
    simp [Value.ownBlock] at hg
    omega
  have hBR : base < NR := ?baseNR
  simp only [hbase, hNR, hN]
  rw [hW13, hW3]
  have HSEQ := Lib.hid (fun (nn : Nat) => spans_cols nn (NR + 1) (NR + 2) L m c p NR (NR + 4) base n.kv n.ks ns1 hcapn (by omega) hp HL1.out hlinkn hno' w1 W3 HP1.out hbase b1w3 hSp (by omega) (by omega) (by omega) hkv hown3 ⟨_, y2.cellAt 0⟩)
  rw [hsp] at HSEQ
  clear hW13 hW3 s13 b13 b33 b23 b1w3 bw3 y0 y1 y2 cn0 cn1 hIk hbw0 hcs k01 k11 HO2 B1 B2 HSF HP1
  refine (wpIn_wide (n := 3)).1 (range_own (F := Fence.wide) rfl (by omega) (gf := 26) (lb := #[.pointer (some ⟨NR + 1, 0, none⟩), .pointer (some ⟨NR + 1 + 1, 0, none⟩)]) rfl trivial (enters_of Try.func26 (by kernel_rfl) rfl)
    (Kp := KpS NR (NR + 4)) (fun _ _ _ h k => h.trans k) (fun W o hl => ?put)
    (HSEQ.out _) (fun x => rfl)
    (ColI N NR base S w) (ColX N (10000 < T.length) w) ?own ?ownx
    hC0 ?round ?done ?stop)
  case put =>
    rw [s3] at hl ⊢
    exact KpS.put (by omega) W o hl
  case own =>
    rintro pre X1 Y1 row ⟨v, g⟩ hg hr
    have hnc : NoCells X1 row := fun r e => (hr r e).2
    exact ⟨v, g.isPre, g.few, g.r0.grown hg (g.r0.ne hnc), g.r1.grown hg (g.r1.ne hnc), g.lb.grown hg (g.lb.ne hnc), own_grown g.own hg hnc, (ownFrom_below (β := Unit) (show N ≤ w.heap.size by have := HNN.out; omega) (show N ≤ W3.heap.size by omega)) () X1 Y1 row g.low hg hr⟩
  case ownx =>
    rintro c' pre X1 Y1 row ⟨rfl, h1, h2, h3, h4⟩ hg hr
    have hnc : NoCells X1 row := fun r e => (hr r e).2
    exact ⟨rfl, h1, h2.grown hg (h2.ne hnc), h3.grown hg (h3.ne hnc), (ownFrom_below (β := Unit) (show N ≤ w.heap.size by have := HNN.out; omega) (show N ≤ W3.heap.size by omega)) () X1 Y1 row h4 hg hr⟩
  case stop =>
    rintro D c' pre V hD _ ⟨rfl, h1, h2, h3, h4⟩ hmk
    have H1 := Lib.hid h1
    have HV := Lib.hid (And.intro h2 (And.intro h3 h4))
    have HM2 := Lib.hid ((Marks.nil N V).cons (D := D) (by omega) hmk (fun E hE => by cases hE))
    clear h1 h2 h3 h4 hmk hSp hC0
    gi_wp2
    refine leaves_marks N [D] _ HM2.out (fun W' hck hbk => ?_)
    have r0 : W'.cell? ⟨N, 0, none⟩ = some (.slice none 0 0) := hck.cell (HV.out.1.cellAt 0)
    have r1 : W'.cell? ⟨N + 1, 0, none⟩ = some (.int .i64 43) := hck.cell (HV.out.2.1.cellAt 0)
    refine ⟨.tuple #[.slice none 0 0, .int .i64 43], ?_, .inr ⟨H1.out, rfl⟩, by exact HV.out.2.2.trans hbk⟩
    simp [results, Try.results6, go_sem, r0, r1]
  case baseNR =>
    have := (HO2.out.lt w1.heap.size rfl).2
    omega
  case round =>
    rintro l' pre ⟨⟨x1, x2⟩, sp⟩ V hlq ⟨v, g⟩ hnx
    obtain ⟨s, rfl⟩ : ∃ s : Nat, sp = (s : Int) := ⟨sp.toNat, by have := (HMAX.out _ (List.mem_iff_getElem?.2 ⟨_, hnx⟩)).1; dsimp only at this; omega⟩
    have hs1 : 1 ≤ s ∧ s ≤ 1000 := by have := HMAX.out _ (List.mem_iff_getElem?.2 ⟨_, hnx⟩); dsimp only at this; omega
    have hal : Below V.heap.size V (V.alloc (.cells #[.int .i64 x1, .int .i64 x2] 48)) := (Below.refl _ V).alloc (Nat.le_refl _) _
    have hVN : NR < V.heap.size := g.lb.lt
    refine ⟨{ tmps := #[.slice (some ⟨b, off, none⟩) m cap, .int .i64 p, .int .i64 k, undef, undef, undef, .pointer (some ⟨N, 0, none⟩), .pointer (some ⟨N + 1, 0, none⟩), .slice (some ⟨L, 0, none⟩) m c, .int .i64 0, .pointer (some ⟨NR, 0, none⟩), .pointer (some ⟨V.heap.size, 0, none⟩), .int .i64 s, .tuple #[.slice (some ⟨L, 0, none⟩) m c, .int .i64 0], .slice (some ⟨b, off, none⟩) m cap, .tuple #[.slice (some ⟨L, 0, none⟩) m c, .int .i64 0], .slice (some ⟨L, 0, none⟩) m c, .int .i64 0, .int .i64 0, .bool false, undef, .slice (some ⟨L, 0, none⟩) m c, .int .i64 p, .bool true, .bool false, .bool false, .int .i64 k, .bool false, .bool false, .bool false, .int .i64 k, .bool false, .bool false, .int .i64 k, .slice (some ⟨base, 0, none⟩) 0 k, .slice (some ⟨L, 0, none⟩) m c, .int .i64 p, .func (.func 26) #[] #[.pointer (some ⟨NR + 1, 0, none⟩), .pointer (some ⟨NR + 1 + 1, 0, none⟩)], .agg #[.int .i64 x1, .int .i64 x2], .int .i64 s, undef, undef, undef, undef, undef, undef, undef, undef, undef, undef, undef, undef, undef, undef, undef, undef, undef, undef, undef, undef], defers := [] }, V.alloc (.cells #[.int .i64 x1, .int .i64 x2] 48), ?_, (KeepsOthers.alloc V _).from _, fun hg hu => KU.of_below hal hg hu, ?_⟩
    · intro K hK
      dsimp only [encSp]
      gi_wp2
      exact hK
    · intro V₂ hgV hnc' hbl
      obtain ⟨P, hP⟩ : ∃ P, V.heap.size = P := ⟨_, rfl⟩
      have kl := whole_new V [.int .i64 x1, .int .i64 x2] 48 _ hP.symm
      obtain ⟨q, c', rfl, _, _⟩ := own_src g.own
      have hav : ∀ gg, (Value.slice q (pre.flatMap repX).length c').ownBlock = some gg → gg ≠ P := fun gg e => by have := (g.own.lt gg e).2; omega
      have G1 : ColW N NR base S pre (.slice q (pre.flatMap repX).length c') w (V.alloc (.cells #[.int .i64 x1, .int .i64 x2] 48)) :=
        ⟨g.isPre, g.few, g.r0.alloc _, g.r1.alloc _, g.lb.alloc _, own_belowN g.own hal, g.low.trans (hal.mono (by omega))⟩
      have G2 : ColW N NR base S pre (.slice q (pre.flatMap repX).length c') w V₂ :=
        ⟨G1.isPre, G1.few, G1.r0.grown hgV (G1.r0.ne hnc'), G1.r1.grown hgV (G1.r1.ne hnc'), G1.lb.grown hgV (G1.lb.ne hnc'), own_grown G1.own hgV hnc', (ownFrom_below (β := Unit) (show N ≤ w.heap.size by have := HNN.out; omega) (show N ≤ W3.heap.size by omega)) () _ V₂ (some l') G1.low hgV (fun r e => by injection e with e; exact ⟨by omega, hnc' r (by rw [e])⟩)⟩
      have kl2 := kl.grown hgV (kl.ne hnc')
      have lP : P < V₂.heap.size := kl2.lt
      obtain ⟨e, he⟩ : ∃ e, (pre.flatMap repX).length = e := ⟨_, rfl⟩
      have heb : e ≤ 10000 := by have := g.few; omega
      have HE := Lib.hid he
      rw [he] at G2 hav
      have cN := G2.lb.cellAt 0
      have lN := G2.lb.lt
      have G := Lib.hid G2
      have KL := Lib.hid kl2
      have HNX := Lib.hid hnx
      have HAV := Lib.hid hav
      clear hal kl g G1 G2 kl2 hgV hnc' hbl hSp hC0 he hav hnx
      rw [hP]
      by_cases hov : 10000 < e + s
      · have d1 : decide ((s : Int) > 10000 - (e : Int)) = true := by simp; omega
        have d2 : decide (10000 - (e : Int) < (s : Int)) = true := by simp; omega
        have HBIG : Hid (10000 < T.length) := Lib.hid (by
          have h1 : S = S.take pre.length ++ S.drop pre.length := (List.take_append_drop _ S).symm
          have h2 : S.drop pre.length = ((x1, x2), (s : Int)) :: S.drop (pre.length + 1) := by
            obtain ⟨hl, ee⟩ := List.getElem?_eq_some_iff.1 HNX.out
            rw [List.drop_eq_getElem_cons hl, ee]
          rw [HTS.out, h1, ← G.out.isPre, h2, List.flatMap_append, List.flatMap_cons, List.length_append, List.length_append, HE.out]
          simp [repX]
          omega)
        have c0 := G.out.r0.cellAt 0
        have f0 := G.out.r0.free 0
        have l0 := G.out.r0.lt
        have c1 := G.out.r1.cellAt 0
        have f1 := G.out.r1.free 0
        have l1 := G.out.r1.lt
        gi_wp2
        exact ⟨((KeepsOthers.setCell _ _ _).trans (KeepsOthers.setCell _ _ _)).from _, rfl, HBIG.out, (G.out.r0.set 0 _).other _ _ (show N ≠ N + 1 by omega), (G.out.r1.other ⟨N, 0, none⟩ _ (show N + 1 ≠ N by omega)).set 0 _,
          (G.out.low.setCell (p := ⟨N, 0, none⟩) (Nat.le_refl _) _).setCell (p := ⟨N + 1, 0, none⟩) (show N ≤ N + 1 by omega) _⟩
      · have d1 : decide ((s : Int) > 10000 - (e : Int)) = false := by simp; omega
        have d2 : decide (10000 - (e : Int) < (s : Int)) = false := by simp; omega
        gi_wp2
        refine wpIn_round_held (S := fun X => X.cell? ⟨P, 0, none⟩ = some (.int .i64 x1) ∧ X.cell? ⟨P, 1, none⟩ = some (.int .i64 x2)) (by kernel_rfl) (by kernel_rfl) (by simp only [LetsOut, Exit.inBlock]; rintro ⟨x, y, h⟩; exact h) ?_
        obtain ⟨V3, hV3⟩ : ∃ V3, V₂.drew = V3 := ⟨_, rfl⟩
        have SV : Hid (Below V₂.heap.size V₂ V3) := Lib.hid (by rw [← hV3]; exact below_dn _ V₂ 1)
        have sV3 : V3.heap.size ≤ V₂.heap.size ∧ V₂.heap.size ≤ V3.heap.size := by rw [← hV3]; exact ⟨Nat.le_refl _, Nat.le_refl _⟩
        have G3 : ColW N NR base S pre (.slice q e c') w V3 := ⟨G.out.isPre, G.out.few, G.out.r0.below SV.out G.out.r0.lt, G.out.r1.below SV.out G.out.r1.lt, G.out.lb.below SV.out lN, own_belowN G.out.own SV.out, G.out.low.trans (SV.out.mono (by omega))⟩
        have w1' : V3.cell? ⟨P, 0, none⟩ = some (.int .i64 x1) ∧ V3.cell? ⟨P, 1, none⟩ = some (.int .i64 x2) := ⟨(SV.out.cell (p := ⟨P, 0, none⟩) lP).trans (KL.out.cellAt 0), (SV.out.cell (p := ⟨P, 1, none⟩) lP).trans (KL.out.cellAt 1)⟩
        have w3 : V3.cell? ⟨NR, 0, none⟩ = some (.slice q e c') := G3.lb.cellAt 0
        have lN3 : NR < V3.heap.size := by omega
        have lP3 : P < V3.heap.size := by omega
        have HG3 := Lib.hid G3
        rw [hV3]
        clear hV3 cN G3
        -- what a world behind the draw still knows
        have HSB : ∀ U : World, Below V3.heap.size V3 U → Hid ((U.cell? ⟨P, 0, none⟩ = some (.int .i64 x1) ∧ U.cell? ⟨P, 1, none⟩ = some (.int .i64 x2)) ∧ U.cell? ⟨NR, 0, none⟩ = some (.slice q e c') ∧ NR < U.heap.size) := fun U hU => Lib.hid ⟨⟨(hU.cell (p := ⟨P, 0, none⟩) lP3).trans w1'.1, (hU.cell (p := ⟨P, 1, none⟩) lP3).trans w1'.2⟩, (hU.cell (p := ⟨NR, 0, none⟩) lN3).trans w3, by have := hU.size; omega⟩
        have HREP := Lib.hid (repeatL_any V3.heap.size 0 1 (x1, x2) s (V3.alloc (.cells #[.int .i64 x1, .int .i64 x2] 48)) (fun j u hu => lay_new V3 [.int .i64 x1, .int .i64 x2] 48 _ rfl j u hu) hs1.1 (by omega))
        have TL : ∀ U : World, Below V3.heap.size V3 U → ∀ (qq : Option Addr) (qc : Nat), (qq = none → (List.replicate s (x1, x2)).length = 0) → (∀ a, qq = some a → ∀ j u, ((List.replicate s (x1, x2)).flatMap encL)[j]? = some u → U.cell? (a.add j) = some u) →
            Hid (∃ v' X2, (Builtin.append_ #[25, 25] 25 #[.slice q e c', .slice qq s qc]).run Try.prog U = .ok v' X2 ∧ (∃ p2 k2 c2, v' = .slice p2 k2 c2) ∧ Whole X2 NR 25 [.slice q e c'] ∧
              (X2.cell? ⟨P, 0, none⟩ = some (.int .i64 x1) ∧ X2.cell? ⟨P, 1, none⟩ = some (.int .i64 x2)) ∧ ((X2.setCell ⟨NR, 0, none⟩ v').cell? ⟨P, 0, none⟩ = some (.int .i64 x1) ∧ (X2.setCell ⟨NR, 0, none⟩ v').cell? ⟨P, 1, none⟩ = some (.int .i64 x2)) ∧
              ownPostG (NR + 3) (KpS NR (NR + 4)) (ColI N NR base S w) (ColX N (10000 < T.length) w) (pre ++ [((x1, x2), (s : Int))]) V₂ .normal { tmps := #[], defers := [] } (X2.setCell ⟨NR, 0, none⟩ v')) := fun U hU qq qc h1 h2 => by
          obtain ⟨v', X2, a1, a2, a3, a4, a5, a6, a7⟩ := HG3.out.step (LB := NR + 4) hU (x1, x2) s HNX.out (by rw [HE.out]; omega) ⟨by omega, by omega, lN3⟩ qq qc h1 h2
          have b0 := a4 ⟨P, 0, none⟩ _ w1'.1 (show NR < P by omega) (fun g hg => HAV.out g hg)
          have b1 := a4 ⟨P, 1, none⟩ _ w1'.2 (show NR < P by omega) (fun g hg => HAV.out g hg)
          exact Lib.hid ⟨v', X2, a1, a2, a3, ⟨b0.1, b1.1⟩, ⟨b0.2, b1.2⟩, ((⟨SV.out.size, fun j o hj _ => (SV.out.block j (Array.getElem?_eq_some_iff.1 hj).1).trans hj⟩ : KeepsOthers V₂ V3).trans a5).from _, fun hg hu => (KU.of_below SV.out hg hu).trans a6, a7⟩
        clear HG3 KL G
        refine wpAnyH_take (i := 1) (v := .agg #[.int .i64 x1, .int .i64 x2]) rfl (by kernel_rfl) (by kernel_rfl) (by kernel_rfl) (fun _ _ _ h => h) (Or.inl ⟨by rfl, ?_⟩) w1' ?_
        · rintro X ⟨hX1, hX2⟩; go_simp
        refine wpAnyH_take (i := 3) (v := .int .i64 s) rfl (by kernel_rfl) (by kernel_rfl) (by kernel_rfl) (fun _ _ _ h => h) (Or.inl ⟨by rfl, ?_⟩) w1' ?_
        · rintro X ⟨hX1, hX2⟩; go_simp
        refine wpAnyH_all (rs := [0, 2]) (by kernel_rfl) (by simp) ?_
        intro i2 hi2
        rcases (show i2 = 0 ∨ i2 = 2 by simpa using hi2) with rfl | rfl
        · refine wpOp_step rfl (fun K hK => ?_)
          go_simp
          refine hK _ _ ⟨w1', ?_⟩
          clear hK K hi2
          refine wpAnyH_all (rs := [2]) (by kernel_rfl) (by simp) ?_
          intro i2 hi2; obtain rfl : i2 = 2 := by simpa using hi2
          refine wpOp_step rfl (fun K hK => ?_)
          go_simp
          have y1 := (HSB (V3.alloc (.cells #[.int .i64 x1, .int .i64 x2] 48)) ((Below.refl _ V3).alloc (Nat.le_refl _) _)).out
          obtain ⟨ys, y3, y4⟩ := y1
          refine hK _ _ ⟨ys, ?_⟩
          clear hK K hi2
          refine wpAnyH_all (rs := [4]) (by kernel_rfl) (by simp) ?_
          intro i2 hi2; obtain rfl : i2 = 4 := by simpa using hi2
          refine wpOp_step rfl (fun K hK => ?_)
          go_simp
          refine HREP.out.mono ?_
          rintro e' U ⟨v2, rfl, ho, bU⟩
          have BU := ((Below.refl V3.heap.size V3).alloc (Nat.le_refl _) (.cells #[.int .i64 x1, .int .i64 x2] 48)).trans (bU.mono (by simp))
          obtain ⟨us, u3, u4⟩ := (HSB U BU).out
          obtain ⟨qq, qc, rfl, hqq, hqs⟩ : ∃ qq qc, v2 = .slice qq s qc ∧ (qq = none → (List.replicate s (x1, x2)).length = 0) ∧ ∀ a, qq = some a → ∀ j u, ((List.replicate s (x1, x2)).flatMap encL)[j]? = some u → U.cell? (a.add j) = some u := by
            obtain ⟨qq, qc, e1, h1, h2⟩ := own_src ho
            exact ⟨qq, qc, by rw [e1, List.length_replicate], h1, h2⟩
          have HT3 := TL U BU qq qc hqq hqs
          refine hK _ _ ⟨us, ?_⟩
          clear hK K hi2 ho hqq hqs
          obtain ⟨v', X2, hr7, ⟨p2, k2, c2, rfl⟩, hlb, f1, f2, hend⟩ := HT3.out
          have c7 := hlb.cellAt 0
          have f7 := hlb.free 0
          have l7 := hlb.lt
          have HEND := Lib.hid hend
          clear hend hlb
          refine wpAnyH_all (rs := [5]) (by kernel_rfl) (by simp) ?_
          intro i2 hi2; obtain rfl : i2 = 5 := by simpa using hi2
          refine wpOp_step rfl (fun K hK => ?_)
          refine wp_append_run _ _ _ rfl _ _ _ rfl rfl hr7 ?_
          refine hK _ _ ⟨f1, ?_⟩
          clear hK K hi2
          refine wpAnyH_all (rs := [6]) (by kernel_rfl) (by simp) ?_
          intro i2 hi2; obtain rfl : i2 = 6 := by simpa using hi2
          refine wpOp_step rfl (fun K hK => ?_)
          go_simp
          refine hK _ _ ⟨f2, ?_⟩
          clear hK K hi2
          refine wpAnyH_done (by kernel_rfl) ?_ _
          gi_wp2
          exact HEND.out
        · refine wpOp_step rfl (fun K hK => ?_)
          go_simp
          have y1 := (HSB (V3.alloc (.cells #[.int .i64 x1, .int .i64 x2] 48)) ((Below.refl _ V3).alloc (Nat.le_refl _) _)).out
          obtain ⟨ys, y3, y4⟩ := y1
          refine hK _ _ ⟨ys, ?_⟩
          clear hK K hi2
          refine wpAnyH_all (rs := [0, 4]) (by kernel_rfl) (by simp) ?_
          intro i2 hi2
          rcases (show i2 = 0 ∨ i2 = 4 by simpa using hi2) with rfl | rfl
          · refine wpOp_step rfl (fun K hK => ?_)
            go_simp
            refine hK _ _ ⟨ys, ?_⟩
            clear hK K hi2
            refine wpAnyH_all (rs := [4]) (by kernel_rfl) (by simp) ?_
            intro i2 hi2; obtain rfl : i2 = 4 := by simpa using hi2
            refine wpOp_step rfl (fun K hK => ?_)
            go_simp
            refine HREP.out.mono ?_
            rintro e' U ⟨v2, rfl, ho, bU⟩
            have BU := ((Below.refl V3.heap.size V3).alloc (Nat.le_refl _) (.cells #[.int .i64 x1, .int .i64 x2] 48)).trans (bU.mono (by simp))
            obtain ⟨us, u3, u4⟩ := (HSB U BU).out
            obtain ⟨qq, qc, rfl, hqq, hqs⟩ : ∃ qq qc, v2 = .slice qq s qc ∧ (qq = none → (List.replicate s (x1, x2)).length = 0) ∧ ∀ a, qq = some a → ∀ j u, ((List.replicate s (x1, x2)).flatMap encL)[j]? = some u → U.cell? (a.add j) = some u := by
              obtain ⟨qq, qc, e1, h1, h2⟩ := own_src ho
              exact ⟨qq, qc, by rw [e1, List.length_replicate], h1, h2⟩
            have HT3 := TL U BU qq qc hqq hqs
            refine hK _ _ ⟨us, ?_⟩
            clear hK K hi2 ho hqq hqs
            obtain ⟨v', X2, hr7, ⟨p2, k2, c2, rfl⟩, hlb, f1, f2, hend⟩ := HT3.out
            have c7 := hlb.cellAt 0
            have f7 := hlb.free 0
            have l7 := hlb.lt
            have HEND := Lib.hid hend
            clear hend hlb
            refine wpAnyH_all (rs := [5]) (by kernel_rfl) (by simp) ?_
            intro i2 hi2; obtain rfl : i2 = 5 := by simpa using hi2
            refine wpOp_step rfl (fun K hK => ?_)
            refine wp_append_run _ _ _ rfl _ _ _ rfl rfl hr7 ?_
            refine hK _ _ ⟨f1, ?_⟩
            clear hK K hi2
            refine wpAnyH_all (rs := [6]) (by kernel_rfl) (by simp) ?_
            intro i2 hi2; obtain rfl : i2 = 6 := by simpa using hi2
            refine wpOp_step rfl (fun K hK => ?_)
            go_simp
            refine hK _ _ ⟨f2, ?_⟩
            clear hK K hi2
            refine wpAnyH_done (by kernel_rfl) ?_ _
            gi_wp2
            exact HEND.out
          · refine wpOp_step rfl (fun K hK => ?_)
            go_simp
            refine HREP.out.mono ?_
            rintro e' U ⟨v2, rfl, ho, bU⟩
            have BU := ((Below.refl V3.heap.size V3).alloc (Nat.le_refl _) (.cells #[.int .i64 x1, .int .i64 x2] 48)).trans (bU.mono (by simp))
            obtain ⟨us, u3, u4⟩ := (HSB U BU).out
            obtain ⟨qq, qc, rfl, hqq, hqs⟩ : ∃ qq qc, v2 = .slice qq s qc ∧ (qq = none → (List.replicate s (x1, x2)).length = 0) ∧ ∀ a, qq = some a → ∀ j u, ((List.replicate s (x1, x2)).flatMap encL)[j]? = some u → U.cell? (a.add j) = some u := by
              obtain ⟨qq, qc, e1, h1, h2⟩ := own_src ho
              exact ⟨qq, qc, by rw [e1, List.length_replicate], h1, h2⟩
            have HT3 := TL U BU qq qc hqq hqs
            refine hK _ _ ⟨us, ?_⟩
            clear hK K hi2 ho hqq hqs
            refine wpAnyH_all (rs := [0]) (by kernel_rfl) (by simp) ?_
            intro i2 hi2; obtain rfl : i2 = 0 := by simpa using hi2
            refine wpOp_step rfl (fun K hK => ?_)
            go_simp
            refine hK _ _ ⟨us, ?_⟩
            clear hK K hi2
            obtain ⟨v', X2, hr7, ⟨p2, k2, c2, rfl⟩, hlb, f1, f2, hend⟩ := HT3.out
            have c7 := hlb.cellAt 0
            have f7 := hlb.free 0
            have l7 := hlb.lt
            have HEND := Lib.hid hend
            clear hend hlb
            refine wpAnyH_all (rs := [5]) (by kernel_rfl) (by simp) ?_
            intro i2 hi2; obtain rfl : i2 = 5 := by simpa using hi2
            refine wpOp_step rfl (fun K hK => ?_)
            refine wp_append_run _ _ _ rfl _ _ _ rfl rfl hr7 ?_
            refine hK _ _ ⟨f1, ?_⟩
            clear hK K hi2
            refine wpAnyH_all (rs := [6]) (by kernel_rfl) (by simp) ?_
            intro i2 hi2; obtain rfl : i2 = 6 := by simpa using hi2
            refine wpOp_step rfl (fun K hK => ?_)
            go_simp
            refine hK _ _ ⟨f2, ?_⟩
            clear hK K hi2
            refine wpAnyH_done (by kernel_rfl) ?_ _
            gi_wp2
            exact HEND.out
  case done =>
    rintro D xs V hD rfl ⟨v, g⟩ hmk
    have hTl : T.length ≤ 10000 := by have := g.few; rw [HTS.out]; exact this
    have HB := Lib.hid (show BareW N NR base D v (T ++ bare 0) w V from ⟨g.r0, g.r1, g.lb, by rw [HTS.out]; simpa [bare] using g.own, g.low, hmk⟩)
    have HD := Lib.hid hD
    clear g hmk hSp hC0
    obtain ⟨tl, htl⟩ : ∃ tl, T.length = tl := ⟨_, rfl⟩
    have HTL := Lib.hid htl
    rw [htl] at hTl
    clear htl
    have hb0 : (T ++ bare 0).length = tl := by rw [List.length_append, HTL.out]; simp [bare]
    go_wp2
    go_loopw [51] (fun _ X => ∃ (t : Nat) (v : Value), (t = 0 ∨ tl + t ≤ k) ∧ Hid (BareW N NR base D v (T ++ bare t) w X) ∧ lenAt NR X = tl + t) (fun _ X => k - lenAt NR X)
    case atStart =>
      obtain ⟨q, c', rfl, _, _⟩ := own_src HB.out.own
      exact ⟨0, _, .inl rfl, HB, by rw [lenAt_of HB.out.lb, hb0]; rfl⟩
    case round =>
      clear HB hb0
      obtain ⟨t, v, htk, HX, hlen⟩ := hrel
      obtain ⟨q, c', rfl, _, _⟩ := own_src HX.out.own
      have hbl0 : (T ++ bare t).length = tl + t := by rw [List.length_append, HTL.out]; unfold bare; rw [List.length_replicate]
      have hE1 : T ++ bare (t + 1) = (T ++ bare t) ++ [(-1, -1)] := by rw [bare_succ, ← List.append_assoc]
      obtain ⟨E, hE⟩ : ∃ E, T ++ bare t = E := ⟨_, rfl⟩
      rw [hE] at hbl0 hE1 HX
      obtain ⟨u, hu⟩ : ∃ u, tl + t = u := ⟨_, rfl⟩
      have hbl : E.length = u := by rw [hbl0, hu]
      have HEE := Lib.hid hE
      have HE1 := Lib.hid hE1
      have HUU := Lib.hid hu
      clear hE hE1 hbl0
      rw [hu] at hlen htk
      rw [hbl] at HX
      have cN := HX.out.lb.cellAt 0
      have lN := HX.out.lb.lt
      have lD : D < wr.heap.size := (Array.getElem?_eq_some_iff.1 HX.out.mkd).1
      by_cases hlt : u < k
      · have hd : decide ((u : Int) < (k : Int)) = true := by simp; omega
        have hz : Below wr.heap.size wr (wr.alloc (.cells #[.int .i64 (-1), .int .i64 (-1)] 48)) := (Below.refl _ wr).alloc (Nat.le_refl _) _
        obtain ⟨v', X2, hr7, ⟨p2, c2, rfl⟩, hlb, a4, a5, a6, a7, a8, a9, a10, a11⟩ := box_step HX.out.lb HX.out.own hz (by omega) [((-1 : Int), (-1 : Int))] (some ⟨wr.heap.size, 0, none⟩) 1 (fun e => by cases e) (fun a e j u hj => by injection e with e; subst e; exact lay_new wr [.int .i64 (-1), .int .i64 (-1)] 48 _ rfl j u hj) (by rw [hbl, List.length_singleton]; omega)
        rw [List.length_append, hbl, List.length_singleton] at *
        have c7 := hlb.cellAt 0
        have f7 := hlb.free 0
        have l7 := hlb.lt
        have HB2 : Hid (BareW N NR base D (.slice p2 (u + 1) c2) (T ++ bare (t + 1)) w (X2.setCell ⟨NR, 0, none⟩ (.slice p2 (u + 1) c2))) := Lib.hid ⟨(a7 _ _ _ HX.out.r0 (by decide) (by omega)).2, (a7 _ _ _ HX.out.r1 (by decide) (by omega)).2, a4, by rw [HE1.out]; exact a5, a8 N w (by omega) (by omega) HX.out.low, a6.same D _ HX.out.mkd rfl⟩
        clear a4 a5 a6 a7 a8 a9 a10 a11 HX hz
        clear hu
        go_wp2_with (at_builtin; refine wpList_plain rfl (fun K hK => wp_append_run _ _ 25 rfl _ _ _ rfl rfl hr7 (hK _ _ ?_)); clear hK K)
        go_roundw
        case rel => exact ⟨t + 1, _, .inr (by have := HUU.out; omega), HB2, by rw [lenAt_of HB2.out.lb]; have := HUU.out; omega⟩
        case measure => rw [lenAt_of HB2.out.lb, hlen]; omega
      · have hkt : k - tl = t := by omega
        have hd : decide ((u : Int) < (k : Int)) = false := by simp; omega
        have c0 := HX.out.r0.cellAt 0
        have f0 := HX.out.r0.free 0
        have l0 := HX.out.r0.lt
        have c1 := HX.out.r1.cellAt 0
        have f1 := HX.out.r1.free 0
        have l1 := HX.out.r1.lt
        have HKT := Lib.hid hkt
        clear hlen htk hkt hu
        go_wp2
        have HXX := HX.out
        have q0 : Whole (wr.setCell ⟨N, 0, none⟩ (.slice q u c')) N 25 [.slice q u c'] := HXX.r0.set 0 _
        have q1 : Whole ((wr.setCell ⟨N, 0, none⟩ (.slice q u c')).setCell ⟨N + 1, 0, none⟩ (.int .i64 0)) N 25 [.slice q u c'] := q0.other _ _ (show N ≠ N + 1 by omega)
        have q2 : Whole ((wr.setCell ⟨N, 0, none⟩ (.slice q u c')).setCell ⟨N + 1, 0, none⟩ (.int .i64 0)) (N + 1) 26 [.int .i64 0] := (HXX.r1.other ⟨N, 0, none⟩ _ (show N + 1 ≠ N by omega)).set 0 _
        have o2 : OwnL base ((wr.setCell ⟨N, 0, none⟩ (.slice q u c')).setCell ⟨N + 1, 0, none⟩ (.int .i64 0)) (.slice q u c') E := own_setCell (own_setCell HXX.own (whole_own HXX.r0 HXX.own (by decide))) (whole_own (HXX.r1.other ⟨N, 0, none⟩ (.slice q u c') (show N + 1 ≠ N by omega)) (own_setCell HXX.own (whole_own HXX.r0 HXX.own (by decide))) (by decide))
        have m2 : ((wr.setCell ⟨N, 0, none⟩ (.slice q u c')).setCell ⟨N + 1, 0, none⟩ (.int .i64 0)).heap[D]? = some (.deferred (some [])) := ((KeepsOthers.setCell _ _ _).trans (KeepsOthers.setCell _ _ _)).same D _ HXX.mkd rfl
        have b2 : Below N w ((wr.setCell ⟨N, 0, none⟩ (.slice q u c')).setCell ⟨N + 1, 0, none⟩ (.int .i64 0)) := (HXX.low.setCell (p := ⟨N, 0, none⟩) (Nat.le_refl _) _).setCell (p := ⟨N + 1, 0, none⟩) (show N ≤ N + 1 by omega) _
        generalize (wr.setCell ⟨N, 0, none⟩ (.slice q u c')).setCell ⟨N + 1, 0, none⟩ (.int .i64 0) = Y at *
        refine leaves_marks N [D] _ ((Marks.nil _ _).cons (by have := HD.out; omega) m2 (by simp)) (fun W' hck hbk => ?_)
        have r0 : W'.cell? ⟨N, 0, none⟩ = some (.slice q u c') := hck.cell (q1.cellAt 0)
        have r1 : W'.cell? ⟨N + 1, 0, none⟩ = some (.int .i64 0) := hck.cell (q2.cellAt 0)
        refine ⟨.tuple #[.slice q u c', .int .i64 0], ?_, .inl ⟨_, by rw [HTL.out]; exact hTl, rfl, by rw [HTL.out, HKT.out, HEE.out]; exact own_from (own_cellsKept o2 hck) (by have := HNN.out; omega)⟩, by rw [HNN.out]; exact b2.trans hbk⟩
        simp [results, Try.results6, go_sem, r0, r1]
end Go.Proofs.Ytgaclepoipaecaa

namespace Go.Proofs.Ytgaclepoipaecaa
open Go.RowKit Go.Shelf Go.Maps
set_option linter.unusedVariables false
attribute [local go_sem] Oper.semAt_some

set_option maxHeartbeats 1000000 in
theorem refSpan_at (b off cap m z : Nat) (ns : List Nd) (w : World) (hm : ns.length = m) (hz : z < m) (hm2 : m ≤ 65536) (hP : PageAt w (.slice (some ⟨b, off, none⟩) m cap) ns) :
    Calls Try.prog 17 #[.slice (some ⟨b, off, none⟩) m cap, .int .i64 (z : Int)] w fun e W' => e = .returned (.int .i64 (max (csOf ns (z : Int)) 1)) ∧ w = W' := by
  obtain ⟨n, hn⟩ : ∃ n, ns[z]? = some n := ⟨_, List.getElem?_eq_getElem (by rw [hm]; exact hz)⟩
  have hcs : csOf ns (z : Int) = n.s.cs := by unfold csOf; rw [Int.toNat_natCast, hn]; rfl
  rw [hcs]
  have hc : w.cell? ⟨b, off + z * 34 + 2 + 20, none⟩ = some (.int .i64 n.s.cs) := by
    obtain ⟨_, _, ⟨a, c, e, rfl⟩ | ⟨b', off', c, e, hc⟩⟩ := hP
    · simp at hn
    · injection e with e _ _; injection e with e; injection e with e1 e2
      subst e1 e2
      have := hc z n hn 22 (.int .i64 n.s.cs) rfl
      rwa [show off + z * 34 + 22 = off + z * 34 + 2 + 20 by omega] at this
  obtain ⟨s, hs⟩ : ∃ s, n.s.cs = s := ⟨_, rfl⟩
  rw [hs] at hc ⊢
  clear hP hm hn hcs hs
  by_cases h1 : s < 1
  · have e1 : max s 1 = 1 := by omega
    have e2 : (if s < 1 then (1 : Int) else s) = 1 := if_pos h1
    rw [e1]
    go_enter Try.func17, Try.ntmps17
    go_wp2
    all_goals go_ret
    all_goals first | exact ⟨rfl, rfl⟩ | (exact ⟨by congr; omega, rfl⟩)
  · have e1 : max s 1 = s := by omega
    have e2 : (if s < 1 then (1 : Int) else s) = s := if_neg h1
    rw [e1]
    go_enter Try.func17, Try.ntmps17
    go_wp2
    all_goals go_ret
    all_goals first | exact ⟨rfl, rfl⟩ | (exact ⟨by congr; omega, rfl⟩)
/-- the loop of many under way: k lanes more -/
structure ManyW (base : Nat) (w : World) (v : Value) (E : List (Int × Int)) (x : Int × Int) (k : Nat) (v' : Value) (X : World) : Prop where
  own : OwnL base X v' (E ++ List.replicate k x)
  grown : w.grownBy X v.ownBlock
  at' : v'.ownBlock = v.ownBlock ∨ ∃ g, v'.ownBlock = some g ∧ w.heap.size + 1 ≤ g
  box : Whole X w.heap.size 48 [.int .i64 x.1, .int .i64 x.2]
theorem ManyW.start {base : Nat} {w : World} {v : Value} {E : List (Int × Int)} {x : Int × Int} (h : OwnL base w v E) : ManyW base w v E x 0 v (w.alloc (.cells #[.int .i64 x.1, .int .i64 x.2] 48)) :=
  ⟨by rw [List.replicate_zero, List.append_nil]; exact h.alloc _, World.grownBy_alloc w _ _, .inl rfl, whole_new w [.int .i64 x.1, .int .i64 x.2] 48 _ rfl⟩
theorem ManyW.step {base : Nat} {w X Y : World} {v v' v2 : Value} {E : List (Int × Int)} {x : Int × Int} {k : Nat} {o : Obj} (h : ManyW base w v E x k v' X) (h0 : ∀ g, v.ownBlock = some g → g < w.heap.size) (ho : Y.ownsRow base 48 2 v2 ((E ++ List.replicate k x).length + 1) ((E ++ List.replicate k x).flatMap encL ++ [.int .i64 x.1, .int .i64 x.2]))
    (hg : (X.alloc o).grownBy Y v'.ownBlock) (ha : v2.ownBlock = v'.ownBlock ∨ v2.ownBlock = some (X.heap.size + 1)) : ManyW base w v E x (k + 1) v2 Y := by
  have hs := h.grown.size
  have hbl := h.box.lt
  refine ⟨?_, ⟨hg.os.trans h.grown.os, hg.tape.trans h.grown.tape, hg.output.trans h.grown.output, by have := hg.size; simp at this; omega, fun g hgl hne => ?_⟩, ?_, (h.box.alloc o).grown hg fun e => ?_⟩
  · unfold OwnL
    rw [List.replicate_succ', ← List.append_assoc, List.length_append, List.flatMap_append]
    exact ho
  · rw [hg.block g (by simp; omega) (fun e => ?_), heap_alloc_old X o (by omega), h.grown.block g hgl hne]
    rcases h.at' with h1 | ⟨g', h1, h2⟩
    · exact hne (e.trans h1)
    · rw [h1] at e
      injection e with e
      omega
  · rcases ha with h1 | h1
    · rw [h1]; exact h.at'
    · exact .inr ⟨_, h1, by omega⟩
  · rcases h.at' with h1 | ⟨g', h1, h2⟩
    · rw [h1] at e
      have := h0 _ e
      omega
    · rw [h1] at e
      injection e with e
      omega
theorem Try.infoLane7 : (Try.prog.info? 48).map (fun i => (i.zero, i.size, i.bytes)) = some (some (.agg #[.int .i64 0, .int .i64 0]), 2, 16) := by kernel_rfl
set_option maxRecDepth 100000 in
set_option maxHeartbeats 2000000 in
theorem refMany_any (base : Nat) (v : Value) (E : List (Int × Int)) (x : Int × Int) (n : Nat) (w : World) (hO : OwnL base w v E) (hb : base ≤ w.heap.size) (hn : E.length + n ≤ 100000) :
    Calls Try.prog 16 #[v, .agg #[.int .i64 x.1, .int .i64 x.2], .int .i64 (n : Int)] w fun e W' => ∃ v', e = .returned v' ∧ OwnL base W' v' (E ++ List.replicate n x) ∧ w.grownBy W' v.ownBlock ∧ (v'.ownBlock = v.ownBlock ∨ ∃ g, v'.ownBlock = some g ∧ w.heap.size ≤ g) := by
  obtain ⟨p, l, c, rfl⟩ := own_slice hO
  have HL := Lib.hid (fun g e => (hO.lt g e).2)
  have HS := Lib.hid (ManyW.start (x := x) hO)
  obtain ⟨a, b⟩ := x
  obtain ⟨i0, hi0, hz0', hz1', hz2'⟩ := info_parts Try.infoLane7
  have HZ0 := Lib.hid hi0
  have HZ1 := Lib.hid hz0'
  have HZ2 := Lib.hid hz1'
  have HZ3 := Lib.hid hz2'
  clear hi0 hz0' hz1' hz2' hO
  go_enter Try.func16, Try.ntmps16
  go_wp2
  go_loopw [0, 7] (fun s0 s7 X => ∃ k : Nat, k ≤ n ∧ s7 = .int .i64 (k : Int) ∧ (∃ p l c, s0 = .slice p l c) ∧ Hid (ManyW base w (.slice p l c) E (a, b) k s0 X)) (fun _ s7 _ => n - (intOf s7).toNat)
  case atStart => exact ⟨0, by omega, rfl, ⟨_, _, _, rfl⟩, HS⟩
  case round =>
    obtain ⟨k, hk, rfl, ⟨p', l', c', rfl⟩, HM⟩ := hrel
    clear HS
    by_cases hlt : k < n
    · have c0 : wr.cell? ⟨w.heap.size, 0, none⟩ = some (.int .i64 a) := HM.out.box.cellAt 0
      have c1 : wr.cell? ⟨w.heap.size, 1, none⟩ = some (.int .i64 b) := HM.out.box.cellAt 1
      have hs := HM.out.grown.size
      obtain ⟨F, hF⟩ : ∃ F, E ++ List.replicate k (a, b) = F := ⟨_, rfl⟩
      have hFl : F.length = E.length + k := by rw [← hF]; simp
      have HO := Lib.hid HM.out.own
      have HF := Lib.hid hF
      rw [hF] at HO
      unfold OwnL at HO
      obtain ⟨fl, hfl⟩ : ∃ fl, F.length = fl := ⟨_, rfl⟩
      have HFL := Lib.hid hfl
      rw [hfl] at HO hFl
      clear hF hfl
      go_wp2_with (at_builtin; refine wpList_append_own_at _ rfl _ _ 25 rfl base 48 i0 (.agg #[.int .i64 0, .int .i64 0]) 2 16 Try.underlying25 HZ0.out HZ1.out HZ2.out HZ3.out rfl (by decide) _ _ _ rfl (HO.out.alloc _) ⟨wr.heap.size, 0, none⟩ 1 1 [.int .i64 a, .int .i64 b] rfl rfl (lay_new _ [.int .i64 a, .int .i64 b] 48 wr.heap.size (by simp)) (by simp [Value.oneCell']) (by unfold maxLen; omega) (by omega) (by simp; omega) ?_)
      intro v1 w1 hown1 hgrow1 _ hat1
      obtain ⟨p1, l1, c1', rfl⟩ := own_slice hown1
      have HM1 := Lib.hid (HM.out.step HL.out (by rw [HF.out, HFL.out, hFl]; exact hown1) hgrow1 hat1)
      clear hown1 hgrow1 hat1 HM HO
      go_wp2
      go_roundw
      case rel => exact ⟨k + 1, by omega, by go_num, ⟨_, _, _, rfl⟩, HM1⟩
      case measure => (simp [intOf]; try omega)
    · obtain rfl : k = n := by omega
      go_wp2
      go_ret
      exact ⟨_, rfl, HM.out.own, HM.out.grown, by rcases HM.out.at' with h | ⟨g, h, h2⟩; exact .inl h; exact .inr ⟨g, h, by omega⟩⟩
end Go.Proofs.Ytgaclepoipaecaa

namespace Go.Proofs.Ytgaclepoipaecaa
open Go.RowKit Go.Shelf Go.Maps
set_option linter.unusedVariables false
attribute [local go_sem] Oper.semAt_some

def dsp (ns : List Nd) (z : Int) : Int := max (csOf ns z) 1
def gcol (ns : List Nd) (c : Int) (ks : List Int) : List (Int × Int) := ks.flatMap fun d => if kdOf ns d.toNat = 5 then List.replicate (dsp ns d).toNat (d, c) else []
def noCol (ns : List Nd) (ks : List Int) : Bool := ks.all fun d => decide (kdOf ns d.toNat ≠ 5)
def dcol1 (ns : List Nd) (z : Int) : List (Int × Int) :=
  if kdOf ns z.toNat = 5 then List.replicate (dsp ns z).toNat (z, -1)
  else if kdOf ns z.toNat = 4 then (if noCol ns (kfOf ns z) = true then List.replicate (dsp ns z).toNat (-1, z) else gcol ns z (kfOf ns z))
  else []
def dcol (ns : List Nd) (ks : List Int) : List (Int × Int) := ks.flatMap (dcol1 ns)
theorem dcol_snoc (ns : List Nd) (ks : List Int) (k : Nat) (z : Int) (h : ks[k]? = some z) : dcol ns (ks.take (k + 1)) = dcol ns (ks.take k) ++ dcol1 ns z := by
  unfold dcol
  rw [List.take_add_one, h, List.flatMap_append]
  simp
theorem dcol_pre (ns : List Nd) (ks : List Int) (k : Nat) : ∃ R, dcol ns ks = dcol ns (ks.take k) ++ R := by
  refine ⟨dcol ns (ks.drop k), ?_⟩
  unfold dcol
  rw [← List.flatMap_append, List.take_append_drop]
theorem gcol_snoc (ns : List Nd) (c : Int) (ks : List Int) (k : Nat) (z : Int) (h : ks[k]? = some z) : gcol ns c (ks.take (k + 1)) = gcol ns c (ks.take k) ++ if kdOf ns z.toNat = 5 then List.replicate (dsp ns z).toNat (z, c) else [] := by
  unfold gcol
  rw [List.take_add_one, h, List.flatMap_append]
  simp
theorem gcol_pre (ns : List Nd) (c : Int) (ks : List Int) (k : Nat) : ∃ R, gcol ns c ks = gcol ns c (ks.take k) ++ R := by
  refine ⟨gcol ns c (ks.drop k), ?_⟩
  unfold gcol
  rw [← List.flatMap_append, List.take_append_drop]
theorem noCol_snoc (ns : List Nd) (ks : List Int) (k : Nat) (z : Int) (h : ks[k]? = some z) : noCol ns (ks.take (k + 1)) = (noCol ns (ks.take k) && decide (kdOf ns z.toNat ≠ 5)) := by
  unfold noCol
  rw [List.take_add_one, h, List.all_append]
  simp
theorem gcol_none (ns : List Nd) (c : Int) (ks : List Int) (h : noCol ns ks = true) : gcol ns c ks = [] := by
  unfold gcol
  rw [List.flatMap_eq_nil_iff]
  intro d hd
  unfold noCol at h
  have := List.all_eq_true.1 h d hd
  rw [if_neg (by simpa using this)]
theorem noCol_take (ns : List Nd) (ks : List Int) (k : Nat) (h : noCol ns (ks.take k) = false) : noCol ns ks = false := by
  cases h2 : noCol ns ks with
  | false => rfl
  | true =>
    unfold noCol at h h2
    rw [List.all_eq_true] at h2
    rw [List.all_eq_false] at h
    obtain ⟨x, hx, hn⟩ := h
    exact absurd (h2 x (List.mem_of_mem_take hx)) hn
theorem ints_at0R {W : World} {q : Option Addr} {kc kl : Nat} {zs : List Int} (h : Ints W (.slice q kl kc) zs) (t : Nat) (z : Int) (hz : zs[t]? = some z) : ∃ b o, q = some ⟨b, o, none⟩ ∧ W.cell? ⟨b, o + t, none⟩ = some (.int .i64 z) ∧ b < W.heap.size := by
  have ht := (List.getElem?_eq_some_iff.1 hz).1
  obtain ⟨_, ⟨a, cap, e, rfl⟩ | ⟨b, off, cap, e, hc⟩⟩ := h
  · simp at ht
  · injection e with e1 e2 e3
    have := hc t ht
    rw [hz] at this
    exact ⟨b, off, e1, this, cell_lt this⟩
theorem own_lenR {base l c : Nat} {X : World} {q : Option Addr} {F : List (Int × Int)} (h : OwnL base X (.slice q l c) F) : l = F.length := by
  rcases h.2 with ⟨e1, e2⟩ | ⟨g', cap', cur, e1, _⟩
  · injection e1 with _ e1 _; rw [e1]; exact e2.symm
  · injection e1
/-- what the document's Cols has listed: D, as long as that is no more than 10000; else the beginning of all -/
structure OC (w : World) (T D F : List (Int × Int)) (v : Value) (X : World) : Prop where
  own : OwnL w.heap.size X v F
  pre : ∃ R, T = F ++ R
  ex : F.length ≤ 10000 → F = D
  len : F.length ≤ 11000
  low : Below w.heap.size w X
theorem OC.many {w X Y : World} {T D F : List (Int × Int)} {v v' : Value} {s : Nat} {x : Int × Int} (h : OC w T D F v X) (hF : F.length ≤ 10000) (hs : s ≤ 1000) (hT : ∃ R, T = (D ++ List.replicate s x) ++ R) (ho : OwnL w.heap.size Y v' (F ++ List.replicate s x)) (hg : X.grownBy Y v.ownBlock) :
    OC w T (D ++ List.replicate s x) (D ++ List.replicate s x) v' Y := by
  have e := h.ex hF
  subst e
  exact ⟨ho, hT, fun _ => rfl, by rw [List.length_append, List.length_replicate]; omega, h.low.grown hg h.low.size fun g e => (h.own.lt g e).1⟩
theorem OC.to {w X : World} {T D D' F : List (Int × Int)} {v : Value} (h : OC w T D F v X) (hD : F.length ≤ 10000 → D = D') : OC w T D' F v X := ⟨h.own, h.pre, fun hl => (h.ex hl).trans (hD hl), h.len, h.low⟩
theorem gcol_zero {w X : World} {T D0 F : List (Int × Int)} {v : Value} {ns : List Nd} {c : Int} {ks : List Int} (h : Hid (OC w T D0 F v X)) : Hid (OC w T (D0 ++ gcol ns c (ks.take 0)) F v X) := by
  have e : D0 ++ gcol ns c (ks.take 0) = D0 := by simp [gcol]
  rw [e]; exact h
set_option maxRecDepth 100000 in
set_option maxHeartbeats 8000000 in
theorem refCols_at (b off cap m p : Nat) (k0 : Nat) (ns : List Nd) (w : World) (hm : ns.length = m) (hp : p < m) (h2 : m ≤ 65536) (hP : PageAt w (.slice (some ⟨b, off, none⟩) m cap) ns) (hK : ∀ n ∈ ns, n.ks.length ≤ 70000)
    (hL : ∀ n ∈ ns, ∀ z ∈ n.ks, 0 ≤ z ∧ z < (m : Int)) (hcs : ∀ z : Int, csOf ns z ≤ 1000) (hk0 : k0 ≤ 10000) :
    Calls Try.prog 8 #[.slice (some ⟨b, off, none⟩) m cap, .int .i64 p, .int .i64 k0] w fun e W' => (((dcol ns (kfOf ns (p : Int))).length ≤ 10000 ∧ ∃ v, e = .returned (.tuple #[v, .int .i64 0]) ∧ OwnL w.heap.size W' v (dcol ns (kfOf ns (p : Int)) ++ bare (k0 - (dcol ns (kfOf ns (p : Int))).length))) ∨ (10000 < (dcol ns (kfOf ns (p : Int))).length ∧ e = .returned (.tuple #[.slice none 0 0, .int .i64 43]))) ∧ Below w.heap.size w W' := by
  obtain ⟨n, hn⟩ : ∃ n, ns[p]? = some n := ⟨_, List.getElem?_eq_getElem (by rw [hm]; exact hp)⟩
  have hmem : n ∈ ns := List.mem_iff_getElem?.2 ⟨p, hn⟩
  have hkf := kindK_ge ns p hn
  rw [hkf]
  have HSP : Hid (∀ X : World, Below w.heap.size w X → ∀ z : Nat, z < m → ∃ s : Nat, (dsp ns (z : Int)).toNat = s ∧ s ≤ 1000 ∧ Hid (Calls Try.prog 17 #[.slice (some ⟨b, off, none⟩) m cap, .int .i64 (z : Int)] X fun e W' => e = .returned (.int .i64 (s : Int)) ∧ X = W')) := Lib.hid fun X hX z hz => by
    have h := refSpan_at b off cap m z ns X hm hz h2 (hP.below hX)
    have h1 := hcs (z : Int)
    refine ⟨(dsp ns (z : Int)).toNat, rfl, by unfold dsp; omega, Lib.hid ?_⟩
    have e : (((dsp ns (z : Int)).toNat : Nat) : Int) = max (csOf ns (z : Int)) 1 := by unfold dsp; omega
    rw [e]; exact h
  have HKD : Hid (∀ X : World, Below w.heap.size w X → ∀ z : Nat, z < m → X.cell? ⟨b, off + z * 34, none⟩ = some (.int .i64 (kdOf ns z))) := Lib.hid fun X hX z hz => kd_at (hP.below hX) z hz
  have HKV : Hid (∀ X : World, Below w.heap.size w X → ∀ z : Nat, z < m → ∃ nz : Nd, ns[z]? = some nz ∧ X.cell? ⟨b, off + z * 34 + 1, none⟩ = some nz.kv ∧ Ints X nz.kv nz.ks ∧ nz.ks.length ≤ 70000 ∧ (∀ y ∈ nz.ks, 0 ≤ y ∧ y < (m : Int)) ∧ kfOf ns (z : Int) = nz.ks) := Lib.hid fun X hX z hz => by
    obtain ⟨nz, hnz⟩ : ∃ nz, ns[z]? = some nz := ⟨_, List.getElem?_eq_getElem (by rw [hm]; exact hz)⟩
    obtain ⟨b', off', e, _, hc⟩ := page_cells (hP.below hX) (by omega)
    injection e with e; injection e with e1 e2
    subst e1 e2
    obtain ⟨_, h1, h3, _⟩ := hc z nz hnz
    have hmz : nz ∈ ns := List.mem_iff_getElem?.2 ⟨z, hnz⟩
    exact ⟨nz, hnz, h1, h3, hK nz hmz, hL nz hmz, kindK_ge ns z hnz⟩
  obtain ⟨n', hn', ck, hI, hfew, hln, _⟩ := HKV.out w (Below.refl _ _) p hp
  have en : n' = n := by rw [hn] at hn'; injection hn' with e; exact e.symm
  subst en
  have hbw : b < w.heap.size := cell_lt ck
  obtain ⟨T, hT⟩ : ∃ T, dcol ns n'.ks = T := ⟨_, rfl⟩
  rw [hT]
  have HT := Lib.hid hT
  have HLN := Lib.hid hln
  obtain ⟨qk, kc, hkv⟩ := hI.form
  rw [hkv] at ck hI
  obtain ⟨kl, hkl⟩ : ∃ kl, n'.ks.length = kl := ⟨_, rfl⟩
  rw [hkl] at ck hfew hI
  have HI := Lib.hid hI
  have HKL := Lib.hid hkl
  have HCK := Lib.hid ck
  have HH2 := Lib.hid h2
  clear hm hK hL hcs hP hn hn' hmem hkf hT hI hln hkv hkl ck
  go_enter Try.func8, Try.ntmps8
  go_wp2
  go_loopw [8, 9] (fun s8 s9 X => ∃ (k l c : Nat) (q : Option Addr) (F : List (Int × Int)), k ≤ kl ∧ s9 = .int .i64 (k : Int) ∧ s8 = .slice q l c ∧ F.length = l ∧ Hid (OC w T (dcol ns (n'.ks.take k)) F (.slice q l c) X)) (fun _ s9 _ => kl - (intOf s9).toNat)
  case atStart => exact ⟨0, 0, 0, none, [], by omega, rfl, rfl, rfl, Lib.hid ⟨World.ownsRow_nil _ _ _ _, ⟨T, rfl⟩, fun _ => rfl, by simp, Below.refl _ _⟩⟩
  case round =>
    obtain ⟨k, l, c, q, F, hk, rfl, rfl, hFl, HO⟩ := hrel
    have dck := (HO.out.low.cell (p := ⟨b, off + p * 34 + 1, none⟩) hbw).trans HCK.out
    by_cases hlt : k < kl
    · by_cases hbig : l ≤ 10000
      · obtain ⟨y, hy⟩ : ∃ y, n'.ks[k]? = some y := ⟨_, List.getElem?_eq_getElem (by rw [HKL.out]; exact hlt)⟩
        obtain ⟨qb, qo, rfl, cy, ly⟩ := ints_at0R HI.out k y hy
        have dcy := (HO.out.low.cell (p := ⟨qb, qo + k, none⟩) ly).trans cy
        obtain ⟨yr0, yr1⟩ := HLN.out y (List.mem_iff_getElem?.2 ⟨k, hy⟩)
        obtain ⟨yn, rfl⟩ : ∃ yn : Nat, y = (yn : Int) := ⟨y.toNat, by omega⟩
        have hym : yn < m := by omega
        have ckd := HKD.out _ HO.out.low yn hym
        have HD := Lib.hid (dcol_snoc ns n'.ks k (yn : Int) hy)
        have HPR : Hid (∃ R, T = dcol ns (n'.ks.take (k + 1)) ++ R) := Lib.hid (by rw [← HT.out]; exact dcol_pre ns n'.ks (k + 1))
        clear hy cy
        by_cases k5 : kdOf ns yn = 5
        · rw [k5] at ckd
          obtain ⟨s, hs, hs2, HS⟩ := HSP.out _ HO.out.low yn hym
          have HDS : Hid (dcol ns (n'.ks.take (k + 1)) = dcol ns (n'.ks.take k) ++ List.replicate s ((yn : Int), -1)) := Lib.hid (by rw [HD.out]; unfold dcol1; rw [Int.toNat_natCast, if_pos k5, hs])
          have HMN := Lib.hid (refMany_any w.heap.size _ F ((yn : Int), -1) s wr HO.out.own HO.out.low.size (by omega))
          clear hs HD
          go_wp2_with (first
            | (go_at_call 17; refine HS.out.mono ?_; clear HS; rintro e w' ⟨rfl, rfl⟩)
            | (go_at_call 16; refine HMN.out.mono ?_; clear HMN; rintro e w2 ⟨v2, rfl, ho2, hg2, _⟩; obtain ⟨q2, l2, c2, rfl⟩ := own_slice ho2; have hl2 : (dcol ns (n'.ks.take k) ++ List.replicate s ((yn : Int), -1)).length = l2 := by { have e := HO.out.ex (by omega); rw [← e]; exact (own_lenR ho2).symm }; have HO2 := Lib.hid (HO.out.many (by omega) hs2 (by have := HPR.out; rw [HDS.out] at this; exact this) ho2 hg2); have ckd2 := HKD.out _ HO2.out.low yn hym; rw [k5] at ckd2; clear ho2 hg2 HO))
          go_roundw
          case rel => exact ⟨k + 1, l2, c2, q2, _, by omega, by go_num, rfl, hl2, by rw [HDS.out]; exact HO2⟩
          case measure => (simp [intOf]; try omega)
        · by_cases k4 : kdOf ns yn = 4
          · rw [k4] at ckd
            obtain ⟨nz, hnz, ckn, hIn, hfn, hlnn, hkfn⟩ := HKV.out w (Below.refl _ _) yn hym
            obtain ⟨qz, kcz, hkvz⟩ := hIn.form
            rw [hkvz] at ckn hIn
            obtain ⟨jl, hjl⟩ : ∃ jl, nz.ks.length = jl := ⟨_, rfl⟩
            rw [hjl] at ckn hIn hfn
            have HJL := Lib.hid hjl
            have HIN := Lib.hid hIn
            have HLZ := Lib.hid hlnn
            have HCZ := Lib.hid ckn
            obtain ⟨D0, hD0⟩ : ∃ D0, dcol ns (n'.ks.take k) = D0 := ⟨_, rfl⟩
            rw [hD0] at HO HD
            have HDN : Hid (noCol ns nz.ks = true → dcol ns (n'.ks.take (k + 1)) = D0 ++ List.replicate (dsp ns (yn : Int)).toNat (-1, (yn : Int))) := Lib.hid fun hc => by rw [HD.out]; unfold dcol1; rw [Int.toNat_natCast, if_neg k5, if_pos k4, hkfn, if_pos hc]
            have HDG : Hid (noCol ns nz.ks = false → dcol ns (n'.ks.take (k + 1)) = D0 ++ gcol ns (yn : Int) nz.ks) := Lib.hid fun hc => by rw [HD.out]; unfold dcol1; rw [Int.toNat_natCast, if_neg k5, if_pos k4, hkfn, if_neg (by rw [hc]; decide)]
            have ckz := (HO.out.low.cell (p := ⟨b, off + yn * 34 + 1, none⟩) hbw).trans HCZ.out
            clear hnz ckn hIn hlnn hkfn hkvz hjl hD0 HD
            obtain ⟨V0, hV0⟩ : ∃ V0, V0 = wr := ⟨_, rfl⟩
            subst hV0
            have dbig : decide ((l : Int) ≤ 10000) = true := decide_eq_true (by omega)
            go_wp2
            go_loopw [8, 11, 12] (fun s8 s11 s12 X => ∃ (j l c : Nat) (q : Option Addr) (F : List (Int × Int)), j ≤ jl ∧ s12 = .int .i64 (j : Int) ∧ s11 = .bool (!noCol ns (nz.ks.take j)) ∧ s8 = .slice q l c ∧ F.length = l ∧ (noCol ns (nz.ks.take j) = true → l ≤ 10000) ∧ Hid (OC w T (D0 ++ gcol ns (yn : Int) (nz.ks.take j)) F (.slice q l c) X)) (fun _ _ s12 _ => jl - (intOf s12).toNat)
            case atStart => exact ⟨0, l, c, q, F, by omega, rfl, rfl, rfl, hFl, fun _ => hbig, gcol_zero HO⟩
            case round =>
              clear HO
              obtain ⟨j, l, c, q, F, hj, rfl, rfl, rfl, hFl, hnc, HO⟩ := hrel
              have dck := (HO.out.low.cell (p := ⟨b, off + yn * 34 + 1, none⟩) hbw).trans HCZ.out
              by_cases hjt : j < jl
              · by_cases hbg : l ≤ 10000
                · obtain ⟨d, hd⟩ : ∃ d, nz.ks[j]? = some d := ⟨_, List.getElem?_eq_getElem (by rw [HJL.out]; exact hjt)⟩
                  obtain ⟨qd, qe, rfl, cy, lyd⟩ := ints_at0R HIN.out j d hd
                  have dcd := (HO.out.low.cell (p := ⟨qd, qe + j, none⟩) lyd).trans cy
                  obtain ⟨dr0, dr1⟩ := HLZ.out d (List.mem_iff_getElem?.2 ⟨j, hd⟩)
                  obtain ⟨dn, rfl⟩ : ∃ dn : Nat, d = (dn : Int) := ⟨d.toNat, by omega⟩
                  have hdm : dn < m := by omega
                  have ckd := HKD.out _ HO.out.low dn hdm
                  have HG := Lib.hid (gcol_snoc ns (yn : Int) nz.ks j (dn : Int) hd)
                  have HN := Lib.hid (noCol_snoc ns nz.ks j (dn : Int) hd)
                  clear hd cy
                  by_cases k5d : kdOf ns dn = 5
                  · rw [k5d] at ckd
                    obtain ⟨s, hs, hs2, HS⟩ := HSP.out _ HO.out.low dn hdm
                    have HNF : Hid (noCol ns (nz.ks.take (j + 1)) = false) := Lib.hid (by rw [HN.out, Int.toNat_natCast, decide_eq_false (by simpa using k5d)]; simp)
                    have HGS : Hid (D0 ++ gcol ns (yn : Int) (nz.ks.take (j + 1)) = (D0 ++ gcol ns (yn : Int) (nz.ks.take j)) ++ List.replicate s ((dn : Int), (yn : Int))) := Lib.hid (by rw [HG.out, Int.toNat_natCast, if_pos k5d, hs, List.append_assoc])
                    have HPG : Hid (∃ R, T = (D0 ++ gcol ns (yn : Int) (nz.ks.take (j + 1))) ++ R) := Lib.hid (by
                      obtain ⟨R1, e1⟩ := HPR.out
                      obtain ⟨R2, e2⟩ := gcol_pre ns (yn : Int) nz.ks (j + 1)
                      rw [HDG.out (noCol_take ns nz.ks (j + 1) HNF.out), e2] at e1
                      exact ⟨R2 ++ R1, by rw [e1]; simp⟩)
                    have HMN := Lib.hid (refMany_any w.heap.size _ F ((dn : Int), (yn : Int)) s wr HO.out.own HO.out.low.size (by omega))
                    clear hs HG HN
                    go_wp2_with (first
                      | (go_at_call 17; refine HS.out.mono ?_; clear HS; rintro e w' ⟨rfl, rfl⟩)
                      | (go_at_call 16; refine HMN.out.mono ?_; clear HMN; rintro e w2 ⟨v2, rfl, ho2, hg2, _⟩; obtain ⟨q2, l2, c2, rfl⟩ := own_slice ho2; have hl2 : ((D0 ++ gcol ns (yn : Int) (nz.ks.take j)) ++ List.replicate s ((dn : Int), (yn : Int))).length = l2 := by { have e := HO.out.ex (by omega); rw [← e]; exact (own_lenR ho2).symm }; have HO2 := Lib.hid (HO.out.many (by omega) hs2 (by have := HPG.out; rw [HGS.out] at this; exact this) ho2 hg2); clear ho2 hg2 HO))
                    go_roundw
                    case rel =>
                      exact ⟨j + 1, l2, c2, q2, _, by omega, by go_num, by rw [HNF.out]; rfl, rfl, hl2, fun e => (by rw [HNF.out] at e; cases e), by rw [HGS.out]; exact HO2⟩
                    case measure => (simp [intOf]; try omega)
                  · have d5 : (kdOf ns dn == 5) = false := by simpa using k5d
                    have HNF : Hid (noCol ns (nz.ks.take (j + 1)) = noCol ns (nz.ks.take j)) := Lib.hid (by rw [HN.out, Int.toNat_natCast, decide_eq_true (by simpa using k5d)]; simp)
                    have HO2 : Hid (OC w T (D0 ++ gcol ns (yn : Int) (nz.ks.take (j + 1))) F (.slice q l c) wr) := Lib.hid (HO.out.to fun _ => by rw [HG.out, Int.toNat_natCast, if_neg k5d, List.append_nil])
                    clear HO HG HN
                    go_wp2
                    go_roundw
                    case rel => exact ⟨j + 1, l, c, q, F, by omega, by go_num, by rw [HNF.out], rfl, hFl, fun e => hnc (by rw [← HNF.out]; exact e), HO2⟩
                    case measure => (simp [intOf]; try omega)
                · have hn : noCol ns (nz.ks.take j) = false := by
                    cases h : noCol ns (nz.ks.take j) with
                    | false => rfl
                    | true => exact absurd (hnc h) hbg
                  rw [hn]
                  have HO2 : Hid (OC w T (dcol ns (n'.ks.take (k + 1))) F (.slice q l c) wr) := Lib.hid (HO.out.to fun h => by omega)
                  clear HO hnc
                  go_wp2
                  go_roundw
                  case rel => exact ⟨k + 1, l, c, q, F, by omega, by go_num, rfl, hFl, HO2⟩
                  case measure => (simp [intOf]; try omega)
              · obtain rfl : jl = j := by omega
                have et : nz.ks.take jl = nz.ks := List.take_of_length_le (by rw [HJL.out]; exact Nat.le_refl _)
                rw [et] at HO hnc ⊢
                by_cases hn : noCol ns nz.ks = true
                · rw [hn]
                  have hl := hnc hn
                  obtain ⟨s, hs, hs2, HS⟩ := HSP.out _ HO.out.low yn hym
                  have HDS : Hid (dcol ns (n'.ks.take (k + 1)) = D0 ++ List.replicate s (-1, (yn : Int))) := Lib.hid (by rw [HDN.out hn, hs])
                  have HO1 : Hid (OC w T D0 F (.slice q l c) wr) := Lib.hid (HO.out.to fun _ => by rw [gcol_none _ _ _ hn, List.append_nil])
                  have HMN := Lib.hid (refMany_any w.heap.size _ F (-1, (yn : Int)) s wr HO.out.own HO.out.low.size (by omega))
                  clear hs HO hnc
                  go_wp2_with (first
                    | (go_at_call 17; refine HS.out.mono ?_; clear HS; rintro e w' ⟨rfl, rfl⟩)
                    | (go_at_call 16; refine HMN.out.mono ?_; clear HMN; rintro e w2 ⟨v2, rfl, ho2, hg2, _⟩; obtain ⟨q2, l2, c2, rfl⟩ := own_slice ho2; have hl2 : (D0 ++ List.replicate s (-1, (yn : Int))).length = l2 := by { have e := HO1.out.ex (by omega); rw [← e]; exact (own_lenR ho2).symm }; have HO2 := Lib.hid (HO1.out.many (by omega) hs2 (by have := HPR.out; rw [HDS.out] at this; exact this) ho2 hg2); clear ho2 hg2 HO1))
                  go_roundw
                  case rel => exact ⟨k + 1, l2, c2, q2, _, by omega, by go_num, rfl, hl2, by rw [HDS.out]; exact HO2⟩
                  case measure => (simp [intOf]; try omega)
                · have hn' : noCol ns nz.ks = false := by simpa using hn
                  rw [hn']
                  have HO2 : Hid (OC w T (dcol ns (n'.ks.take (k + 1))) F (.slice q l c) wr) := Lib.hid (HO.out.to fun _ => (HDG.out hn').symm)
                  clear HO hnc
                  go_wp2
                  go_roundw
                  case rel => exact ⟨k + 1, l, c, q, F, by omega, by go_num, rfl, hFl, HO2⟩
                  case measure => (simp [intOf]; try omega)
          · have d5 : (kdOf ns yn == 5) = false := by simpa using k5
            have d4 : (kdOf ns yn != 4) = true := by simpa using k4
            have HO2 : Hid (OC w T (dcol ns (n'.ks.take (k + 1))) F (.slice q l c) wr) := Lib.hid (HO.out.to fun _ => by rw [HD.out]; unfold dcol1; rw [Int.toNat_natCast, if_neg k5, if_neg k4, List.append_nil])
            clear HO HD
            go_wp2
            go_roundw
            case rel => exact ⟨k + 1, l, c, q, F, by omega, by go_num, rfl, hFl, HO2⟩
            case measure => (simp [intOf]; try omega)
      · have HTB : Hid (10000 < T.length) := Lib.hid (by obtain ⟨R, e⟩ := HO.out.pre; rw [e, List.length_append]; omega)
        have HB := Lib.hid HO.out.low
        have hl1 := HO.out.len
        rw [hFl] at hl1
        have hbg : 10000 < l := by omega
        clear HO hbig
        go_wp2
        all_goals refine bodyPost_ret (v := .tuple #[.slice none 0 0, .int .i64 43]) (by simp [results, Try.results8, go_sem]) rfl ⟨.inr ⟨HTB.out, rfl⟩, HB.out⟩
    · obtain rfl : kl = k := by omega
      have et : n'.ks.take kl = n'.ks := List.take_of_length_le (by rw [HKL.out]; exact Nat.le_refl _)
      rw [et, HT.out] at HO
      have hl1 := HO.out.len
      rw [hFl] at hl1
      by_cases hbig : 10000 < l
      · have HTB : Hid (10000 < T.length) := Lib.hid (by obtain ⟨R, e⟩ := HO.out.pre; rw [e, List.length_append]; omega)
        have HB := Lib.hid HO.out.low
        clear HO
        go_wp2
        all_goals refine bodyPost_ret (v := .tuple #[.slice none 0 0, .int .i64 43]) (by simp [results, Try.results8, go_sem]) rfl ⟨.inr ⟨HTB.out, rfl⟩, HB.out⟩
      · have HE := Lib.hid (HO.out.ex (by omega))
        obtain ⟨t, ht⟩ : ∃ t, k0 - l = t := ⟨_, rfl⟩
        have HMN := Lib.hid (refMany_any w.heap.size _ F (-1, -1) t wr HO.out.own HO.out.low.size (by omega))
        have HTL : Hid (T.length ≤ 10000 ∧ T ++ bare (k0 - T.length) = F ++ List.replicate t (-1, -1)) := Lib.hid (by rw [← HE.out, hFl, ht]; exact ⟨by omega, rfl⟩)
        have HB := Lib.hid (fun (Y : World) (hg : wr.grownBy Y (Value.slice q l c).ownBlock) => HO.out.low.grown hg HO.out.low.size fun g e => (HO.out.own.lt g e).1)
        clear HO
        have ht1 : max (0 : Int) ((k0 : Int) - (l : Int)) = (t : Int) := by omega
        have ht2 : (if (k0 : Int) - (l : Int) > 0 then (k0 : Int) - (l : Int) else 0) = (t : Int) := by split <;> omega
        have ht3 : (if (0 : Int) < (k0 : Int) - (l : Int) then (k0 : Int) - (l : Int) else 0) = (t : Int) := by split <;> omega
        clear ht
        go_wp2_with (go_at_call 16; refine HMN.out.mono ?_; clear HMN; rintro e w2 ⟨v2, rfl, ho2, hg2, _⟩; have HO2 := Lib.hid ho2; have HB2 := Lib.hid (HB.out w2 hg2); clear ho2 hg2 HB)
        all_goals refine bodyPost_ret (v := .tuple #[v2, .int .i64 0]) (by simp [results, Try.results8, go_sem]) rfl ⟨.inl ⟨HTL.out.1, _, rfl, by rw [HTL.out.2]; exact HO2.out⟩, HB2.out⟩
end Go.Proofs.Ytgaclepoipaecaa

namespace Go.Proofs.Ytgaclepoipaecaa
open Go.RowKit Go.Shelf Go.Maps
set_option linter.unusedVariables false

theorem gcol_filter (ns : List Nd) (c : Int) : ∀ ks : List Int, gcol ns c ks = (ks.filter fun z => decide (kdOf ns z.toNat = 5)).flatMap fun d => List.replicate (dsp ns d).toNat (d, c)
  | [] => rfl
  | z :: ks => by
    have ih := gcol_filter ns c ks
    unfold gcol at ih ⊢
    rw [List.flatMap_cons, ih]
    by_cases h : kdOf ns z.toNat = 5
    · rw [if_pos h, List.filter_cons_of_pos (by simpa using h), List.flatMap_cons]
    · rw [if_neg h, List.filter_cons_of_neg (by simpa using h), List.nil_append]
theorem noCol_filter (ns : List Nd) (ks : List Int) : noCol ns ks = true ↔ (ks.filter fun z => decide (kdOf ns z.toNat = 5)) = [] := by
  unfold noCol
  rw [List.all_eq_true, List.filter_eq_nil_iff]
  constructor
  · intro h z hz; have := h z hz; simpa using this
  · intro h z hz; have := h z hz; simpa using this
theorem dcol1_spans {ns1 ns : List Nd} (hk : kdOf ns1 = kdOf ns) (hkf : kfOf ns1 = kfOf ns) (z : Int) (h : csOf ns1 z = dsp ns z) (h2 : ∀ y ∈ kfOf ns z, csOf ns1 y = dsp ns y) : (spans1 ns1 z).flatMap repX = dcol1 ns z := by
  unfold spans1 dcol1 kindK
  rw [hk, hkf]
  by_cases h5 : kdOf ns z.toNat = 5
  · rw [if_pos h5, if_pos h5]; simp [repX, h]
  · rw [if_neg h5, if_neg h5]
    by_cases h4 : kdOf ns z.toNat = 4
    · rw [if_pos h4, if_pos h4]
      by_cases hn : noCol ns (kfOf ns z) = true
      · rw [if_pos hn, if_pos ((noCol_filter _ _).1 hn)]; simp [repX, h]
      · rw [if_neg hn, if_neg (fun e => hn ((noCol_filter _ _).2 e)), gcol_filter, List.flatMap_map]
        have key : ∀ l : List Int, (∀ y ∈ l, csOf ns1 y = dsp ns y) → (l.flatMap fun c => repX ((c, z), csOf ns1 c)) = l.flatMap fun d => List.replicate (dsp ns d).toNat (d, z) := by
          intro l
          induction l with
          | nil => intro _; rfl
          | cons y l ih =>
            intro hy
            rw [List.flatMap_cons, List.flatMap_cons, ih fun a ha => hy a (List.mem_cons_of_mem _ ha)]
            congr 1
            unfold repX
            rw [hy y (List.mem_cons_self ..)]
        exact key _ fun y hy => h2 y (List.mem_filter.1 hy).1
    · rw [if_neg h4, if_neg h4]; rfl
theorem dcol_spans {ns1 ns : List Nd} (hk : kdOf ns1 = kdOf ns) (hkf : kfOf ns1 = kfOf ns) : ∀ ks : List Int, (∀ z ∈ ks, csOf ns1 z = dsp ns z ∧ ∀ y ∈ kfOf ns z, csOf ns1 y = dsp ns y) → (spansP ns1 ks).flatMap repX = dcol ns ks
  | [], _ => rfl
  | z :: ks, h => by
    have ih := dcol_spans hk hkf ks fun y hy => h y (List.mem_cons_of_mem _ hy)
    obtain ⟨a, b⟩ := h z (List.mem_cons_self ..)
    unfold spansP dcol at ih ⊢
    rw [List.flatMap_cons, List.flatMap_append, ih, dcol1_spans hk hkf z a b, List.flatMap_cons]
theorem cs_comp {ns ns1 : List Nd} (h : CompPg ns ns1) (z : Int) (hz : 0 ≤ z ∧ z < (ns.length : Int)) : csOf ns1 z = dsp ns z := by
  have hl : z.toNat < ns.length := by omega
  unfold dsp csOf
  rcases h.get z.toNat with ⟨e1, e2⟩ | ⟨n, n', e1, e2, e3⟩
  · rw [List.getElem?_eq_getElem hl] at e1; cases e1
  · rw [e1, e2]
    simp only [Option.map_some, Option.getD_some]
    rw [e3.s]; rfl
end Go.Proofs.Ytgaclepoipaecaa

namespace Go.Proofs.Ytgaclepoipaecaa
open Go.RowKit Go.Shelf Go.Maps
set_option linter.unusedVariables false
attribute [local go_sem] Oper.semAt_some

theorem kf_same {ns ns' : List Nd} (h : ns'.map Nd.ks = ns.map Nd.ks) : kfOf ns' = kfOf ns := by
  funext z
  unfold kfOf
  have e := congrArg (fun l : List (List Int) => l[z.toNat]?) h
  simp only [List.getElem?_map] at e
  cases h1 : ns'[z.toNat]? <;> cases h2 : ns[z.toNat]? <;> simp_all
theorem ks_same {ns ns' : List Nd} (h : ns'.map Nd.ks = ns.map Nd.ks) {n : Nd} (hn : n ∈ ns') : ∃ n0 ∈ ns, n0.ks = n.ks := by
  have h1 : n.ks ∈ ns'.map Nd.ks := List.mem_map_of_mem hn
  rw [h] at h1
  obtain ⟨n0, h2, h3⟩ := List.mem_map.1 h1
  exact ⟨n0, h2, h3⟩
theorem spansP_mem {ns : List Nd} {m : Nat} (hlk : ∀ n ∈ ns, ∀ z ∈ n.ks, 0 ≤ z ∧ z < (m : Int)) {ks : List Int} (hks : ∀ z ∈ ks, 0 ≤ z ∧ z < (m : Int)) {x : (Int × Int) × Int} (hx : x ∈ spansP ns ks) : ∃ z, (0 ≤ z ∧ z < (m : Int)) ∧ x.2 = csOf ns z := by
  unfold spansP at hx
  obtain ⟨z, hz, h⟩ := List.mem_flatMap.1 hx
  unfold spans1 at h
  split at h
  · simp at h; subst h; exact ⟨z, hks z hz, rfl⟩
  · split at h
    · split at h
      · simp at h; subst h; exact ⟨z, hks z hz, rfl⟩
      · obtain ⟨c, hc, rfl⟩ := List.mem_map.1 h
        refine ⟨c, ?_, rfl⟩
        have h1 := (List.mem_filter.1 hc).1
        unfold kfOf at h1
        cases e : ns[z.toNat]? with
        | none => rw [e] at h1; simp at h1
        | some n => rw [e] at h1; exact hlk n (List.mem_of_getElem? e) c (by simpa using h1)
    · cases h
set_option maxRecDepth 100000 in
set_option maxHeartbeats 4000000 in
theorem cols_all (b off cap m p : Nat) (k : Nat) (CS : Nat → Int) (ns : List Nd) (w : World) (hm : ns.length = m) (hm2 : m ≤ 65536) (hp : p < m) (hk : k ≤ 10000)
    (hK : ∀ n ∈ ns, n.ks.length ≤ 70000) (hlink : ∀ n ∈ ns, ∀ z ∈ n.ks, 0 ≤ z ∧ z < (m : Int))
    (H : Hid (Calls Try.prog 11 #[.slice (some ⟨b, off, none⟩) m cap] ((w.alloc (.cells #[.slice none 0 0] 25)).alloc (.cells #[.int .i64 0] 26)) fun e W' => ∃ L c ns', e = .returned (.tuple #[.slice (some ⟨L, 0, none⟩) m c, .int .i64 0]) ∧ ns'.map Nd.k = ns.map Nd.k ∧ ns'.map Nd.ks = ns.map Nd.ks ∧ (∀ i n', ns'[i]? = some n' → n'.s.cs = CS i) ∧ PageAt W' (.slice (some ⟨L, 0, none⟩) m c) ns' ∧ Below (w.heap.size + 2) ((w.alloc (.cells #[.slice none 0 0] 25)).alloc (.cells #[.int .i64 0] 26)) W'))
    (ht : isTab ns p = true) (hCS : ∀ z : Int, 0 ≤ z ∧ z < (m : Int) → CS z.toNat = dsp ns z ∧ 1 ≤ CS z.toNat ∧ CS z.toNat ≤ 1000) :
    Calls Try.prog 6 #[.slice (some ⟨b, off, none⟩) m cap, .int .i64 p, .int .i64 k] w fun e W' => ((∃ v, (dcol ns (kfOf ns p)).length ≤ 10000 ∧ e = .returned (.tuple #[v, .int .i64 0]) ∧ OwnL w.heap.size W' v (dcol ns (kfOf ns p) ++ bare (k - (dcol ns (kfOf ns p)).length))) ∨ (10000 < (dcol ns (kfOf ns p)).length ∧ e = .returned (.tuple #[.slice none 0 0, .int .i64 43]))) ∧ Below w.heap.size w W' := by
  obtain ⟨T, hT0⟩ : ∃ T, dcol ns (kfOf ns p) = T := ⟨_, rfl⟩
  rw [hT0]
  have HT0 := Lib.hid hT0
  clear hT0
  refine (callsIn_wide (n := 3)).1 (callsIn_of_wp_marks Try.func6 rfl trivial (wpIn_wide.2 ?_) rfl)
  simp only [Try.ntmps6, List.size_toArray, List.length_cons, List.length_nil, Nat.reduceAdd, Nat.reduceSub, Array.replicate_succ, Array.replicate_zero, List.push_toArray, List.append_toArray, List.nil_append, List.cons_append]
  have HM := Lib.hid hm
  have HT := Lib.hid ht
  have HSF := Lib.hid (fun q l c (Y : World) => spansF_any q l c (p : Int) Y)
  obtain ⟨W0, hW0⟩ : ∃ W0, (w.alloc (.cells #[.slice none 0 0] 25)).alloc (.cells #[.int .i64 0] 26) = W0 := ⟨_, rfl⟩
  have k0 := Lib.hid (show Whole W0 w.heap.size 25 [.slice none 0 0] by rw [← hW0]; exact (whole_new w [.slice none 0 0] 25 _ rfl).alloc _)
  have k1 := Lib.hid (show Whole W0 (w.heap.size + 1) 26 [.int .i64 0] by rw [← hW0]; exact whole_new (w.alloc (.cells #[.slice none 0 0] 25)) [.int .i64 0] 26 _ (by simp))
  have b0 := Lib.hid (show Below w.heap.size w W0 by rw [← hW0]; exact ((Below.refl _ w).alloc (Nat.le_refl _) _).alloc (by simp) _)
  have s0 : W0.heap.size = w.heap.size + 2 := by rw [← hW0]; simp
  have z0 : w.heap.size + 2 ≤ W0.heap.size := by omega
  rw [hW0] at H
  clear s0
  have dk1 : decide ((k : Int) < 0) = false := by simp
  have dk2 : decide ((k : Int) > 10000) = false := by simp; omega
  have dk3 : decide (10000 < (k : Int)) = false := by simp; omega
  obtain ⟨i0, hi0, hz0', hz1', hz2'⟩ := info_parts Try.infoLane
  have HZ0 := Lib.hid hi0
  have HZ1 := Lib.hid hz0'
  have HZ2 := Lib.hid hz1'
  have HZ3 := Lib.hid hz2'
  clear hm ht hi0 hz0' hz1' hz2'
  go_wp2_with fail
  refine H.out.mono ?_
  clear H
  rintro e w1 ⟨L, c, ns1, rfl, hk1, hks1, hcs1, hP1, hb1⟩
  have HP1 := Lib.hid hP1
  have hl1 : ns1.length = m := by have := congrArg List.length hk1; simpa [HM.out] using this
  have HTB := Lib.hid (show Calls Try.prog 12 #[.slice (some ⟨L, 0, none⟩) m c, .int .i64 p] w1 fun e W' => e = .returned (.bool true) ∧ w1 = W' from by
    have h := (tab_any (some ⟨L, 0, none⟩) m c p ns1 w1 hP1).mono (fun e w' h => (⟨h.1, h.2.symm⟩ : e = .returned (.bool (isTab ns1 p)) ∧ w1 = w'))
    have e : isTab ns1 p = true := by rw [← HT.out]; unfold isTab; rw [kd_same hk1, hl1, HM.out]
    rwa [e] at h)
  have k01 := Lib.hid (k0.out.below hb1 (by omega))
  have k11 := Lib.hid (k1.out.below hb1 (by omega))
  have B1 := Lib.hid (b0.out.trans (hb1.mono (by omega)))
  have HK1 := Lib.hid hk1
  have HCS1 := Lib.hid hcs1
  have HKS1 := Lib.hid hks1
  have HL1 := Lib.hid hl1
  have z1 : w.heap.size + 2 ≤ w1.heap.size := by have := hb1.size; omega
  clear hP1 hl1 k0 k1 b0 hk1 hks1 hcs1 hb1 hW0 z0
  go_wp2_with (first
    | (go_at_call 12; refine HTB.out.mono ?_; rintro e w' ⟨rfl, rfl⟩; clear HTB)
    | (at_make; refine wpList_make_own _ rfl _ _ 25 rfl w1.heap.size 48 i0 _ 2 Try.underlying25 HZ0.out HZ1.out HZ2.out .i64 .i64 _ k rfl rfl rfl (by rw [HZ3.out]; omega) (by unfold maxLen; omega) (Nat.le_refl _) ?_; intro w2 ho2 hg2; have B2 := Lib.hid ((Below.refl w1.heap.size w1).grown hg2 (Nat.le_refl _) (fun g e => by cases e)); have HO2 := Lib.hid ho2; clear ho2 hg2)
    | (go_at_call 13; refine (HSF.out _ _ _ _).mono ?_; rintro e w' ⟨rfl, rfl⟩))
  obtain ⟨N, hN⟩ : ∃ N, w.heap.size = N := ⟨_, rfl⟩
  obtain ⟨base, hbase⟩ : ∃ base, w1.heap.size = base := ⟨_, rfl⟩
  obtain ⟨NR, hNR⟩ : ∃ NR, w2.heap.size = NR := ⟨_, rfl⟩
  obtain ⟨W13, hW13⟩ : ∃ W13, w2.alloc (.cells #[.slice (some ⟨base, 0, none⟩) 0 k] 25) = W13 := ⟨_, rfl⟩
  obtain ⟨W3, hW3⟩ : ∃ W3, (W13.alloc (.cells #[.slice (some ⟨L, 0, none⟩) m c] 22)).alloc (.cells #[.int .i64 (p : Int)] 3) = W3 := ⟨_, rfl⟩
  have s13 : W13.heap.size = NR + 1 := by rw [← hW13]; simp [hNR]
  have s3 : W3.heap.size = NR + 3 := by rw [← hW3]; simp [s13]
  have hbR : base ≤ NR := by rw [← hbase, ← hNR]; exact B2.out.size
  have hNb : N + 2 ≤ base := by omega
  have b13 : Below NR w2 W13 := by rw [← hW13]; exact (Below.refl NR w2).alloc (by omega) _
  have b33 : Below NR W13 W3 := by rw [← hW3]; exact ((Below.refl NR W13).alloc (by omega) _).alloc (by simp; omega) _
  have b23 : Below NR w2 W3 := b13.trans b33
  have b1w3 : Below base w1 W3 := (by have := B2.out; rw [hbase] at this; exact this.trans (b23.mono hbR))
  have bw3 : Below N w W3 := by have := B1.out; rw [hN] at this; exact this.trans (b1w3.mono (by omega))
  have y0 : Whole W3 (NR + 1) 22 [.slice (some ⟨L, 0, none⟩) m c] := by rw [← hW3]; exact (whole_new W13 [.slice (some ⟨L, 0, none⟩) m c] 22 _ s13.symm).alloc _
  have y1 : Whole W3 (NR + 2) 3 [.int .i64 (p : Int)] := by rw [← hW3]; exact whole_new (W13.alloc (.cells #[.slice (some ⟨L, 0, none⟩) m c] 22)) [.int .i64 (p : Int)] 3 _ (by simp [s13])
  have y2 : Whole W3 NR 25 [.slice (some ⟨base, 0, none⟩) 0 k] := by
    rw [← hW3, ← hW13]
    exact ((whole_new w2 [.slice (some ⟨base, 0, none⟩) 0 k] 25 _ hNR.symm).alloc _).alloc _
  obtain ⟨n, hn⟩ : ∃ n, ns1[p]? = some n := ⟨_, List.getElem?_eq_getElem (by rw [HL1.out]; exact hp)⟩
  have hmem : n ∈ ns1 := List.mem_iff_getElem?.2 ⟨p, hn⟩
  have hkf : kfOf ns (p : Int) = n.ks := by
    have := congrArg (fun l => l[p]?) HKS1.out
    simp only [List.getElem?_map, hn] at this
    unfold kfOf
    rw [Int.toNat_natCast]
    cases hq : ns[p]? with
    | none => rw [hq] at this; simp at this
    | some n0 => rw [hq] at this; simp at this; exact this.symm
  have hnk : ∃ n0 ∈ ns, n0.ks = n.ks := by
    unfold kfOf at hkf
    rw [Int.toNat_natCast] at hkf
    cases hq : ns[p]? with
    | none => have := (List.getElem?_eq_none_iff.1 hq); have := HM.out; omega
    | some n0 => rw [hq] at hkf; exact ⟨n0, List.mem_iff_getElem?.2 ⟨p, hq⟩, hkf⟩
  obtain ⟨n0, hn0, en0⟩ := hnk
  have hlinkn : ∀ z ∈ n.ks, 0 ≤ z ∧ z < (m : Int) := fun z hz => hlink n0 hn0 z (by rw [en0]; exact hz)
  have hkd : kdOf ns1 = kdOf ns := kd_same HK1.out
  obtain ⟨b', off', e, _, hcs⟩ := page_cells HP1.out (by omega)
  injection e with e; injection e with e1 e2
  subst e1 e2
  obtain ⟨cn0, cn1, hIk, hbw0⟩ := hcs p n hn
  rw [hbase] at hbw0
  have hcapn : CapOk n.kv := (HP1.out.2.1 n hmem).2.2.1
  have hSp : SpanM (NR + 1) (NR + 2) L 0 m c p n.kv n.ks (kdOf ns1) W3 := by
    refine ⟨by omega, y0.cellAt 0, y1.cellAt 0, (b1w3.cell (p := ⟨L, 0 + p * 34 + 1, none⟩) hbw0).trans cn1, hIk.below (by rw [hbase]; exact b1w3), fun j hj => ?_⟩
    have hj' := List.getElem?_eq_getElem (show j < ns1.length by rw [HL1.out]; exact hj)
    have := (hcs j _ hj').1
    unfold kdOf
    rw [hj']
    exact (b1w3.cell (p := ⟨L, 0 + j * 34, none⟩) hbw0).trans this
  have hlink1 : ∀ nn ∈ ns1, ∀ z ∈ nn.ks, 0 ≤ z ∧ z < (m : Int) := fun nn hnn z hz => by
    obtain ⟨n0', h1, h2⟩ := ks_same HKS1.out hnn
    exact hlink n0' h1 z (by rw [h2]; exact hz)
  have hK1' : ∀ nn ∈ ns1, nn.ks.length ≤ 70000 := fun nn hnn => by
    obtain ⟨n0', h1, h2⟩ := ks_same HKS1.out hnn
    rw [← h2]; exact hK n0' h1
  have hcsA : ∀ z : Int, 0 ≤ z ∧ z < (m : Int) → csOf ns1 z = CS z.toNat := fun z hzr => by
    have hj' := List.getElem?_eq_getElem (show z.toNat < ns1.length by rw [HL1.out]; omega)
    unfold csOf
    rw [hj']
    exact HCS1.out _ _ hj'
  obtain ⟨S, hS⟩ : ∃ S, spansP ns1 n.ks = S := ⟨_, rfl⟩
  have hsp := hS
  have HMAX : Hid (∀ x ∈ S, 1 ≤ x.2 ∧ x.2 ≤ 1000) := Lib.hid (fun x hx => by
    rw [← hS] at hx
    obtain ⟨z, hzr, e⟩ := spansP_mem hlink1 hlinkn hx
    rw [e, hcsA z hzr]
    exact (hCS z hzr).2)
  have HTS : Hid (T = S.flatMap repX) := Lib.hid (by
    rw [← HT0.out, hkf, ← hS]
    refine (dcol_spans hkd (kf_same HKS1.out) n.ks (fun z hz => ⟨?_, fun y hy => ?_⟩)).symm
    · rw [hcsA z (hlinkn z hz), (hCS z (hlinkn z hz)).1]
    · have hyr : 0 ≤ y ∧ y < (m : Int) := by
        unfold kfOf at hy
        cases e : ns[z.toNat]? with
        | none => rw [e] at hy; simp at hy
        | some nn => rw [e] at hy; exact hlink nn (List.mem_of_getElem? e) y (by simpa using hy)
      rw [hcsA y hyr, (hCS y hyr).1])
  have hC0 : ColI N NR base S w [] W3 := by
    refine ⟨_, rfl, by simp, ?_, ?_, y2, ?_, by exact bw3⟩
    · have := k01.out; rw [hN] at this; exact this.below b1w3 (by omega)
    · have := k11.out; rw [hN] at this; exact this.below b1w3 (by omega)
    · have := HO2.out
      rw [hbase] at this
      exact own_belowN this (by rw [hNR]; exact b23)
  have HNN := Lib.hid hN
  have hkv : n.ks = [] ∨ ∃ qb qo c, n.kv = .slice (some ⟨qb, qo, none⟩) n.ks.length c ∧ qb < base := by
    obtain ⟨_, ⟨a, cap', e, hz⟩ | ⟨b', o', cap', e, hc⟩⟩ := hIk
    · exact .inl hz
    · by_cases hz : n.ks = []
      · exact .inl hz
      · exact .inr ⟨b', o', cap', e, by rw [← hbase]; exact cell_lt (hc 0 (List.length_pos_iff.2 hz))⟩
  have hown3 : ∀ g, ownN NR W3 g → base ≤ g ∧ g < W3.heap.size ∧ g ≠ NR + 1 ∧ g ≠ NR + 2 := by
    rintro g ⟨u, hu, hg⟩
    have := y2.cellAt 0
    simp at this
    rw [this] at hu
    injection hu with hu
    subst hu
    simp [Value.ownBlock] at hg
    omega
  have hBR : base < NR := ?baseNR
  simp only [hbase, hNR, hN]
  rw [hW13, hW3]
  have HSEQ := Lib.hid (fun (nn : Nat) => spans_all nn (NR + 1) (NR + 2) L m c p NR (NR + 4) base n.kv n.ks ns1 hcapn (by omega) hp HL1.out hlinkn hm2 hK1' hlink1 w1 W3 HP1.out hbase b1w3 hSp (by omega) (by omega) (by omega) hkv hown3 ⟨_, y2.cellAt 0⟩)
  rw [hsp] at HSEQ
  clear hW13 hW3 s13 b13 b33 b23 b1w3 bw3 y0 y1 y2 cn0 cn1 hIk hbw0 hcs k01 k11 HO2 B1 B2 HSF HP1
  refine (wpIn_wide (n := 3)).1 (range_own (F := Fence.wide) rfl (by omega) (gf := 26) (lb := #[.pointer (some ⟨NR + 1, 0, none⟩), .pointer (some ⟨NR + 1 + 1, 0, none⟩)]) rfl trivial (enters_of Try.func26 (by kernel_rfl) rfl)
    (Kp := KpS NR (NR + 4)) (fun _ _ _ h k => h.trans k) (fun W o hl => ?put)
    (HSEQ.out _) (fun x => rfl)
    (ColI N NR base S w) (ColX N (10000 < T.length) w) ?own ?ownx
    hC0 ?round ?done ?stop)
  case put =>
    rw [s3] at hl ⊢
    exact KpS.put (by omega) W o hl
  case own =>
    rintro pre X1 Y1 row ⟨v, g⟩ hg hr
    have hnc : NoCells X1 row := fun r e => (hr r e).2
    exact ⟨v, g.isPre, g.few, g.r0.grown hg (g.r0.ne hnc), g.r1.grown hg (g.r1.ne hnc), g.lb.grown hg (g.lb.ne hnc), own_grown g.own hg hnc, (ownFrom_below (β := Unit) (show N ≤ w.heap.size by have := HNN.out; omega) (show N ≤ W3.heap.size by omega)) () X1 Y1 row g.low hg hr⟩
  case ownx =>
    rintro c' pre X1 Y1 row ⟨rfl, h1, h2, h3, h4⟩ hg hr
    have hnc : NoCells X1 row := fun r e => (hr r e).2
    exact ⟨rfl, h1, h2.grown hg (h2.ne hnc), h3.grown hg (h3.ne hnc), (ownFrom_below (β := Unit) (show N ≤ w.heap.size by have := HNN.out; omega) (show N ≤ W3.heap.size by omega)) () X1 Y1 row h4 hg hr⟩
  case stop =>
    rintro D c' pre V hD _ ⟨rfl, h1, h2, h3, h4⟩ hmk
    have H1 := Lib.hid h1
    have HV := Lib.hid (And.intro h2 (And.intro h3 h4))
    have HM2 := Lib.hid ((Marks.nil N V).cons (D := D) (by omega) hmk (fun E hE => by cases hE))
    clear h1 h2 h3 h4 hmk hSp hC0
    gi_wp2
    refine leaves_marks N [D] _ HM2.out (fun W' hck hbk => ?_)
    have r0 : W'.cell? ⟨N, 0, none⟩ = some (.slice none 0 0) := hck.cell (HV.out.1.cellAt 0)
    have r1 : W'.cell? ⟨N + 1, 0, none⟩ = some (.int .i64 43) := hck.cell (HV.out.2.1.cellAt 0)
    refine ⟨.tuple #[.slice none 0 0, .int .i64 43], ?_, .inr ⟨H1.out, rfl⟩, by exact HV.out.2.2.trans hbk⟩
    simp [results, Try.results6, go_sem, r0, r1]
  case baseNR =>
    have := (HO2.out.lt w1.heap.size rfl).2
    omega
  case round =>
    rintro l' pre ⟨⟨x1, x2⟩, sp⟩ V hlq ⟨v, g⟩ hnx
    obtain ⟨s, rfl⟩ : ∃ s : Nat, sp = (s : Int) := ⟨sp.toNat, by have := (HMAX.out _ (List.mem_iff_getElem?.2 ⟨_, hnx⟩)).1; dsimp only at this; omega⟩
    have hs1 : 1 ≤ s ∧ s ≤ 1000 := by have := HMAX.out _ (List.mem_iff_getElem?.2 ⟨_, hnx⟩); dsimp only at this; omega
    have hal : Below V.heap.size V (V.alloc (.cells #[.int .i64 x1, .int .i64 x2] 48)) := (Below.refl _ V).alloc (Nat.le_refl _) _
    have hVN : NR < V.heap.size := g.lb.lt
    refine ⟨{ tmps := #[.slice (some ⟨b, off, none⟩) m cap, .int .i64 p, .int .i64 k, undef, undef, undef, .pointer (some ⟨N, 0, none⟩), .pointer (some ⟨N + 1, 0, none⟩), .slice (some ⟨L, 0, none⟩) m c, .int .i64 0, .pointer (some ⟨NR, 0, none⟩), .pointer (some ⟨V.heap.size, 0, none⟩), .int .i64 s, .tuple #[.slice (some ⟨L, 0, none⟩) m c, .int .i64 0], .slice (some ⟨b, off, none⟩) m cap, .tuple #[.slice (some ⟨L, 0, none⟩) m c, .int .i64 0], .slice (some ⟨L, 0, none⟩) m c, .int .i64 0, .int .i64 0, .bool false, undef, .slice (some ⟨L, 0, none⟩) m c, .int .i64 p, .bool true, .bool false, .bool false, .int .i64 k, .bool false, .bool false, .bool false, .int .i64 k, .bool false, .bool false, .int .i64 k, .slice (some ⟨base, 0, none⟩) 0 k, .slice (some ⟨L, 0, none⟩) m c, .int .i64 p, .func (.func 26) #[] #[.pointer (some ⟨NR + 1, 0, none⟩), .pointer (some ⟨NR + 1 + 1, 0, none⟩)], .agg #[.int .i64 x1, .int .i64 x2], .int .i64 s, undef, undef, undef, undef, undef, undef, undef, undef, undef, undef, undef, undef, undef, undef, undef, undef, undef, undef, undef, undef], defers := [] }, V.alloc (.cells #[.int .i64 x1, .int .i64 x2] 48), ?_, (KeepsOthers.alloc V _).from _, fun hg hu => KU.of_below hal hg hu, ?_⟩
    · intro K hK
      dsimp only [encSp]
      gi_wp2
      exact hK
    · intro V₂ hgV hnc' hbl
      obtain ⟨P, hP⟩ : ∃ P, V.heap.size = P := ⟨_, rfl⟩
      have kl := whole_new V [.int .i64 x1, .int .i64 x2] 48 _ hP.symm
      obtain ⟨q, c', rfl, _, _⟩ := own_src g.own
      have hav : ∀ gg, (Value.slice q (pre.flatMap repX).length c').ownBlock = some gg → gg ≠ P := fun gg e => by have := (g.own.lt gg e).2; omega
      have G1 : ColW N NR base S pre (.slice q (pre.flatMap repX).length c') w (V.alloc (.cells #[.int .i64 x1, .int .i64 x2] 48)) :=
        ⟨g.isPre, g.few, g.r0.alloc _, g.r1.alloc _, g.lb.alloc _, own_belowN g.own hal, g.low.trans (hal.mono (by omega))⟩
      have G2 : ColW N NR base S pre (.slice q (pre.flatMap repX).length c') w V₂ :=
        ⟨G1.isPre, G1.few, G1.r0.grown hgV (G1.r0.ne hnc'), G1.r1.grown hgV (G1.r1.ne hnc'), G1.lb.grown hgV (G1.lb.ne hnc'), own_grown G1.own hgV hnc', (ownFrom_below (β := Unit) (show N ≤ w.heap.size by have := HNN.out; omega) (show N ≤ W3.heap.size by omega)) () _ V₂ (some l') G1.low hgV (fun r e => by injection e with e; exact ⟨by omega, hnc' r (by rw [e])⟩)⟩
      have kl2 := kl.grown hgV (kl.ne hnc')
      have lP : P < V₂.heap.size := kl2.lt
      obtain ⟨e, he⟩ : ∃ e, (pre.flatMap repX).length = e := ⟨_, rfl⟩
      have heb : e ≤ 10000 := by have := g.few; omega
      have HE := Lib.hid he
      rw [he] at G2 hav
      have cN := G2.lb.cellAt 0
      have lN := G2.lb.lt
      have G := Lib.hid G2
      have KL := Lib.hid kl2
      have HNX := Lib.hid hnx
      have HAV := Lib.hid hav
      clear hal kl g G1 G2 kl2 hgV hnc' hbl hSp hC0 he hav hnx
      rw [hP]
      by_cases hov : 10000 < e + s
      · have d1 : decide ((s : Int) > 10000 - (e : Int)) = true := by simp; omega
        have d2 : decide (10000 - (e : Int) < (s : Int)) = true := by simp; omega
        have HBIG : Hid (10000 < T.length) := Lib.hid (by
          have h1 : S = S.take pre.length ++ S.drop pre.length := (List.take_append_drop _ S).symm
          have h2 : S.drop pre.length = ((x1, x2), (s : Int)) :: S.drop (pre.length + 1) := by
            obtain ⟨hl, ee⟩ := List.getElem?_eq_some_iff.1 HNX.out
            rw [List.drop_eq_getElem_cons hl, ee]
          rw [HTS.out, h1, ← G.out.isPre, h2, List.flatMap_append, List.flatMap_cons, List.length_append, List.length_append, HE.out]
          simp [repX]
          omega)
        have c0 := G.out.r0.cellAt 0
        have f0 := G.out.r0.free 0
        have l0 := G.out.r0.lt
        have c1 := G.out.r1.cellAt 0
        have f1 := G.out.r1.free 0
        have l1 := G.out.r1.lt
        gi_wp2
        exact ⟨((KeepsOthers.setCell _ _ _).trans (KeepsOthers.setCell _ _ _)).from _, rfl, HBIG.out, (G.out.r0.set 0 _).other _ _ (show N ≠ N + 1 by omega), (G.out.r1.other ⟨N, 0, none⟩ _ (show N + 1 ≠ N by omega)).set 0 _,
          (G.out.low.setCell (p := ⟨N, 0, none⟩) (Nat.le_refl _) _).setCell (p := ⟨N + 1, 0, none⟩) (show N ≤ N + 1 by omega) _⟩
      · have d1 : decide ((s : Int) > 10000 - (e : Int)) = false := by simp; omega
        have d2 : decide (10000 - (e : Int) < (s : Int)) = false := by simp; omega
        gi_wp2
        refine wpIn_round_held (S := fun X => X.cell? ⟨P, 0, none⟩ = some (.int .i64 x1) ∧ X.cell? ⟨P, 1, none⟩ = some (.int .i64 x2)) (by kernel_rfl) (by kernel_rfl) (by simp only [LetsOut, Exit.inBlock]; rintro ⟨x, y, h⟩; exact h) ?_
        obtain ⟨V3, hV3⟩ : ∃ V3, V₂.drew = V3 := ⟨_, rfl⟩
        have SV : Hid (Below V₂.heap.size V₂ V3) := Lib.hid (by rw [← hV3]; exact below_dn _ V₂ 1)
        have sV3 : V3.heap.size ≤ V₂.heap.size ∧ V₂.heap.size ≤ V3.heap.size := by rw [← hV3]; exact ⟨Nat.le_refl _, Nat.le_refl _⟩
        have G3 : ColW N NR base S pre (.slice q e c') w V3 := ⟨G.out.isPre, G.out.few, G.out.r0.below SV.out G.out.r0.lt, G.out.r1.below SV.out G.out.r1.lt, G.out.lb.below SV.out lN, own_belowN G.out.own SV.out, G.out.low.trans (SV.out.mono (by omega))⟩
        have w1' : V3.cell? ⟨P, 0, none⟩ = some (.int .i64 x1) ∧ V3.cell? ⟨P, 1, none⟩ = some (.int .i64 x2) := ⟨(SV.out.cell (p := ⟨P, 0, none⟩) lP).trans (KL.out.cellAt 0), (SV.out.cell (p := ⟨P, 1, none⟩) lP).trans (KL.out.cellAt 1)⟩
        have w3 : V3.cell? ⟨NR, 0, none⟩ = some (.slice q e c') := G3.lb.cellAt 0
        have lN3 : NR < V3.heap.size := by omega
        have lP3 : P < V3.heap.size := by omega
        have HG3 := Lib.hid G3
        rw [hV3]
        clear hV3 cN G3
        -- what a world behind the draw still knows
        have HSB : ∀ U : World, Below V3.heap.size V3 U → Hid ((U.cell? ⟨P, 0, none⟩ = some (.int .i64 x1) ∧ U.cell? ⟨P, 1, none⟩ = some (.int .i64 x2)) ∧ U.cell? ⟨NR, 0, none⟩ = some (.slice q e c') ∧ NR < U.heap.size) := fun U hU => Lib.hid ⟨⟨(hU.cell (p := ⟨P, 0, none⟩) lP3).trans w1'.1, (hU.cell (p := ⟨P, 1, none⟩) lP3).trans w1'.2⟩, (hU.cell (p := ⟨NR, 0, none⟩) lN3).trans w3, by have := hU.size; omega⟩
        have HREP := Lib.hid (repeatL_any V3.heap.size 0 1 (x1, x2) s (V3.alloc (.cells #[.int .i64 x1, .int .i64 x2] 48)) (fun j u hu => lay_new V3 [.int .i64 x1, .int .i64 x2] 48 _ rfl j u hu) hs1.1 (by omega))
        have TL : ∀ U : World, Below V3.heap.size V3 U → ∀ (qq : Option Addr) (qc : Nat), (qq = none → (List.replicate s (x1, x2)).length = 0) → (∀ a, qq = some a → ∀ j u, ((List.replicate s (x1, x2)).flatMap encL)[j]? = some u → U.cell? (a.add j) = some u) →
            Hid (∃ v' X2, (Builtin.append_ #[25, 25] 25 #[.slice q e c', .slice qq s qc]).run Try.prog U = .ok v' X2 ∧ (∃ p2 k2 c2, v' = .slice p2 k2 c2) ∧ Whole X2 NR 25 [.slice q e c'] ∧
              (X2.cell? ⟨P, 0, none⟩ = some (.int .i64 x1) ∧ X2.cell? ⟨P, 1, none⟩ = some (.int .i64 x2)) ∧ ((X2.setCell ⟨NR, 0, none⟩ v').cell? ⟨P, 0, none⟩ = some (.int .i64 x1) ∧ (X2.setCell ⟨NR, 0, none⟩ v').cell? ⟨P, 1, none⟩ = some (.int .i64 x2)) ∧
              ownPostG (NR + 3) (KpS NR (NR + 4)) (ColI N NR base S w) (ColX N (10000 < T.length) w) (pre ++ [((x1, x2), (s : Int))]) V₂ .normal { tmps := #[], defers := [] } (X2.setCell ⟨NR, 0, none⟩ v')) := fun U hU qq qc h1 h2 => by
          obtain ⟨v', X2, a1, a2, a3, a4, a5, a6, a7⟩ := HG3.out.step (LB := NR + 4) hU (x1, x2) s HNX.out (by rw [HE.out]; omega) ⟨by omega, by omega, lN3⟩ qq qc h1 h2
          have b0 := a4 ⟨P, 0, none⟩ _ w1'.1 (show NR < P by omega) (fun g hg => HAV.out g hg)
          have b1 := a4 ⟨P, 1, none⟩ _ w1'.2 (show NR < P by omega) (fun g hg => HAV.out g hg)
          exact Lib.hid ⟨v', X2, a1, a2, a3, ⟨b0.1, b1.1⟩, ⟨b0.2, b1.2⟩, ((⟨SV.out.size, fun j o hj _ => (SV.out.block j (Array.getElem?_eq_some_iff.1 hj).1).trans hj⟩ : KeepsOthers V₂ V3).trans a5).from _, fun hg hu => (KU.of_below SV.out hg hu).trans a6, a7⟩
        clear HG3 KL G
        refine wpAnyH_take (i := 1) (v := .agg #[.int .i64 x1, .int .i64 x2]) rfl (by kernel_rfl) (by kernel_rfl) (by kernel_rfl) (fun _ _ _ h => h) (Or.inl ⟨by rfl, ?_⟩) w1' ?_
        · rintro X ⟨hX1, hX2⟩; go_simp
        refine wpAnyH_take (i := 3) (v := .int .i64 s) rfl (by kernel_rfl) (by kernel_rfl) (by kernel_rfl) (fun _ _ _ h => h) (Or.inl ⟨by rfl, ?_⟩) w1' ?_
        · rintro X ⟨hX1, hX2⟩; go_simp
        refine wpAnyH_all (rs := [0, 2]) (by kernel_rfl) (by simp) ?_
        intro i2 hi2
        rcases (show i2 = 0 ∨ i2 = 2 by simpa using hi2) with rfl | rfl
        · refine wpOp_step rfl (fun K hK => ?_)
          go_simp
          refine hK _ _ ⟨w1', ?_⟩
          clear hK K hi2
          refine wpAnyH_all (rs := [2]) (by kernel_rfl) (by simp) ?_
          intro i2 hi2; obtain rfl : i2 = 2 := by simpa using hi2
          refine wpOp_step rfl (fun K hK => ?_)
          go_simp
          have y1 := (HSB (V3.alloc (.cells #[.int .i64 x1, .int .i64 x2] 48)) ((Below.refl _ V3).alloc (Nat.le_refl _) _)).out
          obtain ⟨ys, y3, y4⟩ := y1
          refine hK _ _ ⟨ys, ?_⟩
          clear hK K hi2
          refine wpAnyH_all (rs := [4]) (by kernel_rfl) (by simp) ?_
          intro i2 hi2; obtain rfl : i2 = 4 := by simpa using hi2
          refine wpOp_step rfl (fun K hK => ?_)
          go_simp
          refine HREP.out.mono ?_
          rintro e' U ⟨v2, rfl, ho, bU⟩
          have BU := ((Below.refl V3.heap.size V3).alloc (Nat.le_refl _) (.cells #[.int .i64 x1, .int .i64 x2] 48)).trans (bU.mono (by simp))
          obtain ⟨us, u3, u4⟩ := (HSB U BU).out
          obtain ⟨qq, qc, rfl, hqq, hqs⟩ : ∃ qq qc, v2 = .slice qq s qc ∧ (qq = none → (List.replicate s (x1, x2)).length = 0) ∧ ∀ a, qq = some a → ∀ j u, ((List.replicate s (x1, x2)).flatMap encL)[j]? = some u → U.cell? (a.add j) = some u := by
            obtain ⟨qq, qc, e1, h1, h2⟩ := own_src ho
            exact ⟨qq, qc, by rw [e1, List.length_replicate], h1, h2⟩
          have HT3 := TL U BU qq qc hqq hqs
          refine hK _ _ ⟨us, ?_⟩
          clear hK K hi2 ho hqq hqs
          obtain ⟨v', X2, hr7, ⟨p2, k2, c2, rfl⟩, hlb, f1, f2, hend⟩ := HT3.out
          have c7 := hlb.cellAt 0
          have f7 := hlb.free 0
          have l7 := hlb.lt
          have HEND := Lib.hid hend
          clear hend hlb
          refine wpAnyH_all (rs := [5]) (by kernel_rfl) (by simp) ?_
          intro i2 hi2; obtain rfl : i2 = 5 := by simpa using hi2
          refine wpOp_step rfl (fun K hK => ?_)
          refine wp_append_run _ _ _ rfl _ _ _ rfl rfl hr7 ?_
          refine hK _ _ ⟨f1, ?_⟩
          clear hK K hi2
          refine wpAnyH_all (rs := [6]) (by kernel_rfl) (by simp) ?_
          intro i2 hi2; obtain rfl : i2 = 6 := by simpa using hi2
          refine wpOp_step rfl (fun K hK => ?_)
          go_simp
          refine hK _ _ ⟨f2, ?_⟩
          clear hK K hi2
          refine wpAnyH_done (by kernel_rfl) ?_ _
          gi_wp2
          exact HEND.out
        · refine wpOp_step rfl (fun K hK => ?_)
          go_simp
          have y1 := (HSB (V3.alloc (.cells #[.int .i64 x1, .int .i64 x2] 48)) ((Below.refl _ V3).alloc (Nat.le_refl _) _)).out
          obtain ⟨ys, y3, y4⟩ := y1
          refine hK _ _ ⟨ys, ?_⟩
          clear hK K hi2
          refine wpAnyH_all (rs := [0, 4]) (by kernel_rfl) (by simp) ?_
          intro i2 hi2
          rcases (show i2 = 0 ∨ i2 = 4 by simpa using hi2) with rfl | rfl
          · refine wpOp_step rfl (fun K hK => ?_)
            go_simp
            refine hK _ _ ⟨ys, ?_⟩
            clear hK K hi2
            refine wpAnyH_all (rs := [4]) (by kernel_rfl) (by simp) ?_
            intro i2 hi2; obtain rfl : i2 = 4 := by simpa using hi2
            refine wpOp_step rfl (fun K hK => ?_)
            go_simp
            refine HREP.out.mono ?_
            rintro e' U ⟨v2, rfl, ho, bU⟩
            have BU := ((Below.refl V3.heap.size V3).alloc (Nat.le_refl _) (.cells #[.int .i64 x1, .int .i64 x2] 48)).trans (bU.mono (by simp))
            obtain ⟨us, u3, u4⟩ := (HSB U BU).out
            obtain ⟨qq, qc, rfl, hqq, hqs⟩ : ∃ qq qc, v2 = .slice qq s qc ∧ (qq = none → (List.replicate s (x1, x2)).length = 0) ∧ ∀ a, qq = some a → ∀ j u, ((List.replicate s (x1, x2)).flatMap encL)[j]? = some u → U.cell? (a.add j) = some u := by
              obtain ⟨qq, qc, e1, h1, h2⟩ := own_src ho
              exact ⟨qq, qc, by rw [e1, List.length_replicate], h1, h2⟩
            have HT3 := TL U BU qq qc hqq hqs
            refine hK _ _ ⟨us, ?_⟩
            clear hK K hi2 ho hqq hqs
            obtain ⟨v', X2, hr7, ⟨p2, k2, c2, rfl⟩, hlb, f1, f2, hend⟩ := HT3.out
            have c7 := hlb.cellAt 0
            have f7 := hlb.free 0
            have l7 := hlb.lt
            have HEND := Lib.hid hend
            clear hend hlb
            refine wpAnyH_all (rs := [5]) (by kernel_rfl) (by simp) ?_
            intro i2 hi2; obtain rfl : i2 = 5 := by simpa using hi2
            refine wpOp_step rfl (fun K hK => ?_)
            refine wp_append_run _ _ _ rfl _ _ _ rfl rfl hr7 ?_
            refine hK _ _ ⟨f1, ?_⟩
            clear hK K hi2
            refine wpAnyH_all (rs := [6]) (by kernel_rfl) (by simp) ?_
            intro i2 hi2; obtain rfl : i2 = 6 := by simpa using hi2
            refine wpOp_step rfl (fun K hK => ?_)
            go_simp
            refine hK _ _ ⟨f2, ?_⟩
            clear hK K hi2
            refine wpAnyH_done (by kernel_rfl) ?_ _
            gi_wp2
            exact HEND.out
          · refine wpOp_step rfl (fun K hK => ?_)
            go_simp
            refine HREP.out.mono ?_
            rintro e' U ⟨v2, rfl, ho, bU⟩
            have BU := ((Below.refl V3.heap.size V3).alloc (Nat.le_refl _) (.cells #[.int .i64 x1, .int .i64 x2] 48)).trans (bU.mono (by simp))
            obtain ⟨us, u3, u4⟩ := (HSB U BU).out
            obtain ⟨qq, qc, rfl, hqq, hqs⟩ : ∃ qq qc, v2 = .slice qq s qc ∧ (qq = none → (List.replicate s (x1, x2)).length = 0) ∧ ∀ a, qq = some a → ∀ j u, ((List.replicate s (x1, x2)).flatMap encL)[j]? = some u → U.cell? (a.add j) = some u := by
              obtain ⟨qq, qc, e1, h1, h2⟩ := own_src ho
              exact ⟨qq, qc, by rw [e1, List.length_replicate], h1, h2⟩
            have HT3 := TL U BU qq qc hqq hqs
            refine hK _ _ ⟨us, ?_⟩
            clear hK K hi2 ho hqq hqs
            refine wpAnyH_all (rs := [0]) (by kernel_rfl) (by simp) ?_
            intro i2 hi2; obtain rfl : i2 = 0 := by simpa using hi2
            refine wpOp_step rfl (fun K hK => ?_)
            go_simp
            refine hK _ _ ⟨us, ?_⟩
            clear hK K hi2
            obtain ⟨v', X2, hr7, ⟨p2, k2, c2, rfl⟩, hlb, f1, f2, hend⟩ := HT3.out
            have c7 := hlb.cellAt 0
            have f7 := hlb.free 0
            have l7 := hlb.lt
            have HEND := Lib.hid hend
            clear hend hlb
            refine wpAnyH_all (rs := [5]) (by kernel_rfl) (by simp) ?_
            intro i2 hi2; obtain rfl : i2 = 5 := by simpa using hi2
            refine wpOp_step rfl (fun K hK => ?_)
            refine wp_append_run _ _ _ rfl _ _ _ rfl rfl hr7 ?_
            refine hK _ _ ⟨f1, ?_⟩
            clear hK K hi2
            refine wpAnyH_all (rs := [6]) (by kernel_rfl) (by simp) ?_
            intro i2 hi2; obtain rfl : i2 = 6 := by simpa using hi2
            refine wpOp_step rfl (fun K hK => ?_)
            go_simp
            refine hK _ _ ⟨f2, ?_⟩
            clear hK K hi2
            refine wpAnyH_done (by kernel_rfl) ?_ _
            gi_wp2
            exact HEND.out
  case done =>
    rintro D xs V hD rfl ⟨v, g⟩ hmk
    have hTl : T.length ≤ 10000 := by have := g.few; rw [HTS.out]; exact this
    have HB := Lib.hid (show BareW N NR base D v (T ++ bare 0) w V from ⟨g.r0, g.r1, g.lb, by rw [HTS.out]; simpa [bare] using g.own, g.low, hmk⟩)
    have HD := Lib.hid hD
    clear g hmk hSp hC0
    obtain ⟨tl, htl⟩ : ∃ tl, T.length = tl := ⟨_, rfl⟩
    have HTL := Lib.hid htl
    rw [htl] at hTl
    clear htl
    have hb0 : (T ++ bare 0).length = tl := by rw [List.length_append, HTL.out]; simp [bare]
    go_wp2
    go_loopw [51] (fun _ X => ∃ (t : Nat) (v : Value), (t = 0 ∨ tl + t ≤ k) ∧ Hid (BareW N NR base D v (T ++ bare t) w X) ∧ lenAt NR X = tl + t) (fun _ X => k - lenAt NR X)
    case atStart =>
      obtain ⟨q, c', rfl, _, _⟩ := own_src HB.out.own
      exact ⟨0, _, .inl rfl, HB, by rw [lenAt_of HB.out.lb, hb0]; rfl⟩
    case round =>
      clear HB hb0
      obtain ⟨t, v, htk, HX, hlen⟩ := hrel
      obtain ⟨q, c', rfl, _, _⟩ := own_src HX.out.own
      have hbl0 : (T ++ bare t).length = tl + t := by rw [List.length_append, HTL.out]; unfold bare; rw [List.length_replicate]
      have hE1 : T ++ bare (t + 1) = (T ++ bare t) ++ [(-1, -1)] := by rw [bare_succ, ← List.append_assoc]
      obtain ⟨E, hE⟩ : ∃ E, T ++ bare t = E := ⟨_, rfl⟩
      rw [hE] at hbl0 hE1 HX
      obtain ⟨u, hu⟩ : ∃ u, tl + t = u := ⟨_, rfl⟩
      have hbl : E.length = u := by rw [hbl0, hu]
      have HEE := Lib.hid hE
      have HE1 := Lib.hid hE1
      have HUU := Lib.hid hu
      clear hE hE1 hbl0
      rw [hu] at hlen htk
      rw [hbl] at HX
      have cN := HX.out.lb.cellAt 0
      have lN := HX.out.lb.lt
      have lD : D < wr.heap.size := (Array.getElem?_eq_some_iff.1 HX.out.mkd).1
      by_cases hlt : u < k
      · have hd : decide ((u : Int) < (k : Int)) = true := by simp; omega
        have hz : Below wr.heap.size wr (wr.alloc (.cells #[.int .i64 (-1), .int .i64 (-1)] 48)) := (Below.refl _ wr).alloc (Nat.le_refl _) _
        obtain ⟨v', X2, hr7, ⟨p2, c2, rfl⟩, hlb, a4, a5, a6, a7, a8, a9, a10, a11⟩ := box_step HX.out.lb HX.out.own hz (by omega) [((-1 : Int), (-1 : Int))] (some ⟨wr.heap.size, 0, none⟩) 1 (fun e => by cases e) (fun a e j u hj => by injection e with e; subst e; exact lay_new wr [.int .i64 (-1), .int .i64 (-1)] 48 _ rfl j u hj) (by rw [hbl, List.length_singleton]; omega)
        rw [List.length_append, hbl, List.length_singleton] at *
        have c7 := hlb.cellAt 0
        have f7 := hlb.free 0
        have l7 := hlb.lt
        have HB2 : Hid (BareW N NR base D (.slice p2 (u + 1) c2) (T ++ bare (t + 1)) w (X2.setCell ⟨NR, 0, none⟩ (.slice p2 (u + 1) c2))) := Lib.hid ⟨(a7 _ _ _ HX.out.r0 (by decide) (by omega)).2, (a7 _ _ _ HX.out.r1 (by decide) (by omega)).2, a4, by rw [HE1.out]; exact a5, a8 N w (by omega) (by omega) HX.out.low, a6.same D _ HX.out.mkd rfl⟩
        clear a4 a5 a6 a7 a8 a9 a10 a11 HX hz
        clear hu
        go_wp2_with (at_builtin; refine wpList_plain rfl (fun K hK => wp_append_run _ _ 25 rfl _ _ _ rfl rfl hr7 (hK _ _ ?_)); clear hK K)
        go_roundw
        case rel => exact ⟨t + 1, _, .inr (by have := HUU.out; omega), HB2, by rw [lenAt_of HB2.out.lb]; have := HUU.out; omega⟩
        case measure => rw [lenAt_of HB2.out.lb, hlen]; omega
      · have hkt : k - tl = t := by omega
        have hd : decide ((u : Int) < (k : Int)) = false := by simp; omega
        have c0 := HX.out.r0.cellAt 0
        have f0 := HX.out.r0.free 0
        have l0 := HX.out.r0.lt
        have c1 := HX.out.r1.cellAt 0
        have f1 := HX.out.r1.free 0
        have l1 := HX.out.r1.lt
        have HKT := Lib.hid hkt
        clear hlen htk hkt hu
        go_wp2
        have HXX := HX.out
        have q0 : Whole (wr.setCell ⟨N, 0, none⟩ (.slice q u c')) N 25 [.slice q u c'] := HXX.r0.set 0 _
        have q1 : Whole ((wr.setCell ⟨N, 0, none⟩ (.slice q u c')).setCell ⟨N + 1, 0, none⟩ (.int .i64 0)) N 25 [.slice q u c'] := q0.other _ _ (show N ≠ N + 1 by omega)
        have q2 : Whole ((wr.setCell ⟨N, 0, none⟩ (.slice q u c')).setCell ⟨N + 1, 0, none⟩ (.int .i64 0)) (N + 1) 26 [.int .i64 0] := (HXX.r1.other ⟨N, 0, none⟩ _ (show N + 1 ≠ N by omega)).set 0 _
        have o2 : OwnL base ((wr.setCell ⟨N, 0, none⟩ (.slice q u c')).setCell ⟨N + 1, 0, none⟩ (.int .i64 0)) (.slice q u c') E := own_setCell (own_setCell HXX.own (whole_own HXX.r0 HXX.own (by decide))) (whole_own (HXX.r1.other ⟨N, 0, none⟩ (.slice q u c') (show N + 1 ≠ N by omega)) (own_setCell HXX.own (whole_own HXX.r0 HXX.own (by decide))) (by decide))
        have m2 : ((wr.setCell ⟨N, 0, none⟩ (.slice q u c')).setCell ⟨N + 1, 0, none⟩ (.int .i64 0)).heap[D]? = some (.deferred (some [])) := ((KeepsOthers.setCell _ _ _).trans (KeepsOthers.setCell _ _ _)).same D _ HXX.mkd rfl
        have b2 : Below N w ((wr.setCell ⟨N, 0, none⟩ (.slice q u c')).setCell ⟨N + 1, 0, none⟩ (.int .i64 0)) := (HXX.low.setCell (p := ⟨N, 0, none⟩) (Nat.le_refl _) _).setCell (p := ⟨N + 1, 0, none⟩) (show N ≤ N + 1 by omega) _
        generalize (wr.setCell ⟨N, 0, none⟩ (.slice q u c')).setCell ⟨N + 1, 0, none⟩ (.int .i64 0) = Y at *
        refine leaves_marks N [D] _ ((Marks.nil _ _).cons (by have := HD.out; omega) m2 (by simp)) (fun W' hck hbk => ?_)
        have r0 : W'.cell? ⟨N, 0, none⟩ = some (.slice q u c') := hck.cell (q1.cellAt 0)
        have r1 : W'.cell? ⟨N + 1, 0, none⟩ = some (.int .i64 0) := hck.cell (q2.cellAt 0)
        refine ⟨.tuple #[.slice q u c', .int .i64 0], ?_, .inl ⟨_, by rw [HTL.out]; exact hTl, rfl, by rw [HTL.out, HKT.out, HEE.out]; exact own_from (own_cellsKept o2 hck) (by have := HNN.out; omega)⟩, by rw [HNN.out]; exact b2.trans hbk⟩
        simp [results, Try.results6, go_sem, r0, r1]
theorem results_cols {W : World} {g0 g1 : Nat} {v : Value} {e : Int} {tmps : Array Value} {fn : Func} (hf : fn.results = #[.cell 6 25, .cell 7 26])
    (h6 : tmps[6]? = some (.pointer (some ⟨g0, 0, none⟩))) (h7 : tmps[7]? = some (.pointer (some ⟨g1, 0, none⟩))) (k0 : Whole W g0 25 [v]) (k1 : Whole W g1 26 [.int .i64 e]) (hv : ∃ p k c, v = .slice p k c := by exact ⟨_, _, _, rfl⟩) :
    (results fn tmps).run Try.prog W = .ok (.tuple #[v, .int .i64 e]) W := by
  obtain ⟨p, k, c, rfl⟩ := hv
  have c0 := k0.cellAt 0
  have c1 := k1.cellAt 0
  simp only [List.getElem?_cons_zero] at c0 c1
  simp [results, hf, go_sem, h6, h7, c0, c1]
set_option maxHeartbeats 1000000 in
theorem colsF_err (lv : Value) (p k : Int) (ns : List Nd) (w : World) (er : Int) (her : er ≠ 0) (hP : PageAt w lv ns)
    (H : Hid (∀ X, PageAt X lv ns → Calls Try.prog 11 #[lv] X fun e W' => e = .returned (.tuple #[.slice none 0 0, .int .i64 er]) ∧ Below X.heap.size X W')) :
    Calls Try.prog 6 #[lv, .int .i64 p, .int .i64 k] w fun e W' => e = .returned (.tuple #[.slice none 0 0, .int .i64 er]) ∧ Below w.heap.size w W' := by
  have hne : (er != 0) = true := by simpa using her
  obtain ⟨q, cap, rfl⟩ := hP.form
  generalize ns.length = m at *
  refine (callsIn_wide (n := 3)).1 (callsIn_of_wp_marks Try.func6 rfl trivial (wpIn_wide.2 ?_) rfl)
  simp only [Try.ntmps6, List.size_toArray, List.length_cons, List.length_nil, Nat.reduceAdd, Nat.reduceSub, Array.replicate_succ, Array.replicate_zero, List.push_toArray, List.append_toArray, List.nil_append, List.cons_append]
  obtain ⟨W0, hW0⟩ : ∃ W0, (w.alloc (.cells #[.slice none 0 0] 25)).alloc (.cells #[.int .i64 0] 26) = W0 := ⟨_, rfl⟩
  have k0 : Whole W0 w.heap.size 25 [.slice none 0 0] := by rw [← hW0]; exact (whole_new w [.slice none 0 0] 25 _ rfl).alloc _
  have k1 : Whole W0 (w.heap.size + 1) 26 [.int .i64 0] := by rw [← hW0]; exact whole_new (w.alloc (.cells #[.slice none 0 0] 25)) [.int .i64 0] 26 _ (by simp)
  have b0 : Below w.heap.size w W0 := by rw [← hW0]; exact ((Below.refl _ w).alloc (Nat.le_refl _) _).alloc (by simp) _
  have HC := Lib.hid (H.out W0 (hP.below b0))
  have s0 : W0.heap.size = w.heap.size + 2 := by rw [← hW0]; simp
  have HK := Lib.hid (And.intro k0 (And.intro k1 b0))
  clear hP H k0 k1 b0
  go_wp2_with fail
  try rw [hW0]
  refine HC.out.mono ?_
  rintro e w1 ⟨rfl, hb1⟩
  have k0 := HK.out.1.below hb1 (by omega)
  have k1 := HK.out.2.1.below hb1 (by omega)
  have f0 := k0.free 0
  have f1 := k1.free 0
  have c0 := k0.cellAt 0
  have c1 := k1.cellAt 0
  have l0 := k0.lt
  have l1 := k1.lt
  have HB := Lib.hid (And.intro k0 (And.intro k1 (HK.out.2.2.trans (hb1.mono (by omega)))))
  clear k0 k1 hb1 HC HK hW0
  go_wp2
  refine leaves_marks w.heap.size [] _ (Marks.nil _ _) (fun W' hck hbk => ⟨_, results_cols (g0 := w.heap.size) (g1 := w.heap.size + 1) rfl rfl rfl (hck _ _ ((HB.out.1.set 0 _).other ⟨w.heap.size + 1, 0, none⟩ _ (by simp)) rfl) (hck _ _ ((HB.out.2.1.other ⟨w.heap.size, 0, none⟩ _ (by simp)).set 0 _) rfl), ⟨rfl, ?_⟩⟩)
  exact ((HB.out.2.2.setCell (p := ⟨w.heap.size, 0, none⟩) (Nat.le_refl _) _).setCell (p := ⟨w.heap.size + 1, 0, none⟩) (by simp) _).trans hbk
set_option maxHeartbeats 1000000 in
theorem colsF_arg (lv : Value) (p k : Int) (ns : List Nd) (w : World) (hP : PageAt w lv ns) (hbad : isTab ns p = false ∨ k < 0 ∨ 10000 < k)
    (H : Hid (∀ X, PageAt X lv ns → Calls Try.prog 11 #[lv] X fun e W' => ∃ v ns', e = .returned (.tuple #[v, .int .i64 0]) ∧ isTab ns' p = isTab ns p ∧ PageAt W' v ns' ∧ Below X.heap.size X W')) :
    Calls Try.prog 6 #[lv, .int .i64 p, .int .i64 k] w fun e W' => e = .returned (.tuple #[.slice none 0 0, .int .i64 2]) ∧ Below w.heap.size w W' := by
  obtain ⟨q, cap, rfl⟩ := hP.form
  generalize ns.length = m at *
  obtain ⟨W0, hW0⟩ : ∃ W0, (w.alloc (.cells #[.slice none 0 0] 25)).alloc (.cells #[.int .i64 0] 26) = W0 := ⟨_, rfl⟩
  have k0 : Whole W0 w.heap.size 25 [.slice none 0 0] := by rw [← hW0]; exact (whole_new w [.slice none 0 0] 25 _ rfl).alloc _
  have k1 : Whole W0 (w.heap.size + 1) 26 [.int .i64 0] := by rw [← hW0]; exact whole_new (w.alloc (.cells #[.slice none 0 0] 25)) [.int .i64 0] 26 _ (by simp)
  have b0 : Below w.heap.size w W0 := by rw [← hW0]; exact ((Below.refl _ w).alloc (Nat.le_refl _) _).alloc (by simp) _
  have HC := Lib.hid (H.out W0 (hP.below b0))
  have s0 : W0.heap.size = w.heap.size + 2 := by rw [← hW0]; simp
  have HK := Lib.hid (And.intro k0 (And.intro k1 b0))
  clear hP H k0 k1 b0
  obtain ⟨tb, htb⟩ : ∃ tb, isTab ns p = tb := ⟨_, rfl⟩
  rw [htb] at HC hbad
  clear htb
  rcases (show tb = false ∨ (tb = true ∧ k < 0) ∨ (tb = true ∧ ¬ k < 0 ∧ 10000 < k) by cases tb <;> simp_all <;> omega) with rfl | ⟨rfl, hk⟩ | ⟨rfl, hk, hk2⟩
  all_goals
    clear hbad
    refine (callsIn_wide (n := 3)).1 (callsIn_of_wp_marks Try.func6 rfl trivial (wpIn_wide.2 ?_) rfl)
    simp only [Try.ntmps6, List.size_toArray, List.length_cons, List.length_nil, Nat.reduceAdd, Nat.reduceSub, Array.replicate_succ, Array.replicate_zero, List.push_toArray, List.append_toArray, List.nil_append, List.cons_append]
    go_wp2_with fail
    try rw [hW0]
    refine HC.out.mono ?_
    rintro e w1 ⟨v, ns', rfl, htab, hp1, hb1⟩
    have k0 := HK.out.1.below hb1 (by omega)
    have k1 := HK.out.2.1.below hb1 (by omega)
    have HB := Lib.hid (And.intro k0 (And.intro k1 (HK.out.2.2.trans (hb1.mono (by omega)))))
    have f0 := k0.free 0
    have f1 := k1.free 0
    have c0 := k0.cellAt 0
    have c1 := k1.cellAt 0
    have l0 := k0.lt
    have l1 := k1.lt
    obtain ⟨q2, cap2, rfl⟩ := hp1.form
    have HT := Lib.hid (tab_any q2 _ cap2 p ns' w1 hp1)
    rw [htab] at HT
    generalize ns'.length = m2 at *
    clear k0 k1 hb1 HC HK hW0 htab hp1
    go_wp2_with (go_at_call 12; refine HT.out.mono ?_; rintro e w' ⟨rfl, rfl⟩; clear HT)
    refine leaves_marks w.heap.size [] _ (Marks.nil _ _) (fun W' hck hbk => ⟨_, results_cols (g0 := w.heap.size) (g1 := w.heap.size + 1) rfl rfl rfl (hck _ _ ((HB.out.1.set 0 _).other ⟨w.heap.size + 1, 0, none⟩ _ (by simp)) rfl) (hck _ _ ((HB.out.2.1.other ⟨w.heap.size, 0, none⟩ _ (by simp)).set 0 _) rfl), ⟨rfl, ?_⟩⟩)
    exact ((HB.out.2.2.setCell (p := ⟨w.heap.size, 0, none⟩) (Nat.le_refl _) _).setCell (p := ⟨w.heap.size + 1, 0, none⟩) (by simp) _).trans hbk
end Go.Proofs.Ytgaclepoipaecaa
