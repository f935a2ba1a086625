/- Contract of collapse.together: what some claims come to. -/
/- As what a run asks: the four closures. -/
import Derived.Test.YtceippgkmoijdaaCoApp
import Derived.Test.YtceippgkmoijdaaLst
namespace Go.Proofs.Ytceippgkmoijdaa
open Go.RowKit Go.Shelf Go.Sort
set_option linter.unusedVariables false
set_option linter.unusedSimpArgs false

/-- the sides of the claims that ask; how many they ask -/
def tgY (l : List Cl) : List Si := (l.filter fun c => decide (0 < c.n)).map Cl.won
def tgN (l : List Cl) : Int := ((l.filter fun c => decide (0 < c.n)).map Cl.n).sum
def togP (l : List Cl) : Cl := ⟨(winR (tgY l)).1, tgN l⟩
theorem tgY_yes (l : List Cl) (c : Cl) (h : 0 < c.n) : tgY (l ++ [c]) = tgY l ++ [c.won] := by unfold tgY; rw [List.filter_append]; simp [h]
theorem tgY_no (l : List Cl) (c : Cl) (h : ¬ 0 < c.n) : tgY (l ++ [c]) = tgY l := by unfold tgY; rw [List.filter_append]; simp [h]
theorem tgN_yes (l : List Cl) (c : Cl) (h : 0 < c.n) : tgN (l ++ [c]) = tgN l + c.n := by unfold tgN; rw [List.filter_append]; simp [h]
theorem tgN_no (l : List Cl) (c : Cl) (h : ¬ 0 < c.n) : tgN (l ++ [c]) = tgN l := by unfold tgN; rw [List.filter_append]; simp [h]
theorem tgN_bd (l : List Cl) (h : ∀ c ∈ l, 0 ≤ c.n ∧ c.n ≤ 1000000000000000000) : 0 ≤ tgN l ∧ tgN l ≤ 1000000000000000000 * (l.length : Int) := by
  induction l with
  | nil => exact ⟨by simp [tgN], by simp [tgN]⟩
  | cons c l ih =>
    have h1 := ih (fun d hd => h d (List.mem_cons_of_mem _ hd))
    have h2 := h c (by simp)
    unfold tgN at h1 ⊢
    rw [List.filter_cons]
    by_cases hc : 0 < c.n
    · rw [if_pos (by simpa using hc), List.map_cons, List.sum_cons, List.length_cons]; push_cast; omega
    · rw [if_neg (by simpa using hc), List.length_cons]; push_cast; omega
theorem tgY_len (l : List Cl) : (tgY l).length ≤ l.length := by unfold tgY; rw [List.length_map]; exact List.length_filter_le _ _
theorem own_belowT {X Y : World} {base e sz n : Nat} {v : Value} {xs : List Value} (h : X.ownsRow base e sz v n xs) (hb : Below X.heap.size X Y) : Y.ownsRow base e sz v n xs := by
  refine ⟨h.1, h.2.imp id ?_⟩
  rintro ⟨g, cap, cur, e, h1, h2, h3⟩
  exact ⟨g, cap, cur, e, h1, (hb.block g (Array.getElem?_eq_some_iff.1 h2).1).trans h2, h3⟩
/-- the memory of together at the start of a round -/
structure TG (W W1 : World) (v : Value) (ys : List Si) (t : Int) (X : World) : Prop where
  own : X.ownsRow W1.heap.size 54 6 v ys.length (ys.flatMap Si.cells)
  all : Whole X (W.heap.size + 1) 108 [.int .i64 0, .int .i64 0, .int .u32 0, .int .i64 0, .int .i64 0, .int .i64 0, .int .i64 t]
  res : Whole X W.heap.size 108 [.int .i64 0, .int .i64 0, .int .u32 0, .int .i64 0, .int .i64 0, .int .i64 0, .int .i64 0]
  lo : Below W.heap.size W X
  sz : W1.heap.size ≤ X.heap.size
set_option maxRecDepth 100000 in
set_option maxHeartbeats 8000000 in
theorem tog_any (p : Option Addr) (m k : Nat) (cs : List Cl) (W : World) (hr : RowsK Cl.cells 7 W (.slice p m k) cs) (hm : cs.length = m) (hm3 : m ≤ 3) (hn : ∀ c ∈ cs, 0 ≤ c.n ∧ c.n ≤ 1000000000000000000) (hh : ∀ c ∈ cs, 0 < c.n → c.won.hue) :
    Calls Try.prog 57 #[.slice p m k] W fun e W' => e = .returned (togP cs).val ∧ Below W.heap.size W W' := by
  obtain ⟨W1, hW1⟩ : ∃ W1, (W.alloc (.cells #[.int .i64 0, .int .i64 0, .int .u32 0, .int .i64 0, .int .i64 0, .int .i64 0, .int .i64 0] 108)).alloc (.cells #[.int .i64 0, .int .i64 0, .int .u32 0, .int .i64 0, .int .i64 0, .int .i64 0, .int .i64 0] 108) = W1 := ⟨_, rfl⟩
  have T0 : Hid (TG W W1 (.slice none 0 0) (tgY []) (tgN []) W1) := Lib.hid ⟨World.ownsRow_nil _ _ _ _, hW1 ▸ whole_new (W.alloc _) [.int .i64 0, .int .i64 0, .int .u32 0, .int .i64 0, .int .i64 0, .int .i64 0, .int .i64 0] 108 _ (by simp),
    hW1 ▸ (whole_new W [.int .i64 0, .int .i64 0, .int .u32 0, .int .i64 0, .int .i64 0, .int .i64 0, .int .i64 0] 108 _ rfl).alloc _, hW1 ▸ ((Below.refl _ W).alloc (Nat.le_refl _) _).alloc (by simp) _, Nat.le_refl _⟩
  have S1 : W1.heap.size = W.heap.size + 2 := by rw [← hW1]; simp
  have HAT : Hid (∀ X, Below W.heap.size W X → ∀ j c, cs[j]? = some c → ∃ g o, p = some ⟨g, o, none⟩ ∧ g < W.heap.size ∧ ∀ q v, c.cells[q]? = some v → X.cell? ⟨g, o + j * 7 + q, none⟩ = some v) := Lib.hid fun X hX j c hj => by
    obtain ⟨g, o, e, hg, hc⟩ := hr.at j c hj
    exact ⟨g, o, e, hg, fun q v hv => (hX.cell (p := ⟨g, o + j * 7 + q, none⟩) hg).trans (hc q v hv)⟩
  have HM := Lib.hid hm
  have HN := Lib.hid hn
  have HH := Lib.hid hh
  have HS1 := Lib.hid S1
  clear hr hm hn hh S1
  go_enter Try.func57, Try.ntmps57
  go_wp2
  try rw [hW1]
  clear hW1
  go_loopw [4, 9] (fun s4 s9 X => ∃ i : Nat, i ≤ m ∧ s9 = .int .i64 (i : Int) ∧ Hid (TG W W1 s4 (tgY (cs.take i)) (tgN (cs.take i)) X)) (fun _ s9 _ => m - (intOf s9).toNat)
  case atStart => exact ⟨0, Nat.zero_le _, rfl, T0⟩
  case round =>
    obtain ⟨i, hi, rfl, HT⟩ := hrel
    by_cases hlt : i < m
    · obtain ⟨c, hc⟩ : ∃ c, cs[i]? = some c := ⟨_, List.getElem?_eq_getElem (by rw [HM.out]; exact hlt)⟩
      obtain ⟨g, o, rfl, lg0, hcs⟩ := HAT.out wr HT.out.lo i c hc
      have HTK : Hid (cs.take (i + 1) = cs.take i ++ [c]) := Lib.hid (by rw [List.take_add_one, hc]; rfl)
      have HNC := Lib.hid (HN.out c (List.mem_of_getElem? hc))
      have HBD := Lib.hid (tgN_bd (cs.take i) (fun d hd => HN.out d (List.mem_of_mem_take hd)))
      have HLY := Lib.hid (tgY_len (cs.take i))
      have lg : g < wr.heap.size := Nat.lt_of_lt_of_le lg0 HT.out.lo.size
      obtain ⟨⟨st, wd, co, bb, ro, cl⟩, n⟩ := c
      have q0 : wr.cell? ⟨g, o + i * 7, none⟩ = some (.int .i64 st) := hcs 0 _ rfl
      have q1 : wr.cell? ⟨g, o + i * 7 + 1, none⟩ = some (.int .i64 wd) := hcs 1 _ rfl
      have q2 : wr.cell? ⟨g, o + i * 7 + 2, none⟩ = some (.int .u32 co) := hcs 2 _ rfl
      have q3 : wr.cell? ⟨g, o + i * 7 + 3, none⟩ = some (.int .i64 bb) := hcs 3 _ rfl
      have q4 : wr.cell? ⟨g, o + i * 7 + 4, none⟩ = some (.int .i64 ro) := hcs 4 _ rfl
      have q5 : wr.cell? ⟨g, o + i * 7 + 5, none⟩ = some (.int .i64 cl) := hcs 5 _ rfl
      have q6 : wr.cell? ⟨g, o + i * 7 + 6, none⟩ = some (.int .i64 n) := hcs 6 _ rfl
      clear hcs hc lg0
      obtain ⟨V, hV⟩ : ∃ V, wr.alloc (.cells #[.int .i64 st, .int .i64 wd, .int .u32 co, .int .i64 bb, .int .i64 ro, .int .i64 cl, .int .i64 n] 108) = V := ⟨_, rfl⟩
      have KV : Hid (Whole V wr.heap.size 108 [.int .i64 st, .int .i64 wd, .int .u32 co, .int .i64 bb, .int .i64 ro, .int .i64 cl, .int .i64 n]) := Lib.hid (hV ▸ whole_new wr [.int .i64 st, .int .i64 wd, .int .u32 co, .int .i64 bb, .int .i64 ro, .int .i64 cl, .int .i64 n] 108 _ rfl)
      have BV : Hid (Below wr.heap.size wr V) := Lib.hid (by rw [← hV]; exact (Below.refl _ wr).alloc (Nat.le_refl _) _)
      have lV := KV.out.lt
      have k0 := KV.out.cellAt 0
      have k1 := KV.out.cellAt 1
      have k2 := KV.out.cellAt 2
      have k3 := KV.out.cellAt 3
      have k4 := KV.out.cellAt 4
      have k5 := KV.out.cellAt 5
      have k6 := KV.out.cellAt 6
      simp only [List.getElem?_cons_zero, List.getElem?_cons_succ] at k0 k1 k2 k3 k4 k5 k6
      by_cases hn0 : 0 < n
      · have EY := Lib.hid (tgY_yes (cs.take i) ⟨⟨st, wd, co, bb, ro, cl⟩, n⟩ hn0)
        have EN := Lib.hid (tgN_yes (cs.take i) ⟨⟨st, wd, co, bb, ro, cl⟩, n⟩ hn0)
        go_wp2_with (at_builtin; refine Hid.out ?_)
        refine Lib.hid ?_
        have HO1 := Lib.hid (own_belowT HT.out.own BV.out)
        have HL1 := Lib.hid (Nat.le_trans HT.out.sz BV.out.size)
        refine wpList_appS (some 20) rfl rfl _ _ rfl W1.heap.size _ _ _ rfl (HO1.out.alloc _) (some ⟨V.heap.size, 0, none⟩) 1 1 [⟨st, wd, co, bb, ro, cl⟩] rfl (sides_one (t := 54) (whole_new V _ _ _ rfl)) rfl (by have h1 := HLY.out; rw [List.length_take] at h1; omega) (by have := HL1.out; simp; omega) ?_
        intro v2 X2 ho2 hg2 ha2
        have hal := (Below.refl V.heap.size V).alloc (Nat.le_refl _) (.cells #[.int .i64 st, .int .i64 wd, .int .u32 co, .int .i64 bb, .int .i64 ro, .int .i64 cl] 54)
        have hb2 : Below W1.heap.size V X2 := own_below (hal.mono HL1.out) (HO1.out.alloc _) (Nat.le_refl _) hg2 (by have := HL1.out; simp; omega)
        have KVA := KV.out.alloc (.cells #[.int .i64 st, .int .i64 wd, .int .u32 co, .int .i64 bb, .int .i64 ro, .int .i64 cl] 54)
        have HOA := HO1.out.alloc (.cells #[.int .i64 st, .int .i64 wd, .int .u32 co, .int .i64 bb, .int .i64 ro, .int .i64 cl] 54)
        have KV2 : Hid (Whole X2 wr.heap.size 108 [.int .i64 st, .int .i64 wd, .int .u32 co, .int .i64 bb, .int .i64 ro, .int .i64 cl, .int .i64 n]) := Lib.hid ((hg2.block _ (by have := KV.out.lt; simp; omega) (fun e => whole_own KVA HOA (by decide) e.symm)).trans KVA)
        have KA2 := Lib.hid ((HT.out.all.below BV.out HT.out.all.lt).below hb2 (by have := HS1.out; omega))
        have KR2 := Lib.hid ((HT.out.res.below BV.out HT.out.res.lt).below hb2 (by have := HS1.out; omega))
        have HB2 := Lib.hid ((HT.out.lo.trans (BV.out.mono HT.out.lo.size)).trans (hb2.mono (by have := HS1.out; omega)))
        have HO2 := Lib.hid ho2
        have HL2 := Lib.hid (Nat.le_trans HL1.out hb2.size)
        clear KVA HOA ho2 hg2 ha2 hal hb2 HO1 HL1 k0 k1 k2 k3 k4 k5 k6 lV q0 q1 q2 q3 q4 q5 q6 lg HT KV BV hV
        have a6 := KA2.out.cellAt 6
        have f6 := KA2.out.free 6
        have lA := KA2.out.lt
        have b6 := KV2.out.cellAt 6
        have lB := KV2.out.lt
        simp only [List.getElem?_cons_zero, List.getElem?_cons_succ] at a6 b6
        obtain ⟨t, ht⟩ : ∃ t, tgN (cs.take i) = t := ⟨_, rfl⟩
        have hbd : 0 ≤ t ∧ t ≤ 2000000000000000000 := by have h1 := HBD.out; rw [ht, List.length_take] at h1; have := HM.out; omega
        have hn2 := HNC.out
        rw [ht] at a6
        have HTT := Lib.hid ht
        clear ht
        go_wp2
        have hne : (⟨W.heap.size + 1, 6, none⟩ : Addr).block = W.heap.size + 1 := rfl
        refine ⟨⟨i + 1, by omega, by go_num, Lib.hid ?_⟩, by simp [intOf]; omega⟩
        rw [HTK.out, EY.out, EN.out, HTT.out]
        refine ⟨?_, KA2.out.set 6 _, KR2.out.other _ _ (by rw [hne]; omega), HB2.out.setCell (by rw [hne]; omega) _, by simpa using HL2.out⟩
        have ho := ownsRow_setCell_below HO2.out (a := ⟨W.heap.size + 1, 6, none⟩) (by rw [hne]; have := HS1.out; omega) (.int .i64 (t + n))
        rw [List.length_append, List.flatMap_append]
        exact ho
      · have EY := Lib.hid (tgY_no (cs.take i) ⟨⟨st, wd, co, bb, ro, cl⟩, n⟩ hn0)
        have EN := Lib.hid (tgN_no (cs.take i) ⟨⟨st, wd, co, bb, ro, cl⟩, n⟩ hn0)
        go_wp2
        try rw [hV]
        go_roundw
        case rel => exact ⟨i + 1, by omega, by go_num, Lib.hid (by rw [HTK.out, EY.out, EN.out]; exact ⟨own_belowT HT.out.own BV.out, HT.out.all.below BV.out HT.out.all.lt, HT.out.res.below BV.out HT.out.res.lt, HT.out.lo.trans (BV.out.mono HT.out.lo.size), Nat.le_trans HT.out.sz BV.out.size⟩)⟩
        case measure => simp [intOf]; omega
    · obtain rfl : i = m := by omega
      have HTE : Hid (cs.take i = cs) := Lib.hid (List.take_of_length_le (by have := HM.out; omega))
      have HT2 : Hid (TG W W1 u4 (tgY cs) (tgN cs) wr) := Lib.hid (by have := HT.out; rwa [HTE.out] at this)
      have hsd := own_sidesC HT2.out.own (by have := tgY_len cs; have := HM.out; omega)
      obtain ⟨p2, c2, rfl, hc2, hc3⟩ := own_formC HT2.out.own
      have HW := Lib.hid (winner_any p2 (tgY cs).length c2 (tgY cs) wr hsd rfl hc2 hc3 (fun x hx => by
        obtain ⟨d, hd, rfl⟩ := List.mem_map.1 hx
        obtain ⟨h1, h2⟩ := List.mem_filter.1 hd
        exact HH.out d h1 (by simpa using h2)))
      obtain ⟨N, hN⟩ : ∃ N, (tgY cs).length = N := ⟨_, rfl⟩
      obtain ⟨t, ht⟩ : ∃ t, tgN cs = t := ⟨_, rfl⟩
      obtain ⟨⟨⟨st, wd, co, bb, ro, cl⟩, er⟩, hw⟩ : ∃ z, winR (tgY cs) = z := ⟨_, rfl⟩
      have HP : Hid ((togP cs).val = .agg #[.int .i64 st, .int .i64 wd, .int .u32 co, .int .i64 bb, .int .i64 ro, .int .i64 cl, .int .i64 t]) := Lib.hid (by unfold togP; rw [hw, ht]; rfl)
      rw [hw, hN] at HW
      unfold Si.val at HW
      dsimp only at HW
      have KA := HT2.out.all
      rw [ht] at KA
      have HKA := Lib.hid KA
      have HKR := Lib.hid HT2.out.res
      have HLO := Lib.hid HT2.out.lo
      rw [hN]
      clear hsd hc2 hc3 hN ht hw KA HT HT2 HAT HH HN T0 HTE
      go_wp2_with fail
      refine HW.out.mono ?_
      rintro e w5 ⟨rfl, hb5⟩
      have KA5 := Lib.hid (HKA.out.below hb5 HKA.out.lt)
      have KR5 := Lib.hid (HKR.out.below hb5 HKR.out.lt)
      have HB5 := Lib.hid (HLO.out.trans (hb5.mono HLO.out.size))
      clear hb5 HKA HKR HLO HW
      have a0 := KA5.out.cellAt 0
      have a1 := KA5.out.cellAt 1
      have a2 := KA5.out.cellAt 2
      have a3 := KA5.out.cellAt 3
      have a4 := KA5.out.cellAt 4
      have a5 := KA5.out.cellAt 5
      have a6 := KA5.out.cellAt 6
      have f0 := KA5.out.free 0
      have f1 := KA5.out.free 1
      have f2 := KA5.out.free 2
      have f3 := KA5.out.free 3
      have f4 := KA5.out.free 4
      have f5 := KA5.out.free 5
      have lA := KA5.out.lt
      have b0 := KR5.out.cellAt 0
      have b1 := KR5.out.cellAt 1
      have b2 := KR5.out.cellAt 2
      have b3 := KR5.out.cellAt 3
      have b4 := KR5.out.cellAt 4
      have b5 := KR5.out.cellAt 5
      have b6 := KR5.out.cellAt 6
      have g0 := KR5.out.free 0
      have g1 := KR5.out.free 1
      have g2 := KR5.out.free 2
      have g3 := KR5.out.free 3
      have g4 := KR5.out.free 4
      have g5 := KR5.out.free 5
      have g6 := KR5.out.free 6
      have lR := KR5.out.lt
      simp only [List.getElem?_cons_zero, List.getElem?_cons_succ] at a0 a1 a2 a3 a4 a5 a6 b0 b1 b2 b3 b4 b5 b6
      go_wp2
      rw [HP.out]
      have n1 : ∀ o, W.heap.size ≠ (⟨W.heap.size + 1, o, none⟩ : Addr).block := fun o => (by show W.heap.size ≠ W.heap.size + 1; omega)
      have n2 : ∀ o, W.heap.size ≤ (⟨W.heap.size + 1, o, none⟩ : Addr).block := fun o => (by show W.heap.size ≤ W.heap.size + 1; omega)
      have n3 : ∀ o, W.heap.size ≤ (⟨W.heap.size, o, none⟩ : Addr).block := fun o => Nat.le_refl _
      refine bodyPost_ret (results_clm (g := W.heap.size) rfl rfl (((((((((((((KR5.out.other _ _ (n1 0)).other _ _ (n1 1)).other _ _ (n1 2)).other _ _ (n1 3)).other _ _ (n1 4)).other _ _ (n1 5)).set 0 _).set 1 _).set 2 _).set 3 _).set 4 _).set 5 _).set 6 _)) rfl ⟨rfl, ?_⟩
      exact ((((((((((((HB5.out.setCell (n2 0) _).setCell (n2 1) _).setCell (n2 2) _).setCell (n2 3) _).setCell (n2 4) _).setCell (n2 5) _).setCell (n3 0) _).setCell (n3 1) _).setCell (n3 2) _).setCell (n3 3) _).setCell (n3 4) _).setCell (n3 5) _).setCell (n3 6) _
end Go.Proofs.Ytceippgkmoijdaa

namespace Go.Proofs.Ytceippgkmoijdaa
open Go.RowKit Go.Shelf
set_option linter.unusedVariables false
set_option linter.unusedSimpArgs false

theorem results_sdA {fn : Func} {W : World} {g q : Nat} {s : Si} {tmps : Array Value} (hf : fn.results = #[.cell q 54]) (ht : tmps.getD q undef = .pointer (some ⟨g, 0, none⟩)) (h : Whole W g 54 s.cells) :
    (results fn tmps).run Try.prog W = .ok s.val W :=
  results_cell_row hf tmps W g 54 s.cells.toArray (0, 0) _ ht h Try.underlying54 rfl Try.infoSide
/-- as what a list of runs asks: 0 and 1 rows and their groups, 2 and 3 columns and theirs -/
def asF (w : Nat) : Nat := if w = 0 then 46 else if w = 1 then 47 else if w = 2 then 48 else 49
def asP (w : Nat) (fr : Int) : Si := if w = 0 then ⟨0, 0, 0, 1, fr, 0⟩ else if w = 1 then ⟨0, 0, 0, 2, fr, 0⟩ else if w = 2 then ⟨0, 0, 0, 3, 0, fr⟩ else ⟨0, 0, 0, 4, 0, fr⟩
set_option maxHeartbeats 1000000 in
theorem as_any (w : Nat) (fr : Int) (W : World) : Calls Try.prog (asF w) #[.int .i64 fr] W fun e W' => e = .returned (asP w fr).val ∧ Below W.heap.size W W' := by
  unfold asF asP
  by_cases h0 : w = 0
  · rw [if_pos h0, if_pos h0]
    go_enter Try.func46, Try.ntmps46
    go_wp2
    exact bodyPost_ret (results_sdA (s := ⟨0, 0, 0, 1, fr, 0⟩) (g := W.heap.size) rfl rfl (whole_new W [.int .i64 0, .int .i64 0, .int .u32 0, .int .i64 1, .int .i64 fr, .int .i64 0] 54 _ rfl)) rfl ⟨rfl, (Below.refl _ W).alloc (Nat.le_refl _) _⟩
  rw [if_neg h0, if_neg h0]
  by_cases h1 : w = 1
  · rw [if_pos h1, if_pos h1]
    go_enter Try.func47, Try.ntmps47
    go_wp2
    exact bodyPost_ret (results_sdA (s := ⟨0, 0, 0, 2, fr, 0⟩) (g := W.heap.size) rfl rfl (whole_new W [.int .i64 0, .int .i64 0, .int .u32 0, .int .i64 2, .int .i64 fr, .int .i64 0] 54 _ rfl)) rfl ⟨rfl, (Below.refl _ W).alloc (Nat.le_refl _) _⟩
  rw [if_neg h1, if_neg h1]
  by_cases h2 : w = 2
  · rw [if_pos h2, if_pos h2]
    go_enter Try.func48, Try.ntmps48
    go_wp2
    exact bodyPost_ret (results_sdA (s := ⟨0, 0, 0, 3, 0, fr⟩) (g := W.heap.size) rfl rfl (whole_new W [.int .i64 0, .int .i64 0, .int .u32 0, .int .i64 3, .int .i64 0, .int .i64 fr] 54 _ rfl)) rfl ⟨rfl, (Below.refl _ W).alloc (Nat.le_refl _) _⟩
  rw [if_neg h2, if_neg h2]
  go_enter Try.func49, Try.ntmps49
  go_wp2
  exact bodyPost_ret (results_sdA (s := ⟨0, 0, 0, 4, 0, fr⟩) (g := W.heap.size) rfl rfl (whole_new W [.int .i64 0, .int .i64 0, .int .u32 0, .int .i64 4, .int .i64 0, .int .i64 fr] 54 _ rfl)) rfl ⟨rfl, (Below.refl _ W).alloc (Nat.le_refl _) _⟩
theorem as_enter (w : Nat) (args : Array Value) (W : World) : (callFunc (asF w) args).run Try.prog W = .ok (.enter (asF w) args) W := by
  unfold asF
  by_cases h0 : w = 0
  · rw [if_pos h0]; exact enters_of Try.func46 (by kernel_rfl) rfl args W
  rw [if_neg h0]
  by_cases h1 : w = 1
  · rw [if_pos h1]; exact enters_of Try.func47 (by kernel_rfl) rfl args W
  rw [if_neg h1]
  by_cases h2 : w = 2
  · rw [if_pos h2]; exact enters_of Try.func48 (by kernel_rfl) rfl args W
  rw [if_neg h2]
  exact enters_of Try.func49 (by kernel_rfl) rfl args W
end Go.Proofs.Ytceippgkmoijdaa
