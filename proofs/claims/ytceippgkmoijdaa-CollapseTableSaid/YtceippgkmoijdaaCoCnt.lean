/- collapse.counts: of how many stretches each band is. Written by mk_CoCnt.py. -/
import Derived.Test.YtceippgkmoijdaaCoStr
namespace Go.Proofs.Ytceippgkmoijdaa
open Go.RowKit Go.Shelf
set_option linter.unusedVariables false
set_option linter.unusedSimpArgs false
attribute [local go_sem] Oper.semAt_some

def cntF (l : List Sr) (p : Sr → Bool) : Int := ((l.filter p).length : Int)
theorem cntF_snoc (l : List Sr) (s : Sr) (p : Sr → Bool) : cntF (l ++ [s]) p = cntF l p + (if p s then 1 else 0) := by
  unfold cntF
  rw [List.filter_append, List.length_append]
  by_cases h : p s = true
  · simp [h]
  · simp [h]
theorem cntF_bd (l : List Sr) (p : Sr → Bool) : 0 ≤ cntF l p ∧ cntF l p ≤ l.length := by
  unfold cntF
  have := List.length_filter_le p l
  omega
/-- how many begin at a band, less how many end there -/
def dv (l : List Sr) (i : Nat) : Int := cntF l (fun s => decide (s.run.fr = (i : Int))) - cntF l (fun s => decide (s.run.to = (i : Int)))
/-- how many have begun, less how many have ended -/
def pv (l : List Sr) (i : Nat) : Int := cntF l (fun s => decide (s.run.fr ≤ (i : Int))) - cntF l (fun s => decide (s.run.to ≤ (i : Int)))
theorem cntF_split (l : List Sr) (f : Sr → Int) (i : Nat) : cntF l (fun s => decide (f s ≤ ((i + 1 : Nat) : Int))) = cntF l (fun s => decide (f s ≤ (i : Int))) + cntF l (fun s => decide (f s = ((i + 1 : Nat) : Int))) := by
  induction l with
  | nil => rfl
  | cons a l ih =>
    unfold cntF at *
    simp only [List.filter_cons]
    by_cases h1 : f a ≤ (i : Int)
    · rw [if_pos (by simp; omega), if_pos (by simpa using h1), if_neg (by simp; omega)]; simp only [List.length_cons]; omega
    · by_cases h2 : f a = ((i + 1 : Nat) : Int)
      · rw [if_pos (by simp; omega), if_neg (by simpa using h1), if_pos (by simpa using h2)]; simp only [List.length_cons]; omega
      · rw [if_neg (by simp; omega), if_neg (by simpa using h1), if_neg (by simpa using h2)]; omega
theorem pv_succ (l : List Sr) (i : Nat) : pv l (i + 1) = dv l (i + 1) + pv l i := by
  unfold pv dv
  rw [cntF_split l (fun s => s.run.fr) i, cntF_split l (fun s => s.run.to) i]; omega
theorem pv_zero (l : List Sr) (h : ∀ s ∈ l, 0 ≤ s.run.fr ∧ s.run.fr ≤ s.run.to) : pv l 0 = dv l 0 := by
  unfold pv dv cntF
  congr 3
  · exact List.filter_congr fun s hs => by have := h s hs; simp; omega
  · exact List.filter_congr fun s hs => by have := h s hs; simp; omega
theorem dv_snoc (l : List Sr) (s : Sr) (i : Nat) : dv (l ++ [s]) i = dv l i + (if s.run.fr = (i : Int) then 1 else 0) - (if s.run.to = (i : Int) then 1 else 0) := by
  unfold dv
  rw [cntF_snoc, cntF_snoc]
  simp only [decide_eq_true_eq]
  omega
theorem dv_bd (l : List Sr) (i : Nat) : -(l.length : Int) ≤ dv l i ∧ dv l i ≤ l.length := by
  have h1 := cntF_bd l (fun s => decide (s.run.fr = (i : Int)))
  have h2 := cntF_bd l (fun s => decide (s.run.to = (i : Int)))
  unfold dv; omega
theorem pv_bd (l : List Sr) (i : Nat) : -(l.length : Int) ≤ pv l i ∧ pv l i ≤ l.length := by
  have h1 := cntF_bd l (fun s => decide (s.run.fr ≤ (i : Int)))
  have h2 := cntF_bd l (fun s => decide (s.run.to ≤ (i : Int)))
  unfold pv; omega
def dL (l : List Sr) (m : Nat) : List Int := (List.range m).map (dv l)
def pL (l : List Sr) (m k : Nat) : List Int := (List.range m).map fun i => if i ≤ k then pv l i else dv l i
theorem dL_len (l : List Sr) (m : Nat) : (dL l m).length = m := by simp [dL]
theorem pL_len (l : List Sr) (m k : Nat) : (pL l m k).length = m := by simp [pL]
theorem dL_get (l : List Sr) (m i : Nat) (h : i < m) : (dL l m)[i]? = some (dv l i) := by simp [dL, h]
theorem pL_get (l : List Sr) (m k i : Nat) (h : i < m) : (pL l m k)[i]? = some (if i ≤ k then pv l i else dv l i) := by simp [pL, h]
theorem dL_nil (m : Nat) : dL [] m = List.replicate m 0 := by
  apply List.ext_getElem?
  intro i
  by_cases h : i < m
  · rw [dL_get _ _ _ h, List.getElem?_replicate, if_pos h]; rfl
  · rw [List.getElem?_eq_none (by rw [dL_len]; omega), List.getElem?_eq_none (by simp; omega)]
theorem dL_step (l : List Sr) (s : Sr) (m f t : Nat) (hf : s.run.fr = (f : Int)) (ht : s.run.to = (t : Int)) (hft : f < t) (htm : t < m) : ((dL l m).set f (dv l f + 1)).set t (dv l t - 1) = dL (l ++ [s]) m := by
  apply List.ext_getElem?
  intro i
  by_cases h : i < m
  · rw [dL_get _ _ _ h, dv_snoc, hf, ht]
    by_cases e1 : i = t
    · subst e1
      rw [List.getElem?_set_self (by rw [List.length_set, dL_len]; exact h), if_neg (by omega), if_pos rfl]
      congr 1; omega
    · rw [List.getElem?_set_ne (Ne.symm e1)]
      by_cases e2 : i = f
      · subst e2
        rw [List.getElem?_set_self (by rw [dL_len]; exact h), if_pos rfl, if_neg (by omega)]
        congr 1; omega
      · rw [List.getElem?_set_ne (Ne.symm e2), dL_get _ _ _ h, if_neg (by omega), if_neg (by omega)]
        congr 1; omega
  · rw [List.getElem?_eq_none (by simp [dL_len]; omega), List.getElem?_eq_none (by rw [dL_len]; omega)]
theorem dL_two (l : List Sr) (s : Sr) (m f t : Nat) (hf : s.run.fr = (f : Int)) (ht : s.run.to = (t : Int)) (hft : f ≤ t) (htm : t < m) :
    ∃ zt, ((dL l m).set f (dv l f + 1))[t]? = some zt ∧ -(l.length : Int) - 1 ≤ zt ∧ zt ≤ l.length + 1 ∧ ((dL l m).set f (dv l f + 1)).set t (zt - 1) = dL (l ++ [s]) m := by
  have h1 := dv_bd l f
  have h2 := dv_bd l t
  by_cases e : f < t
  · exact ⟨dv l t, by rw [List.getElem?_set_ne (by omega), dL_get _ _ _ htm], by omega, by omega, dL_step l s m f t hf ht e htm⟩
  · obtain rfl : f = t := by omega
    refine ⟨dv l f + 1, by rw [List.getElem?_set_self (by rw [dL_len]; exact htm)], by omega, by omega, ?_⟩
    apply List.ext_getElem?
    intro i
    by_cases h : i < m
    · rw [dL_get _ _ _ h, dv_snoc, hf, ht]
      by_cases e1 : i = f
      · subst e1
        rw [List.getElem?_set_self (by rw [List.length_set, dL_len]; exact h), if_pos rfl]
      · rw [List.getElem?_set_ne (Ne.symm e1), List.getElem?_set_ne (Ne.symm e1), dL_get _ _ _ h, if_neg (by omega)]
        congr 1; omega
    · rw [List.getElem?_eq_none (by simp [dL_len]; omega), List.getElem?_eq_none (by rw [dL_len]; omega)]
theorem pL_start (l : List Sr) (m : Nat) (h : ∀ s ∈ l, 0 ≤ s.run.fr ∧ s.run.fr ≤ s.run.to) : pL l m 0 = dL l m := by
  unfold pL dL
  apply List.map_congr_left
  intro i _
  by_cases e : i = 0
  · subst e; rw [if_pos (Nat.le_refl _), pv_zero l h]
  · rw [if_neg (by omega)]
theorem pL_step (l : List Sr) (m k : Nat) (h : k + 1 < m) : (pL l m k).set (k + 1) (pv l (k + 1)) = pL l m (k + 1) := by
  apply List.ext_getElem?
  intro i
  by_cases hi : i < m
  · rw [pL_get _ _ _ _ hi]
    by_cases e : i = k + 1
    · subst e
      rw [List.getElem?_set_self (by rw [pL_len]; exact h), if_pos (Nat.le_refl _)]
    · rw [List.getElem?_set_ne (Ne.symm e), pL_get _ _ _ _ hi]
      by_cases e2 : i ≤ k
      · rw [if_pos e2, if_pos (by omega)]
      · rw [if_neg e2, if_neg (by omega)]
  · rw [List.getElem?_eq_none (by simp [pL_len]; omega), List.getElem?_eq_none (by rw [pL_len]; omega)]
theorem at_worldX {P : Program} {ops : Array Oper} {rest : List Oper} {a : Act} {W : World} {Q : Exit → Act → World → Prop} (S : World → Prop) (h0 : S W) (h : ∀ X, S X → wpList P ops Q rest a X) : wpList P ops Q rest a W := h W h0
/-- numbers are what a block holds -/
def IsB (X : World) (G : Nat) (zs : List Int) : Prop := Whole X G 3 (zs.map (Value.int .i64))
theorem IsB.lt {X : World} {G : Nat} {zs : List Int} (h : IsB X G zs) : G < X.heap.size := Whole.lt h
theorem IsB.cell {X : World} {G : Nat} {zs : List Int} (h : IsB X G zs) (i : Nat) (z : Int) (hz : zs[i]? = some z) : X.cell? ⟨G, i, none⟩ = some (.int .i64 z) := by
  rw [Whole.cellAt h, List.getElem?_map, hz]; rfl
theorem IsB.set {X : World} {G : Nat} {zs : List Int} (h : IsB X G zs) (i : Nat) (z : Int) : IsB (X.setCell ⟨G, i, none⟩ (.int .i64 z)) G (zs.set i z) := by
  have := Whole.set h i (.int .i64 z)
  unfold IsB
  rwa [List.map_set]
theorem Try.infoIntB : (Try.prog.info? 3).map (fun i => (i.zero, i.size, i.bytes)) = some (some (.int .i64 0), 1, 8) := by kernel_rfl
theorem make_ints (m : Nat) (hm : m ≤ 1000000) (w : World) : (Instr.makeSlice 95 (.int .i64 (m : Int)) (.int .i64 (m : Int))).run Try.prog w = .ok (.slice (some ⟨w.heap.size, 0, none⟩) m m) (w.alloc (.cells ((List.replicate m (0 : Int)).map (Value.int .i64)).toArray 3)) := by
  cases hi : Try.prog.info? 3 with
  | none => have := Try.infoIntB; rw [hi] at this; cases this
  | some i =>
    have h := Try.infoIntB
    rw [hi] at h
    simp only [Option.map_some, Option.some.injEq, Prod.mk.injEq] at h
    obtain ⟨hz, h1, h2⟩ := h
    have hr := run_make (P := Try.prog) w 95 3 i _ Try.underlying95 hi hz .i64 .i64 m m (by omega) (by omega) (by rw [h2]; omega) (by omega)
    rw [hr, h1]
    simp only [Int.toNat_natCast]
    have e : ∀ z : Int, ([Value.int .i64 z] : List Value).length = 1 := fun _ => rfl
    have hf := made_flatL (cells := fun z : Int => [Value.int .i64 z]) e 0 m
    have e2 : ∀ l : List Int, l.flatMap (fun z : Int => [Value.int .i64 z]) = l.map (Value.int .i64) := fun l => by
      induction l with
      | nil => rfl
      | cons a l ih => rw [List.flatMap_cons, ih]; rfl
    rw [e2] at hf
    rw [← hf]
    rfl
set_option maxRecDepth 100000 in
set_option maxHeartbeats 8000000 in
theorem counts_any (n : Nat) (p : Option Addr) (m c : Nat) (ss : List Sr) (W : World) (hr : RowsK Sr.cells 20 W (.slice p m c) ss) (hn : n ≤ 10000) (hm2 : m ≤ 1000000) (hs : ∀ s ∈ ss, 0 ≤ s.run.fr ∧ s.run.fr ≤ s.run.to ∧ s.run.to ≤ (n : Int)) :
    Calls Try.prog 75 #[.int .i64 (n : Int), .slice p m c] W fun e X => e = .returned (.slice (some ⟨W.heap.size, 0, none⟩) n (n + 1)) ∧ IsB X W.heap.size (pL ss (n + 1) n) ∧ Below W.heap.size W X := by
  have hm : ss.length = m := hr.len
  have HAT : Hid (∀ X, Below W.heap.size W X → ∀ j c, ss[j]? = some c → ∃ g o, p = some ⟨g, o, none⟩ ∧ g < W.heap.size ∧ ∀ q v, c.cells[q]? = some v → X.cell? ⟨g, o + j * 20 + q, none⟩ = some v) := Lib.hid fun X hX j c hj => by
    obtain ⟨g, o, e, hg, hc⟩ := hr.at j c hj
    exact ⟨g, o, e, hg, fun q v hv => (hX.cell (p := ⟨g, o + j * 20 + q, none⟩) hg).trans (hc q v hv)⟩
  have HM := Lib.hid hm
  have HS := Lib.hid hs
  obtain ⟨k, hk⟩ : ∃ k, k = n + 1 := ⟨_, rfl⟩
  rw [← hk]
  have hwk : IntKind.i64.wrap ((n : Int) + 1) = (k : Int) := by rw [IntKind.wrap_i64]; omega
  have hmk := make_ints k (by omega) W
  have HKN := Lib.hid hk
  obtain ⟨zc, hzc⟩ : ∃ zc, ((List.replicate k (0 : Int)).map (Value.int .i64)).toArray = zc := ⟨_, rfl⟩
  have K0 : Hid (IsB (W.alloc (.cells zc 3)) W.heap.size (dL (ss.take 0) k)) := Lib.hid (by
    rw [List.take_zero, dL_nil, ← hzc]
    exact whole_new W _ 3 _ rfl)
  have B0 : Hid (Below W.heap.size W (W.alloc (.cells zc 3))) := Lib.hid ((Below.refl _ W).alloc (Nat.le_refl _) _)
  rw [hzc] at hmk
  obtain ⟨G, hG⟩ : ∃ G, G = W.heap.size := ⟨_, rfl⟩
  have HG := Lib.hid hG
  rw [← hG] at hmk K0
  clear hr hm hzc hs hk
  go_enter Try.func75, Try.ntmps75
  go_wp2
  try rw [← hG]
  clear hmk hG
  generalize W.alloc (.cells zc 3) = W1 at K0 B0 ⊢
  go_loopw [14] (fun s14 X => ∃ i : Nat, i ≤ m ∧ s14 = .int .i64 (i : Int) ∧ Hid (IsB X G (dL (ss.take i) k)) ∧ Hid (Below W.heap.size W X)) (fun s14 _ => m - (intOf s14).toNat)
  case atStart => exact ⟨0, Nat.zero_le _, rfl, K0, B0⟩
  case round =>
    clear K0 B0
    obtain ⟨i, hi, rfl, HL, HB⟩ := hrel
    by_cases hlt : i < m
    · obtain ⟨x, hx⟩ : ∃ x, ss[i]? = some x := ⟨_, List.getElem?_eq_getElem (by rw [HM.out]; exact hlt)⟩
      obtain ⟨g, o, rfl, lg0, hcs⟩ := HAT.out wr HB.out i x hx
      obtain ⟨x1, x2, x3⟩ := HS.out x (List.mem_of_getElem? hx)
      obtain ⟨f, hf⟩ : ∃ f : Nat, x.run.fr = (f : Int) := ⟨x.run.fr.toNat, by omega⟩
      obtain ⟨t, ht⟩ : ∃ t : Nat, x.run.to = (t : Int) := ⟨x.run.to.toNat, by omega⟩
      rw [hf] at x1 x2
      rw [ht] at x2 x3
      have hkn := HKN.out
      have htk : t < k := by omega
      have hfk : f < k := by omega
      have hfi : (f : Int) < (k : Int) := by omega
      have hti : (t : Int) < (k : Int) := by omega
      obtain ⟨zt, hz1, hz2, hz3, hz4⟩ := dL_two (ss.take i) x k f t hf ht (by omega) htk
      have HST : Hid (((dL (ss.take i) k).set f (dv (ss.take i) f + 1)).set t (zt - 1) = dL (ss.take (i + 1)) k) := Lib.hid (by
        rw [hz4, List.take_add_one, hx]; rfl)
      have hd1 := dv_bd (ss.take i) f
      have hll : (ss.take i).length ≤ 1000000 := by rw [List.length_take]; omega
      have lG := HL.out.lt
      have HGF : Hid ((dL (ss.take i) k)[f]? = some (dv (ss.take i) f) ∧ ((dL (ss.take i) k).set f (dv (ss.take i) f + 1))[t]? = some zt) := Lib.hid ⟨dL_get _ _ _ hfk, hz1⟩
      have lg : g < wr.heap.size := Nat.lt_of_lt_of_le lg0 HB.out.size
      have hgG : g ≠ G := by have := HG.out; omega
      have LN : Hid (∀ j v, x.cells.toArray[j]? = some v → wr.cell? ((⟨g, o + i * 20, none⟩ : Addr).add j) = some v) := Lib.hid (fun j v hj => by rw [add_plainC]; exact hcs j v (by simpa using hj))
      have iN : Hid ((Try.prog.info? 99).map (·.size) = some x.cells.toArray.size) := Lib.hid (by rw [Try.infoSrN]; simp [Sr.cells_len])
      have oN := Lib.hid (Sr.one x)
      have zN : Hid (Sr.zero.cells.toArray.size = x.cells.toArray.size) := Lib.hid (by simp [Sr.cells_len])
      have HXC : Hid (x.cells[0]? = some (.int .i64 (f : Int)) ∧ x.cells[1]? = some (.int .i64 (t : Int))) := Lib.hid ⟨by rw [← hf]; rfl, by rw [← ht]; rfl⟩
      obtain ⟨xs, hxs⟩ : ∃ xs, x.cells = xs := ⟨_, rfl⟩
      rw [hxs] at LN iN oN zN HXC
      obtain ⟨cs, hcs2⟩ : ∃ cs, xs.toArray = cs := ⟨_, rfl⟩
      rw [hcs2] at LN iN oN zN
      have HCE := Lib.hid hcs2
      clear hcs2 hxs
      clear hcs hx hkn
      have w1 : IntKind.i64.wrap (dv (ss.take i) f + 1) = dv (ss.take i) f + 1 := by rw [IntKind.wrap_i64]; omega
      have w2 : IntKind.i64.wrap (zt - 1) = zt - 1 := by rw [IntKind.wrap_i64]; omega
      clear hz1 hz4
      generalize dv (ss.take i) f = zf at *
      go_wp2_with (first
        | (refine wpList_loadC rfl 99 (.tmp 16) rfl _ rfl cs _ LN.out Try.underlying99 rfl iN.out ?_)
        | (refine wpList_store_row rfl 99 (.tmp 7) (.tmp 17) rfl _ cs rfl rfl 99 Sr.zero.cells.toArray (whole_new wr Sr.zero.cells 99 _ rfl) iN.out zN.out oN.out ?_; refine at_worldX (fun X => Whole X wr.heap.size 99 xs ∧ Below wr.heap.size wr X) ⟨by rw [← HCE.out]; exact whole_rowA (whole_new wr Sr.zero.cells 99 _ rfl) _, ((Below.refl _ wr).alloc (Nat.le_refl _) _).trans (below_setRow (Below.refl _ _) _ _ (Nat.le_refl _))⟩ (fun X hX => ?_); obtain ⟨KX, BX⟩ := hX; have KXX := Lib.hid KX; have BXX := Lib.hid BX; clear KX BX LN oN zN iN; have c0 := KXX.out.cellAt 0; rw [HXC.out.1] at c0; have l7 := KXX.out.lt; have HLX : Hid (IsB X G (dL (ss.take i) k)) := Lib.hid (Whole.below HL.out BXX.out lG); have yX := HLX.out.cell f _ HGF.out.1; have fX := Whole.free HLX.out f; have lX := HLX.out.lt; have H2X := Lib.hid (HLX.out.set f (zf + 1)); have c1 := (Whole.other KXX.out ⟨G, f, none⟩ (.int .i64 (zf + 1)) (show wr.heap.size ≠ G by omega)).cellAt 1; rw [HXC.out.2] at c1; have yT : (X.setCell ⟨G, f, none⟩ (.int .i64 (zf + 1))).cell? ⟨G, t, none⟩ = some (.int .i64 zt) := H2X.out.cell t _ HGF.out.2; have fT := Whole.free H2X.out t; have l8 : G < (X.setCell ⟨G, f, none⟩ (.int .i64 (zf + 1))).heap.size := H2X.out.lt; have l9 : wr.heap.size < (X.setCell ⟨G, f, none⟩ (.int .i64 (zf + 1))).heap.size := (Whole.other KXX.out ⟨G, f, none⟩ (.int .i64 (zf + 1)) (show wr.heap.size ≠ G by omega)).lt)
        | fail)
      have H3 : Hid (IsB ((X.setCell ⟨G, f, none⟩ (.int .i64 (zf + 1))).setCell ⟨G, t, none⟩ (.int .i64 (zt - 1))) G (dL (ss.take (i + 1)) k)) := Lib.hid (by rw [← HST.out]; exact H2X.out.set t (zt - 1))
      have HB3 : Hid (Below W.heap.size W ((X.setCell ⟨G, f, none⟩ (.int .i64 (zf + 1))).setCell ⟨G, t, none⟩ (.int .i64 (zt - 1)))) := Lib.hid (((HB.out.trans (BXX.out.mono HB.out.size)).setCell (p := ⟨G, f, none⟩) (by rw [HG.out]; exact Nat.le_refl _) _).setCell (p := ⟨G, t, none⟩) (by rw [HG.out]; exact Nat.le_refl _) _)
      go_roundw
      case rel => exact ⟨i + 1, by omega, by go_num, H3, HB3⟩
      case measure => simp [intOf]; omega
    · obtain rfl : m = i := by omega
      have hss : ss.take m = ss := List.take_of_length_le (by rw [HM.out]; exact Nat.le_refl _)
      have K2 : Hid (IsB wr G (pL ss k 0)) := Lib.hid (by rw [pL_start ss k (fun s h => ⟨(HS.out s h).1, (HS.out s h).2.1⟩)]; have h := HL.out; rwa [hss] at h)
      have B2 := HB
      clear HL HB hss
      have hm3 : (ss.length : Int) ≤ 1000000 := by rw [HM.out]; omega
      have HLM := Lib.hid hm3
      clear hm3
      have mixed : Try.prog.follows Departure.mixedOrders = true := by kernel_rfl
      have hkn : k = n + 1 := HKN.out
      go_wp2
      go_loopw [36] (fun s36 X => ∃ b : Nat, b ≤ n ∧ s36 = .int .i64 (b : Int) ∧ Hid (IsB X G (pL ss k b)) ∧ Hid (Below W.heap.size W X)) (fun s36 _ => n - (intOf s36).toNat)
      case atStart => exact ⟨0, Nat.zero_le _, rfl, K2, B2⟩
      case round =>
        obtain ⟨b, hb, rfl, HL, HB⟩ := hrel
        clear K2 B2
        by_cases hlt2 : b < n
        · have hbk : b + 1 < k := by omega
          have g0 := pL_get ss k b b (by omega)
          have g1 := pL_get ss k b (b + 1) hbk
          rw [if_pos (Nat.le_refl _)] at g0
          rw [if_neg (by omega)] at g1
          have HST := Lib.hid (pL_step ss k b hbk)
          have hps := pv_succ ss b
          have e1 := dv_bd ss (b + 1)
          have e2 := pv_bd ss b
          have h3 := HLM.out
          have hw : IntKind.i64.wrap (dv ss (b + 1) + pv ss b) = pv ss (b + 1) := by rw [IntKind.wrap_i64, ← hps]; have := pv_bd ss (b + 1); omega
          have hwb : IntKind.i64.wrap ((b : Int) + 1) = ((b + 1 : Nat) : Int) := by rw [IntKind.wrap_i64]; omega
          have y0 := HL.out.cell b _ g0
          have y1 := HL.out.cell (b + 1) _ g1
          have f1 := Whole.free HL.out (b + 1)
          have lG := HL.out.lt
          generalize dv ss (b + 1) = z1 at *
          generalize pv ss b = z0 at *
          generalize pv ss (b + 1) = z2 at *
          obtain ⟨b1, hb1⟩ : ∃ b1, b1 = b + 1 := ⟨_, rfl⟩
          rw [← hb1] at hbk hwb y1 f1 HST
          have HB1 := Lib.hid hb1
          have hbi : (b : Int) < (k : Int) := by omega
          have hbi1 : (b1 : Int) < (k : Int) := by omega
          have hbn : (b : Int) < (n : Int) := by omega
          clear g0 g1 hps e1 e2 h3 hb1 hkn
          go_wp2_with fail
          go_big_region_o
          have H4 : Hid (IsB (wr.setCell ⟨G, b1, none⟩ (.int .i64 z2)).drew G (pL ss k b1)) := Lib.hid (Whole.below (by rw [← HST.out]; exact HL.out.set b1 z2) (below_dn _ _ 1) (by simpa using lG))
          have B4 : Hid (Below W.heap.size W (wr.setCell ⟨G, b1, none⟩ (.int .i64 z2)).drew) := Lib.hid ((HB.out.setCell (p := ⟨G, b1, none⟩) (by rw [HG.out]; exact Nat.le_refl _) _).trans (below_dn _ _ 1))
          clear HST y0 y1 f1 lG HL HB
          generalize (wr.setCell ⟨G, b1, none⟩ (.int .i64 z2)).drew = w5 at *
          go_wp2
          go_roundw
          case rel => exact ⟨b1, by have := HB1.out; omega, by rw [← hwb], H4, B4⟩
          case measure => have := HB1.out; simp [intOf]; omega
        · obtain rfl : n = b := by omega
          have hnk : n ≤ k := by omega
          have hnk2 : (n : Int) ≤ (k : Int) := by omega
          clear hkn
          go_wp2
          go_ret
          exact ⟨by rw [HG.out]; rfl, by rw [← HG.out]; exact HL.out, HB.out⟩
end Go.Proofs.Ytceippgkmoijdaa
