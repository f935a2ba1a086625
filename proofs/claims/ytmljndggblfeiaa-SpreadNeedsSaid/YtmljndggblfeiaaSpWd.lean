/- Contracts of spread.widthsOf and (spread.widths).of. -/
import Derived.Test.YtmljndggblfeiaaMul
import Derived.Test.YtmljndggblfeiaaKBand
import Derived.Test.YtmljndggblfeiaaKApp
import Derived.Maps.AppendAt
import Derived.Laws.ResultCell
namespace Go.Proofs.Ytmljndggblfeiaa
open Go.RowKit Go.Shelf
set_option linter.unusedVariables false
set_option linter.unusedSimpArgs false
attribute [local go_sem] Oper.semAt_some

/-- two lists of numbers that grow, in blocks of their own from B on -/
structure TwoS (B : Nat) (W X : World) (A C : List Int) (v w : Value) : Prop where
  lo : Below W.heap.size W X
  oa : X.ownsRow B 2 1 v A.length (A.map (Value.int .i64))
  oc : X.ownsRow B 2 1 w C.length (C.map (Value.int .i64))
  ne : ∀ g, v.ownBlock = some g → w.ownBlock ≠ some g
theorem TwoS.below {B : Nat} {W X Y : World} {A C : List Int} {v w : Value} (h : TwoS B W X A C v w) (hb : Below X.heap.size X Y) : TwoS B W Y A C v w :=
  ⟨h.lo.trans (hb.mono h.lo.size), own_belowK h.oa hb, own_belowK h.oc hb, h.ne⟩
theorem own_setLow {X : World} {B e s n : Nat} {v : Value} {xs : List Value} (h : X.ownsRow B e s v n xs) (b o : Nat) (u : Value) (hb : b < B) : (X.setCell ⟨b, o, none⟩ u).ownsRow B e s v n xs := by
  refine ⟨h.1, ?_⟩
  rcases h.2 with hn | ⟨g, cap, cur, rfl, hbg, hgg, rest⟩
  · exact .inl hn
  · exact .inr ⟨g, cap, cur, rfl, hbg, (Below.heap_setCell X ⟨b, o, none⟩ u g (by show g ≠ b; omega)).trans hgg, rest⟩
theorem TwoS.set {B : Nat} {W X : World} {A C : List Int} {v w : Value} (h : TwoS B W X A C v w) (b o : Nat) (u : Value) (hb : b < B) (hw : W.heap.size ≤ b) : TwoS B W (X.setCell ⟨b, o, none⟩ u) A C v w :=
  ⟨h.lo.setCell (p := ⟨b, o, none⟩) hw u, own_setLow h.oa b o u hb, own_setLow h.oc b o u hb, h.ne⟩
theorem TwoS.appA {B : Nat} {W X X1 : World} {A C : List Int} {v w v' : Value} {z : Int} (h : TwoS B W X A C v w) (hB : W.heap.size ≤ B) (o : Obj) (ho : X1.ownsRow B 2 1 v' (A.length + 1) (A.map (Value.int .i64) ++ [.int .i64 z]))
    (hg : (X.alloc o).grownBy X1 v.ownBlock) (hat : v'.ownBlock = v.ownBlock ∨ v'.ownBlock = some (X.alloc o).heap.size) : TwoS B W X1 (A ++ [z]) C v' w := by
  have hs := h.lo.size
  refine ⟨(h.lo.alloc hs o).grown hg (by simp; omega) (fun j e => by have := (h.oa.lt j e).1; omega), by simpa using ho, (h.oc.alloc o).kept hg ?_, fun g e => ?_⟩
  · cases hv : w.ownBlock with
    | none => exact .inl rfl
    | some g9 => right; intro e; exact h.ne g9 e.symm hv
  · rcases hat with e2 | e2
    · exact h.ne g (e2 ▸ e)
    · rw [e2] at e; injection e with e; subst e
      intro e3
      have := (h.oc.lt _ e3).2; simp at this; omega
theorem TwoS.appC {B : Nat} {W X X1 : World} {A C : List Int} {v w w' : Value} {z : Int} (h : TwoS B W X A C v w) (hB : W.heap.size ≤ B) (o : Obj) (ho : X1.ownsRow B 2 1 w' (C.length + 1) (C.map (Value.int .i64) ++ [.int .i64 z]))
    (hg : (X.alloc o).grownBy X1 w.ownBlock) (hat : w'.ownBlock = w.ownBlock ∨ w'.ownBlock = some (X.alloc o).heap.size) : TwoS B W X1 A (C ++ [z]) v w' := by
  have hs := h.lo.size
  refine ⟨(h.lo.alloc hs o).grown hg (by simp; omega) (fun j e => by have := (h.oc.lt j e).1; omega), (h.oa.alloc o).kept hg ?_, by simpa using ho, fun g e e2 => ?_⟩
  · cases hv : v.ownBlock with
    | none => exact .inl rfl
    | some g8 => right; intro e; exact h.ne g8 hv e.symm
  · rcases hat with e3 | e3
    · exact h.ne g e (e3 ▸ e2)
    · rw [e3] at e2; injection e2 with e2; subst e2
      have := (h.oa.lt _ e).2; simp at this; omega
/-- what spread.widthsOf hands back: two slices -/
structure WdAt (W X : World) (m gl gm : Nat) (sl sm : List Value) (v w : Value) (d : Wd) : Prop where
  lo : Below W.heap.size W X
  vl : ∃ c, v = .slice (some ⟨gl, 0, none⟩) m c ∧ m ≤ c ∧ c ≤ 9223372036854775807
  vm : ∃ c, w = .slice (some ⟨gm, 0, none⟩) m c ∧ m ≤ c ∧ c ≤ 9223372036854775807
  rl : IRow X gl d.lo sl
  rm : IRow X gm d.hi sm
  ne : gl ≠ gm
  bl : W.heap.size ≤ gl
  bm : W.heap.size ≤ gm
theorem TwoS.wd {B m : Nat} {W X : World} {A C : List Int} {v w : Value} (h : TwoS B W X A C v w) (hB : W.heap.size ≤ B) (hm : 1 ≤ m) (ha : A.length = m) (hc : C.length = m) : ∃ gl gm sl sm, WdAt W X m gl gm sl sm v w ⟨A, C⟩ := by
  obtain ⟨g1, c1, s1, rfl, b1, d1, e1, f1⟩ := made_row (show Made .i64 2 B X v A from h.oa) (by omega)
  obtain ⟨g2, c2, s2, rfl, b2, d2, e2, f2⟩ := made_row (show Made .i64 2 B X w C from h.oc) (by omega)
  have hn := h.ne g1 rfl
  have hne : g1 ≠ g2 := fun e => hn (by rw [e]; rfl)
  exact ⟨g1, g2, s1, s2, h.lo, ⟨c1, by rw [ha], by omega, e1⟩, ⟨c2, by rw [hc], by omega, e2⟩, f1, f2, hne, by omega, by omega⟩
/-- a number appended to a list of its own -/
theorem wpList_appI {ops : Array Oper} {rest : List Oper} {o : Oper} {a : Act} {w : World} {Q : Exit → Act → World → Prop} (dst : Option Tmp) (hd : o.dst = dst) (hgd : o.guard = none) (s x : Operand)
    (ho : o.op = .call { callee := .builtin .append, args := #[s, x], argTypes := #[41, 41] }) (B : Nat) (v : Value) (zs : List Int) (hs : a.eval s = v)
    (hown : w.ownsRow B 2 1 v zs.length (zs.map (Value.int .i64))) (g : Nat) (z : Int) (hx : a.eval x = .slice (some ⟨g, 0, none⟩) 1 1) (hz : w.cell? ⟨g, 0, none⟩ = some (.int .i64 z)) (hl : zs.length ≤ 1000000) (hB : B ≤ w.heap.size)
    (h : ∀ v' w', w'.ownsRow B 2 1 v' (zs.length + 1) (zs.map (Value.int .i64) ++ [.int .i64 z]) → w.grownBy w' v.ownBlock → (v'.ownBlock = v.ownBlock ∨ v'.ownBlock = some w.heap.size) → wpList Try.prog ops Q rest (a.put dst v') w') :
    wpList Try.prog ops Q (o :: rest) a w := by
  obtain ⟨i0, hi, hz0, hz1, hz2⟩ := info_parts Try.infoI64
  subst hd
  refine wpList_append_own_at _ hgd s x 41 ho B 2 i0 (.int .i64 0) 1 8 Try.underlying41 hi hz0 hz1 hz2 rfl (by decide) v zs.length _ hs hown ⟨g, 0, none⟩ 1 1 [.int .i64 z] hx rfl
    (fun j u hj => ?_) (by simp [Value.oneCell']) (by unfold maxLen; omega) (by omega) hB fun v' w' h1 h2 _ h4 => h v' w' h1 h2 h4
  cases j with
  | zero => simp only [List.getElem?_cons_zero, Option.some.injEq] at hj; rw [add_plainC, ← hj]; exact hz
  | succ j => simp at hj
theorem map_take_succB (bs : List Ba) (f : Ba → Int) (k : Nat) (b : Ba) (h : bs[k]? = some b) : (bs.take (k + 1)).map f = (bs.take k).map f ++ [f b] := by
  rw [List.take_add_one, h]; simp

theorem results_wdK {fn : Func} {W : World} {g n : Nat} {x y : Value} {tmps : Array Value} (hf : fn.results = #[.cell n 47]) (ht : tmps.getD n undef = .pointer (some ⟨g, 0, none⟩)) (h : Whole W g 47 [x, y]) :
    (results fn tmps).run Try.prog W = .ok (.agg #[x, y]) W :=
  results_cell_row hf tmps W g 47 #[x, y] (0, 0) _ ht h Try.underlying47 rfl (by kernel_rfl)
set_option maxRecDepth 100000 in
set_option maxHeartbeats 4000000 in
theorem widthsOf_any (p : Option Addr) (m c : Nat) (bs : List Ba) (W : World) (hr : RowsK Ba.cells 4 W (.slice p m c) bs) (hm : m ≤ 10000) :
    Calls Try.prog 16 #[.slice p m c] W fun e X => ∃ v w, e = .returned (.agg #[v, w]) ∧ TwoS (W.heap.size + 2) W X (wdOf bs).lo (wdOf bs).hi v w := by
  obtain ⟨i0, hi, hz0, hz1, hz2⟩ := info_parts Try.infoI64
  have HL := Lib.hid hr.len
  have HAT := Lib.hid (fun k s h => hr.at k s h)
  clear hr
  obtain ⟨W1, hW1⟩ : ∃ W1, (W.alloc (.cells #[.slice none 0 0, .slice none 0 0] 47)).alloc (.cells #[.slice none 0 0, .slice none 0 0] 47) = W1 := ⟨_, rfl⟩
  have hsz : W1.heap.size = W.heap.size + 2 := by rw [← hW1]; simp
  have HB1 : Hid (Below W.heap.size W W1) := Lib.hid (by rw [← hW1]; exact ((Below.refl _ W).alloc (Nat.le_refl _) _).alloc (by simp) _)
  have K2 : Hid (Whole W1 W.heap.size 47 [.slice none 0 0, .slice none 0 0]) := Lib.hid (by rw [← hW1]; exact (whole_new W _ _ _ rfl).alloc _)
  have K3 : Hid (Whole W1 (W.heap.size + 1) 47 [.slice none 0 0, .slice none 0 0]) := Lib.hid (by rw [← hW1]; exact whole_new _ _ _ _ (by simp))
  go_enter Try.func16, Try.ntmps16
  go_wp2_with fail
  try rw [hW1]
  obtain ⟨b2, hb2⟩ : ∃ b, b = W.heap.size := ⟨_, rfl⟩
  obtain ⟨b3, hb3⟩ : ∃ b, b = W.heap.size + 1 := ⟨_, rfl⟩
  obtain ⟨B, hB⟩ : ∃ b, b = W.heap.size + 2 := ⟨_, rfl⟩
  rw [← hb2] at K2
  rw [← hb3] at K3
  have T0 : Hid (TwoS B W W1 ((bs.take 0).map (·.mn)) ((bs.take 0).map (·.mx)) (.slice none 0 0) (.slice none 0 0)) := Lib.hid ⟨HB1.out, World.ownsRow_nil _ _ _ _, World.ownsRow_nil _ _ _ _, fun g e => by cases e⟩
  have HWB : Hid (W.heap.size = b2 ∧ b2 + 1 = b3 ∧ b3 + 1 = B ∧ W.heap.size ≤ b3 ∧ W.heap.size + 2 = B) := Lib.hid (by omega)
  rw [← hb3]
  rw [← hb2]
  clear hW1 hb2 hb3 hB HB1 hsz
  go_loopw [8] (fun s8 X => ∃ (k : Nat) (v w : Value), k ≤ m ∧ s8 = .int .i64 (k : Int) ∧ Hid (Whole X b2 47 [.slice none 0 0, .slice none 0 0]) ∧ Hid (Whole X b3 47 [v, w]) ∧ Hid (TwoS B W X ((bs.take k).map (·.mn)) ((bs.take k).map (·.mx)) v w)) (fun s8 _ => m - (intOf s8).toNat)
  case atStart => exact ⟨0, _, _, Nat.zero_le _, rfl, K2, K3, T0⟩
  case round =>
    obtain ⟨k, v, w, hk, rfl, K2X, K3X, TX⟩ := hrel
    clear K2 K3 T0
    by_cases hlt : k < m
    · obtain ⟨s, hs⟩ : ∃ s, bs[k]? = some s := ⟨_, List.getElem?_eq_getElem (by rw [HL.out]; exact hlt)⟩
      obtain ⟨b, off, rfl, lb, hc⟩ := HAT.out k s hs
      have hbl := TX.out.lo
      have cc := fun i u (h : s.cells[i]? = some u) => (hbl.cell (p := ⟨b, off + k * 4 + i, none⟩) lb).trans (hc i u h)
      have HMN := Lib.hid (map_take_succB bs (·.mn) k s hs)
      have HMX := Lib.hid (map_take_succB bs (·.mx) k s hs)
      have hLA : ((bs.take k).map (·.mn)).length = k := by have := HL.out; simp; omega
      have hLC : ((bs.take k).map (·.mx)).length = k := by have := HL.out; simp; omega
      generalize (bs.take k).map (·.mn) = A at *
      generalize (bs.take k).map (·.mx) = C at *
      have HLA := Lib.hid hLA
      have HLC := Lib.hid hLC
      obtain ⟨mn, mx, sh, wt⟩ := s
      have q0 : wr.cell? ⟨b, off + k * 4, none⟩ = some (.int .i64 mn) := cc 0 _ rfl
      have q1 : wr.cell? ⟨b, off + k * 4 + 1, none⟩ = some (.int .i64 mx) := cc 1 _ rfl
      have q2 : wr.cell? ⟨b, off + k * 4 + 2, none⟩ = some (.int .i64 sh) := cc 2 _ rfl
      have q3 : wr.cell? ⟨b, off + k * 4 + 3, none⟩ = some (.int .i64 wt) := cc 3 _ rfl
      obtain ⟨V, hV⟩ : ∃ V, wr.alloc (.cells #[.int .i64 mn, .int .i64 mx, .int .i64 sh, .int .i64 wt] 39) = V := ⟨_, rfl⟩
      have K2V : Hid (Whole V b2 47 [.slice none 0 0, .slice none 0 0]) := Lib.hid (hV ▸ K2X.out.alloc _)
      have K3V : Hid (Whole V b3 47 [v, w]) := Lib.hid (hV ▸ K3X.out.alloc _)
      have TV : Hid (TwoS B W V A C v w) := Lib.hid (hV ▸ TX.out.below ((Below.refl _ wr).alloc (Nat.le_refl _) _))
      have K5 : Hid (Whole V wr.heap.size 39 [.int .i64 mn, .int .i64 mx, .int .i64 sh, .int .i64 wt]) := Lib.hid (hV ▸ whole_new wr [.int .i64 mn, .int .i64 mx, .int .i64 sh, .int .i64 wt] 39 _ rfl)
      have H3L : Hid (b3 < wr.heap.size) := Lib.hid K3X.out.lt
      have HVO : Hid (∀ g, v.ownBlock = some g → B ≤ g ∧ g < wr.heap.size) := Lib.hid (fun g e => TX.out.oa.lt g e)
      have HWO : Hid (∀ g, w.ownBlock = some g → B ≤ g ∧ g < wr.heap.size) := Lib.hid (fun g e => TX.out.oc.lt g e)
      clear hLA hLC cc hs hc hbl K2X K3X TX
      have c0 := K3V.out.cellAt 0
      have c1 := K3V.out.cellAt 1
      have d0 := K5.out.cellAt 0
      have d1 := K5.out.cellAt 1
      simp only [List.getElem?_cons_zero, List.getElem?_cons_succ] at c0 c1 d0 d1
      have l3 := K3V.out.lt
      have l5 := K5.out.lt
      go_wp2_with (at_builtin; refine Hid.out ?_)
      refine Lib.hid ?_
      refine wpList_appI (some 17) rfl rfl _ _ rfl B v A rfl (own_belowK TV.out.oa ((Below.refl _ V).alloc (Nat.le_refl _) (.cells #[.int .i64 mn] 2))) V.heap.size mn rfl (by simp) (by have := HLA.out; omega) (by have := TV.out.lo.size; have := HWB.out; have := K3V.out.lt; simp; omega) ?_
      intro v' w1 ho1 hg1 hat1
      obtain ⟨pa, na, ca, rfl⟩ := own_sliceK ho1
      have T1 := Lib.hid (TV.out.appA (by have := HWB.out; omega) (.cells #[.int .i64 mn] 2) ho1 hg1 hat1)
      have k3 : Whole w1 b3 47 [v, w] := (K3V.out.alloc (.cells #[.int .i64 mn] 2)).grown hg1 (fun e => by have := (HVO.out _ e).1; have := HWB.out; omega)
      have k2 : Whole w1 b2 47 [.slice none 0 0, .slice none 0 0] := (K2V.out.alloc (.cells #[.int .i64 mn] 2)).grown hg1 (fun e => by have := (HVO.out _ e).1; have := HWB.out; omega)
      have k5 : Whole w1 wr.heap.size 39 [.int .i64 mn, .int .i64 mx, .int .i64 sh, .int .i64 wt] := (K5.out.alloc (.cells #[.int .i64 mn] 2)).grown hg1 (fun e => by have := (HVO.out _ e).2; omega)
      have T2 := Lib.hid (T1.out.set b3 0 (.slice pa na ca) (by have := HWB.out; omega) (by have := HWB.out; omega))
      have k3' := k3.set 0 (.slice pa na ca)
      have k2' := k2.other ⟨b3, 0, none⟩ (.slice pa na ca) (by have := HWB.out; show b2 ≠ b3; omega)
      have k5' := k5.other ⟨b3, 0, none⟩ (.slice pa na ca) (by have := H3L.out; show wr.heap.size ≠ b3; omega)
      simp only [List.set_cons_zero] at k3'
      have n0 := k3.cellAt 0
      have n0f := k3.free 0
      simp only [List.getElem?_cons_zero] at n0
      have n3 := k3.lt
      have e1 := k3'.cellAt 1
      have e5 := k5'.cellAt 1
      simp only [List.getElem?_cons_zero, List.getElem?_cons_succ] at e1 e5
      have l3' := k3'.lt
      have l5' := k5'.lt
      have K3V2 := Lib.hid k3'
      have K2V2 := Lib.hid k2'
      clear c0 c1 d0 d1 l3 l5 K3V K2V K5 TV T1 k3' k2' k3 k2 k5
      go_wp2_with (at_builtin; refine Hid.out ?_)
      refine Lib.hid ?_
      obtain ⟨V2, hV2⟩ : ∃ V2, w1.setCell ⟨b3, 0, none⟩ (.slice pa na ca) = V2 := ⟨_, rfl⟩
      rw [hV2] at T2 K3V2 K2V2 l3' ⊢
      have h12 : w1.heap.size = V2.heap.size := by rw [← hV2]; simp
      try rw [h12]
      have HWO2 : Hid (∀ g, w.ownBlock = some g → B ≤ g) := Lib.hid (fun g e => (HWO.out g e).1)
      clear hV2 n0 n0f n3 k5' e1 e5 l5'
      refine wpList_appI (some 24) rfl rfl _ _ rfl B w C rfl (own_belowK T2.out.oc ((Below.refl _ V2).alloc (Nat.le_refl _) (.cells #[.int .i64 mx] 2))) V2.heap.size mx rfl (by simp) (by have := HLC.out; omega) (by have := T2.out.lo.size; have := HWB.out; simp; omega) ?_
      intro w' w2 ho2 hg2 hat2
      obtain ⟨pb, nb, cb, rfl⟩ := own_sliceK ho2
      have T3 := Lib.hid (T2.out.appC (by have := HWB.out; omega) (.cells #[.int .i64 mx] 2) ho2 hg2 hat2)
      have k3 : Whole w2 b3 47 [.slice pa na ca, w] := (K3V2.out.alloc (.cells #[.int .i64 mx] 2)).grown hg2 (fun e => by have := HWO2.out _ e; have := HWB.out; omega)
      have k2 : Whole w2 b2 47 [.slice none 0 0, .slice none 0 0] := (K2V2.out.alloc (.cells #[.int .i64 mx] 2)).grown hg2 (fun e => by have := HWO2.out _ e; have := HWB.out; omega)
      have T4 := Lib.hid (T3.out.set b3 1 (.slice pb nb cb) (by have := HWB.out; omega) (by have := HWB.out; omega))
      have K3F := Lib.hid (k3.set 1 (.slice pb nb cb))
      have K2F := Lib.hid (k2.other ⟨b3, 1, none⟩ (.slice pb nb cb) (by have := HWB.out; show b2 ≠ b3; omega))
      simp only [List.set_cons_succ, List.set_cons_zero] at K3F
      have n1 := k3.cellAt 1
      have n1f := k3.free 1
      simp only [List.getElem?_cons_zero, List.getElem?_cons_succ] at n1
      have n3 := k3.lt
      rw [← HMN.out, ← HMX.out] at T4
      clear k3 k2 T3 T2 K3V2 K2V2 l3' ho1 ho2 hg1 hg2 hat1 hat2 HMN HMX HLA HLC
      go_wp2
      go_roundw
      case rel => exact ⟨k + 1, _, _, by omega, by go_num, K2F, K3F, T4⟩
      case measure => simp [intOf]; omega
    · obtain rfl : k = m := by omega
      obtain ⟨pv, nv, cv, rfl⟩ := own_sliceK TX.out.oa
      obtain ⟨pw, nw, cw, rfl⟩ := own_sliceK TX.out.oc
      have e1 : Hid (bs.take k = bs) := Lib.hid (List.take_of_length_le (by have := HL.out; omega))
      rw [e1.out] at TX
      have c0 := K3X.out.cellAt 0
      have c1 := K3X.out.cellAt 1
      have d0 := K2X.out.cellAt 0
      have d1 := K2X.out.cellAt 1
      simp only [List.getElem?_cons_zero, List.getElem?_cons_succ] at c0 c1 d0 d1
      have f0 := K2X.out.free 0
      have f1 := K2X.out.free 1
      have l3 := K3X.out.lt
      have l2 := K2X.out.lt
      go_wp2
      have K2E := (K2X.out.set 0 (.slice pv nv cv)).set 1 (.slice pw nw cw)
      refine bodyPost_ret (results_wdK (g := b2) (x := .slice pv nv cv) (y := .slice pw nw cw) rfl rfl K2E) rfl ⟨_, _, rfl, ?_⟩
      have := (TX.out.set b2 0 (.slice pv nv cv) (by have := HWB.out; omega) (by have := HWB.out; omega)).set b2 1 (.slice pw nw cw) (by have := HWB.out; omega) (by have := HWB.out; omega)
      rw [HWB.out.2.2.2.2]
      exact this

/-- a need's own columns -/
theorem of_any (gl gm m cl cm : Nat) (s : Ne) (W : World) (h0 : 0 ≤ s.co) (h1 : 1 ≤ s.cs) (hm : s.co.toNat + s.cs.toNat ≤ m) (hcl : m ≤ cl) (hcm : m ≤ cm) (hb : m ≤ 10000) (hcl2 : cl ≤ 9223372036854775807) (hcm2 : cm ≤ 9223372036854775807) :
    Calls Try.prog 19 #[.agg #[.slice (some ⟨gl, 0, none⟩) m cl, .slice (some ⟨gm, 0, none⟩) m cm], .agg #[.int .i64 s.nd, .int .i64 s.ro, .int .i64 s.co, .int .i64 s.rs, .int .i64 s.cs]] W
      fun e X => e = .returned (.agg #[.slice (some ⟨gl, s.co.toNat, none⟩) s.cs.toNat s.cs.toNat, .slice (some ⟨gm, s.co.toNat, none⟩) s.cs.toNat s.cs.toNat]) ∧ Below W.heap.size W X := by
  obtain ⟨nd, ro, co, rs, cs, mn, mx, wt⟩ := s
  dsimp only at *
  obtain ⟨c, rfl⟩ : ∃ c : Nat, co = (c : Int) := ⟨co.toNat, by omega⟩
  obtain ⟨k, rfl⟩ : ∃ k : Nat, cs = (k : Int) := ⟨cs.toNat, by omega⟩
  simp only [Int.toNat_natCast] at *
  have hk : 1 ≤ k := by omega
  have hw : IntKind.i64.wrap ((c : Int) + (k : Int)) = ((c + k : Nat) : Int) := by rw [IntKind.wrap_i64]; omega
  have hck : c ≤ c + k := by omega
  have hck2 : c + k ≤ m := hm
  obtain ⟨nx, hnx⟩ : ∃ nx, nx = c + k := ⟨_, rfl⟩
  have mixed : Try.prog.follows Departure.mixedOrders = true := by kernel_rfl
  rw [← hnx] at hw hck hck2
  have e1 : nx - c = k := by omega
  have e2 : ¬ (nx = c) := by omega
  have e3 : (0 : Int) ≤ (c : Int) := by omega
  have e4 : (c : Int) ≤ (nx : Int) := by omega
  have e5 : (nx : Int) ≤ (cl : Int) := by omega
  have e6 : (nx : Int) ≤ (cm : Int) := by omega
  clear hnx
  go_enter Try.func19, Try.ntmps19
  go_wp2_with fail
  go_big_region_o
  all_goals go_wp2
  refine bodyPost_ret (results_wdK (g := W.heap.size + 1 + 1) rfl rfl (show Whole _ _ _ _ from whole_new _ [_, _] 47 _ (by simp))) rfl ⟨rfl, ?_⟩
  exact ((((Below.refl _ W).alloc (Nat.le_refl _) _).alloc (by simp) _).alloc (by simp; omega) _).trans (below_dn _ _ 1)
end Go.Proofs.Ytmljndggblfeiaa
