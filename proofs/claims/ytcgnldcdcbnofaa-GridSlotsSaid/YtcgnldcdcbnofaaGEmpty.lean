/- Contract of grid.Empty: the slots that nothing takes. -/
import Derived.Test.YtcgnldcdcbnofaaGOwners
namespace Go.Proofs.Ytcgnldcdcbnofaa
open Go.RowKit Go.Shelf Go.Maps
set_option linter.unusedVariables false
attribute [local go_sem] Oper.semAt_some

theorem Try.infoSlot : (Try.prog.info? 43).map (fun i => (i.zero, i.size, i.bytes)) = some (some (.agg #[.int .i64 0, .int .i64 0]), 2, 16) := by kernel_rfl
def slotC (s : Nat × Nat) : List Value := [.int .i64 (s.1 : Int), .int .i64 (s.2 : Int)]
def freeSl (ms : List ((Nat × Nat) × Nat)) (s : Nat × Nat) : Bool := !(ms.any fun e => e.1 == s)
def emptyL (rows cols : Nat) (L : List Pz) : List (Nat × Nat) := (slotsL ⟨0, 0, 0, rows, cols⟩).filter (freeSl (entL 0 L).reverse)
structure EW (w : World) (mb g : Nat) (ms : List ((Nat × Nat) × Nat)) (vl : Value) (ls : List (Nat × Nat)) (X : World) : Prop where
  lo : Below w.heap.size w X
  b8 : Whole X g 76 [.map (some mb)]
  mp : MapAt X mb ms
  bl : Whole X (g + 1) 40 [vl]
  ow : X.ownsRow (g + 1 + 1 + 1) 43 2 vl ls.length (ls.flatMap slotC)
theorem EW.grown {w X Y : World} {mb g : Nat} {ms : List ((Nat × Nat) × Nat)} {vl : Value} {ls : List (Nat × Nat)} {row : Option Nat} (h : EW w mb g ms vl ls X) (hg : X.grownBy Y row) (hr : NoCells X row) (hl : ∀ r, row = some r → w.heap.size ≤ r ∧ r ≠ mb) : EW w mb g ms vl ls Y :=
  ⟨h.lo.grown hg h.lo.size (fun r e => (hl r e).1), h.b8.grown hg (h.b8.ne hr), h.mp.kept hg (fun e => (hl mb e.symm).2 rfl), h.bl.grown hg (h.bl.ne hr), own_grown h.ow hg hr⟩
theorem EW.alloc {w X : World} {mb g : Nat} {ms : List ((Nat × Nat) × Nat)} {vl : Value} {ls : List (Nat × Nat)} (h : EW w mb g ms vl ls X) (o : Obj) : EW w mb g ms vl ls (X.alloc o) :=
  h.grown (World.grownBy_alloc X o none) (fun _ e => by cases e) (fun _ e => by cases e)
theorem EW.put {w X Y : World} {mb g : Nat} {ms : List ((Nat × Nat) × Nat)} {vl v' : Value} {ls : List (Nat × Nat)} {s : Nat × Nat} {o : Obj} (h : EW w mb g ms vl ls X) (hm : mb < g) (hw : w.heap.size ≤ g)
    (ho : Y.ownsRow (g + 1 + 1 + 1) 43 2 v' (ls.length + 1) (ls.flatMap slotC ++ slotC s)) (hg : (X.alloc o).grownBy Y vl.ownBlock) : EW w mb g ms v' (ls ++ [s]) (Y.setCell ⟨g + 1, 0, none⟩ v') := by
  have hA := h.alloc o
  have hlo : ∀ k, k < g + 1 + 1 + 1 → vl.ownBlock ≠ some k := fun k hk => own_low hA.ow hk
  refine ⟨below_set_at (own_below hA.lo hA.ow (by omega) hg hA.lo.size) _ _ _ (by omega), (hA.b8.grown hg (hlo _ (by omega))).oth _ _ _ (by omega), ?_, (hA.bl.grown hg (hlo _ (by omega))).set 0 _, ?_⟩
  · exact (hA.mp.kept hg (fun e => hlo mb (by omega) e.symm)).same (Below.heap_setCell Y _ _ mb (show mb ≠ g + 1 by omega))
  · have := own_setCell (o := 0) (u := v') ho (own_low ho (show g + 1 < g + 1 + 1 + 1 by omega))
    rw [List.flatMap_append, List.length_append]
    simpa using this
def EF (w : World) (mb g : Nat) (ms : List ((Nat × Nat) × Nat)) (pre : List (Nat × Nat)) (X : World) : Prop := ∃ p n c, EW w mb g ms (.slice p n c) (pre.filter (freeSl ms)) X
set_option maxRecDepth 100000 in
set_option maxHeartbeats 2000000 in
theorem empty_ok (v : Value) (rows cols : Nat) (L : List Pz) (w : World) (hS : SizeQ rows cols) (hv : ∃ p n c, v = .slice p n c)
    (H : Hid (Calls Try.prog 23 #[v, .int .i64 rows, .int .i64 cols] w fun e W' => ∃ mb, e = .returned (.tuple #[.map (some mb), .int .i64 0]) ∧ MapAt W' mb (entL 0 L).reverse ∧ Below w.heap.size w W')) :
    Calls Try.prog 14 #[v, .int .i64 rows, .int .i64 cols] w fun e W' => ∃ v', e = .returned (.tuple #[v', .int .i64 0]) ∧ W'.ownsRow w.heap.size 43 2 v' (emptyL rows cols L).length ((emptyL rows cols L).flatMap slotC) ∧ Below w.heap.size w W' := by
  obtain ⟨pp, pm, pcap, rfl⟩ := hv
  refine (callsIn_wide (n := 3)).1 (callsIn_of_wp_marks Try.func14 rfl trivial (wpIn_wide.2 ?_) rfl)
  simp only [Try.ntmps14, List.size_toArray, List.length_cons, List.length_nil, Nat.reduceAdd, Nat.reduceSub, Array.replicate_succ, Array.replicate_zero, List.push_toArray, List.append_toArray, List.nil_append, List.cons_append]
  have HS := Lib.hid hS
  have hrc : rows ≤ 65536 ∧ cols ≤ 10000 := by have := hS.1; have := hS.2.1; omega
  have HWF := Lib.hid (fun Y => gwhole_any rows cols Y)
  clear hS
  go_wp2_with (first
    | (go_at_call 23; refine H.out.mono ?_; clear H; rintro e w1 ⟨mb, rfl, hmp, hb1⟩; have HMP := Lib.hid hmp; have HB1 := Lib.hid hb1; clear hmp hb1)
    | (go_at_call 24; refine (HWF.out _).mono ?_; clear HWF; rintro e w5 ⟨rfl, rfl⟩))
  obtain ⟨g, hg⟩ : ∃ g, w1.heap.size = g := ⟨_, rfl⟩
  obtain ⟨W5, hW5⟩ : ∃ W5, ((w1.alloc (.cells #[.map (some mb)] 76)).alloc (.cells #[.slice none 0 0] 40)).alloc (.cells #[.int .i64 0, .int .i64 0, .int .i64 0, .int .i64 (rows : Int), .int .i64 (cols : Int)] 52) = W5 := ⟨_, rfl⟩
  have hgm : mb < g := by rw [← hg]; exact HMP.out.lt
  have hwg : w.heap.size ≤ g := by rw [← hg]; exact HB1.out.size
  have h5s : W5.heap.size = g + 1 + 1 + 1 := by rw [← hW5, ← hg]; simp
  have hE0 : EF w mb g (entL 0 L).reverse [] W5 := by
    have hb2 : Below w1.heap.size w1 W5 := by rw [← hW5]; exact (((Below.refl _ w1).alloc (Nat.le_refl _) _).alloc (by simp) _).alloc (by simp <;> omega) _
    refine ⟨none, 0, 0, HB1.out.trans (hb2.mono (by omega)), ?_, HMP.out.same (hb2.block mb (by omega)), ?_, World.ownsRow_nil _ _ _ _⟩
    · rw [← hW5]; exact ((whole_new w1 [.map (some mb)] 76 g hg.symm).alloc _).alloc _
    · rw [← hW5]; exact (whole_new (w1.alloc (.cells #[.map (some mb)] 76)) [.slice none 0 0] 40 (g + 1) (by simp [hg])).alloc _
  have kS : SlotMem (g + 1 + 1) ⟨0, 0, 0, rows, cols⟩ W5 := by
    rw [← hW5]
    exact whole_new ((w1.alloc (.cells #[.map (some mb)] 76)).alloc (.cells #[.slice none 0 0] 40)) [.int .i64 0, .int .i64 0, .int .i64 0, .int .i64 (rows : Int), .int .i64 (cols : Int)] 52 (g + 1 + 1) (by simp [hg])
  have hfew : FewS ⟨0, 0, 0, rows, cols⟩ := by unfold FewS; dsimp only; omega
  have HE0 := Lib.hid hE0
  have KS := Lib.hid kS
  have hw5 : w.heap.size ≤ W5.heap.size := by omega
  have hs10 : rows * cols ≤ 1000000 := by have h3 := HS.out.2.2; have h4 : ((rows : Int) * (cols : Int)) = ((rows * cols : Nat) : Int) := by simp
                                          omega
  have hlS : (slotsL ⟨0, 0, 0, rows, cols⟩).length = rows * cols := by
    unfold slotsL rowsS rowS
    simp [List.length_flatMap, List.map_const', List.sum_replicate_nat]
  rw [hg, hW5]
  clear hW5 HB1 HMP hE0 kS hg HS
  refine (wpIn_wide (n := 3)).1 (range_next (F := Fence.wide) rfl (by omega) (gf := 58) (lb := #[.pointer (some ⟨g + 1 + 1, 0, none⟩)]) rfl trivial (enters_of Try.func58 (by kernel_rfl) rfl)
    (Kp := KeepG (SlotMem (g + 1 + 1) ⟨0, 0, 0, rows, cols⟩)) (fun _ _ _ h k => h.trans k) (fun W l o h1 h2 => ⟨by simp, fun h => h.below (below_put (B := W5.heap.size) W o h1 h2) (by omega)⟩) (gslots_next _ (by omega) (g + 1 + 1) ⟨0, 0, 0, rows, cols⟩ hfew W5 KS.out) (fun _ => rfl)
    (EF w mb g (entL 0 L).reverse) (fun _ _ _ => False) ?own ?ownx HE0.out ?round ?done ?stop)
  case own =>
    rintro pre X1 Y1 row ⟨p, n, c, h⟩ hgr hr
    have hnc : NoCells X1 row := fun r e => (hr r e).2
    exact ⟨p, n, c, h.grown hgr hnc (fun r e => by have := (hr r e).1; omega)⟩
  case ownx => exact fun c pre X1 Y1 row h _ _ => h
  case stop => exact fun D c pre W hD _ h _ => h.elim
  case round =>
    rintro l pre ⟨s1, s2⟩ V hl ⟨p, n, c, hE⟩ ⟨rest, hrest⟩
    have hs12 : s1 < rows ∧ s2 < cols := by
      have := slots_mem.1 (show (s1, s2) ∈ slotsL ⟨0, 0, 0, rows, cols⟩ by rw [hrest]; simp)
      dsimp only at this; omega
    have hpl : (pre.filter (freeSl (entL 0 L).reverse)).length ≤ 1000000 := by
      have h1 := List.length_filter_le (freeSl (entL 0 L).reverse) pre
      have h2 : pre.length ≤ (slotsL ⟨0, 0, 0, rows, cols⟩).length := by rw [hrest]; simp
      omega
    obtain ⟨kl, hkl⟩ := slot_key (s1, s2) (by dsimp only; omega) (by dsimp only; omega)
    apply Exists.intro
    apply Exists.intro
    refine ⟨?_, ?_, ?_, ?_⟩
    · intro K hK
      dsimp only [encSl]
      gi_wp2
      exact hK
    · exact (KeepsOthers.alloc V _).from _
    · exact ⟨by simp, fun h => h.alloc _⟩
    · intro V₂ hgV hnc' hbl
      have hA := hE.alloc (.cells #[.int .i64 (s1 : Int), .int .i64 (s2 : Int)] 43)
      have hO := hA.grown hgV hnc' (fun r e => by cases e; omega)
      have hs5 : W5.heap.size ≤ V₂.heap.size := by obtain ⟨o, ho, _⟩ := hnc' l rfl; have := (Array.getElem?_eq_some_iff.1 ho).1; have := hgV.size; omega
      have kS0 := whole_new V [.int .i64 (s1 : Int), .int .i64 (s2 : Int)] 43 _ rfl
      have kS := kS0.grown hgV (kS0.ne hnc')
      have s_0 := kS.cellAt 0
      have s_1 := kS.cellAt 1
      have s_l := kS.lt
      have m_8 := hO.b8.cellAt 0
      have l_8 := hO.b8.lt
      have d_l := hO.bl.cellAt 0
      have f_l := hO.bl.free 0
      have l_l := hO.bl.lt
      obtain ⟨D, hown, hD, h3⟩ := hO.mp
      obtain ⟨hhas, hat⟩ := h3 (s1, s2) kl (by dsimp only; omega) (by dsimp only; omega) hkl
      have hkl2 : keyOf Try.prog 43 (.agg #[.int .i64 (s1 : Int), .int .i64 (s2 : Int)]) = some kl := hkl
      have HO := Lib.hid hO
      clear hat hA hO kS0 kS hD h3 hgV hnc' hbl hrest hkl hE
      cases hb : ((entL 0 L).reverse.any fun e => e.1 == (s1, s2)) with
      | true =>
        rw [hb] at hhas
        have HFl : Hid ((pre ++ [(s1, s2)]).filter (freeSl (entL 0 L).reverse) = pre.filter (freeSl (entL 0 L).reverse)) := Lib.hid (by rw [List.filter_append]; simp [freeSl, hb])
        clear hb
        gi_wp2_with (gi_at_lookup; refine wpListIn_lookup_own_ok_int _ rfl _ _ 76 rfl 43 3 .i64 slotKeyed Try.underlying76 Try.underlying3 (zeroInt _) mb _ D rfl hown _ _ rfl hkl2 ?_; intro cv hcv hwf)
        exact ⟨KeepsFrom.refl _ _, ⟨Nat.le_refl _, id⟩, p, n, c, by rw [HFl.out]; exact HO.out⟩
      | false =>
        rw [hb] at hhas
        have HFl : Hid ((pre ++ [(s1, s2)]).filter (freeSl (entL 0 L).reverse) = pre.filter (freeSl (entL 0 L).reverse) ++ [(s1, s2)]) := Lib.hid (by rw [List.filter_append]; simp [freeSl, hb])
        clear hb
        obtain ⟨i1, hi1, hz0', hz1', hz2'⟩ := info_parts Try.infoSlot
        have HZ1 := Lib.hid hz0'
        have HZ2 := Lib.hid hz1'
        have HZ3 := Lib.hid hz2'
        obtain ⟨ls, hls⟩ : ∃ ls, pre.filter (freeSl (entL 0 L).reverse) = ls := ⟨_, rfl⟩
        rw [hls] at HFl HO hpl
        have HOW := Lib.hid HO.out.ow
        have HLOW := Lib.hid (fun k (hk : k < g + 1 + 1 + 1) => own_low HO.out.ow hk)
        have HPUT := Lib.hid (fun (Y : World) (v' : Value) ho hg => EW.put (s := (s1, s2)) (v' := v') (Y := Y) (o := .cells #[.int .i64 (s1 : Int), .int .i64 (s2 : Int)] 43) HO.out hgm hwg ho hg)
        clear hz0' hz1' hz2' hls
        have t1 : ∀ u ∈ [Value.int .i64 (s1 : Int), Value.int .i64 (s2 : Int)], u.oneCell' = true := by simp [Value.oneCell']
        have t2 : ls.length + 1 ≤ maxLen := by unfold maxLen; omega
        have t3 : (ls.length + 1) * 16 ≤ 140737488355328 := by omega
        have t4 : g + 1 + 1 + 1 ≤ (V₂.alloc (.cells #[.int .i64 (s1 : Int), .int .i64 (s2 : Int)] 43)).heap.size := by simp <;> omega
        gi_wp2_with (first
          | (gi_at_lookup; refine wpListIn_lookup_own_ok_int _ rfl _ _ 76 rfl 43 3 .i64 slotKeyed Try.underlying76 Try.underlying3 (zeroInt _) mb _ D rfl hown _ _ rfl hkl2 ?_; intro cv hcv hwf; clear hcv hwf)
          | (gi_at_builtin; refine wpListIn_append_own_at _ rfl _ _ 40 rfl (g + 1 + 1 + 1) 43 i1 (.agg #[.int .i64 0, .int .i64 0]) 2 16 Try.underlying40 hi1 HZ1.out HZ2.out HZ3.out rfl (by decide) (.slice p n c) ls.length (ls.flatMap slotC) rfl (HOW.out.alloc _) ⟨V₂.heap.size, 0, none⟩ 1 1 [.int .i64 (s1 : Int), .int .i64 (s2 : Int)] rfl rfl (lay_newG _ [.int .i64 (s1 : Int), .int .i64 (s2 : Int)] 43 V₂.heap.size rfl) t1 t2 t3 t4 ?_; intro v9 w9 hown9 hgrow9 _ hf9; obtain ⟨p9, n9, c9, rfl⟩ := own_slice hown9; have HO9 := Lib.hid (HPUT.out w9 _ hown9 hgrow9); have K9 := Lib.hid ((KeepsOthers.alloc V₂ (.cells #[.int .i64 (s1 : Int), .int .i64 (s2 : Int)] 43)).trans (own_keeps (HOW.out.alloc _) hgrow9)); have HG9 := Lib.hid hgrow9; have k79 := (HO.out.bl.alloc (.cells #[.int .i64 (s1 : Int), .int .i64 (s2 : Int)] 43)).grown hgrow9 (HLOW.out _ (by omega)); have f79 := k79.free 0; have c79 := k79.cellAt 0; have l79 := k79.lt; clear hown9 hgrow9 hf9 HPUT k79))
        refine ⟨(K9.out.trans (KeepsOthers.setCell _ _ _)).from _, ⟨(K9.out.trans (KeepsOthers.setCell w9 ⟨g + 1, 0, none⟩ (.slice p9 n9 c9))).size, fun h => ?_⟩, p9, n9, c9, by rw [HFl.out]; exact HO9.out⟩
        exact (((Whole.alloc h (.cells #[.int .i64 (s1 : Int), .int .i64 (s2 : Int)] 43)).grown HG9.out (HLOW.out _ (by omega))).oth _ _ _ (by omega))
  case done =>
    rintro D xs V hD rfl ⟨p, n, c, hE⟩ hK
    have d_l := hE.bl.cellAt 0
    have l_l := hE.bl.lt
    have HM := Lib.hid ((Marks.nil w.heap.size V).cons (D := D) (by omega) hK (fun E hE => by cases hE))
    have HE := Lib.hid hE
    clear hE hK
    go_wp2
    refine leaves_marks w.heap.size [D] _ HM.out (fun W' hck hbk => ⟨.tuple #[.slice p n c, .int .i64 0], by simp [results, Try.results14, go_sem], _, rfl, own_kept_cells HE.out.ow hck (by omega), HE.out.lo.trans hbk⟩)
set_option maxRecDepth 100000 in
set_option maxHeartbeats 1000000 in
theorem empty_bad (v : Value) (rows cols : Int) (w : World) (hv : ∃ p n c, v = .slice p n c)
    (H : Hid (Calls Try.prog 23 #[v, .int .i64 rows, .int .i64 cols] w fun e W' => e = .returned (.tuple #[.map none, .int .i64 70]) ∧ Below w.heap.size w W')) :
    Calls Try.prog 14 #[v, .int .i64 rows, .int .i64 cols] w fun e W' => e = .returned (.tuple #[.slice none 0 0, .int .i64 70]) ∧ Below w.heap.size w W' := by
  obtain ⟨pp, pm, pcap, rfl⟩ := hv
  refine (callsIn_wide (n := 3)).1 (callsIn_of_wp_marks Try.func14 rfl trivial (wpIn_wide.2 ?_) rfl)
  simp only [Try.ntmps14, List.size_toArray, List.length_cons, List.length_nil, Nat.reduceAdd, Nat.reduceSub, Array.replicate_succ, Array.replicate_zero, List.push_toArray, List.append_toArray, List.nil_append, List.cons_append]
  go_wp2_with (go_at_call 23; refine H.out.mono ?_; clear H; rintro e w1 ⟨rfl, hb1⟩; have HB1 := Lib.hid hb1; clear hb1)
  refine leaves_marks w.heap.size [] _ (Marks.nil _ _) (fun W' hck hbk => ⟨.tuple #[.slice none 0 0, .int .i64 70], by simp [results, Try.results14, go_sem], rfl, ?_⟩)
  exact (HB1.out.alloc HB1.out.size _).trans hbk
end Go.Proofs.Ytcgnldcdcbnofaa
