/- Contract of the document's Computed: the computed style, or an error. -/
import Derived.Test.YtecnapecmioamaaSRefValid
namespace Go.Proofs.Ytecnapecmioamaa
open Go.RowKit Go.Shelf
set_option linter.unusedVariables false

theorem at_load {P : Program} {ops : Array Oper} {rest : List Oper} {a : Act} {w : World} {Q : Exit → Act → World → Prop} {ty : TypeId} {x : Operand} {dst : Option Tmp} {type : TypeId} {pos : String} {after : Array Edge} {guard : Option (Nat × Bool)}
    (h : wpList P ops Q ({ dst := dst, op := .load ty x, type := type, pos := pos, after := after, guard := guard } :: rest) a w) : wpList P ops Q ({ dst := dst, op := .load ty x, type := type, pos := pos, after := after, guard := guard } :: rest) a w := h
theorem at_store {P : Program} {ops : Array Oper} {rest : List Oper} {a : Act} {w : World} {Q : Exit → Act → World → Prop} {ty : TypeId} {x y : Operand} {dst : Option Tmp} {type : TypeId} {pos : String} {after : Array Edge} {guard : Option (Nat × Bool)}
    (h : wpList P ops Q ({ dst := dst, op := .store ty x y, type := type, pos := pos, after := after, guard := guard } :: rest) a w) : wpList P ops Q ({ dst := dst, op := .store ty x y, type := type, pos := pos, after := after, guard := guard } :: rest) a w := h
theorem sty_info2 (s : Sty) : (Try.prog.info? 44).map (·.size) = some s.cells.toArray.size := Try.infoSty
set_option maxRecDepth 100000 in
set_option maxHeartbeats 4000000 in
theorem refComp_bad (s : Sty) (w : World) (hv : validS s = false) : Calls Try.prog 41 #[s.val] w fun e W' => e = .returned (compR s) ∧ Below w.heap.size w W' := by
  have hR : compR s = .tuple #[Sty.zero.val, .int .i64 30] := by unfold compR; rw [hv]; rfl
  rw [hR]
  obtain ⟨cs, hcs⟩ : ∃ cs, s.cells.toArray = cs := ⟨_, rfl⟩
  have hsz : Hid ((Try.prog.info? 44).map (·.size) = some cs.size) := Lib.hid (by rw [← hcs]; exact sty_info2 _)
  have kb : Whole ((w.alloc (.cells cs 44)).alloc (.cells #[.int .i64 0, .int .i64 0, .int .i64 0, .int .i64 0, .int .i64 0, .int .i64 0, .int .i64 0, .int .i64 0, .int .i64 0, .int .i64 0, .int .u32 0, .int .i64 0, .int .i64 0, .int .u32 0, .int .i64 0, .int .i64 0, .int .u32 0, .int .i64 0, .int .i64 0, .int .u32 0, .int .i64 0, .int .i64 0, .int .i64 0, .bool false, .bool false, .int .i64 0, .int .i64 0, .bool false, .bool false] 44)) w.heap.size 44 s.cells := by rw [← hcs]; exact (whole_new w s.cells 44 _ rfl).alloc _
  have kz : Whole ((w.alloc (.cells cs 44)).alloc (.cells #[.int .i64 0, .int .i64 0, .int .i64 0, .int .i64 0, .int .i64 0, .int .i64 0, .int .i64 0, .int .i64 0, .int .i64 0, .int .i64 0, .int .u32 0, .int .i64 0, .int .i64 0, .int .u32 0, .int .i64 0, .int .i64 0, .int .u32 0, .int .i64 0, .int .i64 0, .int .u32 0, .int .i64 0, .int .i64 0, .int .i64 0, .bool false, .bool false, .int .i64 0, .int .i64 0, .bool false, .bool false] 44)) (w.heap.size + 1) 44 Sty.zero.cells := whole_new (w.alloc (.cells cs 44)) Sty.zero.cells 44 _ (by simp)
  have hB0 : Below w.heap.size w ((w.alloc (.cells cs 44)).alloc (.cells #[.int .i64 0, .int .i64 0, .int .i64 0, .int .i64 0, .int .i64 0, .int .i64 0, .int .i64 0, .int .i64 0, .int .i64 0, .int .i64 0, .int .u32 0, .int .i64 0, .int .i64 0, .int .u32 0, .int .i64 0, .int .i64 0, .int .u32 0, .int .i64 0, .int .i64 0, .int .u32 0, .int .i64 0, .int .i64 0, .int .i64 0, .bool false, .bool false, .int .i64 0, .int .i64 0, .bool false, .bool false] 44)) := ((Below.refl _ w).alloc (Nat.le_refl _) _).alloc (by simp) _
  have hz0 : ((w.alloc (.cells cs 44)).alloc (.cells #[.int .i64 0, .int .i64 0, .int .i64 0, .int .i64 0, .int .i64 0, .int .i64 0, .int .i64 0, .int .i64 0, .int .i64 0, .int .i64 0, .int .u32 0, .int .i64 0, .int .i64 0, .int .u32 0, .int .i64 0, .int .i64 0, .int .u32 0, .int .i64 0, .int .i64 0, .int .u32 0, .int .i64 0, .int .i64 0, .int .i64 0, .bool false, .bool false, .int .i64 0, .int .i64 0, .bool false, .bool false] 44)).heap.size = w.heap.size + 2 := by simp
  have kb' : Hid (((w.alloc (.cells cs 44)).alloc (.cells #[.int .i64 0, .int .i64 0, .int .i64 0, .int .i64 0, .int .i64 0, .int .i64 0, .int .i64 0, .int .i64 0, .int .i64 0, .int .i64 0, .int .u32 0, .int .i64 0, .int .i64 0, .int .u32 0, .int .i64 0, .int .i64 0, .int .u32 0, .int .i64 0, .int .i64 0, .int .u32 0, .int .i64 0, .int .i64 0, .int .i64 0, .bool false, .bool false, .int .i64 0, .int .i64 0, .bool false, .bool false] 44)).heap[w.heap.size]? = some (.cells cs 44 (0, 0))) := Lib.hid (by have h := kb; unfold Whole at h; rw [hcs] at h; exact h)
  have KB := Lib.hid kb
  have KZ := Lib.hid kz
  have HB := Lib.hid hB0
  have HZL := Lib.hid (show w.heap.size + 2 ≤ ((w.alloc (.cells cs 44)).alloc (.cells #[.int .i64 0, .int .i64 0, .int .i64 0, .int .i64 0, .int .i64 0, .int .i64 0, .int .i64 0, .int .i64 0, .int .i64 0, .int .i64 0, .int .u32 0, .int .i64 0, .int .i64 0, .int .u32 0, .int .i64 0, .int .i64 0, .int .u32 0, .int .i64 0, .int .i64 0, .int .u32 0, .int .i64 0, .int .i64 0, .int .i64 0, .bool false, .bool false, .int .i64 0, .int .i64 0, .bool false, .bool false] 44)).heap.size by omega)
  have hsv : s.val = .agg cs := by rw [← hcs]; rfl
  have VA := Lib.hid (fun X => refValid_any s X)
  rw [hsv] at VA ⊢
  rw [hv] at VA
  have HC := Lib.hid hcs
  clear kz kb hB0 hz0 hcs hsv
  go_enter Try.func41, Try.ntmps41
  go_wp2_with (first
    | (with_reducible refine at_load (ty := 44) ?_; refine wpList_load_row rfl 44 (.tmp 1) rfl _ rfl 44 cs (0, 0) _ kb'.out Try.underlying44 rfl hsz.out ?_; clear kb')
    | (go_at_call 39; refine (VA.out _).mono ?_; clear VA; rintro e w1 ⟨rfl, hb1⟩; have kz1 := Lib.hid (KZ.out.below hb1 (Nat.lt_of_lt_of_le (by omega) HZL.out)); have kb1 := Lib.hid (KB.out.below hb1 (Nat.lt_of_lt_of_le (by omega) HZL.out)); have hb1' := Lib.hid (HB.out.trans (hb1.mono (Nat.le_trans (by omega) HZL.out))); have hz1 := Lib.hid (Nat.le_trans HZL.out hb1.size); clear hb1)
    | (refine wpList_store_row rfl 44 (.tmp 2) (.tmp 10) rfl _ Sty.zero.cells.toArray rfl rfl 44 Sty.zero.cells.toArray kz1.out Try.infoSty rfl (cells_one Sty.zero) ?_))
  exact bodyPost_ret (results_sty (g := w.heap.size + 1) rfl rfl rfl (whole_row kz1.out Sty.zero.cells)) rfl ⟨rfl, hb1'.out.trans (below_row _ _ _ (by omega))⟩
/-- .. what lies there when k sides are done -/
def upS (s : Sty) (nw nh : Int) (k : Nat) : Sty := { s with wn := nw, hn := nh, sd := fun j => if j < k then compSd (s.sd j) else s.sd j }
theorem upS_step (s : Sty) (nw nh : Int) (k : Nat) (hk : k < 4) : ((upS s nw nh k).cells.set (4 + k) (.int .i64 (compSd (s.sd k)).p)).set (8 + k * 3 + 1) (.int .i64 (compSd (s.sd k)).w) = (upS s nw nh (k + 1)).cells := by
  have hs : (upS s nw nh k).sd k = s.sd k := by unfold upS; dsimp only; rw [if_neg (by omega)]
  rw [cells_side _ k hk (compSd (s.sd k)) (by rw [hs]; rfl) (by rw [hs]; rfl)]
  congr 1
  unfold upS
  dsimp only
  congr 1
  funext j
  by_cases h : j = k
  · subst h; simp
  · by_cases h2 : j < k
    · simp [h, h2, show j < k + 1 by omega]
    · simp [h, h2, show ¬ j < k + 1 by omega]
theorem upS_zero (s : Sty) (nw nh : Int) : (upS s nw nh 0).cells = ({ s with wn := nw, hn := nh } : Sty).cells := by
  unfold upS; simp
theorem upS_end (s : Sty) (nw nh : Int) : (upS s nw nh 4).cells = ({ s with wn := nw, hn := nh, sd := fun k => compSd (s.sd k) } : Sty).cells := by
  rw [Sty.cells_lit, Sty.cells_lit]; rfl
theorem made_comp {k n : Int} (h : sizeB k n = true) : madeN k n = compN k n := by
  unfold sizeB at h; unfold madeN compN
  by_cases h0 : k = 0
  · simp [h0]
  · by_cases h1 : k = 1
    · simp [h1]
    · by_cases h2 : k = 2
      · simp [h2] at h ⊢; omega
      · simp [h0, h1, h2] at h
theorem upS_sd (s : Sty) (nw nh : Int) (k : Nat) : (upS s nw nh k).sd k = s.sd k := by unfold upS; dsimp only; rw [if_neg (by omega)]
set_option maxRecDepth 100000 in
set_option maxHeartbeats 8000000 in
theorem refComp_ok (s : Sty) (w : World) (hv : validS s = true) : Calls Try.prog 41 #[s.val] w fun e W' => e = .returned (compR s) ∧ Below w.heap.size w W' := by
  have hR : compR s = .tuple #[(compS s).val, .int .i64 0] := by unfold compR; rw [hv]; rfl
  rw [hR]
  have hsz1 : sizeB s.wk s.wn = true ∧ sizeB s.hk s.hn = true := by simp only [validS, Bool.and_eq_true] at hv; exact ⟨hv.2.1, hv.2.2.1⟩
  have hmw := made_comp hsz1.1
  have hmh := made_comp hsz1.2
  clear hsz1 hR
  obtain ⟨cs, hcs⟩ : ∃ cs, s.cells.toArray = cs := ⟨_, rfl⟩
  have hsz : Hid ((Try.prog.info? 44).map (·.size) = some cs.size) := Lib.hid (by rw [← hcs]; exact sty_info2 _)
  have kb : Whole ((w.alloc (.cells cs 44)).alloc (.cells #[.int .i64 0, .int .i64 0, .int .i64 0, .int .i64 0, .int .i64 0, .int .i64 0, .int .i64 0, .int .i64 0, .int .i64 0, .int .i64 0, .int .u32 0, .int .i64 0, .int .i64 0, .int .u32 0, .int .i64 0, .int .i64 0, .int .u32 0, .int .i64 0, .int .i64 0, .int .u32 0, .int .i64 0, .int .i64 0, .int .i64 0, .bool false, .bool false, .int .i64 0, .int .i64 0, .bool false, .bool false] 44)) w.heap.size 44 s.cells := by rw [← hcs]; exact (whole_new w s.cells 44 _ rfl).alloc _
  have kz : Whole ((w.alloc (.cells cs 44)).alloc (.cells #[.int .i64 0, .int .i64 0, .int .i64 0, .int .i64 0, .int .i64 0, .int .i64 0, .int .i64 0, .int .i64 0, .int .i64 0, .int .i64 0, .int .u32 0, .int .i64 0, .int .i64 0, .int .u32 0, .int .i64 0, .int .i64 0, .int .u32 0, .int .i64 0, .int .i64 0, .int .u32 0, .int .i64 0, .int .i64 0, .int .i64 0, .bool false, .bool false, .int .i64 0, .int .i64 0, .bool false, .bool false] 44)) (w.heap.size + 1) 44 Sty.zero.cells := whole_new (w.alloc (.cells cs 44)) Sty.zero.cells 44 _ (by simp)
  have hB0 : Below w.heap.size w ((w.alloc (.cells cs 44)).alloc (.cells #[.int .i64 0, .int .i64 0, .int .i64 0, .int .i64 0, .int .i64 0, .int .i64 0, .int .i64 0, .int .i64 0, .int .i64 0, .int .i64 0, .int .u32 0, .int .i64 0, .int .i64 0, .int .u32 0, .int .i64 0, .int .i64 0, .int .u32 0, .int .i64 0, .int .i64 0, .int .u32 0, .int .i64 0, .int .i64 0, .int .i64 0, .bool false, .bool false, .int .i64 0, .int .i64 0, .bool false, .bool false] 44)) := ((Below.refl _ w).alloc (Nat.le_refl _) _).alloc (by simp) _
  have hz0 : ((w.alloc (.cells cs 44)).alloc (.cells #[.int .i64 0, .int .i64 0, .int .i64 0, .int .i64 0, .int .i64 0, .int .i64 0, .int .i64 0, .int .i64 0, .int .i64 0, .int .i64 0, .int .u32 0, .int .i64 0, .int .i64 0, .int .u32 0, .int .i64 0, .int .i64 0, .int .u32 0, .int .i64 0, .int .i64 0, .int .u32 0, .int .i64 0, .int .i64 0, .int .i64 0, .bool false, .bool false, .int .i64 0, .int .i64 0, .bool false, .bool false] 44)).heap.size = w.heap.size + 2 := by simp
  have kb' : Hid (((w.alloc (.cells cs 44)).alloc (.cells #[.int .i64 0, .int .i64 0, .int .i64 0, .int .i64 0, .int .i64 0, .int .i64 0, .int .i64 0, .int .i64 0, .int .i64 0, .int .i64 0, .int .u32 0, .int .i64 0, .int .i64 0, .int .u32 0, .int .i64 0, .int .i64 0, .int .u32 0, .int .i64 0, .int .i64 0, .int .u32 0, .int .i64 0, .int .i64 0, .int .i64 0, .bool false, .bool false, .int .i64 0, .int .i64 0, .bool false, .bool false] 44)).heap[w.heap.size]? = some (.cells cs 44 (0, 0))) := Lib.hid (by have h := kb; unfold Whole at h; rw [hcs] at h; exact h)
  have KB := Lib.hid kb
  have KZ := Lib.hid kz
  have HB := Lib.hid hB0
  have HZL := Lib.hid (show w.heap.size + 2 ≤ ((w.alloc (.cells cs 44)).alloc (.cells #[.int .i64 0, .int .i64 0, .int .i64 0, .int .i64 0, .int .i64 0, .int .i64 0, .int .i64 0, .int .i64 0, .int .i64 0, .int .i64 0, .int .u32 0, .int .i64 0, .int .i64 0, .int .u32 0, .int .i64 0, .int .i64 0, .int .u32 0, .int .i64 0, .int .i64 0, .int .u32 0, .int .i64 0, .int .i64 0, .int .i64 0, .bool false, .bool false, .int .i64 0, .int .i64 0, .bool false, .bool false] 44)).heap.size by omega)
  have hsv : s.val = .agg cs := by rw [← hcs]; rfl
  have VA := Lib.hid (fun X => refValid_any s X)
  rw [hsv] at VA ⊢
  rw [hv] at VA
  have HC := Lib.hid hcs
  clear kz kb hB0 hz0 hcs hsv
  go_enter Try.func41, Try.ntmps41
  have M1 := Lib.hid (fun X => refMade_any s.wk s.wn X)
  have M2 := Lib.hid (fun X => refMade_any s.hk s.hn X)
  rw [hmw] at M1
  rw [hmh] at M2
  have hfin0 : Hid (compS s = { ({ s with wn := compN s.wk s.wn, hn := compN s.hk s.hn, sd := fun k => compSd (s.sd k) } : Sty) with cs := max s.cs 1, rs := (if s.rs < 0 then 1 else s.rs), g0 := max s.g0 0, g1 := max s.g1 0 }) := Lib.hid rfl
  generalize compN s.wk s.wn = nw at *
  generalize compN s.hk s.hn = nh at *
  clear hmw hmh
  go_wp2_with (first
    | (with_reducible refine at_load (ty := 44) ?_; refine wpList_load_row rfl 44 (.tmp 1) rfl _ rfl 44 cs (0, 0) _ kb'.out Try.underlying44 rfl hsz.out ?_; clear kb')
    | (go_at_call 39; refine (VA.out _).mono ?_; clear VA; rintro e w1 ⟨rfl, hb1⟩; have kz1 := Lib.hid (KZ.out.below hb1 (Nat.lt_of_lt_of_le (by omega) HZL.out)); have kb1 := Lib.hid (KB.out.below hb1 (Nat.lt_of_lt_of_le (by omega) HZL.out)); have hb1' := Lib.hid (HB.out.trans (hb1.mono (Nat.le_trans (by omega) HZL.out))); have hz1 := Lib.hid (Nat.le_trans HZL.out hb1.size); have q0 : w1.cell? ⟨w.heap.size, 0, none⟩ = some (.int .i64 s.wk) := kb1.out.cellAt 0; have q1 : w1.cell? ⟨w.heap.size, 1, none⟩ = some (.int .i64 s.wn) := kb1.out.cellAt 1; have lw1 := kb1.out.lt; clear hb1)
    | (go_at_call 54; refine (M1.out _).mono ?_; clear M1; rintro e w2 ⟨rfl, hb2⟩; have k2 := Lib.hid (kb1.out.below hb2 lw1); have z2 := Lib.hid (kz1.out.below hb2 kz1.out.lt); have b2 := Lib.hid (hb1'.out.trans (hb2.mono (Nat.le_trans (by omega) hz1.out))); have r0 : w2.cell? ⟨w.heap.size, 0, none⟩ = some (.int .i64 s.wk) := k2.out.cellAt 0; have r1 : w2.cell? ⟨w.heap.size, 1, none⟩ = some (.int .i64 s.wn) := k2.out.cellAt 1; have r2 : w2.cell? ⟨w.heap.size, 2, none⟩ = some (.int .i64 s.hk) := k2.out.cellAt 2; have r3 : w2.cell? ⟨w.heap.size, 3, none⟩ = some (.int .i64 s.hn) := k2.out.cellAt 3; have g0 := k2.out.free 0; have g1 := k2.out.free 1; have lw2 := k2.out.lt; clear hb2)
    | (go_at_call 54; refine (M2.out _).mono ?_; clear M2; rintro e w3 ⟨rfl, hb3⟩; have k3 := Lib.hid (((k2.out.set 0 (.int .i64 s.wk)).set 1 (.int .i64 nw)).below hb3 (by simpa using lw2)); have z3 := Lib.hid (((z2.out.other ⟨w.heap.size, 0, none⟩ (.int .i64 s.wk) (by simp)).other ⟨w.heap.size, 1, none⟩ (.int .i64 nw) (by simp)).below hb3 (by simpa using z2.out.lt)); have b3 := Lib.hid (((b2.out.setCell (p := ⟨w.heap.size, 0, none⟩) (Nat.le_refl _) (.int .i64 s.wk)).setCell (p := ⟨w.heap.size, 1, none⟩) (Nat.le_refl _) (.int .i64 nw)).trans (hb3.mono (by have := b2.out.size; simp; omega))); have t2 : w3.cell? ⟨w.heap.size, 2, none⟩ = some (.int .i64 s.hk) := k3.out.cellAt 2; have t3 : w3.cell? ⟨w.heap.size, 3, none⟩ = some (.int .i64 s.hn) := k3.out.cellAt 3; have g2 := k3.out.free 2; have g3 := k3.out.free 3; have lw3 := k3.out.lt; clear hb3))
  obtain ⟨V, hV⟩ : ∃ V, (w3.setCell ⟨w.heap.size, 2, none⟩ (.int .i64 s.hk)).setCell ⟨w.heap.size, 3, none⟩ (.int .i64 nh) = V := ⟨_, rfl⟩
  have KV : Whole V w.heap.size 44 (upS s nw nh 0).cells := by rw [upS_zero, ← hV]; exact (k3.out.set 2 (.int .i64 s.hk)).set 3 (.int .i64 nh)
  have ZV : Whole V (w.heap.size + 1) 44 Sty.zero.cells := by rw [← hV]; exact (z3.out.other ⟨w.heap.size, 2, none⟩ _ (by simp)).other ⟨w.heap.size, 3, none⟩ _ (by simp)
  have BV : Below w.heap.size w V := by rw [← hV]; exact (b3.out.setCell (p := ⟨w.heap.size, 2, none⟩) (Nat.le_refl _) _).setCell (p := ⟨w.heap.size, 3, none⟩) (Nat.le_refl _) _
  rw [hV]
  clear hV k3 z3 b3 t2 t3 g2 g3 lw3 k2 z2 b2 r0 r1 r2 r3 g0 g1 lw2 kb1 kz1 hb1' hz1 q0 q1 lw1 KB KZ HB HZL
  go_loopw [5] (fun i wr => ∃ k : Nat, k ≤ 4 ∧ i = .int .i64 k ∧ Hid (Whole wr w.heap.size 44 (upS s nw nh k).cells ∧ Whole wr (w.heap.size + 1) 44 Sty.zero.cells ∧ Below w.heap.size w wr)) (fun i _ => 4 - (intOf i).toNat)
  case atStart => exact ⟨0, Nat.zero_le _, rfl, Lib.hid ⟨KV, ZV, BV⟩⟩
  case round =>
    obtain ⟨k, hk, rfl, hrr⟩ := hrel
    clear KV ZV BV
    obtain ⟨kr0, zr0, br0⟩ := hrr.out
    have KR := Lib.hid kr0
    have ZR := Lib.hid zr0
    have BR := Lib.hid br0
    have lr := kr0.lt
    clear kr0 zr0 br0 hrr
    by_cases hlt : k < 4
    · have hst := upS_step s nw nh k hlt
      have qp := (KR.out.cellAt (4 + k)).trans (cells_pad _ k hlt)
      have qs := (KR.out.cellAt (8 + k * 3)).trans (cells_sty _ k hlt)
      have qw := (KR.out.cellAt (8 + k * 3 + 1)).trans (cells_wid _ k hlt)
      rw [upS_sd] at qp qs qw
      have f1 := KR.out.free (4 + k)
      have f2 := KR.out.free (8 + k * 3 + 1)
      have hk4 : (k : Int) < 4 := by omega
      obtain ⟨⟨p, s', w', c⟩, ek⟩ : ∃ a, s.sd k = a := ⟨_, rfl⟩
      rw [ek] at hst qp qs qw
      dsimp only at qp qs qw
      have hst' : ((upS s nw nh k).cells.set (4 + k) (.int .i64 (max p 0))).set (8 + k * 3 + 1) (.int .i64 (if s' = 0 ∨ s' = 1 then 0 else max w' 0)) = (upS s nw nh (k + 1)).cells := hst
      obtain ⟨mp, hmp⟩ : ∃ m, (if p < 0 then 0 else p) = m := ⟨_, rfl⟩
      obtain ⟨mw, hmw⟩ : ∃ m, (if w' < 0 then 0 else w') = m := ⟨_, rfl⟩
      rw [show max p 0 = mp by rw [← hmp]; split <;> omega, show max w' 0 = mw by rw [← hmw]; split <;> omega] at hst'
      have HST := Lib.hid hst'
      clear hst hst' ek
      have CB1 : ∀ {X : World}, Below w.heap.size w X → Below w.heap.size w ((X.setCell ⟨w.heap.size, 4 + k, none⟩ (.int .i64 mp)).setCell ⟨w.heap.size, 8 + k * 3 + 1, none⟩ (.int .i64 mw)) := fun h => (h.setCell (p := ⟨w.heap.size, 4 + k, none⟩) (Nat.le_refl _) _).setCell (p := ⟨w.heap.size, 8 + k * 3 + 1, none⟩) (Nat.le_refl _) _
      by_cases h0 : s' = 0
      · subst h0
        have HST' := Lib.hid (HST.out)
        go_wp2
        go_roundw
        case rel =>
          refine ⟨k + 1, by omega, by simp, Lib.hid ⟨?_, (((ZR.out.other ⟨w.heap.size, 4 + k, none⟩ _ (by simp)).other ⟨w.heap.size, 8 + k * 3 + 1, none⟩ _ (by simp)).other ⟨w.heap.size, 8 + k * 3 + 1, none⟩ _ (by simp)), (CB1 BR.out).setCell (p := ⟨w.heap.size, 8 + k * 3 + 1, none⟩) (Nat.le_refl _) _⟩⟩
          have h := ((KR.out.set (4 + k) (.int .i64 mp)).set (8 + k * 3 + 1) (.int .i64 mw)).set (8 + k * 3 + 1) (.int .i64 0)
          have e := HST.out
          rw [if_pos (Or.inl rfl)] at e
          rw [List.set_set, e] at h
          exact h
        case measure => simp [intOf]; omega
      · by_cases h1 : s' = 1
        · subst h1
          go_wp2
          go_roundw
          case rel =>
            refine ⟨k + 1, by omega, by simp, Lib.hid ⟨?_, (((ZR.out.other ⟨w.heap.size, 4 + k, none⟩ _ (by simp)).other ⟨w.heap.size, 8 + k * 3 + 1, none⟩ _ (by simp)).other ⟨w.heap.size, 8 + k * 3 + 1, none⟩ _ (by simp)), (CB1 BR.out).setCell (p := ⟨w.heap.size, 8 + k * 3 + 1, none⟩) (Nat.le_refl _) _⟩⟩
            have h := ((KR.out.set (4 + k) (.int .i64 mp)).set (8 + k * 3 + 1) (.int .i64 mw)).set (8 + k * 3 + 1) (.int .i64 0)
            have e := HST.out
            rw [if_pos (Or.inr rfl)] at e
            rw [List.set_set, e] at h
            exact h
          case measure => simp [intOf]; omega
        · have e := HST.out
          rw [if_neg (show ¬ (s' = 0 ∨ s' = 1) from fun h => h.elim h0 h1)] at e
          have HE := Lib.hid e
          have n0 : (s' == 0) = false := by simp [h0]
          have n1 : (s' == 1) = false := by simp [h1]
          clear e h0 h1
          go_wp2
          go_roundw
          case rel =>
            refine ⟨k + 1, by omega, by simp, Lib.hid ⟨?_, ((ZR.out.other ⟨w.heap.size, 4 + k, none⟩ _ (by simp)).other ⟨w.heap.size, 8 + k * 3 + 1, none⟩ _ (by simp)), CB1 BR.out⟩⟩
            have h := (KR.out.set (4 + k) (.int .i64 mp)).set (8 + k * 3 + 1) (.int .i64 mw)
            rw [HE.out] at h
            exact h
          case measure => simp [intOf]; omega
    · have hk4 : k = 4 := by omega
      subst hk4
      have ku := KR.out
      rw [upS_end] at ku
      obtain ⟨u, hu⟩ : ∃ u : Sty, ({ s with wn := nw, hn := nh, sd := fun k => compSd (s.sd k) } : Sty) = u := ⟨_, rfl⟩
      have hfin : Hid (compS s = { u with cs := max u.cs 1, rs := (if u.rs < 0 then 1 else u.rs), g0 := max u.g0 0, g1 := max u.g1 0 }) := Lib.hid (by rw [hfin0.out, ← hu])
      rw [hu] at ku
      have KU := Lib.hid ku
      have e25 : wr.cell? ⟨w.heap.size, 25, none⟩ = some (.int .i64 u.g0) := ku.cellAt 25
      have e26 : wr.cell? ⟨w.heap.size, 26, none⟩ = some (.int .i64 u.g1) := ku.cellAt 26
      have e20 : wr.cell? ⟨w.heap.size, 20, none⟩ = some (.int .i64 u.cs) := ku.cellAt 20
      have e21 : wr.cell? ⟨w.heap.size, 21, none⟩ = some (.int .i64 u.rs) := ku.cellAt 21
      have g25 := ku.free 25
      have g26 := ku.free 26
      have g20 := ku.free 20
      have g21 := ku.free 21
      obtain ⟨m0, hm0⟩ : ∃ m, (if u.g0 < 0 then 0 else u.g0) = m := ⟨_, rfl⟩
      obtain ⟨m1, hm1⟩ : ∃ m, (if u.g1 < 0 then 0 else u.g1) = m := ⟨_, rfl⟩
      obtain ⟨mc, hmc⟩ : ∃ m, (if u.cs < 1 then 1 else u.cs) = m := ⟨_, rfl⟩
      have x0 : max u.g0 0 = m0 := by rw [← hm0]; split <;> omega
      have x1 : max u.g1 0 = m1 := by rw [← hm1]; split <;> omega
      have x2 : max u.cs 1 = mc := by rw [← hmc]; split <;> omega
      rw [x0, x1, x2] at hfin
      clear x0 x1 x2 hu ku hfin0 KR
      by_cases hr : u.rs < 0
      · have hq : Hid (compS s = { u with cs := mc, rs := 1, g0 := m0, g1 := m1 }) := Lib.hid (by rw [hfin.out, if_pos hr])
        have KF : Whole ((((wr.setCell ⟨w.heap.size, 25, none⟩ (.int .i64 m0)).setCell ⟨w.heap.size, 26, none⟩ (.int .i64 m1)).setCell ⟨w.heap.size, 20, none⟩ (.int .i64 mc)).setCell ⟨w.heap.size, 21, none⟩ (.int .i64 1)) w.heap.size 44 ({ u with cs := mc, rs := 1, g0 := m0, g1 := m1 } : Sty).cells := (((KU.out.set 25 (.int .i64 m0)).set 26 (.int .i64 m1)).set 20 (.int .i64 mc)).set 21 (.int .i64 1)
        have KG : Whole ((((wr.setCell ⟨w.heap.size, 25, none⟩ (.int .i64 m0)).setCell ⟨w.heap.size, 26, none⟩ (.int .i64 m1)).setCell ⟨w.heap.size, 20, none⟩ (.int .i64 mc)).setCell ⟨w.heap.size, 21, none⟩ (.int .i64 1)) (w.heap.size + 1) 44 Sty.zero.cells := (((ZR.out.other ⟨w.heap.size, 25, none⟩ (.int .i64 m0) (by simp)).other ⟨w.heap.size, 26, none⟩ (.int .i64 m1) (by simp)).other ⟨w.heap.size, 20, none⟩ (.int .i64 mc) (by simp)).other ⟨w.heap.size, 21, none⟩ (.int .i64 1) (by simp)
        have BF := Lib.hid ((((BR.out.setCell (p := ⟨w.heap.size, 25, none⟩) (Nat.le_refl _) (.int .i64 m0)).setCell (p := ⟨w.heap.size, 26, none⟩) (Nat.le_refl _) (.int .i64 m1)).setCell (p := ⟨w.heap.size, 20, none⟩) (Nat.le_refl _) (.int .i64 mc)).setCell (p := ⟨w.heap.size, 21, none⟩) (Nat.le_refl _) (.int .i64 1))
        rw [← hq.out] at KF
        obtain ⟨fs, hfs⟩ : ∃ fs, (compS s).cells.toArray = fs := ⟨_, rfl⟩
        have KF' := KF
        unfold Whole at KF' KG
        rw [hfs] at KF'
        have KFH := Lib.hid KF'
        have hfz : Hid ((Try.prog.info? 44).map (·.size) = some fs.size) := Lib.hid (by rw [← hfs]; exact Try.infoSty)
        have hfo : Hid (fs.all (·.oneCell') = true) := Lib.hid (by rw [← hfs]; exact cells_one _)
        have hfl : Hid ((Sty.zero.cells.toArray).size = fs.size) := Lib.hid (by rw [← hfs] <;> rfl)
        have KG' := Lib.hid KG
        have KGR := Lib.hid (whole_row (xs := Sty.zero.cells) KG (compS s).cells)
        rw [hfs] at KGR
        have BFR := Lib.hid (BF.out.trans (below_row ((((wr.setCell ⟨w.heap.size, 25, none⟩ (.int .i64 m0)).setCell ⟨w.heap.size, 26, none⟩ (.int .i64 m1)).setCell ⟨w.heap.size, 20, none⟩ (.int .i64 mc)).setCell ⟨w.heap.size, 21, none⟩ (.int .i64 1)) (w.heap.size + 1) fs (by omega)))
        clear hfin KF KF' KG hfs hq KU ZR BR BF
        go_wp2_with (first
          | (with_reducible refine at_load (ty := 44) ?_; refine wpList_load_row rfl 44 (.tmp 1) rfl _ rfl 44 fs (0, 0) _ KFH.out Try.underlying44 rfl hfz.out ?_; clear KFH)
          | (with_reducible refine at_store (ty := 44) ?_; refine wpList_store_row rfl 44 (.tmp 2) (.tmp 79) rfl _ fs rfl rfl 44 Sty.zero.cells.toArray KG'.out hfz.out hfl.out hfo.out ?_; clear KG'))
        exact bodyPost_ret (results_sty (g := w.heap.size + 1) rfl rfl rfl KGR.out) rfl ⟨rfl, BFR.out⟩
      · have hq : Hid (compS s = { u with cs := mc, rs := u.rs, g0 := m0, g1 := m1 }) := Lib.hid (by rw [hfin.out, if_neg hr])
        have KF : Whole (((wr.setCell ⟨w.heap.size, 25, none⟩ (.int .i64 m0)).setCell ⟨w.heap.size, 26, none⟩ (.int .i64 m1)).setCell ⟨w.heap.size, 20, none⟩ (.int .i64 mc)) w.heap.size 44 ({ u with cs := mc, rs := u.rs, g0 := m0, g1 := m1 } : Sty).cells := ((KU.out.set 25 (.int .i64 m0)).set 26 (.int .i64 m1)).set 20 (.int .i64 mc)
        have KG : Whole (((wr.setCell ⟨w.heap.size, 25, none⟩ (.int .i64 m0)).setCell ⟨w.heap.size, 26, none⟩ (.int .i64 m1)).setCell ⟨w.heap.size, 20, none⟩ (.int .i64 mc)) (w.heap.size + 1) 44 Sty.zero.cells := ((ZR.out.other ⟨w.heap.size, 25, none⟩ (.int .i64 m0) (by simp)).other ⟨w.heap.size, 26, none⟩ (.int .i64 m1) (by simp)).other ⟨w.heap.size, 20, none⟩ (.int .i64 mc) (by simp)
        have BF := Lib.hid (((BR.out.setCell (p := ⟨w.heap.size, 25, none⟩) (Nat.le_refl _) (.int .i64 m0)).setCell (p := ⟨w.heap.size, 26, none⟩) (Nat.le_refl _) (.int .i64 m1)).setCell (p := ⟨w.heap.size, 20, none⟩) (Nat.le_refl _) (.int .i64 mc))
        rw [← hq.out] at KF
        obtain ⟨fs, hfs⟩ : ∃ fs, (compS s).cells.toArray = fs := ⟨_, rfl⟩
        have KF' := KF
        unfold Whole at KF' KG
        rw [hfs] at KF'
        have KFH := Lib.hid KF'
        have hfz : Hid ((Try.prog.info? 44).map (·.size) = some fs.size) := Lib.hid (by rw [← hfs]; exact Try.infoSty)
        have hfo : Hid (fs.all (·.oneCell') = true) := Lib.hid (by rw [← hfs]; exact cells_one _)
        have hfl : Hid ((Sty.zero.cells.toArray).size = fs.size) := Lib.hid (by rw [← hfs] <;> rfl)
        have KG' := Lib.hid KG
        have KGR := Lib.hid (whole_row (xs := Sty.zero.cells) KG (compS s).cells)
        rw [hfs] at KGR
        have BFR := Lib.hid (BF.out.trans (below_row (((wr.setCell ⟨w.heap.size, 25, none⟩ (.int .i64 m0)).setCell ⟨w.heap.size, 26, none⟩ (.int .i64 m1)).setCell ⟨w.heap.size, 20, none⟩ (.int .i64 mc)) (w.heap.size + 1) fs (by omega)))
        clear hfin KF KF' KG hfs hq KU ZR BR BF
        go_wp2_with (first
          | (with_reducible refine at_load (ty := 44) ?_; refine wpList_load_row rfl 44 (.tmp 1) rfl _ rfl 44 fs (0, 0) _ KFH.out Try.underlying44 rfl hfz.out ?_; clear KFH)
          | (with_reducible refine at_store (ty := 44) ?_; refine wpList_store_row rfl 44 (.tmp 2) (.tmp 79) rfl _ fs rfl rfl 44 Sty.zero.cells.toArray KG'.out hfz.out hfl.out hfo.out ?_; clear KG'))
        exact bodyPost_ret (results_sty (g := w.heap.size + 1) rfl rfl rfl KGR.out) rfl ⟨rfl, BFR.out⟩
theorem refComp_any (s : Sty) (w : World) : Calls Try.prog 41 #[s.val] w fun e W' => e = .returned (compR s) ∧ Below w.heap.size w W' := by
  cases hv : validS s with
  | true => exact refComp_ok s w hv
  | false => exact refComp_bad s w hv
end Go.Proofs.Ytecnapecmioamaa
