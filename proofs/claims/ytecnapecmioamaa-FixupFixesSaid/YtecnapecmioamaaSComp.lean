/- Contract of style.Computed: the computed style, or an error. -/
import Derived.Test.YtecnapecmioamaaSValid
import Derived.Laws.Tables
import Derived.Laws.ResultCell
namespace Go.Proofs.Ytecnapecmioamaa
open Go.RowKit Go.Shelf
set_option linter.unusedVariables false
attribute [local go_sem] Oper.semAt_some

def noPan (Q : Exit → Act → World → Prop) : Exit → Act → World → Prop
  | .panic _, _, _ => False
  | e, a, w => Q e a w
theorem noPan_le {Q : Exit → Act → World → Prop} (e : Exit) (a : Act) (w : World) (h : noPan Q e a w) : Q e a w := by cases e <;> first | exact h | exact h.elim
theorem region_held_np {P : Program} {ops : Array Oper} {Q : Exit → Act → World → Prop} {S : World → Prop} {id : Nat} {a : Act} {w : World} (hm : P.follows .mixedOrders = true)
    (h : ∀ w2 : World, w.drew = w2 → wpAnyH P .any ops (noPan Q) S ops.size (Array.replicate ops.size false) a w2) : (Code.region id ops true).wp P Q a w :=
  (wpIn_wide (n := 0)).1 (wpIn_mono (wpIn_wide.2 (wp_region_held hm (h _ rfl))) noPan_le)
theorem whole_row {W : World} {g t : Nat} {xs : List Value} (h : Whole W g t xs) (ys : List Value) : Whole (W.setRow g ys.toArray) g t ys := setRow_heap W g xs.toArray ys.toArray t (0, 0) h
theorem below_row {B : Nat} (W : World) (g : Nat) (cs : Array Value) (h : B ≤ g) : Below B W (W.setRow g cs) := ⟨rfl, rfl, rfl, by simp, fun k hk => setRow_other W g k cs (by omega)⟩
theorem cells_one (s : Sty) : s.cells.toArray.all (·.oneCell') = true := by rw [s.cells_lit]; simp [Value.oneCell']
theorem cells_len (s : Sty) : s.cells.length = 29 := rfl
theorem results_sty {fn : Func} {W : World} {g : Nat} {s : Sty} {v : Value} {tmps : Array Value} (hf : fn.results = #[.cell 2 44, .tmp 3]) (ht : tmps[2]? = some (.pointer (some ⟨g, 0, none⟩))) (hv : tmps[3]? = some v) (h : Whole W g 44 s.cells) :
    (results fn tmps).run Try.prog W = .ok (.tuple #[s.val, v]) W := by
  have h2 : tmps.getD 2 undef = .pointer (some ⟨g, 0, none⟩) := by simp [Array.getD_eq_getD_getElem?, ht]
  have h3 : tmps.getD 3 undef = v := by simp [Array.getD_eq_getD_getElem?, hv]
  have hl := run_loadVar_row (P := Try.prog) W g 44 44 s.cells.toArray (0, 0) _ h Try.underlying44 rfl (by rw [Try.infoSty]; rfl)
  rw [results_cell_tmp hf, h2, h3]
  simp [asAddr, hl, Sty.val]
/-- what Computed returns -/
def compR (s : Sty) : Value := .tuple #[(if validS s then compS s else Sty.zero).val, .int .i64 (if validS s then 0 else 30)]
set_option maxRecDepth 100000 in
set_option maxHeartbeats 4000000 in
theorem comp_bad (s : Sty) (w : World) (hv : validS s = false) : Calls Try.prog 26 #[s.val] w fun e W' => e = .returned (compR s) ∧ Below w.heap.size w W' := by
  have hR : compR s = .tuple #[Sty.zero.val, .int .i64 30] := by unfold compR; rw [hv]; rfl
  rw [hR]
  have VA := Lib.hid (fun X => hv ▸ valid_any s X)
  obtain ⟨cs, hcs⟩ : ∃ cs, s.cells.toArray = cs := ⟨_, rfl⟩
  have hsz : (Try.prog.info? 44).map (·.size) = some cs.size := by rw [← hcs]; exact Try.infoSty
  have kb : Whole ((w.alloc (.cells cs 44)).alloc (.cells Sty.zero.cells.toArray 44)) w.heap.size 44 s.cells := by rw [← hcs]; exact (whole_new w s.cells 44 _ rfl).alloc _
  have hW0 : (w.alloc (.cells cs 44)).alloc (.cells #[.int .i64 0, .int .i64 0, .int .i64 0, .int .i64 0, .int .i64 0, .int .i64 0, .int .i64 0, .int .i64 0, .int .i64 0, .int .i64 0, .int .u32 0, .int .i64 0, .int .i64 0, .int .u32 0, .int .i64 0, .int .i64 0, .int .u32 0, .int .i64 0, .int .i64 0, .int .u32 0, .int .i64 0, .int .i64 0, .int .i64 0, .bool false, .bool false, .int .i64 0, .int .i64 0, .bool false, .bool false] 44) = (w.alloc (.cells cs 44)).alloc (.cells Sty.zero.cells.toArray 44) := rfl
  rw [← hW0] at kb
  have kz : Whole ((w.alloc (.cells cs 44)).alloc (.cells #[.int .i64 0, .int .i64 0, .int .i64 0, .int .i64 0, .int .i64 0, .int .i64 0, .int .i64 0, .int .i64 0, .int .i64 0, .int .i64 0, .int .u32 0, .int .i64 0, .int .i64 0, .int .u32 0, .int .i64 0, .int .i64 0, .int .u32 0, .int .i64 0, .int .i64 0, .int .u32 0, .int .i64 0, .int .i64 0, .int .i64 0, .bool false, .bool false, .int .i64 0, .int .i64 0, .bool false, .bool false] 44)) (w.heap.size + 1) 44 Sty.zero.cells := whole_new (w.alloc (.cells cs 44)) Sty.zero.cells 44 _ (by simp)
  have hB0 : Below w.heap.size w ((w.alloc (.cells cs 44)).alloc (.cells #[.int .i64 0, .int .i64 0, .int .i64 0, .int .i64 0, .int .i64 0, .int .i64 0, .int .i64 0, .int .i64 0, .int .i64 0, .int .i64 0, .int .u32 0, .int .i64 0, .int .i64 0, .int .u32 0, .int .i64 0, .int .i64 0, .int .u32 0, .int .i64 0, .int .i64 0, .int .u32 0, .int .i64 0, .int .i64 0, .int .i64 0, .bool false, .bool false, .int .i64 0, .int .i64 0, .bool false, .bool false] 44)) := ((Below.refl _ w).alloc (Nat.le_refl _) _).alloc (by simp) _
  have hz0 : ((w.alloc (.cells cs 44)).alloc (.cells #[.int .i64 0, .int .i64 0, .int .i64 0, .int .i64 0, .int .i64 0, .int .i64 0, .int .i64 0, .int .i64 0, .int .i64 0, .int .i64 0, .int .u32 0, .int .i64 0, .int .i64 0, .int .u32 0, .int .i64 0, .int .i64 0, .int .u32 0, .int .i64 0, .int .i64 0, .int .u32 0, .int .i64 0, .int .i64 0, .int .i64 0, .bool false, .bool false, .int .i64 0, .int .i64 0, .bool false, .bool false] 44)).heap.size = w.heap.size + 2 := by simp
  have kb' := kb
  unfold Whole at kb'
  have KZ := Lib.hid kz
  have HB := Lib.hid hB0
  have hzl : w.heap.size + 2 ≤ ((w.alloc (.cells cs 44)).alloc (.cells #[.int .i64 0, .int .i64 0, .int .i64 0, .int .i64 0, .int .i64 0, .int .i64 0, .int .i64 0, .int .i64 0, .int .i64 0, .int .i64 0, .int .u32 0, .int .i64 0, .int .i64 0, .int .u32 0, .int .i64 0, .int .i64 0, .int .u32 0, .int .i64 0, .int .i64 0, .int .u32 0, .int .i64 0, .int .i64 0, .int .i64 0, .bool false, .bool false, .int .i64 0, .int .i64 0, .bool false, .bool false] 44)).heap.size := by omega
  have HZL := Lib.hid hzl
  rw [show s.val = .agg s.cells.toArray from rfl]
  rw [show s.val = .agg s.cells.toArray from rfl] at VA
  rw [hcs] at VA kb' ⊢
  clear kz kb hB0 hW0 hz0 hzl
  refine (callsIn_wide (n := 3)).1 (callsIn_of_wp_marks Try.func26 rfl trivial (wpIn_wide.2 ?_) rfl)
  simp only [Try.ntmps26, List.size_toArray, List.length_cons, List.length_nil, Nat.reduceAdd, Nat.reduceSub, Array.replicate_succ, Array.replicate_zero, List.push_toArray, List.append_toArray, List.nil_append, List.cons_append]
  go_wp2_with (first
    | (go_at_call 42; refine (VA.out _).mono ?_; clear VA; rintro e w1 ⟨rfl, hb1⟩; have kz1 := Lib.hid (KZ.out.below hb1 (Nat.lt_of_lt_of_le (by omega) HZL.out)); have hb1' := Lib.hid (HB.out.trans (hb1.mono (Nat.le_trans (by omega) HZL.out))); clear hb1)
    | (refine wpList_load_row rfl 44 (.tmp 1) rfl _ rfl 44 cs (0, 0) _ kb' Try.underlying44 rfl hsz ?_; clear kb')
    | (refine wpList_store_row rfl 44 (.tmp 2) (.tmp 11) rfl _ Sty.zero.cells.toArray rfl rfl 44 Sty.zero.cells.toArray kz1.out Try.infoSty rfl (cells_one Sty.zero) ?_))
  refine leaves_marks w.heap.size [] _ (Marks.nil _ _) (fun W' hck hbk => ⟨_, results_sty (g := w.heap.size + 1) rfl rfl rfl (hck _ _ (whole_row kz1.out Sty.zero.cells) rfl), rfl, (hb1'.out.trans (below_row _ _ _ (by omega))).trans hbk⟩)
def midS (s : Sty) (pre : List (Nat × Sd)) : Sty := { s with sd := putS compSd s.sd pre }
def CI (s : Sty) (B Bs : Nat) (w : World) (pre : List (Nat × Sd)) (W : World) : Prop :=
  (Whole W B 44 (midS s pre).cells ∧ Whole W (B + 1) 44 Sty.zero.cells ∧ Bs < W.heap.size) ∧ Below B w W
theorem CI.own (s : Sty) (B Bs : Nat) (w : World) (K : Nat) (h1 : B ≤ w.heap.size) (h2 : B ≤ K) : OwnFrom K (CI s B Bs w) := fun pre X Y row ⟨⟨ha, hc, hz⟩, hb⟩ hg hr =>
  ⟨⟨ha.grown hg (ha.ne fun r e => (hr r e).2), hc.grown hg (hc.ne fun r e => (hr r e).2), Nat.lt_of_lt_of_le hz hg.size⟩, (ownFrom_below (β := Unit) h1 h2) () X Y row hb hg hr⟩
theorem cells_side (u : Sty) (k : Nat) (hk : k < 4) (x : Sd) (hs : x.s = (u.sd k).s) (hc : x.c = (u.sd k).c) : (u.cells.set (4 + k) (.int .i64 x.p)).set (8 + k * 3 + 1) (.int .i64 x.w) = ({ u with sd := fun j => if j = k then x else u.sd j } : Sty).cells := by
  obtain rfl | rfl | rfl | rfl : k = 0 ∨ k = 1 ∨ k = 2 ∨ k = 3 := by omega
  all_goals (rw [Sty.cells_lit, Sty.cells_lit]; simp [hs, hc])
theorem cells_pad (u : Sty) (k : Nat) (hk : k < 4) : u.cells[4 + k]? = some (.int .i64 (u.sd k).p) := by
  obtain rfl | rfl | rfl | rfl : k = 0 ∨ k = 1 ∨ k = 2 ∨ k = 3 := by omega
  all_goals rfl
theorem cells_wid (u : Sty) (k : Nat) (hk : k < 4) : u.cells[8 + k * 3 + 1]? = some (.int .i64 (u.sd k).w) := by
  obtain rfl | rfl | rfl | rfl : k = 0 ∨ k = 1 ∨ k = 2 ∨ k = 3 := by omega
  all_goals rfl
theorem mid_keeps (s : Sty) (n k : Nat) : ((midS s (sdEls s.sd n)).sd k).s = (s.sd k).s ∧ ((midS s (sdEls s.sd n)).sd k).c = (s.sd k).c := by
  unfold midS
  dsimp only
  rw [putS_els]
  dsimp only
  split
  · exact ⟨rfl, rfl⟩
  · exact ⟨rfl, rfl⟩
theorem mid_step (s : Sty) (k : Nat) (hk : k < 4) : ((midS s (sdEls s.sd k)).cells.set (4 + k) (.int .i64 (compSd (s.sd k)).p)).set (8 + k * 3 + 1) (.int .i64 (compSd (s.sd k)).w) = (midS s (sdEls s.sd k ++ [(k, s.sd k)])).cells := by
  have hm := mid_keeps s k k
  rw [cells_side _ k hk (compSd (s.sd k)) hm.1.symm hm.2.symm]
  congr 1
  unfold midS
  simp only [putS_snoc]
theorem mid_end (s : Sty) : (midS s (sdEls s.sd 4)).cells = ({ s with sd := fun k => compSd (s.sd k) } : Sty).cells := by
  have h : ∀ k, k < 4 → putS compSd s.sd (sdEls s.sd 4) k = compSd (s.sd k) := fun k hk => putS_all compSd s.sd s.sd 4 (fun k _ hz => by rw [hz]; rfl) k hk
  rw [Sty.cells_lit, Sty.cells_lit]
  unfold midS
  dsimp only
  rw [h 0 (by omega), h 1 (by omega), h 2 (by omega), h 3 (by omega)]
set_option maxRecDepth 100000 in
set_option maxHeartbeats 4000000 in
theorem comp_ok (s : Sty) (w : World) (hv : validS s = true) : Calls Try.prog 26 #[s.val] w fun e W' => e = .returned (compR s) ∧ Below w.heap.size w W' := by
  have hR : compR s = .tuple #[(compS s).val, .int .i64 0] := by unfold compR; rw [hv]; rfl
  rw [hR]
  have VA := Lib.hid (fun X => hv ▸ valid_any s X)
  have SF := Lib.hid (fun X => sidesF_any s X)
  obtain ⟨cs, hcs⟩ : ∃ cs, s.cells.toArray = cs := ⟨_, rfl⟩
  have hsz : (Try.prog.info? 44).map (·.size) = some cs.size := by rw [← hcs]; exact Try.infoSty
  have kb : Whole ((w.alloc (.cells cs 44)).alloc (.cells #[.int .i64 0, .int .i64 0, .int .i64 0, .int .i64 0, .int .i64 0, .int .i64 0, .int .i64 0, .int .i64 0, .int .i64 0, .int .i64 0, .int .u32 0, .int .i64 0, .int .i64 0, .int .u32 0, .int .i64 0, .int .i64 0, .int .u32 0, .int .i64 0, .int .i64 0, .int .u32 0, .int .i64 0, .int .i64 0, .int .i64 0, .bool false, .bool false, .int .i64 0, .int .i64 0, .bool false, .bool false] 44)) w.heap.size 44 s.cells := by rw [← hcs]; exact (whole_new w s.cells 44 _ rfl).alloc _
  have kz : Whole ((w.alloc (.cells cs 44)).alloc (.cells #[.int .i64 0, .int .i64 0, .int .i64 0, .int .i64 0, .int .i64 0, .int .i64 0, .int .i64 0, .int .i64 0, .int .i64 0, .int .i64 0, .int .u32 0, .int .i64 0, .int .i64 0, .int .u32 0, .int .i64 0, .int .i64 0, .int .u32 0, .int .i64 0, .int .i64 0, .int .u32 0, .int .i64 0, .int .i64 0, .int .i64 0, .bool false, .bool false, .int .i64 0, .int .i64 0, .bool false, .bool false] 44)) (w.heap.size + 1) 44 Sty.zero.cells := whole_new (w.alloc (.cells cs 44)) Sty.zero.cells 44 _ (by simp)
  have hB0 : Below w.heap.size w ((w.alloc (.cells cs 44)).alloc (.cells #[.int .i64 0, .int .i64 0, .int .i64 0, .int .i64 0, .int .i64 0, .int .i64 0, .int .i64 0, .int .i64 0, .int .i64 0, .int .i64 0, .int .u32 0, .int .i64 0, .int .i64 0, .int .u32 0, .int .i64 0, .int .i64 0, .int .u32 0, .int .i64 0, .int .i64 0, .int .u32 0, .int .i64 0, .int .i64 0, .int .i64 0, .bool false, .bool false, .int .i64 0, .int .i64 0, .bool false, .bool false] 44)) := ((Below.refl _ w).alloc (Nat.le_refl _) _).alloc (by simp) _
  have hz0 : ((w.alloc (.cells cs 44)).alloc (.cells #[.int .i64 0, .int .i64 0, .int .i64 0, .int .i64 0, .int .i64 0, .int .i64 0, .int .i64 0, .int .i64 0, .int .i64 0, .int .i64 0, .int .u32 0, .int .i64 0, .int .i64 0, .int .u32 0, .int .i64 0, .int .i64 0, .int .u32 0, .int .i64 0, .int .i64 0, .int .u32 0, .int .i64 0, .int .i64 0, .int .i64 0, .bool false, .bool false, .int .i64 0, .int .i64 0, .bool false, .bool false] 44)).heap.size = w.heap.size + 2 := by simp
  have kb' := kb
  unfold Whole at kb'
  have KB := Lib.hid kb
  have KZ := Lib.hid kz
  have HB := Lib.hid hB0
  have hzl : w.heap.size + 2 ≤ ((w.alloc (.cells cs 44)).alloc (.cells #[.int .i64 0, .int .i64 0, .int .i64 0, .int .i64 0, .int .i64 0, .int .i64 0, .int .i64 0, .int .i64 0, .int .i64 0, .int .i64 0, .int .u32 0, .int .i64 0, .int .i64 0, .int .u32 0, .int .i64 0, .int .i64 0, .int .u32 0, .int .i64 0, .int .i64 0, .int .u32 0, .int .i64 0, .int .i64 0, .int .i64 0, .bool false, .bool false, .int .i64 0, .int .i64 0, .bool false, .bool false] 44)).heap.size := by omega
  have HZL := Lib.hid hzl
  rw [show s.val = .agg s.cells.toArray from rfl]
  rw [show s.val = .agg s.cells.toArray from rfl] at VA SF
  rw [hcs] at VA SF kb' ⊢
  clear kz kb hB0 hz0 hzl
  refine (callsIn_wide (n := 3)).1 (callsIn_of_wp_marks Try.func26 rfl trivial (wpIn_wide.2 ?_) rfl)
  simp only [Try.ntmps26, List.size_toArray, List.length_cons, List.length_nil, Nat.reduceAdd, Nat.reduceSub, Array.replicate_succ, Array.replicate_zero, List.push_toArray, List.append_toArray, List.nil_append, List.cons_append]
  go_wp2_with (first
    | (go_at_call 42; refine (VA.out _).mono ?_; clear VA; rintro e w1 ⟨rfl, hb1⟩; have kz1 := Lib.hid (KZ.out.below hb1 (Nat.lt_of_lt_of_le (by omega) HZL.out)); have kb1 := Lib.hid (KB.out.below hb1 (Nat.lt_of_lt_of_le (by omega) HZL.out)); have kb2 := kb1.out; have hz1 := Lib.hid (Nat.le_trans HZL.out hb1.size); unfold Whole at kb2; rw [hcs] at kb2; have hb1' := Lib.hid (HB.out.trans (hb1.mono (Nat.le_trans (by omega) HZL.out))); clear hb1)
    | (refine wpList_load_row rfl 44 (.tmp 1) rfl _ rfl 44 cs (0, 0) _ kb' Try.underlying44 rfl hsz ?_; clear kb')
    | (refine wpList_load_row rfl 44 (.tmp 1) rfl _ rfl 44 cs (0, 0) _ kb2 Try.underlying44 rfl hsz ?_; clear kb2)
    | (go_at_call 43; refine (SF.out _).mono ?_; clear SF; rintro e w' ⟨rfl, rfl⟩))
  obtain ⟨W1, hW1⟩ : ∃ W1, w1.alloc (.cells cs 44) = W1 := ⟨_, rfl⟩
  have hz1' := hz1.out
  have k0 : Whole W1 w.heap.size 44 s.cells := by rw [← hW1]; exact kb1.out.alloc _
  have k1 : Whole W1 (w.heap.size + 1) 44 Sty.zero.cells := by rw [← hW1]; exact kz1.out.alloc _
  have k2 : Whole W1 w1.heap.size 44 s.cells := by rw [← hW1, ← hcs]; exact whole_new w1 s.cells 44 _ rfl
  have hB : Below w.heap.size w W1 := by rw [← hW1]; exact hb1'.out.alloc (by omega) _
  have hsz1 : W1.heap.size = w1.heap.size + 1 := by rw [← hW1]; simp
  rw [hW1]
  clear hW1 kz1 kb1 hb1' hz1 KB KZ HB HZL
  refine (wpIn_wide (n := 3)).1 (range_next (F := Fence.wide) rfl (by omega) (gf := 58) (lb := #[.pointer (some ⟨w1.heap.size, 0, none⟩)]) rfl trivial (enters_of Try.func58 (by kernel_rfl) rfl)
    (Kp := Stay w.heap.size w1.heap.size) (fun _ _ _ h k => h.trans k) (fun W l o h1 h2 => Stay.put W o (by omega) h2 (by omega)) (sides_next _ (by omega) w1.heap.size w.heap.size s W1 (by omega) k2) (fun _ => rfl)
    (CI s w.heap.size w1.heap.size w) (fun _ _ _ => False) (CI.own _ _ _ _ _ (Nat.le_refl _) (by omega)) (fun _ _ _ _ _ hs _ _ => hs)
    ⟨⟨k0, k1, by omega⟩, hB⟩ ?round ?done ?stop)
  case round =>
    rintro l pre x V hl ⟨⟨v0, v1, hbx⟩, hbV⟩ ⟨k, hk, hnz, rfl, rfl⟩
    have hstep := mid_step s k hk
    obtain ⟨⟨p, s', w', c⟩, ek⟩ : ∃ a, s.sd k = a := ⟨_, rfl⟩
    rw [ek] at hstep ⊢
    have hbs := hbV.size
    refine ⟨{ tmps := #[.agg cs, .pointer (some ⟨w.heap.size, 0, none⟩), .pointer (some ⟨w.heap.size + 1, 0, none⟩), .int .i64 0, .int .i64 (k : Int), .pointer (some ⟨V.heap.size, 0, none⟩), undef, undef, .agg cs, .bool true, .bool false, undef, .agg cs, .func (.func 58) #[] #[.pointer (some ⟨w1.heap.size, 0, none⟩)], .int .i64 (k : Int), .agg #[.int .i64 p, .int .i64 s', .int .i64 w', .int .u32 c], undef, undef, undef, undef, undef, undef, undef, undef, undef, undef, undef, undef, undef, undef, undef, undef, undef, undef, undef, undef, undef, undef, undef, undef, undef, undef, undef, undef, undef, undef, undef, undef, undef, undef, undef, undef, undef, undef, undef, undef, undef, undef], defers := [] }, V.alloc (.cells #[.int .i64 p, .int .i64 s', .int .i64 w', .int .u32 c] 80), ?_, (KeepsOthers.alloc V _).from _, ⟨(Below.refl _ V).alloc (by omega) _, Below.heap_alloc _ _ _ hbx⟩, ?_⟩
    · intro K hK
      clear v0 v1 hbV k0 k1 k2 hB hstep
      dsimp only [encS]
      gi_wp2
      exact hK
    · intro V₂ hgV hnc' hbl
      have kc : Whole V₂ V.heap.size 80 [.int .i64 p, .int .i64 s', .int .i64 w', .int .u32 c] := Whole.grown (whole_new V [.int .i64 p, .int .i64 s', .int .i64 w', .int .u32 c] 80 _ rfl) hgV (Whole.ne (whole_new V [.int .i64 p, .int .i64 s', .int .i64 w', .int .u32 c] 80 _ rfl) hnc')
      have v0' := (v0.alloc (.cells #[.int .i64 p, .int .i64 s', .int .i64 w', .int .u32 c] 80)).grown hgV ((v0.alloc _).ne hnc')
      have v1' := (v1.alloc (.cells #[.int .i64 p, .int .i64 s', .int .i64 w', .int .u32 c] 80)).grown hgV ((v1.alloc _).ne hnc')
      have hb2 : Below w.heap.size w V₂ := (hbV.trans ((Below.refl _ V).alloc (by omega) _)).trans hbl.1
      have q0 := kc.cellAt 0
      have q1 := kc.cellAt 1
      have q2 := kc.cellAt 2
      have q3 := kc.cellAt 3
      have lc := kc.lt
      have cp := (v0'.cellAt (4 + k)).trans (cells_pad _ k hk)
      have cw := (v0'.cellAt (8 + k * 3 + 1)).trans (cells_wid _ k hk)
      have fp := v0'.free (4 + k)
      have l0 := v0'.lt
      obtain ⟨u, hu⟩ : ∃ u, midS s (sdEls s.sd k) = u := ⟨_, rfl⟩
      rw [hu] at cp cw v0' hstep
      have hst1 : (u.cells.set (4 + k) (.int .i64 (max p 0))).set (8 + k * 3 + 1) (.int .i64 (drawnW s' w')) = (midS s (sdEls s.sd k ++ [(k, ⟨p, s', w', c⟩)])).cells := hstep
      have KV0 := Lib.hid v0'
      have KV1 := Lib.hid v1'
      have HB2 := Lib.hid hb2
      have HST := Lib.hid hst1
      have hk4 : (k : Int) < 4 := by omega
      have hl2 : w1.heap.size < V₂.heap.size := by have := hbl.1.size; simp at this; omega
      have hz2 := hb2.size
      have DA := Lib.hid (fun X => drawn_any s' w' c X)
      generalize drawnW s' w' = dw at *
      clear v0 v1 v0' v1' hbV k0 k1 k2 hB hgV hnc' hbl hb2 kc hcs hsz hstep hst1 hR hu ek hnz
      rcases (show (p < 0 ∧ max p 0 = 0) ∨ (0 ≤ p ∧ max p 0 = p) by omega) with ⟨hp0, hp1⟩ | ⟨hp0, hp1⟩
      · rw [hp1] at HST
        gi_wp2_with (refine ⟨trivial, ?_⟩; gi_at_call 44; refine (CallsIn.inRound l (callsIn_wide.2 (DA.out _))).mono ?_; rintro e w3 ⟨rfl, hb3⟩; have K3 := ((KV0.out.set (4 + k) (.int .i64 _)).below hb3 (by simp; omega)); have c3 := K3.cellAt (8 + k * 3 + 1); rw [List.getElem?_set_ne (by omega), cells_wid u k hk] at c3; have f3 := K3.free (8 + k * 3 + 1); have l3 := K3.lt; have BB3 := Lib.hid hb3; have KK3 := Lib.hid K3; clear hb3 K3)
        have B1 : Below w.heap.size V₂ (V₂.setCell ⟨w.heap.size, 4 + k, none⟩ (.int .i64 0)) := (Below.refl _ V₂).setCell (p := ⟨w.heap.size, 4 + k, none⟩) (Nat.le_refl _) _
        have B2 := (B1.trans (BB3.out.mono (by simp; omega))).setCell (p := ⟨w.heap.size, 8 + k * 3 + 1, none⟩) (Nat.le_refl _) (.int .i64 dw)
        refine ⟨((KeepsOthers.setCell V₂ _ _).trans ((keeps_below BB3.out).trans (KeepsOthers.setCell _ _ _))).from _, ⟨B2, ?_⟩, ⟨?_, ?_, ?_⟩, HB2.out.trans B2⟩
        · rw [Below.heap_setCell _ _ _ _ (by simp; omega), BB3.out.block _ (by simp; omega), Below.heap_setCell _ _ _ _ (by simp; omega)]
        · have h := KK3.out.set (8 + k * 3 + 1) (.int .i64 dw)
          rw [HST.out] at h; exact h
        · exact ((KV1.out.other ⟨w.heap.size, 4 + k, none⟩ _ (by simp)).below BB3.out (by simp; omega)).other ⟨w.heap.size, 8 + k * 3 + 1, none⟩ _ (by simp)
        · have := B2.size; omega
      · rw [hp1] at HST
        gi_wp2_with (refine ⟨trivial, ?_⟩; gi_at_call 44; refine (CallsIn.inRound l (callsIn_wide.2 (DA.out _))).mono ?_; rintro e w3 ⟨rfl, hb3⟩; have K3 := ((KV0.out.set (4 + k) (.int .i64 _)).below hb3 (by simp; omega)); have c3 := K3.cellAt (8 + k * 3 + 1); rw [List.getElem?_set_ne (by omega), cells_wid u k hk] at c3; have f3 := K3.free (8 + k * 3 + 1); have l3 := K3.lt; have BB3 := Lib.hid hb3; have KK3 := Lib.hid K3; clear hb3 K3)
        have B1 : Below w.heap.size V₂ (V₂.setCell ⟨w.heap.size, 4 + k, none⟩ (.int .i64 p)) := (Below.refl _ V₂).setCell (p := ⟨w.heap.size, 4 + k, none⟩) (Nat.le_refl _) _
        have B2 := (B1.trans (BB3.out.mono (by simp; omega))).setCell (p := ⟨w.heap.size, 8 + k * 3 + 1, none⟩) (Nat.le_refl _) (.int .i64 dw)
        refine ⟨((KeepsOthers.setCell V₂ _ _).trans ((keeps_below BB3.out).trans (KeepsOthers.setCell _ _ _))).from _, ⟨B2, ?_⟩, ⟨?_, ?_, ?_⟩, HB2.out.trans B2⟩
        · rw [Below.heap_setCell _ _ _ _ (by simp; omega), BB3.out.block _ (by simp; omega), Below.heap_setCell _ _ _ _ (by simp; omega)]
        · have h := KK3.out.set (8 + k * 3 + 1) (.int .i64 dw)
          rw [HST.out] at h; exact h
        · exact ((KV1.out.other ⟨w.heap.size, 4 + k, none⟩ _ (by simp)).below BB3.out (by simp; omega)).other ⟨w.heap.size, 8 + k * 3 + 1, none⟩ _ (by simp)
        · have := B2.size; omega
  case done =>
    rintro D xs V hD rfl ⟨⟨v0, v1, hbx⟩, hbV⟩ hK
    rw [mid_end] at v0
    obtain ⟨u, hu⟩ : ∃ u : Sty, ({ s with sd := fun k => compSd (s.sd k) } : Sty) = u := ⟨_, rfl⟩
    rw [hu] at v0
    have hfin : Hid (compS s = { u with wn := compN u.wk u.wn, hn := compN u.hk u.hn, cs := max u.cs 1, rs := (if u.rs < 0 then 1 else u.rs), g0 := max u.g0 0, g1 := max u.g1 0 }) := Lib.hid (by subst hu; rfl)
    have KV := Lib.hid v0
    have KV1 := Lib.hid v1
    have HBV := Lib.hid hbV
    have hbz := hbV.size
    have hDl : D < V.heap.size := (Array.getElem?_eq_some_iff.1 hK).1
    have HK := Lib.hid hK
    have d25 : V.cell? ⟨w.heap.size, 25, none⟩ = some (.int .i64 u.g0) := v0.cellAt 25
    have d26 : V.cell? ⟨w.heap.size, 26, none⟩ = some (.int .i64 u.g1) := v0.cellAt 26
    have f25 := v0.free 25
    have f26 := v0.free 26
    have l0 := v0.lt
    have x0 : ∀ w : World, (Instr.index 42 (.agg #[.int .i64 u.g0, .int .i64 u.g1]) (.int .i64 0)).run Try.prog w = .ok (.int .i64 u.g0) w := fun _ => by kernel_rfl
    have x1 : ∀ w : World, (Instr.index 42 (.agg #[.int .i64 u.g0, .int .i64 u.g1]) (.int .i64 1)).run Try.prog w = .ok (.int .i64 u.g1) w := fun _ => by kernel_rfl
    obtain ⟨m0, hm0⟩ : ∃ m, (if u.g0 < 0 then 0 else u.g0) = m := ⟨_, rfl⟩
    obtain ⟨m1, hm1⟩ : ∃ m, (if u.g1 < 0 then 0 else u.g1) = m := ⟨_, rfl⟩
    clear v0 v1 hbV hK k0 k1 k2 hB hcs hsz hR hu
    go_wp2
    refine wp_loop_rounds 3 ?_
    rw [rounds_succ]
    go_wp2
    rw [rounds_succ]
    go_wp2
    rw [rounds_succ]
    go_wp2
    obtain ⟨V3, hV3⟩ : ∃ V3, (V.setCell ⟨w.heap.size, 25, none⟩ (.int .i64 m0)).setCell ⟨w.heap.size, 26, none⟩ (.int .i64 m1) = V3 := ⟨_, rfl⟩
    have hm0' : max u.g0 0 = m0 := by rw [← hm0]; split <;> omega
    have hm1' : max u.g1 0 = m1 := by rw [← hm1]; split <;> omega
    rw [hm0', hm1'] at hfin
    have K3 : Whole V3 w.heap.size 44 ({ u with g0 := m0, g1 := m1 } : Sty).cells := by rw [← hV3]; exact (KV.out.set 25 (.int .i64 m0)).set 26 (.int .i64 m1)
    have K31 : Whole V3 (w.heap.size + 1) 44 Sty.zero.cells := by rw [← hV3]; exact (KV1.out.other ⟨w.heap.size, 25, none⟩ _ (by simp)).other ⟨w.heap.size, 26, none⟩ _ (by simp)
    have B3 : Below w.heap.size w V3 := by rw [← hV3]; exact (HBV.out.setCell (p := ⟨w.heap.size, 25, none⟩) (Nat.le_refl _) _).setCell (p := ⟨w.heap.size, 26, none⟩) (Nat.le_refl _) _
    have HK3 : Hid (V3.heap[D]? = some (.deferred (some []))) := Lib.hid (by rw [← hV3, Below.heap_setCell _ _ _ _ (by simp; omega), Below.heap_setCell _ _ _ _ (by simp; omega)]; exact HK.out)
    have hDl3 : D < V3.heap.size := (Array.getElem?_eq_some_iff.1 HK3.out).1
    rw [hV3]
    have z3 := B3.size
    clear hV3 KV KV1 HBV HK d25 d26 f25 f26 l0 x0 x1 hm0 hm1 hm0' hm1' hbx hDl
    have d0 : V3.cell? ⟨w.heap.size, 0, none⟩ = some (.int .i64 u.wk) := K3.cellAt 0
    have d1 : V3.cell? ⟨w.heap.size, 1, none⟩ = some (.int .i64 u.wn) := K3.cellAt 1
    have d2 : V3.cell? ⟨w.heap.size, 2, none⟩ = some (.int .i64 u.hk) := K3.cellAt 2
    have d3 : V3.cell? ⟨w.heap.size, 3, none⟩ = some (.int .i64 u.hn) := K3.cellAt 3
    have l3 := K3.lt
    have HB3 := Lib.hid B3
    have HK31 := Lib.hid K31
    have HK3' := Lib.hid K3
    have C1 := Lib.hid (fun X => compSize_any u.wk u.wn X)
    have C2 := Lib.hid (fun X => compSize_any u.hk u.hn X)
    generalize compN u.wk u.wn = nw at *
    generalize compN u.hk u.hn = nh at *
    clear B3 K31 K3
    refine region_held_np (S := fun _ => True) (by kernel_rfl) (fun W6 hW6 => ?_)
    have SV : Hid (Below V3.heap.size V3 W6) := by apply Lib.hid; rw [← hW6]; exact below_dn _ V3 1
    clear hW6
    refine wpAnyH_take (i := 0) (v := .pointer (some ⟨w.heap.size, 0, none⟩)) rfl (by kernel_rfl) (by kernel_rfl) (by kernel_rfl) (fun _ _ _ h => h) (Or.inl ⟨by rfl, ?_⟩) trivial ?_
    · intro X hX; go_simp
    change wpAnyH _ _ _ _ _ _ _ { tmps := #[.agg cs, .pointer (some ⟨w.heap.size, 0, none⟩), .pointer (some ⟨w.heap.size + 1, 0, none⟩), .int .i64 0, undef, undef, .int .i64 1, .int .i64 u.g1, .agg cs, .bool true, .bool false, undef, .agg cs, .func (.func 58) #[] #[.pointer (some ⟨w1.heap.size, 0, none⟩)], undef, undef, undef, undef, undef, undef, undef, undef, undef, undef, undef, undef, undef, undef, undef, .pointer (some ⟨w.heap.size, 25, none⟩), .agg #[.int .i64 u.g0, .int .i64 u.g1], .int .i64 2, .bool false, .int .i64 1, .int .i64 u.g1, .int .i64 1, .int .i64 u.g1, .int .i64 m1, .pointer (some ⟨w.heap.size, 25, none⟩), .pointer (some ⟨w.heap.size, 26, none⟩), .int .i64 2, .pointer (some ⟨w.heap.size, 0, none⟩), undef, undef, undef, undef, undef, undef, undef, undef, undef, undef, undef, undef, undef, undef, undef, undef], defers := [{ target := .collected D, args := #[] }] } _
    refine wpAnyH_take (i := 3) (v := .pointer (some ⟨w.heap.size, 2, none⟩)) rfl (by kernel_rfl) (by kernel_rfl) (by kernel_rfl) (fun _ _ _ h => h) (Or.inl ⟨by rfl, ?_⟩) trivial ?_
    · intro X hX; go_simp
    change wpAnyH _ _ _ _ _ _ _ { tmps := #[.agg cs, .pointer (some ⟨w.heap.size, 0, none⟩), .pointer (some ⟨w.heap.size + 1, 0, none⟩), .int .i64 0, undef, undef, .int .i64 1, .int .i64 u.g1, .agg cs, .bool true, .bool false, undef, .agg cs, .func (.func 58) #[] #[.pointer (some ⟨w1.heap.size, 0, none⟩)], undef, undef, undef, undef, undef, undef, undef, undef, undef, undef, undef, undef, undef, undef, undef, .pointer (some ⟨w.heap.size, 25, none⟩), .agg #[.int .i64 u.g0, .int .i64 u.g1], .int .i64 2, .bool false, .int .i64 1, .int .i64 u.g1, .int .i64 1, .int .i64 u.g1, .int .i64 m1, .pointer (some ⟨w.heap.size, 25, none⟩), .pointer (some ⟨w.heap.size, 26, none⟩), .int .i64 2, .pointer (some ⟨w.heap.size, 0, none⟩), undef, undef, .pointer (some ⟨w.heap.size, 2, none⟩), undef, undef, undef, undef, undef, undef, undef, undef, undef, undef, undef, undef, undef], defers := [{ target := .collected D, args := #[] }] } _
    refine wpAnyH_all (rs := [1, 4]) (by kernel_rfl) (by simp) ?_
    intro i hi
    have hi' : i = 1 ∨ i = 4 := by simpa using hi
    clear hi
    rcases hi' with rfl | rfl
    · skip
      have e0 := (SV.out.cell (p := ⟨w.heap.size, 0, none⟩) l3).trans d0; have e1 := (SV.out.cell (p := ⟨w.heap.size, 1, none⟩) l3).trans d1
      refine wpOp_step rfl (fun K hK => ?_)
      go_simp
      refine hK _ _ ⟨trivial, ?_⟩
      clear hK K e0 e1
      change wpAnyH _ _ _ _ _ _ _ { tmps := #[.agg cs, .pointer (some ⟨w.heap.size, 0, none⟩), .pointer (some ⟨w.heap.size + 1, 0, none⟩), .int .i64 0, undef, undef, .int .i64 1, .int .i64 u.g1, .agg cs, .bool true, .bool false, undef, .agg cs, .func (.func 58) #[] #[.pointer (some ⟨w1.heap.size, 0, none⟩)], undef, undef, undef, undef, undef, undef, undef, undef, undef, undef, undef, undef, undef, undef, undef, .pointer (some ⟨w.heap.size, 25, none⟩), .agg #[.int .i64 u.g0, .int .i64 u.g1], .int .i64 2, .bool false, .int .i64 1, .int .i64 u.g1, .int .i64 1, .int .i64 u.g1, .int .i64 m1, .pointer (some ⟨w.heap.size, 25, none⟩), .pointer (some ⟨w.heap.size, 26, none⟩), .int .i64 2, .pointer (some ⟨w.heap.size, 0, none⟩), .agg #[.int .i64 u.wk, .int .i64 u.wn], undef, .pointer (some ⟨w.heap.size, 2, none⟩), undef, undef, undef, undef, undef, undef, undef, undef, undef, undef, undef, undef, undef], defers := [{ target := .collected D, args := #[] }] } _
      refine wpAnyH_all (rs := [2, 4]) (by kernel_rfl) (by simp) ?_
      intro i hi
      have hi' : i = 2 ∨ i = 4 := by simpa using hi
      clear hi
      rcases hi' with rfl | rfl
      · skip
        refine wpOp_step rfl (fun K hK => ?_)
        go_simp
        refine (C1.out _).mono ?_
        rintro e w4 ⟨rfl, hb⟩
        have S4 : Hid (Below V3.heap.size V3 w4) := Lib.hid (SV.out.trans (hb.mono SV.out.size))
        refine hK _ _ ⟨trivial, ?_⟩
        clear hK K hb
        change wpAnyH _ _ _ _ _ _ _ { tmps := #[.agg cs, .pointer (some ⟨w.heap.size, 0, none⟩), .pointer (some ⟨w.heap.size + 1, 0, none⟩), .int .i64 0, undef, undef, .int .i64 1, .int .i64 u.g1, .agg cs, .bool true, .bool false, undef, .agg cs, .func (.func 58) #[] #[.pointer (some ⟨w1.heap.size, 0, none⟩)], undef, undef, undef, undef, undef, undef, undef, undef, undef, undef, undef, undef, undef, undef, undef, .pointer (some ⟨w.heap.size, 25, none⟩), .agg #[.int .i64 u.g0, .int .i64 u.g1], .int .i64 2, .bool false, .int .i64 1, .int .i64 u.g1, .int .i64 1, .int .i64 u.g1, .int .i64 m1, .pointer (some ⟨w.heap.size, 25, none⟩), .pointer (some ⟨w.heap.size, 26, none⟩), .int .i64 2, .pointer (some ⟨w.heap.size, 0, none⟩), .agg #[.int .i64 u.wk, .int .i64 u.wn], .agg #[.int .i64 u.wk, .int .i64 nw], .pointer (some ⟨w.heap.size, 2, none⟩), undef, undef, undef, undef, undef, undef, undef, undef, undef, undef, undef, undef, undef], defers := [{ target := .collected D, args := #[] }] } _
        refine wpAnyH_all (rs := [4]) (by kernel_rfl) (by simp) ?_
        intro i hi; obtain rfl : i = 4 := by simpa using hi
        clear hi
        have e0 := (S4.out.cell (p := ⟨w.heap.size, 2, none⟩) l3).trans d2; have e1 := (S4.out.cell (p := ⟨w.heap.size, 3, none⟩) l3).trans d3
        refine wpOp_step rfl (fun K hK => ?_)
        go_simp
        refine hK _ _ ⟨trivial, ?_⟩
        clear hK K e0 e1
        change wpAnyH _ _ _ _ _ _ _ { tmps := #[.agg cs, .pointer (some ⟨w.heap.size, 0, none⟩), .pointer (some ⟨w.heap.size + 1, 0, none⟩), .int .i64 0, undef, undef, .int .i64 1, .int .i64 u.g1, .agg cs, .bool true, .bool false, undef, .agg cs, .func (.func 58) #[] #[.pointer (some ⟨w1.heap.size, 0, none⟩)], undef, undef, undef, undef, undef, undef, undef, undef, undef, undef, undef, undef, undef, undef, undef, .pointer (some ⟨w.heap.size, 25, none⟩), .agg #[.int .i64 u.g0, .int .i64 u.g1], .int .i64 2, .bool false, .int .i64 1, .int .i64 u.g1, .int .i64 1, .int .i64 u.g1, .int .i64 m1, .pointer (some ⟨w.heap.size, 25, none⟩), .pointer (some ⟨w.heap.size, 26, none⟩), .int .i64 2, .pointer (some ⟨w.heap.size, 0, none⟩), .agg #[.int .i64 u.wk, .int .i64 u.wn], .agg #[.int .i64 u.wk, .int .i64 nw], .pointer (some ⟨w.heap.size, 2, none⟩), .agg #[.int .i64 u.hk, .int .i64 u.hn], undef, undef, undef, undef, undef, undef, undef, undef, undef, undef, undef, undef], defers := [{ target := .collected D, args := #[] }] } _
        refine wpAnyH_take (i := 6) (v := .pointer (some ⟨w.heap.size, 0, none⟩)) rfl (by kernel_rfl) (by kernel_rfl) (by kernel_rfl) (fun _ _ _ h => h) (Or.inl ⟨by rfl, ?_⟩) trivial ?_
        · intro X hX; go_simp
        change wpAnyH _ _ _ _ _ _ _ { tmps := #[.agg cs, .pointer (some ⟨w.heap.size, 0, none⟩), .pointer (some ⟨w.heap.size + 1, 0, none⟩), .int .i64 0, undef, undef, .int .i64 1, .int .i64 u.g1, .agg cs, .bool true, .bool false, undef, .agg cs, .func (.func 58) #[] #[.pointer (some ⟨w1.heap.size, 0, none⟩)], undef, undef, undef, undef, undef, undef, undef, undef, undef, undef, undef, undef, undef, undef, undef, .pointer (some ⟨w.heap.size, 25, none⟩), .agg #[.int .i64 u.g0, .int .i64 u.g1], .int .i64 2, .bool false, .int .i64 1, .int .i64 u.g1, .int .i64 1, .int .i64 u.g1, .int .i64 m1, .pointer (some ⟨w.heap.size, 25, none⟩), .pointer (some ⟨w.heap.size, 26, none⟩), .int .i64 2, .pointer (some ⟨w.heap.size, 0, none⟩), .agg #[.int .i64 u.wk, .int .i64 u.wn], .agg #[.int .i64 u.wk, .int .i64 nw], .pointer (some ⟨w.heap.size, 2, none⟩), .agg #[.int .i64 u.hk, .int .i64 u.hn], undef, .pointer (some ⟨w.heap.size, 0, none⟩), undef, undef, undef, undef, undef, undef, undef, undef, undef, undef], defers := [{ target := .collected D, args := #[] }] } _
        refine wpAnyH_all (rs := [5]) (by kernel_rfl) (by simp) ?_
        intro i hi; obtain rfl : i = 5 := by simpa using hi
        clear hi
        refine wpOp_step rfl (fun K hK => ?_)
        go_simp
        refine (C2.out _).mono ?_
        rintro e w5 ⟨rfl, hb⟩
        have S5 : Hid (Below V3.heap.size V3 w5) := Lib.hid (S4.out.trans (hb.mono S4.out.size))
        refine hK _ _ ⟨trivial, ?_⟩
        clear hK K hb
        change wpAnyH _ _ _ _ _ _ _ { tmps := #[.agg cs, .pointer (some ⟨w.heap.size, 0, none⟩), .pointer (some ⟨w.heap.size + 1, 0, none⟩), .int .i64 0, undef, undef, .int .i64 1, .int .i64 u.g1, .agg cs, .bool true, .bool false, undef, .agg cs, .func (.func 58) #[] #[.pointer (some ⟨w1.heap.size, 0, none⟩)], undef, undef, undef, undef, undef, undef, undef, undef, undef, undef, undef, undef, undef, undef, undef, .pointer (some ⟨w.heap.size, 25, none⟩), .agg #[.int .i64 u.g0, .int .i64 u.g1], .int .i64 2, .bool false, .int .i64 1, .int .i64 u.g1, .int .i64 1, .int .i64 u.g1, .int .i64 m1, .pointer (some ⟨w.heap.size, 25, none⟩), .pointer (some ⟨w.heap.size, 26, none⟩), .int .i64 2, .pointer (some ⟨w.heap.size, 0, none⟩), .agg #[.int .i64 u.wk, .int .i64 u.wn], .agg #[.int .i64 u.wk, .int .i64 nw], .pointer (some ⟨w.heap.size, 2, none⟩), .agg #[.int .i64 u.hk, .int .i64 u.hn], .agg #[.int .i64 u.hk, .int .i64 nh], .pointer (some ⟨w.heap.size, 0, none⟩), undef, undef, undef, undef, undef, undef, undef, undef, undef, undef], defers := [{ target := .collected D, args := #[] }] } _
        have e0 : w5.cell? ⟨w.heap.size, 0, none⟩ = some (.int .i64 u.wk) := (S5.out.cell (p := ⟨w.heap.size, 0, none⟩) l3).trans d0
        have e1 : w5.cell? ⟨w.heap.size, 1, none⟩ = some (.int .i64 u.wn) := (S5.out.cell (p := ⟨w.heap.size, 1, none⟩) l3).trans d1
        have e2 : w5.cell? ⟨w.heap.size, 2, none⟩ = some (.int .i64 u.hk) := (S5.out.cell (p := ⟨w.heap.size, 2, none⟩) l3).trans d2
        have e3 : w5.cell? ⟨w.heap.size, 3, none⟩ = some (.int .i64 u.hn) := (S5.out.cell (p := ⟨w.heap.size, 3, none⟩) l3).trans d3
        have K5 := HK3'.out.below S5.out l3
        have g0 := K5.free 0
        have g1 := K5.free 1
        have g2 := K5.free 2
        have g3 := K5.free 3
        have l5 := K5.lt
        have K51 := HK31.out.below S5.out (by have := HK31.out.lt; omega)
        refine wpAnyH_all (rs := [7]) (by kernel_rfl) (by simp) ?_
        intro i hi; obtain rfl : i = 7 := by simpa using hi
        clear hi
        refine wpOp_step rfl (fun K hK => ?_)
        go_simp
        refine hK _ _ ⟨trivial, ?_⟩
        clear hK K
        change wpAnyH _ _ _ _ _ _ _ { tmps := #[.agg cs, .pointer (some ⟨w.heap.size, 0, none⟩), .pointer (some ⟨w.heap.size + 1, 0, none⟩), .int .i64 0, undef, undef, .int .i64 1, .int .i64 u.g1, .agg cs, .bool true, .bool false, undef, .agg cs, .func (.func 58) #[] #[.pointer (some ⟨w1.heap.size, 0, none⟩)], undef, undef, undef, undef, undef, undef, undef, undef, undef, undef, undef, undef, undef, undef, undef, .pointer (some ⟨w.heap.size, 25, none⟩), .agg #[.int .i64 u.g0, .int .i64 u.g1], .int .i64 2, .bool false, .int .i64 1, .int .i64 u.g1, .int .i64 1, .int .i64 u.g1, .int .i64 m1, .pointer (some ⟨w.heap.size, 25, none⟩), .pointer (some ⟨w.heap.size, 26, none⟩), .int .i64 2, .pointer (some ⟨w.heap.size, 0, none⟩), .agg #[.int .i64 u.wk, .int .i64 u.wn], .agg #[.int .i64 u.wk, .int .i64 nw], .pointer (some ⟨w.heap.size, 2, none⟩), .agg #[.int .i64 u.hk, .int .i64 u.hn], .agg #[.int .i64 u.hk, .int .i64 nh], .pointer (some ⟨w.heap.size, 0, none⟩), undef, undef, undef, undef, undef, undef, undef, undef, undef, undef], defers := [{ target := .collected D, args := #[] }] } _
        refine wpAnyH_take (i := 8) (v := .pointer (some ⟨w.heap.size, 2, none⟩)) rfl (by kernel_rfl) (by kernel_rfl) (by kernel_rfl) (fun _ _ _ h => h) (Or.inl ⟨by rfl, ?_⟩) trivial ?_
        · intro X hX; go_simp
        change wpAnyH _ _ _ _ _ _ _ { tmps := #[.agg cs, .pointer (some ⟨w.heap.size, 0, none⟩), .pointer (some ⟨w.heap.size + 1, 0, none⟩), .int .i64 0, undef, undef, .int .i64 1, .int .i64 u.g1, .agg cs, .bool true, .bool false, undef, .agg cs, .func (.func 58) #[] #[.pointer (some ⟨w1.heap.size, 0, none⟩)], undef, undef, undef, undef, undef, undef, undef, undef, undef, undef, undef, undef, undef, undef, undef, .pointer (some ⟨w.heap.size, 25, none⟩), .agg #[.int .i64 u.g0, .int .i64 u.g1], .int .i64 2, .bool false, .int .i64 1, .int .i64 u.g1, .int .i64 1, .int .i64 u.g1, .int .i64 m1, .pointer (some ⟨w.heap.size, 25, none⟩), .pointer (some ⟨w.heap.size, 26, none⟩), .int .i64 2, .pointer (some ⟨w.heap.size, 0, none⟩), .agg #[.int .i64 u.wk, .int .i64 u.wn], .agg #[.int .i64 u.wk, .int .i64 nw], .pointer (some ⟨w.heap.size, 2, none⟩), .agg #[.int .i64 u.hk, .int .i64 u.hn], .agg #[.int .i64 u.hk, .int .i64 nh], .pointer (some ⟨w.heap.size, 0, none⟩), .pointer (some ⟨w.heap.size, 2, none⟩), undef, undef, undef, undef, undef, undef, undef, undef, undef], defers := [{ target := .collected D, args := #[] }] } _
        refine wpAnyH_all (rs := [9]) (by kernel_rfl) (by simp) ?_
        intro i hi; obtain rfl : i = 9 := by simpa using hi
        clear hi
        refine wpOp_step rfl (fun K hK => ?_)
        go_simp
        refine hK _ _ ⟨trivial, ?_⟩
        clear hK K
        change wpAnyH _ _ _ _ _ _ _ { tmps := #[.agg cs, .pointer (some ⟨w.heap.size, 0, none⟩), .pointer (some ⟨w.heap.size + 1, 0, none⟩), .int .i64 0, undef, undef, .int .i64 1, .int .i64 u.g1, .agg cs, .bool true, .bool false, undef, .agg cs, .func (.func 58) #[] #[.pointer (some ⟨w1.heap.size, 0, none⟩)], undef, undef, undef, undef, undef, undef, undef, undef, undef, undef, undef, undef, undef, undef, undef, .pointer (some ⟨w.heap.size, 25, none⟩), .agg #[.int .i64 u.g0, .int .i64 u.g1], .int .i64 2, .bool false, .int .i64 1, .int .i64 u.g1, .int .i64 1, .int .i64 u.g1, .int .i64 m1, .pointer (some ⟨w.heap.size, 25, none⟩), .pointer (some ⟨w.heap.size, 26, none⟩), .int .i64 2, .pointer (some ⟨w.heap.size, 0, none⟩), .agg #[.int .i64 u.wk, .int .i64 u.wn], .agg #[.int .i64 u.wk, .int .i64 nw], .pointer (some ⟨w.heap.size, 2, none⟩), .agg #[.int .i64 u.hk, .int .i64 u.hn], .agg #[.int .i64 u.hk, .int .i64 nh], .pointer (some ⟨w.heap.size, 0, none⟩), .pointer (some ⟨w.heap.size, 2, none⟩), undef, undef, undef, undef, undef, undef, undef, undef, undef], defers := [{ target := .collected D, args := #[] }] } _
        refine wpAnyH_done (by kernel_rfl) ?_ _
        obtain ⟨V6, hV6⟩ : ∃ V6, (((w5.setCell ⟨w.heap.size, 0, none⟩ (.int .i64 u.wk)).setCell ⟨w.heap.size, 1, none⟩ (.int .i64 nw)).setCell ⟨w.heap.size, 2, none⟩ (.int .i64 u.hk)).setCell ⟨w.heap.size, 3, none⟩ (.int .i64 nh) = V6 := ⟨_, rfl⟩
        have K6 : Whole V6 w.heap.size 44 ({ u with wn := nw, hn := nh, g0 := m0, g1 := m1 } : Sty).cells := by rw [← hV6]; exact (((K5.set 0 (.int .i64 u.wk)).set 1 (.int .i64 nw)).set 2 (.int .i64 u.hk)).set 3 (.int .i64 nh)
        have K61 : Whole V6 (w.heap.size + 1) 44 Sty.zero.cells := by rw [← hV6]; exact (((K51.other ⟨w.heap.size, 0, none⟩ _ (by simp)).other ⟨w.heap.size, 1, none⟩ _ (by simp)).other ⟨w.heap.size, 2, none⟩ _ (by simp)).other ⟨w.heap.size, 3, none⟩ _ (by simp)
        have B6 : Below w.heap.size w V6 := by rw [← hV6]; exact ((((HB3.out.trans (S5.out.mono z3)).setCell (p := ⟨w.heap.size, 0, none⟩) (Nat.le_refl _) _).setCell (p := ⟨w.heap.size, 1, none⟩) (Nat.le_refl _) _).setCell (p := ⟨w.heap.size, 2, none⟩) (Nat.le_refl _) _).setCell (p := ⟨w.heap.size, 3, none⟩) (Nat.le_refl _) _
        have HK6 : Hid (V6.heap[D]? = some (.deferred (some []))) := Lib.hid (by rw [← hV6, Below.heap_setCell _ _ _ _ (by simp; omega), Below.heap_setCell _ _ _ _ (by simp; omega), Below.heap_setCell _ _ _ _ (by simp; omega), Below.heap_setCell _ _ _ _ (by simp; omega), S5.out.block D hDl3]; exact HK3.out)
        rw [hV6]
        clear hV6 e0 e1 e2 e3 g0 g1 g2 g3 l5 K5 K51 S5 d0 d1 d2 d3 HB3 HK31 HK3' HK3 SV l3 C1 C2
        have e20 : V6.cell? ⟨w.heap.size, 20, none⟩ = some (.int .i64 u.cs) := K6.cellAt 20
        have e21 : V6.cell? ⟨w.heap.size, 21, none⟩ = some (.int .i64 u.rs) := K6.cellAt 21
        have g20 := K6.free 20
        have g21 := K6.free 21
        have l6 := K6.lt
        have l61 := K61.lt
        obtain ⟨mc, hmc⟩ : ∃ m, (if u.cs < 1 then 1 else u.cs) = m := ⟨_, rfl⟩
        have hmc' : max u.cs 1 = mc := by rw [← hmc]; split <;> omega
        simp only [noPan]
        have hz6 := B6.size
        have HB6 := Lib.hid B6
        by_cases hr : u.rs < 0
        · have hq : Hid (compS s = { u with wn := nw, hn := nh, cs := mc, rs := 1, g0 := m0, g1 := m1 }) := Lib.hid (by rw [hfin.out, hmc', if_pos hr])
          have KF : Whole ((V6.setCell ⟨w.heap.size, 20, none⟩ (.int .i64 mc)).setCell ⟨w.heap.size, 21, none⟩ (.int .i64 1)) w.heap.size 44 ({ u with wn := nw, hn := nh, cs := mc, rs := 1, g0 := m0, g1 := m1 } : Sty).cells := ((K6.set 20 (.int .i64 mc)).set 21 (.int .i64 1))
          have KG : Whole ((V6.setCell ⟨w.heap.size, 20, none⟩ (.int .i64 mc)).setCell ⟨w.heap.size, 21, none⟩ (.int .i64 1)) (w.heap.size + 1) 44 Sty.zero.cells := ((K61.other ⟨w.heap.size, 20, none⟩ (.int .i64 mc) (by simp)).other ⟨w.heap.size, 21, none⟩ (.int .i64 1) (by simp))
          have BF := Lib.hid ((HB6.out.setCell (p := ⟨w.heap.size, 20, none⟩) (Nat.le_refl _) (.int .i64 mc)).setCell (p := ⟨w.heap.size, 21, none⟩) (Nat.le_refl _) (.int .i64 1))
          have HD := Lib.hid ((Below.heap_setCell (V6.setCell ⟨w.heap.size, 20, none⟩ (.int .i64 mc)) ⟨w.heap.size, 21, none⟩ (.int .i64 1) D (by simp; omega)).trans ((Below.heap_setCell V6 ⟨w.heap.size, 20, none⟩ (.int .i64 mc) D (by simp; omega)).trans HK6.out))
          rw [← hq.out] at KF
          obtain ⟨fs, hfs⟩ : ∃ fs, (compS s).cells.toArray = fs := ⟨_, rfl⟩
          have KF' := KF
          unfold Whole at KF' KG
          rw [hfs] at KF'
          have hfz : (Try.prog.info? 44).map (·.size) = some fs.size := by rw [← hfs]; exact Try.infoSty
          have hfo : fs.all (·.oneCell') = true := by rw [← hfs]; exact cells_one _
          have hfl : (Sty.zero.cells.toArray).size = fs.size := by rw [← hfs]; rfl
          have KG' := Lib.hid KG
          have KGR := Lib.hid (whole_row (xs := Sty.zero.cells) KG (compS s).cells)
          rw [hfs] at KGR
          have HDR : Hid ((World.setRow ((V6.setCell ⟨w.heap.size, 20, none⟩ (.int .i64 mc)).setCell ⟨w.heap.size, 21, none⟩ (.int .i64 1)) (w.heap.size + 1) fs).heap[D]? = some (.deferred (some []))) := Lib.hid ((setRow_other _ _ _ _ (by omega)).trans HD.out)
          have BFR := Lib.hid (BF.out.trans (below_row ((V6.setCell ⟨w.heap.size, 20, none⟩ (.int .i64 mc)).setCell ⟨w.heap.size, 21, none⟩ (.int .i64 1)) (w.heap.size + 1) fs (by omega)))
          clear hfin hmc' K6 K61 B6 KF KG hfs hq
          go_wp2_with (first
            | (refine wpList_load_row rfl 44 (.tmp 1) rfl _ rfl 44 fs (0, 0) _ KF' Try.underlying44 rfl hfz ?_; clear KF')
            | (refine wpList_store_row rfl 44 (.tmp 2) (.tmp 57) rfl _ fs rfl rfl 44 Sty.zero.cells.toArray KG'.out hfz hfl hfo ?_; clear KG'))
          refine leaves_marks w.heap.size [D] _ ((Marks.nil w.heap.size _).cons (D := D) (by omega) HDR.out (fun E hE => by cases hE)) (fun W' hck hbk => ⟨_, results_sty (g := w.heap.size + 1) rfl rfl rfl (hck _ _ KGR.out rfl), rfl, BFR.out.trans hbk⟩)
        · have hq : Hid (compS s = { u with wn := nw, hn := nh, cs := mc, rs := u.rs, g0 := m0, g1 := m1 }) := Lib.hid (by rw [hfin.out, hmc', if_neg hr])
          have KF : Whole (V6.setCell ⟨w.heap.size, 20, none⟩ (.int .i64 mc)) w.heap.size 44 ({ u with wn := nw, hn := nh, cs := mc, rs := u.rs, g0 := m0, g1 := m1 } : Sty).cells := (K6.set 20 (.int .i64 mc))
          have KG : Whole (V6.setCell ⟨w.heap.size, 20, none⟩ (.int .i64 mc)) (w.heap.size + 1) 44 Sty.zero.cells := (K61.other ⟨w.heap.size, 20, none⟩ (.int .i64 mc) (by simp))
          have BF := Lib.hid (HB6.out.setCell (p := ⟨w.heap.size, 20, none⟩) (Nat.le_refl _) (.int .i64 mc))
          have HD := Lib.hid ((Below.heap_setCell V6 ⟨w.heap.size, 20, none⟩ (.int .i64 mc) D (by simp; omega)).trans HK6.out)
          rw [← hq.out] at KF
          obtain ⟨fs, hfs⟩ : ∃ fs, (compS s).cells.toArray = fs := ⟨_, rfl⟩
          have KF' := KF
          unfold Whole at KF' KG
          rw [hfs] at KF'
          have hfz : (Try.prog.info? 44).map (·.size) = some fs.size := by rw [← hfs]; exact Try.infoSty
          have hfo : fs.all (·.oneCell') = true := by rw [← hfs]; exact cells_one _
          have hfl : (Sty.zero.cells.toArray).size = fs.size := by rw [← hfs]; rfl
          have KG' := Lib.hid KG
          have KGR := Lib.hid (whole_row (xs := Sty.zero.cells) KG (compS s).cells)
          rw [hfs] at KGR
          have HDR : Hid ((World.setRow (V6.setCell ⟨w.heap.size, 20, none⟩ (.int .i64 mc)) (w.heap.size + 1) fs).heap[D]? = some (.deferred (some []))) := Lib.hid ((setRow_other _ _ _ _ (by omega)).trans HD.out)
          have BFR := Lib.hid (BF.out.trans (below_row (V6.setCell ⟨w.heap.size, 20, none⟩ (.int .i64 mc)) (w.heap.size + 1) fs (by omega)))
          clear hfin hmc' K6 K61 B6 KF KG hfs hq
          go_wp2_with (first
            | (refine wpList_load_row rfl 44 (.tmp 1) rfl _ rfl 44 fs (0, 0) _ KF' Try.underlying44 rfl hfz ?_; clear KF')
            | (refine wpList_store_row rfl 44 (.tmp 2) (.tmp 57) rfl _ fs rfl rfl 44 Sty.zero.cells.toArray KG'.out hfz hfl hfo ?_; clear KG'))
          refine leaves_marks w.heap.size [D] _ ((Marks.nil w.heap.size _).cons (D := D) (by omega) HDR.out (fun E hE => by cases hE)) (fun W' hck hbk => ⟨_, results_sty (g := w.heap.size + 1) rfl rfl rfl (hck _ _ KGR.out rfl), rfl, BFR.out.trans hbk⟩)
      · skip
        have e0 := (SV.out.cell (p := ⟨w.heap.size, 2, none⟩) l3).trans d2; have e1 := (SV.out.cell (p := ⟨w.heap.size, 3, none⟩) l3).trans d3
        refine wpOp_step rfl (fun K hK => ?_)
        go_simp
        refine hK _ _ ⟨trivial, ?_⟩
        clear hK K e0 e1
        change wpAnyH _ _ _ _ _ _ _ { tmps := #[.agg cs, .pointer (some ⟨w.heap.size, 0, none⟩), .pointer (some ⟨w.heap.size + 1, 0, none⟩), .int .i64 0, undef, undef, .int .i64 1, .int .i64 u.g1, .agg cs, .bool true, .bool false, undef, .agg cs, .func (.func 58) #[] #[.pointer (some ⟨w1.heap.size, 0, none⟩)], undef, undef, undef, undef, undef, undef, undef, undef, undef, undef, undef, undef, undef, undef, undef, .pointer (some ⟨w.heap.size, 25, none⟩), .agg #[.int .i64 u.g0, .int .i64 u.g1], .int .i64 2, .bool false, .int .i64 1, .int .i64 u.g1, .int .i64 1, .int .i64 u.g1, .int .i64 m1, .pointer (some ⟨w.heap.size, 25, none⟩), .pointer (some ⟨w.heap.size, 26, none⟩), .int .i64 2, .pointer (some ⟨w.heap.size, 0, none⟩), .agg #[.int .i64 u.wk, .int .i64 u.wn], undef, .pointer (some ⟨w.heap.size, 2, none⟩), .agg #[.int .i64 u.hk, .int .i64 u.hn], undef, undef, undef, undef, undef, undef, undef, undef, undef, undef, undef, undef], defers := [{ target := .collected D, args := #[] }] } _
        refine wpAnyH_all (rs := [2]) (by kernel_rfl) (by simp) ?_
        intro i hi; obtain rfl : i = 2 := by simpa using hi
        clear hi
        refine wpOp_step rfl (fun K hK => ?_)
        go_simp
        refine (C1.out _).mono ?_
        rintro e w4 ⟨rfl, hb⟩
        have S4 : Hid (Below V3.heap.size V3 w4) := Lib.hid (SV.out.trans (hb.mono SV.out.size))
        refine hK _ _ ⟨trivial, ?_⟩
        clear hK K hb
        change wpAnyH _ _ _ _ _ _ _ { tmps := #[.agg cs, .pointer (some ⟨w.heap.size, 0, none⟩), .pointer (some ⟨w.heap.size + 1, 0, none⟩), .int .i64 0, undef, undef, .int .i64 1, .int .i64 u.g1, .agg cs, .bool true, .bool false, undef, .agg cs, .func (.func 58) #[] #[.pointer (some ⟨w1.heap.size, 0, none⟩)], undef, undef, undef, undef, undef, undef, undef, undef, undef, undef, undef, undef, undef, undef, undef, .pointer (some ⟨w.heap.size, 25, none⟩), .agg #[.int .i64 u.g0, .int .i64 u.g1], .int .i64 2, .bool false, .int .i64 1, .int .i64 u.g1, .int .i64 1, .int .i64 u.g1, .int .i64 m1, .pointer (some ⟨w.heap.size, 25, none⟩), .pointer (some ⟨w.heap.size, 26, none⟩), .int .i64 2, .pointer (some ⟨w.heap.size, 0, none⟩), .agg #[.int .i64 u.wk, .int .i64 u.wn], .agg #[.int .i64 u.wk, .int .i64 nw], .pointer (some ⟨w.heap.size, 2, none⟩), .agg #[.int .i64 u.hk, .int .i64 u.hn], undef, undef, undef, undef, undef, undef, undef, undef, undef, undef, undef, undef], defers := [{ target := .collected D, args := #[] }] } _
        refine wpAnyH_take (i := 6) (v := .pointer (some ⟨w.heap.size, 0, none⟩)) rfl (by kernel_rfl) (by kernel_rfl) (by kernel_rfl) (fun _ _ _ h => h) (Or.inl ⟨by rfl, ?_⟩) trivial ?_
        · intro X hX; go_simp
        change wpAnyH _ _ _ _ _ _ _ { tmps := #[.agg cs, .pointer (some ⟨w.heap.size, 0, none⟩), .pointer (some ⟨w.heap.size + 1, 0, none⟩), .int .i64 0, undef, undef, .int .i64 1, .int .i64 u.g1, .agg cs, .bool true, .bool false, undef, .agg cs, .func (.func 58) #[] #[.pointer (some ⟨w1.heap.size, 0, none⟩)], undef, undef, undef, undef, undef, undef, undef, undef, undef, undef, undef, undef, undef, undef, undef, .pointer (some ⟨w.heap.size, 25, none⟩), .agg #[.int .i64 u.g0, .int .i64 u.g1], .int .i64 2, .bool false, .int .i64 1, .int .i64 u.g1, .int .i64 1, .int .i64 u.g1, .int .i64 m1, .pointer (some ⟨w.heap.size, 25, none⟩), .pointer (some ⟨w.heap.size, 26, none⟩), .int .i64 2, .pointer (some ⟨w.heap.size, 0, none⟩), .agg #[.int .i64 u.wk, .int .i64 u.wn], .agg #[.int .i64 u.wk, .int .i64 nw], .pointer (some ⟨w.heap.size, 2, none⟩), .agg #[.int .i64 u.hk, .int .i64 u.hn], undef, .pointer (some ⟨w.heap.size, 0, none⟩), undef, undef, undef, undef, undef, undef, undef, undef, undef, undef], defers := [{ target := .collected D, args := #[] }] } _
        refine wpAnyH_all (rs := [5]) (by kernel_rfl) (by simp) ?_
        intro i hi; obtain rfl : i = 5 := by simpa using hi
        clear hi
        refine wpOp_step rfl (fun K hK => ?_)
        go_simp
        refine (C2.out _).mono ?_
        rintro e w5 ⟨rfl, hb⟩
        have S5 : Hid (Below V3.heap.size V3 w5) := Lib.hid (S4.out.trans (hb.mono S4.out.size))
        refine hK _ _ ⟨trivial, ?_⟩
        clear hK K hb
        change wpAnyH _ _ _ _ _ _ _ { tmps := #[.agg cs, .pointer (some ⟨w.heap.size, 0, none⟩), .pointer (some ⟨w.heap.size + 1, 0, none⟩), .int .i64 0, undef, undef, .int .i64 1, .int .i64 u.g1, .agg cs, .bool true, .bool false, undef, .agg cs, .func (.func 58) #[] #[.pointer (some ⟨w1.heap.size, 0, none⟩)], undef, undef, undef, undef, undef, undef, undef, undef, undef, undef, undef, undef, undef, undef, undef, .pointer (some ⟨w.heap.size, 25, none⟩), .agg #[.int .i64 u.g0, .int .i64 u.g1], .int .i64 2, .bool false, .int .i64 1, .int .i64 u.g1, .int .i64 1, .int .i64 u.g1, .int .i64 m1, .pointer (some ⟨w.heap.size, 25, none⟩), .pointer (some ⟨w.heap.size, 26, none⟩), .int .i64 2, .pointer (some ⟨w.heap.size, 0, none⟩), .agg #[.int .i64 u.wk, .int .i64 u.wn], .agg #[.int .i64 u.wk, .int .i64 nw], .pointer (some ⟨w.heap.size, 2, none⟩), .agg #[.int .i64 u.hk, .int .i64 u.hn], .agg #[.int .i64 u.hk, .int .i64 nh], .pointer (some ⟨w.heap.size, 0, none⟩), undef, undef, undef, undef, undef, undef, undef, undef, undef, undef], defers := [{ target := .collected D, args := #[] }] } _
        have e0 : w5.cell? ⟨w.heap.size, 0, none⟩ = some (.int .i64 u.wk) := (S5.out.cell (p := ⟨w.heap.size, 0, none⟩) l3).trans d0
        have e1 : w5.cell? ⟨w.heap.size, 1, none⟩ = some (.int .i64 u.wn) := (S5.out.cell (p := ⟨w.heap.size, 1, none⟩) l3).trans d1
        have e2 : w5.cell? ⟨w.heap.size, 2, none⟩ = some (.int .i64 u.hk) := (S5.out.cell (p := ⟨w.heap.size, 2, none⟩) l3).trans d2
        have e3 : w5.cell? ⟨w.heap.size, 3, none⟩ = some (.int .i64 u.hn) := (S5.out.cell (p := ⟨w.heap.size, 3, none⟩) l3).trans d3
        have K5 := HK3'.out.below S5.out l3
        have g0 := K5.free 0
        have g1 := K5.free 1
        have g2 := K5.free 2
        have g3 := K5.free 3
        have l5 := K5.lt
        have K51 := HK31.out.below S5.out (by have := HK31.out.lt; omega)
        refine wpAnyH_all (rs := [7]) (by kernel_rfl) (by simp) ?_
        intro i hi; obtain rfl : i = 7 := by simpa using hi
        clear hi
        refine wpOp_step rfl (fun K hK => ?_)
        go_simp
        refine hK _ _ ⟨trivial, ?_⟩
        clear hK K
        change wpAnyH _ _ _ _ _ _ _ { tmps := #[.agg cs, .pointer (some ⟨w.heap.size, 0, none⟩), .pointer (some ⟨w.heap.size + 1, 0, none⟩), .int .i64 0, undef, undef, .int .i64 1, .int .i64 u.g1, .agg cs, .bool true, .bool false, undef, .agg cs, .func (.func 58) #[] #[.pointer (some ⟨w1.heap.size, 0, none⟩)], undef, undef, undef, undef, undef, undef, undef, undef, undef, undef, undef, undef, undef, undef, undef, .pointer (some ⟨w.heap.size, 25, none⟩), .agg #[.int .i64 u.g0, .int .i64 u.g1], .int .i64 2, .bool false, .int .i64 1, .int .i64 u.g1, .int .i64 1, .int .i64 u.g1, .int .i64 m1, .pointer (some ⟨w.heap.size, 25, none⟩), .pointer (some ⟨w.heap.size, 26, none⟩), .int .i64 2, .pointer (some ⟨w.heap.size, 0, none⟩), .agg #[.int .i64 u.wk, .int .i64 u.wn], .agg #[.int .i64 u.wk, .int .i64 nw], .pointer (some ⟨w.heap.size, 2, none⟩), .agg #[.int .i64 u.hk, .int .i64 u.hn], .agg #[.int .i64 u.hk, .int .i64 nh], .pointer (some ⟨w.heap.size, 0, none⟩), undef, undef, undef, undef, undef, undef, undef, undef, undef, undef], defers := [{ target := .collected D, args := #[] }] } _
        refine wpAnyH_take (i := 8) (v := .pointer (some ⟨w.heap.size, 2, none⟩)) rfl (by kernel_rfl) (by kernel_rfl) (by kernel_rfl) (fun _ _ _ h => h) (Or.inl ⟨by rfl, ?_⟩) trivial ?_
        · intro X hX; go_simp
        change wpAnyH _ _ _ _ _ _ _ { tmps := #[.agg cs, .pointer (some ⟨w.heap.size, 0, none⟩), .pointer (some ⟨w.heap.size + 1, 0, none⟩), .int .i64 0, undef, undef, .int .i64 1, .int .i64 u.g1, .agg cs, .bool true, .bool false, undef, .agg cs, .func (.func 58) #[] #[.pointer (some ⟨w1.heap.size, 0, none⟩)], undef, undef, undef, undef, undef, undef, undef, undef, undef, undef, undef, undef, undef, undef, undef, .pointer (some ⟨w.heap.size, 25, none⟩), .agg #[.int .i64 u.g0, .int .i64 u.g1], .int .i64 2, .bool false, .int .i64 1, .int .i64 u.g1, .int .i64 1, .int .i64 u.g1, .int .i64 m1, .pointer (some ⟨w.heap.size, 25, none⟩), .pointer (some ⟨w.heap.size, 26, none⟩), .int .i64 2, .pointer (some ⟨w.heap.size, 0, none⟩), .agg #[.int .i64 u.wk, .int .i64 u.wn], .agg #[.int .i64 u.wk, .int .i64 nw], .pointer (some ⟨w.heap.size, 2, none⟩), .agg #[.int .i64 u.hk, .int .i64 u.hn], .agg #[.int .i64 u.hk, .int .i64 nh], .pointer (some ⟨w.heap.size, 0, none⟩), .pointer (some ⟨w.heap.size, 2, none⟩), undef, undef, undef, undef, undef, undef, undef, undef, undef], defers := [{ target := .collected D, args := #[] }] } _
        refine wpAnyH_all (rs := [9]) (by kernel_rfl) (by simp) ?_
        intro i hi; obtain rfl : i = 9 := by simpa using hi
        clear hi
        refine wpOp_step rfl (fun K hK => ?_)
        go_simp
        refine hK _ _ ⟨trivial, ?_⟩
        clear hK K
        change wpAnyH _ _ _ _ _ _ _ { tmps := #[.agg cs, .pointer (some ⟨w.heap.size, 0, none⟩), .pointer (some ⟨w.heap.size + 1, 0, none⟩), .int .i64 0, undef, undef, .int .i64 1, .int .i64 u.g1, .agg cs, .bool true, .bool false, undef, .agg cs, .func (.func 58) #[] #[.pointer (some ⟨w1.heap.size, 0, none⟩)], undef, undef, undef, undef, undef, undef, undef, undef, undef, undef, undef, undef, undef, undef, undef, .pointer (some ⟨w.heap.size, 25, none⟩), .agg #[.int .i64 u.g0, .int .i64 u.g1], .int .i64 2, .bool false, .int .i64 1, .int .i64 u.g1, .int .i64 1, .int .i64 u.g1, .int .i64 m1, .pointer (some ⟨w.heap.size, 25, none⟩), .pointer (some ⟨w.heap.size, 26, none⟩), .int .i64 2, .pointer (some ⟨w.heap.size, 0, none⟩), .agg #[.int .i64 u.wk, .int .i64 u.wn], .agg #[.int .i64 u.wk, .int .i64 nw], .pointer (some ⟨w.heap.size, 2, none⟩), .agg #[.int .i64 u.hk, .int .i64 u.hn], .agg #[.int .i64 u.hk, .int .i64 nh], .pointer (some ⟨w.heap.size, 0, none⟩), .pointer (some ⟨w.heap.size, 2, none⟩), undef, undef, undef, undef, undef, undef, undef, undef, undef], defers := [{ target := .collected D, args := #[] }] } _
        refine wpAnyH_done (by kernel_rfl) ?_ _
        obtain ⟨V6, hV6⟩ : ∃ V6, (((w5.setCell ⟨w.heap.size, 0, none⟩ (.int .i64 u.wk)).setCell ⟨w.heap.size, 1, none⟩ (.int .i64 nw)).setCell ⟨w.heap.size, 2, none⟩ (.int .i64 u.hk)).setCell ⟨w.heap.size, 3, none⟩ (.int .i64 nh) = V6 := ⟨_, rfl⟩
        have K6 : Whole V6 w.heap.size 44 ({ u with wn := nw, hn := nh, g0 := m0, g1 := m1 } : Sty).cells := by rw [← hV6]; exact (((K5.set 0 (.int .i64 u.wk)).set 1 (.int .i64 nw)).set 2 (.int .i64 u.hk)).set 3 (.int .i64 nh)
        have K61 : Whole V6 (w.heap.size + 1) 44 Sty.zero.cells := by rw [← hV6]; exact (((K51.other ⟨w.heap.size, 0, none⟩ _ (by simp)).other ⟨w.heap.size, 1, none⟩ _ (by simp)).other ⟨w.heap.size, 2, none⟩ _ (by simp)).other ⟨w.heap.size, 3, none⟩ _ (by simp)
        have B6 : Below w.heap.size w V6 := by rw [← hV6]; exact ((((HB3.out.trans (S5.out.mono z3)).setCell (p := ⟨w.heap.size, 0, none⟩) (Nat.le_refl _) _).setCell (p := ⟨w.heap.size, 1, none⟩) (Nat.le_refl _) _).setCell (p := ⟨w.heap.size, 2, none⟩) (Nat.le_refl _) _).setCell (p := ⟨w.heap.size, 3, none⟩) (Nat.le_refl _) _
        have HK6 : Hid (V6.heap[D]? = some (.deferred (some []))) := Lib.hid (by rw [← hV6, Below.heap_setCell _ _ _ _ (by simp; omega), Below.heap_setCell _ _ _ _ (by simp; omega), Below.heap_setCell _ _ _ _ (by simp; omega), Below.heap_setCell _ _ _ _ (by simp; omega), S5.out.block D hDl3]; exact HK3.out)
        rw [hV6]
        clear hV6 e0 e1 e2 e3 g0 g1 g2 g3 l5 K5 K51 S5 d0 d1 d2 d3 HB3 HK31 HK3' HK3 SV l3 C1 C2
        have e20 : V6.cell? ⟨w.heap.size, 20, none⟩ = some (.int .i64 u.cs) := K6.cellAt 20
        have e21 : V6.cell? ⟨w.heap.size, 21, none⟩ = some (.int .i64 u.rs) := K6.cellAt 21
        have g20 := K6.free 20
        have g21 := K6.free 21
        have l6 := K6.lt
        have l61 := K61.lt
        obtain ⟨mc, hmc⟩ : ∃ m, (if u.cs < 1 then 1 else u.cs) = m := ⟨_, rfl⟩
        have hmc' : max u.cs 1 = mc := by rw [← hmc]; split <;> omega
        simp only [noPan]
        have hz6 := B6.size
        have HB6 := Lib.hid B6
        by_cases hr : u.rs < 0
        · have hq : Hid (compS s = { u with wn := nw, hn := nh, cs := mc, rs := 1, g0 := m0, g1 := m1 }) := Lib.hid (by rw [hfin.out, hmc', if_pos hr])
          have KF : Whole ((V6.setCell ⟨w.heap.size, 20, none⟩ (.int .i64 mc)).setCell ⟨w.heap.size, 21, none⟩ (.int .i64 1)) w.heap.size 44 ({ u with wn := nw, hn := nh, cs := mc, rs := 1, g0 := m0, g1 := m1 } : Sty).cells := ((K6.set 20 (.int .i64 mc)).set 21 (.int .i64 1))
          have KG : Whole ((V6.setCell ⟨w.heap.size, 20, none⟩ (.int .i64 mc)).setCell ⟨w.heap.size, 21, none⟩ (.int .i64 1)) (w.heap.size + 1) 44 Sty.zero.cells := ((K61.other ⟨w.heap.size, 20, none⟩ (.int .i64 mc) (by simp)).other ⟨w.heap.size, 21, none⟩ (.int .i64 1) (by simp))
          have BF := Lib.hid ((HB6.out.setCell (p := ⟨w.heap.size, 20, none⟩) (Nat.le_refl _) (.int .i64 mc)).setCell (p := ⟨w.heap.size, 21, none⟩) (Nat.le_refl _) (.int .i64 1))
          have HD := Lib.hid ((Below.heap_setCell (V6.setCell ⟨w.heap.size, 20, none⟩ (.int .i64 mc)) ⟨w.heap.size, 21, none⟩ (.int .i64 1) D (by simp; omega)).trans ((Below.heap_setCell V6 ⟨w.heap.size, 20, none⟩ (.int .i64 mc) D (by simp; omega)).trans HK6.out))
          rw [← hq.out] at KF
          obtain ⟨fs, hfs⟩ : ∃ fs, (compS s).cells.toArray = fs := ⟨_, rfl⟩
          have KF' := KF
          unfold Whole at KF' KG
          rw [hfs] at KF'
          have hfz : (Try.prog.info? 44).map (·.size) = some fs.size := by rw [← hfs]; exact Try.infoSty
          have hfo : fs.all (·.oneCell') = true := by rw [← hfs]; exact cells_one _
          have hfl : (Sty.zero.cells.toArray).size = fs.size := by rw [← hfs]; rfl
          have KG' := Lib.hid KG
          have KGR := Lib.hid (whole_row (xs := Sty.zero.cells) KG (compS s).cells)
          rw [hfs] at KGR
          have HDR : Hid ((World.setRow ((V6.setCell ⟨w.heap.size, 20, none⟩ (.int .i64 mc)).setCell ⟨w.heap.size, 21, none⟩ (.int .i64 1)) (w.heap.size + 1) fs).heap[D]? = some (.deferred (some []))) := Lib.hid ((setRow_other _ _ _ _ (by omega)).trans HD.out)
          have BFR := Lib.hid (BF.out.trans (below_row ((V6.setCell ⟨w.heap.size, 20, none⟩ (.int .i64 mc)).setCell ⟨w.heap.size, 21, none⟩ (.int .i64 1)) (w.heap.size + 1) fs (by omega)))
          clear hfin hmc' K6 K61 B6 KF KG hfs hq
          go_wp2_with (first
            | (refine wpList_load_row rfl 44 (.tmp 1) rfl _ rfl 44 fs (0, 0) _ KF' Try.underlying44 rfl hfz ?_; clear KF')
            | (refine wpList_store_row rfl 44 (.tmp 2) (.tmp 57) rfl _ fs rfl rfl 44 Sty.zero.cells.toArray KG'.out hfz hfl hfo ?_; clear KG'))
          refine leaves_marks w.heap.size [D] _ ((Marks.nil w.heap.size _).cons (D := D) (by omega) HDR.out (fun E hE => by cases hE)) (fun W' hck hbk => ⟨_, results_sty (g := w.heap.size + 1) rfl rfl rfl (hck _ _ KGR.out rfl), rfl, BFR.out.trans hbk⟩)
        · have hq : Hid (compS s = { u with wn := nw, hn := nh, cs := mc, rs := u.rs, g0 := m0, g1 := m1 }) := Lib.hid (by rw [hfin.out, hmc', if_neg hr])
          have KF : Whole (V6.setCell ⟨w.heap.size, 20, none⟩ (.int .i64 mc)) w.heap.size 44 ({ u with wn := nw, hn := nh, cs := mc, rs := u.rs, g0 := m0, g1 := m1 } : Sty).cells := (K6.set 20 (.int .i64 mc))
          have KG : Whole (V6.setCell ⟨w.heap.size, 20, none⟩ (.int .i64 mc)) (w.heap.size + 1) 44 Sty.zero.cells := (K61.other ⟨w.heap.size, 20, none⟩ (.int .i64 mc) (by simp))
          have BF := Lib.hid (HB6.out.setCell (p := ⟨w.heap.size, 20, none⟩) (Nat.le_refl _) (.int .i64 mc))
          have HD := Lib.hid ((Below.heap_setCell V6 ⟨w.heap.size, 20, none⟩ (.int .i64 mc) D (by simp; omega)).trans HK6.out)
          rw [← hq.out] at KF
          obtain ⟨fs, hfs⟩ : ∃ fs, (compS s).cells.toArray = fs := ⟨_, rfl⟩
          have KF' := KF
          unfold Whole at KF' KG
          rw [hfs] at KF'
          have hfz : (Try.prog.info? 44).map (·.size) = some fs.size := by rw [← hfs]; exact Try.infoSty
          have hfo : fs.all (·.oneCell') = true := by rw [← hfs]; exact cells_one _
          have hfl : (Sty.zero.cells.toArray).size = fs.size := by rw [← hfs]; rfl
          have KG' := Lib.hid KG
          have KGR := Lib.hid (whole_row (xs := Sty.zero.cells) KG (compS s).cells)
          rw [hfs] at KGR
          have HDR : Hid ((World.setRow (V6.setCell ⟨w.heap.size, 20, none⟩ (.int .i64 mc)) (w.heap.size + 1) fs).heap[D]? = some (.deferred (some []))) := Lib.hid ((setRow_other _ _ _ _ (by omega)).trans HD.out)
          have BFR := Lib.hid (BF.out.trans (below_row (V6.setCell ⟨w.heap.size, 20, none⟩ (.int .i64 mc)) (w.heap.size + 1) fs (by omega)))
          clear hfin hmc' K6 K61 B6 KF KG hfs hq
          go_wp2_with (first
            | (refine wpList_load_row rfl 44 (.tmp 1) rfl _ rfl 44 fs (0, 0) _ KF' Try.underlying44 rfl hfz ?_; clear KF')
            | (refine wpList_store_row rfl 44 (.tmp 2) (.tmp 57) rfl _ fs rfl rfl 44 Sty.zero.cells.toArray KG'.out hfz hfl hfo ?_; clear KG'))
          refine leaves_marks w.heap.size [D] _ ((Marks.nil w.heap.size _).cons (D := D) (by omega) HDR.out (fun E hE => by cases hE)) (fun W' hck hbk => ⟨_, results_sty (g := w.heap.size + 1) rfl rfl rfl (hck _ _ KGR.out rfl), rfl, BFR.out.trans hbk⟩)
    · skip
      have e0 := (SV.out.cell (p := ⟨w.heap.size, 2, none⟩) l3).trans d2; have e1 := (SV.out.cell (p := ⟨w.heap.size, 3, none⟩) l3).trans d3
      refine wpOp_step rfl (fun K hK => ?_)
      go_simp
      refine hK _ _ ⟨trivial, ?_⟩
      clear hK K e0 e1
      change wpAnyH _ _ _ _ _ _ _ { tmps := #[.agg cs, .pointer (some ⟨w.heap.size, 0, none⟩), .pointer (some ⟨w.heap.size + 1, 0, none⟩), .int .i64 0, undef, undef, .int .i64 1, .int .i64 u.g1, .agg cs, .bool true, .bool false, undef, .agg cs, .func (.func 58) #[] #[.pointer (some ⟨w1.heap.size, 0, none⟩)], undef, undef, undef, undef, undef, undef, undef, undef, undef, undef, undef, undef, undef, undef, undef, .pointer (some ⟨w.heap.size, 25, none⟩), .agg #[.int .i64 u.g0, .int .i64 u.g1], .int .i64 2, .bool false, .int .i64 1, .int .i64 u.g1, .int .i64 1, .int .i64 u.g1, .int .i64 m1, .pointer (some ⟨w.heap.size, 25, none⟩), .pointer (some ⟨w.heap.size, 26, none⟩), .int .i64 2, .pointer (some ⟨w.heap.size, 0, none⟩), undef, undef, .pointer (some ⟨w.heap.size, 2, none⟩), .agg #[.int .i64 u.hk, .int .i64 u.hn], undef, undef, undef, undef, undef, undef, undef, undef, undef, undef, undef, undef], defers := [{ target := .collected D, args := #[] }] } _
      refine wpAnyH_all (rs := [1]) (by kernel_rfl) (by simp) ?_
      intro i hi; obtain rfl : i = 1 := by simpa using hi
      clear hi
      have e0 := (SV.out.cell (p := ⟨w.heap.size, 0, none⟩) l3).trans d0; have e1 := (SV.out.cell (p := ⟨w.heap.size, 1, none⟩) l3).trans d1
      refine wpOp_step rfl (fun K hK => ?_)
      go_simp
      refine hK _ _ ⟨trivial, ?_⟩
      clear hK K e0 e1
      change wpAnyH _ _ _ _ _ _ _ { tmps := #[.agg cs, .pointer (some ⟨w.heap.size, 0, none⟩), .pointer (some ⟨w.heap.size + 1, 0, none⟩), .int .i64 0, undef, undef, .int .i64 1, .int .i64 u.g1, .agg cs, .bool true, .bool false, undef, .agg cs, .func (.func 58) #[] #[.pointer (some ⟨w1.heap.size, 0, none⟩)], undef, undef, undef, undef, undef, undef, undef, undef, undef, undef, undef, undef, undef, undef, undef, .pointer (some ⟨w.heap.size, 25, none⟩), .agg #[.int .i64 u.g0, .int .i64 u.g1], .int .i64 2, .bool false, .int .i64 1, .int .i64 u.g1, .int .i64 1, .int .i64 u.g1, .int .i64 m1, .pointer (some ⟨w.heap.size, 25, none⟩), .pointer (some ⟨w.heap.size, 26, none⟩), .int .i64 2, .pointer (some ⟨w.heap.size, 0, none⟩), .agg #[.int .i64 u.wk, .int .i64 u.wn], undef, .pointer (some ⟨w.heap.size, 2, none⟩), .agg #[.int .i64 u.hk, .int .i64 u.hn], undef, undef, undef, undef, undef, undef, undef, undef, undef, undef, undef, undef], defers := [{ target := .collected D, args := #[] }] } _
      refine wpAnyH_all (rs := [2]) (by kernel_rfl) (by simp) ?_
      intro i hi; obtain rfl : i = 2 := by simpa using hi
      clear hi
      refine wpOp_step rfl (fun K hK => ?_)
      go_simp
      refine (C1.out _).mono ?_
      rintro e w4 ⟨rfl, hb⟩
      have S4 : Hid (Below V3.heap.size V3 w4) := Lib.hid (SV.out.trans (hb.mono SV.out.size))
      refine hK _ _ ⟨trivial, ?_⟩
      clear hK K hb
      change wpAnyH _ _ _ _ _ _ _ { tmps := #[.agg cs, .pointer (some ⟨w.heap.size, 0, none⟩), .pointer (some ⟨w.heap.size + 1, 0, none⟩), .int .i64 0, undef, undef, .int .i64 1, .int .i64 u.g1, .agg cs, .bool true, .bool false, undef, .agg cs, .func (.func 58) #[] #[.pointer (some ⟨w1.heap.size, 0, none⟩)], undef, undef, undef, undef, undef, undef, undef, undef, undef, undef, undef, undef, undef, undef, undef, .pointer (some ⟨w.heap.size, 25, none⟩), .agg #[.int .i64 u.g0, .int .i64 u.g1], .int .i64 2, .bool false, .int .i64 1, .int .i64 u.g1, .int .i64 1, .int .i64 u.g1, .int .i64 m1, .pointer (some ⟨w.heap.size, 25, none⟩), .pointer (some ⟨w.heap.size, 26, none⟩), .int .i64 2, .pointer (some ⟨w.heap.size, 0, none⟩), .agg #[.int .i64 u.wk, .int .i64 u.wn], .agg #[.int .i64 u.wk, .int .i64 nw], .pointer (some ⟨w.heap.size, 2, none⟩), .agg #[.int .i64 u.hk, .int .i64 u.hn], undef, undef, undef, undef, undef, undef, undef, undef, undef, undef, undef, undef], defers := [{ target := .collected D, args := #[] }] } _
      refine wpAnyH_take (i := 6) (v := .pointer (some ⟨w.heap.size, 0, none⟩)) rfl (by kernel_rfl) (by kernel_rfl) (by kernel_rfl) (fun _ _ _ h => h) (Or.inl ⟨by rfl, ?_⟩) trivial ?_
      · intro X hX; go_simp
      change wpAnyH _ _ _ _ _ _ _ { tmps := #[.agg cs, .pointer (some ⟨w.heap.size, 0, none⟩), .pointer (some ⟨w.heap.size + 1, 0, none⟩), .int .i64 0, undef, undef, .int .i64 1, .int .i64 u.g1, .agg cs, .bool true, .bool false, undef, .agg cs, .func (.func 58) #[] #[.pointer (some ⟨w1.heap.size, 0, none⟩)], undef, undef, undef, undef, undef, undef, undef, undef, undef, undef, undef, undef, undef, undef, undef, .pointer (some ⟨w.heap.size, 25, none⟩), .agg #[.int .i64 u.g0, .int .i64 u.g1], .int .i64 2, .bool false, .int .i64 1, .int .i64 u.g1, .int .i64 1, .int .i64 u.g1, .int .i64 m1, .pointer (some ⟨w.heap.size, 25, none⟩), .pointer (some ⟨w.heap.size, 26, none⟩), .int .i64 2, .pointer (some ⟨w.heap.size, 0, none⟩), .agg #[.int .i64 u.wk, .int .i64 u.wn], .agg #[.int .i64 u.wk, .int .i64 nw], .pointer (some ⟨w.heap.size, 2, none⟩), .agg #[.int .i64 u.hk, .int .i64 u.hn], undef, .pointer (some ⟨w.heap.size, 0, none⟩), undef, undef, undef, undef, undef, undef, undef, undef, undef, undef], defers := [{ target := .collected D, args := #[] }] } _
      refine wpAnyH_all (rs := [5]) (by kernel_rfl) (by simp) ?_
      intro i hi; obtain rfl : i = 5 := by simpa using hi
      clear hi
      refine wpOp_step rfl (fun K hK => ?_)
      go_simp
      refine (C2.out _).mono ?_
      rintro e w5 ⟨rfl, hb⟩
      have S5 : Hid (Below V3.heap.size V3 w5) := Lib.hid (S4.out.trans (hb.mono S4.out.size))
      refine hK _ _ ⟨trivial, ?_⟩
      clear hK K hb
      change wpAnyH _ _ _ _ _ _ _ { tmps := #[.agg cs, .pointer (some ⟨w.heap.size, 0, none⟩), .pointer (some ⟨w.heap.size + 1, 0, none⟩), .int .i64 0, undef, undef, .int .i64 1, .int .i64 u.g1, .agg cs, .bool true, .bool false, undef, .agg cs, .func (.func 58) #[] #[.pointer (some ⟨w1.heap.size, 0, none⟩)], undef, undef, undef, undef, undef, undef, undef, undef, undef, undef, undef, undef, undef, undef, undef, .pointer (some ⟨w.heap.size, 25, none⟩), .agg #[.int .i64 u.g0, .int .i64 u.g1], .int .i64 2, .bool false, .int .i64 1, .int .i64 u.g1, .int .i64 1, .int .i64 u.g1, .int .i64 m1, .pointer (some ⟨w.heap.size, 25, none⟩), .pointer (some ⟨w.heap.size, 26, none⟩), .int .i64 2, .pointer (some ⟨w.heap.size, 0, none⟩), .agg #[.int .i64 u.wk, .int .i64 u.wn], .agg #[.int .i64 u.wk, .int .i64 nw], .pointer (some ⟨w.heap.size, 2, none⟩), .agg #[.int .i64 u.hk, .int .i64 u.hn], .agg #[.int .i64 u.hk, .int .i64 nh], .pointer (some ⟨w.heap.size, 0, none⟩), undef, undef, undef, undef, undef, undef, undef, undef, undef, undef], defers := [{ target := .collected D, args := #[] }] } _
      have e0 : w5.cell? ⟨w.heap.size, 0, none⟩ = some (.int .i64 u.wk) := (S5.out.cell (p := ⟨w.heap.size, 0, none⟩) l3).trans d0
      have e1 : w5.cell? ⟨w.heap.size, 1, none⟩ = some (.int .i64 u.wn) := (S5.out.cell (p := ⟨w.heap.size, 1, none⟩) l3).trans d1
      have e2 : w5.cell? ⟨w.heap.size, 2, none⟩ = some (.int .i64 u.hk) := (S5.out.cell (p := ⟨w.heap.size, 2, none⟩) l3).trans d2
      have e3 : w5.cell? ⟨w.heap.size, 3, none⟩ = some (.int .i64 u.hn) := (S5.out.cell (p := ⟨w.heap.size, 3, none⟩) l3).trans d3
      have K5 := HK3'.out.below S5.out l3
      have g0 := K5.free 0
      have g1 := K5.free 1
      have g2 := K5.free 2
      have g3 := K5.free 3
      have l5 := K5.lt
      have K51 := HK31.out.below S5.out (by have := HK31.out.lt; omega)
      refine wpAnyH_all (rs := [7]) (by kernel_rfl) (by simp) ?_
      intro i hi; obtain rfl : i = 7 := by simpa using hi
      clear hi
      refine wpOp_step rfl (fun K hK => ?_)
      go_simp
      refine hK _ _ ⟨trivial, ?_⟩
      clear hK K
      change wpAnyH _ _ _ _ _ _ _ { tmps := #[.agg cs, .pointer (some ⟨w.heap.size, 0, none⟩), .pointer (some ⟨w.heap.size + 1, 0, none⟩), .int .i64 0, undef, undef, .int .i64 1, .int .i64 u.g1, .agg cs, .bool true, .bool false, undef, .agg cs, .func (.func 58) #[] #[.pointer (some ⟨w1.heap.size, 0, none⟩)], undef, undef, undef, undef, undef, undef, undef, undef, undef, undef, undef, undef, undef, undef, undef, .pointer (some ⟨w.heap.size, 25, none⟩), .agg #[.int .i64 u.g0, .int .i64 u.g1], .int .i64 2, .bool false, .int .i64 1, .int .i64 u.g1, .int .i64 1, .int .i64 u.g1, .int .i64 m1, .pointer (some ⟨w.heap.size, 25, none⟩), .pointer (some ⟨w.heap.size, 26, none⟩), .int .i64 2, .pointer (some ⟨w.heap.size, 0, none⟩), .agg #[.int .i64 u.wk, .int .i64 u.wn], .agg #[.int .i64 u.wk, .int .i64 nw], .pointer (some ⟨w.heap.size, 2, none⟩), .agg #[.int .i64 u.hk, .int .i64 u.hn], .agg #[.int .i64 u.hk, .int .i64 nh], .pointer (some ⟨w.heap.size, 0, none⟩), undef, undef, undef, undef, undef, undef, undef, undef, undef, undef], defers := [{ target := .collected D, args := #[] }] } _
      refine wpAnyH_take (i := 8) (v := .pointer (some ⟨w.heap.size, 2, none⟩)) rfl (by kernel_rfl) (by kernel_rfl) (by kernel_rfl) (fun _ _ _ h => h) (Or.inl ⟨by rfl, ?_⟩) trivial ?_
      · intro X hX; go_simp
      change wpAnyH _ _ _ _ _ _ _ { tmps := #[.agg cs, .pointer (some ⟨w.heap.size, 0, none⟩), .pointer (some ⟨w.heap.size + 1, 0, none⟩), .int .i64 0, undef, undef, .int .i64 1, .int .i64 u.g1, .agg cs, .bool true, .bool false, undef, .agg cs, .func (.func 58) #[] #[.pointer (some ⟨w1.heap.size, 0, none⟩)], undef, undef, undef, undef, undef, undef, undef, undef, undef, undef, undef, undef, undef, undef, undef, .pointer (some ⟨w.heap.size, 25, none⟩), .agg #[.int .i64 u.g0, .int .i64 u.g1], .int .i64 2, .bool false, .int .i64 1, .int .i64 u.g1, .int .i64 1, .int .i64 u.g1, .int .i64 m1, .pointer (some ⟨w.heap.size, 25, none⟩), .pointer (some ⟨w.heap.size, 26, none⟩), .int .i64 2, .pointer (some ⟨w.heap.size, 0, none⟩), .agg #[.int .i64 u.wk, .int .i64 u.wn], .agg #[.int .i64 u.wk, .int .i64 nw], .pointer (some ⟨w.heap.size, 2, none⟩), .agg #[.int .i64 u.hk, .int .i64 u.hn], .agg #[.int .i64 u.hk, .int .i64 nh], .pointer (some ⟨w.heap.size, 0, none⟩), .pointer (some ⟨w.heap.size, 2, none⟩), undef, undef, undef, undef, undef, undef, undef, undef, undef], defers := [{ target := .collected D, args := #[] }] } _
      refine wpAnyH_all (rs := [9]) (by kernel_rfl) (by simp) ?_
      intro i hi; obtain rfl : i = 9 := by simpa using hi
      clear hi
      refine wpOp_step rfl (fun K hK => ?_)
      go_simp
      refine hK _ _ ⟨trivial, ?_⟩
      clear hK K
      change wpAnyH _ _ _ _ _ _ _ { tmps := #[.agg cs, .pointer (some ⟨w.heap.size, 0, none⟩), .pointer (some ⟨w.heap.size + 1, 0, none⟩), .int .i64 0, undef, undef, .int .i64 1, .int .i64 u.g1, .agg cs, .bool true, .bool false, undef, .agg cs, .func (.func 58) #[] #[.pointer (some ⟨w1.heap.size, 0, none⟩)], undef, undef, undef, undef, undef, undef, undef, undef, undef, undef, undef, undef, undef, undef, undef, .pointer (some ⟨w.heap.size, 25, none⟩), .agg #[.int .i64 u.g0, .int .i64 u.g1], .int .i64 2, .bool false, .int .i64 1, .int .i64 u.g1, .int .i64 1, .int .i64 u.g1, .int .i64 m1, .pointer (some ⟨w.heap.size, 25, none⟩), .pointer (some ⟨w.heap.size, 26, none⟩), .int .i64 2, .pointer (some ⟨w.heap.size, 0, none⟩), .agg #[.int .i64 u.wk, .int .i64 u.wn], .agg #[.int .i64 u.wk, .int .i64 nw], .pointer (some ⟨w.heap.size, 2, none⟩), .agg #[.int .i64 u.hk, .int .i64 u.hn], .agg #[.int .i64 u.hk, .int .i64 nh], .pointer (some ⟨w.heap.size, 0, none⟩), .pointer (some ⟨w.heap.size, 2, none⟩), undef, undef, undef, undef, undef, undef, undef, undef, undef], defers := [{ target := .collected D, args := #[] }] } _
      refine wpAnyH_done (by kernel_rfl) ?_ _
      obtain ⟨V6, hV6⟩ : ∃ V6, (((w5.setCell ⟨w.heap.size, 0, none⟩ (.int .i64 u.wk)).setCell ⟨w.heap.size, 1, none⟩ (.int .i64 nw)).setCell ⟨w.heap.size, 2, none⟩ (.int .i64 u.hk)).setCell ⟨w.heap.size, 3, none⟩ (.int .i64 nh) = V6 := ⟨_, rfl⟩
      have K6 : Whole V6 w.heap.size 44 ({ u with wn := nw, hn := nh, g0 := m0, g1 := m1 } : Sty).cells := by rw [← hV6]; exact (((K5.set 0 (.int .i64 u.wk)).set 1 (.int .i64 nw)).set 2 (.int .i64 u.hk)).set 3 (.int .i64 nh)
      have K61 : Whole V6 (w.heap.size + 1) 44 Sty.zero.cells := by rw [← hV6]; exact (((K51.other ⟨w.heap.size, 0, none⟩ _ (by simp)).other ⟨w.heap.size, 1, none⟩ _ (by simp)).other ⟨w.heap.size, 2, none⟩ _ (by simp)).other ⟨w.heap.size, 3, none⟩ _ (by simp)
      have B6 : Below w.heap.size w V6 := by rw [← hV6]; exact ((((HB3.out.trans (S5.out.mono z3)).setCell (p := ⟨w.heap.size, 0, none⟩) (Nat.le_refl _) _).setCell (p := ⟨w.heap.size, 1, none⟩) (Nat.le_refl _) _).setCell (p := ⟨w.heap.size, 2, none⟩) (Nat.le_refl _) _).setCell (p := ⟨w.heap.size, 3, none⟩) (Nat.le_refl _) _
      have HK6 : Hid (V6.heap[D]? = some (.deferred (some []))) := Lib.hid (by rw [← hV6, Below.heap_setCell _ _ _ _ (by simp; omega), Below.heap_setCell _ _ _ _ (by simp; omega), Below.heap_setCell _ _ _ _ (by simp; omega), Below.heap_setCell _ _ _ _ (by simp; omega), S5.out.block D hDl3]; exact HK3.out)
      rw [hV6]
      clear hV6 e0 e1 e2 e3 g0 g1 g2 g3 l5 K5 K51 S5 d0 d1 d2 d3 HB3 HK31 HK3' HK3 SV l3 C1 C2
      have e20 : V6.cell? ⟨w.heap.size, 20, none⟩ = some (.int .i64 u.cs) := K6.cellAt 20
      have e21 : V6.cell? ⟨w.heap.size, 21, none⟩ = some (.int .i64 u.rs) := K6.cellAt 21
      have g20 := K6.free 20
      have g21 := K6.free 21
      have l6 := K6.lt
      have l61 := K61.lt
      obtain ⟨mc, hmc⟩ : ∃ m, (if u.cs < 1 then 1 else u.cs) = m := ⟨_, rfl⟩
      have hmc' : max u.cs 1 = mc := by rw [← hmc]; split <;> omega
      simp only [noPan]
      have hz6 := B6.size
      have HB6 := Lib.hid B6
      by_cases hr : u.rs < 0
      · have hq : Hid (compS s = { u with wn := nw, hn := nh, cs := mc, rs := 1, g0 := m0, g1 := m1 }) := Lib.hid (by rw [hfin.out, hmc', if_pos hr])
        have KF : Whole ((V6.setCell ⟨w.heap.size, 20, none⟩ (.int .i64 mc)).setCell ⟨w.heap.size, 21, none⟩ (.int .i64 1)) w.heap.size 44 ({ u with wn := nw, hn := nh, cs := mc, rs := 1, g0 := m0, g1 := m1 } : Sty).cells := ((K6.set 20 (.int .i64 mc)).set 21 (.int .i64 1))
        have KG : Whole ((V6.setCell ⟨w.heap.size, 20, none⟩ (.int .i64 mc)).setCell ⟨w.heap.size, 21, none⟩ (.int .i64 1)) (w.heap.size + 1) 44 Sty.zero.cells := ((K61.other ⟨w.heap.size, 20, none⟩ (.int .i64 mc) (by simp)).other ⟨w.heap.size, 21, none⟩ (.int .i64 1) (by simp))
        have BF := Lib.hid ((HB6.out.setCell (p := ⟨w.heap.size, 20, none⟩) (Nat.le_refl _) (.int .i64 mc)).setCell (p := ⟨w.heap.size, 21, none⟩) (Nat.le_refl _) (.int .i64 1))
        have HD := Lib.hid ((Below.heap_setCell (V6.setCell ⟨w.heap.size, 20, none⟩ (.int .i64 mc)) ⟨w.heap.size, 21, none⟩ (.int .i64 1) D (by simp; omega)).trans ((Below.heap_setCell V6 ⟨w.heap.size, 20, none⟩ (.int .i64 mc) D (by simp; omega)).trans HK6.out))
        rw [← hq.out] at KF
        obtain ⟨fs, hfs⟩ : ∃ fs, (compS s).cells.toArray = fs := ⟨_, rfl⟩
        have KF' := KF
        unfold Whole at KF' KG
        rw [hfs] at KF'
        have hfz : (Try.prog.info? 44).map (·.size) = some fs.size := by rw [← hfs]; exact Try.infoSty
        have hfo : fs.all (·.oneCell') = true := by rw [← hfs]; exact cells_one _
        have hfl : (Sty.zero.cells.toArray).size = fs.size := by rw [← hfs]; rfl
        have KG' := Lib.hid KG
        have KGR := Lib.hid (whole_row (xs := Sty.zero.cells) KG (compS s).cells)
        rw [hfs] at KGR
        have HDR : Hid ((World.setRow ((V6.setCell ⟨w.heap.size, 20, none⟩ (.int .i64 mc)).setCell ⟨w.heap.size, 21, none⟩ (.int .i64 1)) (w.heap.size + 1) fs).heap[D]? = some (.deferred (some []))) := Lib.hid ((setRow_other _ _ _ _ (by omega)).trans HD.out)
        have BFR := Lib.hid (BF.out.trans (below_row ((V6.setCell ⟨w.heap.size, 20, none⟩ (.int .i64 mc)).setCell ⟨w.heap.size, 21, none⟩ (.int .i64 1)) (w.heap.size + 1) fs (by omega)))
        clear hfin hmc' K6 K61 B6 KF KG hfs hq
        go_wp2_with (first
          | (refine wpList_load_row rfl 44 (.tmp 1) rfl _ rfl 44 fs (0, 0) _ KF' Try.underlying44 rfl hfz ?_; clear KF')
          | (refine wpList_store_row rfl 44 (.tmp 2) (.tmp 57) rfl _ fs rfl rfl 44 Sty.zero.cells.toArray KG'.out hfz hfl hfo ?_; clear KG'))
        refine leaves_marks w.heap.size [D] _ ((Marks.nil w.heap.size _).cons (D := D) (by omega) HDR.out (fun E hE => by cases hE)) (fun W' hck hbk => ⟨_, results_sty (g := w.heap.size + 1) rfl rfl rfl (hck _ _ KGR.out rfl), rfl, BFR.out.trans hbk⟩)
      · have hq : Hid (compS s = { u with wn := nw, hn := nh, cs := mc, rs := u.rs, g0 := m0, g1 := m1 }) := Lib.hid (by rw [hfin.out, hmc', if_neg hr])
        have KF : Whole (V6.setCell ⟨w.heap.size, 20, none⟩ (.int .i64 mc)) w.heap.size 44 ({ u with wn := nw, hn := nh, cs := mc, rs := u.rs, g0 := m0, g1 := m1 } : Sty).cells := (K6.set 20 (.int .i64 mc))
        have KG : Whole (V6.setCell ⟨w.heap.size, 20, none⟩ (.int .i64 mc)) (w.heap.size + 1) 44 Sty.zero.cells := (K61.other ⟨w.heap.size, 20, none⟩ (.int .i64 mc) (by simp))
        have BF := Lib.hid (HB6.out.setCell (p := ⟨w.heap.size, 20, none⟩) (Nat.le_refl _) (.int .i64 mc))
        have HD := Lib.hid ((Below.heap_setCell V6 ⟨w.heap.size, 20, none⟩ (.int .i64 mc) D (by simp; omega)).trans HK6.out)
        rw [← hq.out] at KF
        obtain ⟨fs, hfs⟩ : ∃ fs, (compS s).cells.toArray = fs := ⟨_, rfl⟩
        have KF' := KF
        unfold Whole at KF' KG
        rw [hfs] at KF'
        have hfz : (Try.prog.info? 44).map (·.size) = some fs.size := by rw [← hfs]; exact Try.infoSty
        have hfo : fs.all (·.oneCell') = true := by rw [← hfs]; exact cells_one _
        have hfl : (Sty.zero.cells.toArray).size = fs.size := by rw [← hfs]; rfl
        have KG' := Lib.hid KG
        have KGR := Lib.hid (whole_row (xs := Sty.zero.cells) KG (compS s).cells)
        rw [hfs] at KGR
        have HDR : Hid ((World.setRow (V6.setCell ⟨w.heap.size, 20, none⟩ (.int .i64 mc)) (w.heap.size + 1) fs).heap[D]? = some (.deferred (some []))) := Lib.hid ((setRow_other _ _ _ _ (by omega)).trans HD.out)
        have BFR := Lib.hid (BF.out.trans (below_row (V6.setCell ⟨w.heap.size, 20, none⟩ (.int .i64 mc)) (w.heap.size + 1) fs (by omega)))
        clear hfin hmc' K6 K61 B6 KF KG hfs hq
        go_wp2_with (first
          | (refine wpList_load_row rfl 44 (.tmp 1) rfl _ rfl 44 fs (0, 0) _ KF' Try.underlying44 rfl hfz ?_; clear KF')
          | (refine wpList_store_row rfl 44 (.tmp 2) (.tmp 57) rfl _ fs rfl rfl 44 Sty.zero.cells.toArray KG'.out hfz hfl hfo ?_; clear KG'))
        refine leaves_marks w.heap.size [D] _ ((Marks.nil w.heap.size _).cons (D := D) (by omega) HDR.out (fun E hE => by cases hE)) (fun W' hck hbk => ⟨_, results_sty (g := w.heap.size + 1) rfl rfl rfl (hck _ _ KGR.out rfl), rfl, BFR.out.trans hbk⟩)
  case stop =>
    rintro D c pre W _ _ h _
    exact h.elim
end Go.Proofs.Ytecnapecmioamaa
