/- Contract of style.Valid: whether a style is valid. -/
import Derived.Test.YtecnapecmioamaaSSides
import Derived.Laws.Rows
namespace Go.Proofs.Ytecnapecmioamaa
open Go.RowKit Go.Shelf
set_option linter.unusedVariables false
attribute [local go_sem] Oper.semAt_some

def VI (s : Sty) (B : Nat) (w : World) (pre : List (Nat × Sd)) (W : World) : Prop :=
  (Whole W B 44 s.cells ∧ Whole W (B + 1) 4 [.bool false] ∧ B + 1 + 1 < W.heap.size) ∧ (∀ x ∈ pre, sideB x.2 = true) ∧ Below B w W
def VX (s : Sty) (B : Nat) (w : World) (c : Code) (pre : List (Nat × Sd)) (W : World) : Prop :=
  c = .ret ∧ sidesB s.sd = false ∧ Whole W (B + 1) 4 [.bool false] ∧ Below B w W
theorem VI.own (s : Sty) (B : Nat) (w : World) (K : Nat) (h1 : B ≤ w.heap.size) (h2 : B ≤ K) : OwnFrom K (VI s B w) := fun pre X Y row ⟨⟨ha, hc, hz⟩, hp, hb⟩ hg hr =>
  ⟨⟨ha.grown hg (ha.ne fun r e => (hr r e).2), hc.grown hg (hc.ne fun r e => (hr r e).2), Nat.lt_of_lt_of_le hz hg.size⟩, hp, (ownFrom_below (β := Unit) h1 h2) () X Y row hb hg hr⟩
theorem VX.own (s : Sty) (B : Nat) (w : World) (K : Nat) (h1 : B ≤ w.heap.size) (h2 : B ≤ K) (c : Code) : OwnFrom K (VX s B w c) := fun pre X Y row ⟨hc, hz, hw, hb⟩ hg hr =>
  ⟨hc, hz, hw.grown hg (hw.ne fun r e => (hr r e).2), (ownFrom_below (β := Unit) h1 h2) () X Y row hb hg hr⟩
theorem keeps_below {W W' : World} (h : Below W.heap.size W W') : KeepsOthers W W' := ⟨h.size, fun k o hk ho' => (h.block k (Array.getElem?_eq_some_iff.1 hk).1).trans hk⟩
structure Blk (B : Nat) (V W : World) : Prop where
  all : Below V.heap.size V W
  blk : W.heap[B + 1 + 1]? = V.heap[B + 1 + 1]?
theorem cells9 {X : World} {g : Nat} {s : Sty} (h : Whole X g 44 s.cells) : g < X.heap.size ∧
    X.cell? ⟨g, 0, none⟩ = some (.int .i64 s.wk) ∧ X.cell? ⟨g, 1, none⟩ = some (.int .i64 s.wn) ∧ X.cell? ⟨g, 2, none⟩ = some (.int .i64 s.hk) ∧ X.cell? ⟨g, 3, none⟩ = some (.int .i64 s.hn) ∧
    X.cell? ⟨g, 20, none⟩ = some (.int .i64 s.cs) ∧ X.cell? ⟨g, 21, none⟩ = some (.int .i64 s.rs) ∧ X.cell? ⟨g, 22, none⟩ = some (.int .i64 s.al) ∧ X.cell? ⟨g, 25, none⟩ = some (.int .i64 s.g0) ∧ X.cell? ⟨g, 26, none⟩ = some (.int .i64 s.g1) :=
  ⟨h.lt, h.cellAt 0, h.cellAt 1, h.cellAt 2, h.cellAt 3, h.cellAt 20, h.cellAt 21, h.cellAt 22, h.cellAt 25, h.cellAt 26⟩
theorem ints_spacing {X : World} {g : Nat} {s : Sty} (h : Whole X g 44 s.cells) : Ints X (.slice (some ⟨g, 25, none⟩) 2 2) [s.g0, s.g1] :=
  ⟨by simp, .inr ⟨g, 25, 2, rfl, fun j hj => by
    have : j = 0 ∨ j = 1 := by simp at hj; omega
    rcases this with rfl | rfl
    · exact h.cellAt 25
    · exact h.cellAt 26⟩⟩
theorem Try.infoSty : (Try.prog.info? 44).map (·.size) = some 29 := by kernel_rfl
theorem results_cell_bool {W : World} {g : Nat} {b : Bool} {tmps : Array Value} {fn : Func} (hf : fn.results = #[.cell 2 4]) (ht : tmps[2]? = some (.pointer (some ⟨g, 0, none⟩))) (h : Whole W g 4 [.bool b]) :
    (results fn tmps).run Try.prog W = .ok (.bool b) W := by
  have c0 := h.cellAt 0
  simp [results, hf, go_sem, ht, c0]
set_option maxRecDepth 100000 in
set_option maxHeartbeats 4000000 in
theorem valid_any (s : Sty) (w : World) : Calls Try.prog 42 #[s.val] w fun e W' => e = .returned (.bool (validS s)) ∧ Below w.heap.size w W' := by
  have SF := Lib.hid (fun X => sidesF_any s X)
  have SV0 := Lib.hid (fun X => validSize_any s.wk s.wn X)
  have SV1 := Lib.hid (fun X => validSize_any s.hk s.hn X)
  obtain ⟨cs, hcs⟩ : ∃ cs, s.cells.toArray = cs := ⟨_, rfl⟩
  have hsz : (Try.prog.info? 44).map (·.size) = some cs.size := by rw [← hcs]; exact Try.infoSty
  have kb : Whole ((w.alloc (.cells cs 44)).alloc (.cells #[.bool false] 4)) w.heap.size 44 s.cells := by rw [← hcs]; exact (whole_new w s.cells 44 _ rfl).alloc _
  unfold Whole at kb
  rw [show s.val = .agg s.cells.toArray from rfl]
  rw [show s.val = .agg s.cells.toArray from rfl] at SF
  rw [hcs] at SF kb ⊢
  refine (callsIn_wide (n := 3)).1 (callsIn_of_wp_marks Try.func42 rfl trivial (wpIn_wide.2 ?_) rfl)
  simp only [Try.ntmps42, List.size_toArray, List.length_cons, List.length_nil, Nat.reduceAdd, Nat.reduceSub, Array.replicate_succ, Array.replicate_zero, List.push_toArray, List.append_toArray, List.nil_append, List.cons_append]
  go_wp2_with (first
    | (go_at_call 43; refine (SF.out _).mono ?_; rintro e w' ⟨rfl, rfl⟩)
    | (refine wpList_load_row rfl 44 (.tmp 1) rfl _ rfl 44 cs (0, 0) _ kb Try.underlying44 rfl hsz ?_))
  obtain ⟨W1, hW1⟩ : ∃ W1, ((w.alloc (.cells cs 44)).alloc (.cells #[.bool false] 4)).alloc (.cells cs 44) = W1 := ⟨_, rfl⟩
  have k0 : Whole W1 w.heap.size 44 s.cells := by rw [← hW1]; exact Whole.alloc (by unfold Whole; rw [hcs]; exact kb) _
  have k1 : Whole W1 (w.heap.size + 1) 4 [.bool false] := by rw [← hW1]; exact (whole_new (w.alloc (.cells cs 44)) [.bool false] 4 _ (by simp)).alloc _
  have k2 : Whole W1 (w.heap.size + 1 + 1) 44 s.cells := by rw [← hW1, ← hcs]; exact whole_new ((w.alloc (.cells s.cells.toArray 44)).alloc (.cells #[.bool false] 4)) s.cells 44 _ (by simp)
  have hB : Below w.heap.size w W1 := by rw [← hW1]; exact (((Below.refl _ w).alloc (Nat.le_refl _) _).alloc (by simp) _).alloc (by simp <;> omega) _
  have hz1 : W1.heap.size = w.heap.size + 3 := by rw [← hW1]; simp
  rw [hW1]
  clear hW1 kb
  refine (wpIn_wide (n := 3)).1 (range_next (F := Fence.wide) rfl (by omega) (gf := 58) (lb := #[.pointer (some ⟨w.heap.size + 1 + 1, 0, none⟩)]) rfl trivial (enters_of Try.func58 (by kernel_rfl) rfl)
    (Kp := Stay w.heap.size (w.heap.size + 1 + 1)) (fun _ _ _ h k => h.trans k) (fun W l o h1 h2 => Stay.put W o (by omega) h2 (by omega)) (sides_next _ (by omega) (w.heap.size + 1 + 1) w.heap.size s W1 (by omega) k2) (fun _ => rfl)
    (VI s w.heap.size w) (VX s w.heap.size w) (VI.own _ _ _ _ (Nat.le_refl _) (by omega)) (fun c => VX.own _ _ _ _ (Nat.le_refl _) (by omega) c)
    ⟨⟨k0, k1, by omega⟩, (fun x h => by cases h), hB⟩ ?round ?done ?stop)
  case round =>
    rintro l pre x V hl ⟨⟨v0, v1, hbx⟩, hgood, hbV⟩ ⟨k, hk, hnz, rfl, rfl⟩
    obtain ⟨⟨p, s', w', c⟩, ek⟩ : ∃ a, s.sd k = a := ⟨_, rfl⟩
    rw [ek]
    have hbs := hbV.size
    refine ⟨{ tmps := #[.agg cs, .pointer (some ⟨w.heap.size, 0, none⟩), .pointer (some ⟨w.heap.size + 1, 0, none⟩), undef, .pointer (some ⟨V.heap.size, 0, none⟩), .agg cs, .func (.func 58) #[] #[.pointer (some ⟨w.heap.size + 1 + 1, 0, none⟩)], .int .i64 (k : Int), .agg #[.int .i64 p, .int .i64 s', .int .i64 w', .int .u32 c], undef, undef, undef, undef, undef, undef, undef, undef, undef, undef, undef, undef, undef, undef, undef, undef, undef, undef, undef, undef, undef, undef, undef, undef, undef, undef, undef, undef, undef, undef, undef, undef, undef, undef, undef, undef, undef, undef, undef, undef, undef, undef, undef], defers := [] }, V.alloc (.cells #[.int .i64 p, .int .i64 s', .int .i64 w', .int .u32 c] 80), ?_, (KeepsOthers.alloc V _).from _, ⟨(Below.refl _ V).alloc (by omega) _, Below.heap_alloc _ _ _ hbx⟩, ?_⟩
    · intro K hK
      clear v0 v1 hbV k0 k1 k2 hB
      dsimp only [encS]
      gi_wp2
      exact hK
    · intro V₂ hgV hnc' hbl
      have kc : Whole V₂ V.heap.size 80 [.int .i64 p, .int .i64 s', .int .i64 w', .int .u32 c] := Whole.grown (whole_new V [.int .i64 p, .int .i64 s', .int .i64 w', .int .u32 c] 80 _ rfl) hgV (Whole.ne (whole_new V [.int .i64 p, .int .i64 s', .int .i64 w', .int .u32 c] 80 _ rfl) hnc')
      have v0' := (v0.alloc (.cells #[.int .i64 p, .int .i64 s', .int .i64 w', .int .u32 c] 80)).grown hgV ((v0.alloc _).ne hnc')
      have v1' := (v1.alloc (.cells #[.int .i64 p, .int .i64 s', .int .i64 w', .int .u32 c] 80)).grown hgV ((v1.alloc _).ne hnc')
      have hb2 : Below w.heap.size w V₂ := (hbV.trans ((Below.refl _ V).alloc (by omega) _)).trans hbl.1
      have q0 := kc.cellAt 0
      have q1 := kc.cellAt 1
      have q2 := kc.cellAt 2
      have lc := kc.lt
      have hS : sideB ⟨p, s', w', c⟩ = ((!([p, w'].any (outB (-1073741824) 1073741824))) && !([s'].any (outB 0 9))) := by rw [within_two, within_one]; rfl
      have WA := Lib.hid (fun X sv h => within_any (-1073741824) 1073741824 sv [p, w'] X h)
      have WB := Lib.hid (fun X sv h => within_any_k 0 9 sv [s'] X h)
      have hbad : sideB ⟨p, s', w', c⟩ = false → sidesB s.sd = false := fun h => sides_bad s.sd (k, ⟨p, s', w', c⟩) k hk (by rw [ek]) h
      generalize (!([p, w'].any (outB (-1073741824) 1073741824))) = d1 at *
      generalize (!([s'].any (outB 0 9))) = d2 at *
      have KV0 := Lib.hid v0'
      have KV1 := Lib.hid v1'
      have HB2 := Lib.hid hb2
      have hl2 : w.heap.size + 1 + 1 < V₂.heap.size := by omega
      have hz2 := hb2.size
      have HG := Lib.hid hgood
      clear v0 v1 v0' v1' hbV k0 k1 k2 hB hgV hnc' hbl hgood SV0 SV1 hb2 kc hcs hsz
      cases d1 with
      | false =>
        have HX := Lib.hid (hbad (by rw [hS]; rfl))
        clear hbad hS WB
        gi_wp2_with (refine ⟨trivial, ?_⟩; gi_at_call 55; refine (CallsIn.inRound l (callsIn_wide.2 (WA.out _ _ (Ints.whole (t := 2) (whole_new V₂ [.int .i64 p, .int .i64 w'] 2 _ rfl) rfl (by simp))))).mono ?_; rintro e w3 ⟨rfl, hb3⟩)
        have B3 := ((Below.refl _ V₂).alloc (Nat.le_refl _) (.cells #[.int .i64 p, .int .i64 w'] 2)).trans (hb3.mono (by simp))
        have KO := Lib.hid (keeps_below B3)
        have K1 := KV1.out.below B3 (by omega)
        have HB3 := Lib.hid (HB2.out.trans (B3.mono hz2))
        have f1 := K1.free 0
        have c1 := K1.cellAt 0
        have l1 := K1.lt
        clear B3 hb3
        refine ⟨trivial, ?_⟩
        gi_wp2
        refine ⟨(KO.out.trans (KeepsOthers.setCell _ _ _)).from _, rfl, HX.out, K1.set 0 (.bool false), HB3.out.setCell (p := ⟨w.heap.size + 1, 0, none⟩) (by simp) _⟩
      | true =>
        have W3 : Hid (∀ X sv, Ints X sv [s'] → Calls Try.prog 56 #[.int .i64 0, .int .i64 9, sv] X fun e w' => e = .returned (.bool d2) ∧ Below X.heap.size X w') := WB
        clear WB
        cases d2 with
        | false =>
          have HX := Lib.hid (hbad (by rw [hS]; rfl))
          clear hbad hS
          gi_wp2_with (refine ⟨trivial, ?_⟩; first
            | (gi_at_call 55; refine (CallsIn.inRound l (callsIn_wide.2 (WA.out _ _ (Ints.whole (t := 2) (whole_new V₂ [.int .i64 p, .int .i64 w'] 2 _ rfl) rfl (by simp))))).mono ?_; rintro e w3 ⟨rfl, hb3⟩; have B3 := Lib.hid (((Below.refl _ V₂).alloc (Nat.le_refl _) (.cells #[.int .i64 p, .int .i64 w'] 2)).trans (hb3.mono (by simp))); have hz3 := B3.out.size; have kc3 : w3.cell? ⟨V.heap.size, 1, none⟩ = some (.int .i64 s') := (B3.out.cell (p := ⟨V.heap.size, 1, none⟩) lc).trans q1; clear hb3)
            | (gi_at_call 56; refine (CallsIn.inRound l (callsIn_wide.2 (W3.out _ _ (Ints.whole (t := 3) (whole_new w3 [.int .i64 s'] 3 _ rfl) rfl (by simp))))).mono ?_; rintro e w4 ⟨rfl, hb4⟩; have B4 := B3.out.trans ((((Below.refl _ w3).alloc (Nat.le_refl _) (.cells #[.int .i64 s'] 3)).trans (hb4.mono (by simp))).mono hz3); have KO := Lib.hid (keeps_below B4); have K4 := KV1.out.below B4 (by omega); have HB4 := Lib.hid (HB2.out.trans (B4.mono hz2)); have ST := Lib.hid (B4.mono hz2); have K0 : Hid (Blk w.heap.size V₂ w4) := Lib.hid ⟨B4, B4.block _ hl2⟩; have f1 := K4.free 0; have c1 := K4.cellAt 0; have l1 := K4.lt; clear B4 hb4))
          refine ⟨(KO.out.trans (KeepsOthers.setCell _ _ _)).from _, rfl, HX.out, K4.set 0 (.bool false), HB4.out.setCell (p := ⟨w.heap.size + 1, 0, none⟩) (by simp) _⟩
        | true =>
          have HX : Hid (sideB ⟨p, s', w', c⟩ = true) := Lib.hid (by rw [hS]; rfl)
          clear hbad hS
          gi_wp2_with (refine ⟨trivial, ?_⟩; first
            | (gi_at_call 55; refine (CallsIn.inRound l (callsIn_wide.2 (WA.out _ _ (Ints.whole (t := 2) (whole_new V₂ [.int .i64 p, .int .i64 w'] 2 _ rfl) rfl (by simp))))).mono ?_; rintro e w3 ⟨rfl, hb3⟩; have B3 := Lib.hid (((Below.refl _ V₂).alloc (Nat.le_refl _) (.cells #[.int .i64 p, .int .i64 w'] 2)).trans (hb3.mono (by simp))); have hz3 := B3.out.size; have kc3 : w3.cell? ⟨V.heap.size, 1, none⟩ = some (.int .i64 s') := (B3.out.cell (p := ⟨V.heap.size, 1, none⟩) lc).trans q1; clear hb3)
            | (gi_at_call 56; refine (CallsIn.inRound l (callsIn_wide.2 (W3.out _ _ (Ints.whole (t := 3) (whole_new w3 [.int .i64 s'] 3 _ rfl) rfl (by simp))))).mono ?_; rintro e w4 ⟨rfl, hb4⟩; have B4 := B3.out.trans ((((Below.refl _ w3).alloc (Nat.le_refl _) (.cells #[.int .i64 s'] 3)).trans (hb4.mono (by simp))).mono hz3); have KO := Lib.hid (keeps_below B4); have K4 := KV1.out.below B4 (by omega); have HB4 := Lib.hid (HB2.out.trans (B4.mono hz2)); have ST := Lib.hid (B4.mono hz2); have K0 : Hid (Blk w.heap.size V₂ w4) := Lib.hid ⟨B4, B4.block _ hl2⟩; have f1 := K4.free 0; have c1 := K4.cellAt 0; have l1 := K4.lt; clear B4 hb4))
          refine ⟨KO.out.from _, ⟨ST.out, K0.out.blk⟩, ⟨KV0.out.below K0.out.all (by omega), KV1.out.below K0.out.all (by omega), by have := K0.out.all.size; omega⟩, ?_, HB4.out⟩
          intro x hx
          rcases List.mem_append.1 hx with hx | hx
          · exact HG.out x hx
          · obtain rfl := List.mem_singleton.1 hx; exact HX.out
  case done =>
    rintro D xs V hD rfl ⟨⟨v0, v1, hbx⟩, hgood, hbV⟩ hK
    have hsb : sidesB s.sd = true := (sides_all s.sd).2 hgood
    have hvs : validS s = (sizeB s.wk s.wn && (sizeB s.hk s.hn && ((!([s.g0, s.g1].any (outB (-1073741824) 1073741824))) && ((!([s.cs, s.rs].any (outB (-1000) 1000))) && (!([s.al].any (outB 0 3))))))) := by
      rw [within_two, within_two, within_one, validS, hsb]; rfl
    have WG := Lib.hid (fun X sv h => within_any (-1073741824) 1073741824 sv [s.g0, s.g1] X h)
    have WS := Lib.hid (fun X sv h => within_any_k (-1000) 1000 sv [s.cs, s.rs] X h)
    have WL := Lib.hid (fun X sv h => within_any_k 0 3 sv [s.al] X h)
    have KV := Lib.hid v0
    have KV1 := Lib.hid v1
    have HBV := Lib.hid hbV
    have hbz := hbV.size
    have hDl : D < V.heap.size := (Array.getElem?_eq_some_iff.1 hK).1
    have HK := Lib.hid hK
    obtain ⟨ltV, a0V, a1V, -, -, -, -, -, -, -⟩ := cells9 KV.out
    clear k0 k1 k2 hB v0 v1 hbV hK hgood hsb hcs hsz
    cases hb1 : sizeB s.wk s.wn with
    | false =>
      rw [hb1] at hvs SV0
      have hv : Hid (validS s = false) := Lib.hid (by rw [hvs]; simp)
      clear hvs hb1
      go_wp2_with (first
        | (go_at_call 57; refine (SV0.out _).mono ?_; rintro e w5 ⟨rfl, hb5⟩; clear SV0; have B5 := Lib.hid hb5; have K5 := Lib.hid (KV.out.below B5.out (by omega)); have K1 := KV1.out.below B5.out (by omega); have f1w5 := K1.free 0; have c1w5 := K1.cellAt 0; have l1w5 := K1.lt; obtain ⟨ltw5, -, -, a2w5, a3w5, -, -, -, -, -⟩ := cells9 K5.out; clear hb5 K1)
        | (go_at_call 57; refine (SV1.out _).mono ?_; rintro e w6 ⟨rfl, hb6⟩; clear SV1; have B6 := Lib.hid (B5.out.trans ((hb6).mono B5.out.size)); have K6 := Lib.hid (KV.out.below B6.out (by omega)); have K1 := KV1.out.below B6.out (by omega); have f1w6 := K1.free 0; have c1w6 := K1.cellAt 0; have l1w6 := K1.lt; obtain ⟨ltw6, -, -, -, -, -, -, -, -, -⟩ := cells9 K6.out; clear hb6 K1)
        | (go_at_call 55; refine (WG.out _ _ (ints_spacing K6.out)).mono ?_; rintro e w7 ⟨rfl, hb7⟩; clear WG; have B7 := Lib.hid (B6.out.trans ((hb7).mono B6.out.size)); have K7 := Lib.hid (KV.out.below B7.out (by omega)); have K1 := KV1.out.below B7.out (by omega); have f1w7 := K1.free 0; have c1w7 := K1.cellAt 0; have l1w7 := K1.lt; obtain ⟨ltw7, -, -, -, -, a20w7, a21w7, -, -, -⟩ := cells9 K7.out; clear hb7 K1)
        | (go_at_call 56; refine (WS.out _ _ (Ints.whole (t := 3) (whole_new w7 [.int .i64 s.cs, .int .i64 s.rs] 3 _ rfl) rfl (by simp))).mono ?_; rintro e w8 ⟨rfl, hb8⟩; clear WS; have B8 := Lib.hid (B7.out.trans ((((Below.refl _ w7).alloc (Nat.le_refl _) (.cells #[.int .i64 s.cs, .int .i64 s.rs] 3)).trans (hb8.mono (by simp))).mono B7.out.size)); have K8 := Lib.hid (KV.out.below B8.out (by omega)); have K1 := KV1.out.below B8.out (by omega); have f1w8 := K1.free 0; have c1w8 := K1.cellAt 0; have l1w8 := K1.lt; obtain ⟨ltw8, -, -, -, -, -, -, a22w8, -, -⟩ := cells9 K8.out; clear hb8 K1)
        | (go_at_call 56; refine (WL.out _ _ (Ints.whole (t := 3) (whole_new w8 [.int .i64 s.al] 3 _ rfl) rfl (by simp))).mono ?_; rintro e w9 ⟨rfl, hb9⟩; clear WL; have B9 := Lib.hid (B8.out.trans ((((Below.refl _ w8).alloc (Nat.le_refl _) (.cells #[.int .i64 s.al] 3)).trans (hb9.mono (by simp))).mono B8.out.size)); have K9 := Lib.hid (KV.out.below B9.out (by omega)); have K1 := KV1.out.below B9.out (by omega); have f1w9 := K1.free 0; have c1w9 := K1.cellAt 0; have l1w9 := K1.lt; obtain ⟨ltw9, -, -, -, -, -, -, -, -, -⟩ := cells9 K9.out; clear hb9 K1))
      refine leaves_marks w.heap.size [D] _ ((Marks.nil w.heap.size _).cons (D := D) (by omega) ((Below.heap_setCell w5 ⟨w.heap.size + 1, 0, none⟩ _ D (by simp; omega)).trans ((B5.out.block D hDl).trans HK.out)) (fun E hE => by cases hE)) (fun W' hck hbk => ⟨_, results_cell_bool (g := w.heap.size + 1) rfl rfl (hck _ _ ((KV1.out.below B5.out (by omega)).set 0 _) rfl), ?_⟩)
      exact ⟨by rw [hv.out], ((HBV.out.trans (B5.out.mono hbz)).setCell (p := ⟨w.heap.size + 1, 0, none⟩) (by simp) _).trans hbk⟩
    | true =>
      rw [hb1] at hvs SV0
      clear hb1
      cases hb2 : sizeB s.hk s.hn with
      | false =>
        rw [hb2] at hvs SV1
        have hv : Hid (validS s = false) := Lib.hid (by rw [hvs]; simp)
        clear hvs hb2
        go_wp2_with (first
          | (go_at_call 57; refine (SV0.out _).mono ?_; rintro e w5 ⟨rfl, hb5⟩; clear SV0; have B5 := Lib.hid hb5; have K5 := Lib.hid (KV.out.below B5.out (by omega)); have K1 := KV1.out.below B5.out (by omega); have f1w5 := K1.free 0; have c1w5 := K1.cellAt 0; have l1w5 := K1.lt; obtain ⟨ltw5, -, -, a2w5, a3w5, -, -, -, -, -⟩ := cells9 K5.out; clear hb5 K1)
          | (go_at_call 57; refine (SV1.out _).mono ?_; rintro e w6 ⟨rfl, hb6⟩; clear SV1; have B6 := Lib.hid (B5.out.trans ((hb6).mono B5.out.size)); have K6 := Lib.hid (KV.out.below B6.out (by omega)); have K1 := KV1.out.below B6.out (by omega); have f1w6 := K1.free 0; have c1w6 := K1.cellAt 0; have l1w6 := K1.lt; obtain ⟨ltw6, -, -, -, -, -, -, -, -, -⟩ := cells9 K6.out; clear hb6 K1)
          | (go_at_call 55; refine (WG.out _ _ (ints_spacing K6.out)).mono ?_; rintro e w7 ⟨rfl, hb7⟩; clear WG; have B7 := Lib.hid (B6.out.trans ((hb7).mono B6.out.size)); have K7 := Lib.hid (KV.out.below B7.out (by omega)); have K1 := KV1.out.below B7.out (by omega); have f1w7 := K1.free 0; have c1w7 := K1.cellAt 0; have l1w7 := K1.lt; obtain ⟨ltw7, -, -, -, -, a20w7, a21w7, -, -, -⟩ := cells9 K7.out; clear hb7 K1)
          | (go_at_call 56; refine (WS.out _ _ (Ints.whole (t := 3) (whole_new w7 [.int .i64 s.cs, .int .i64 s.rs] 3 _ rfl) rfl (by simp))).mono ?_; rintro e w8 ⟨rfl, hb8⟩; clear WS; have B8 := Lib.hid (B7.out.trans ((((Below.refl _ w7).alloc (Nat.le_refl _) (.cells #[.int .i64 s.cs, .int .i64 s.rs] 3)).trans (hb8.mono (by simp))).mono B7.out.size)); have K8 := Lib.hid (KV.out.below B8.out (by omega)); have K1 := KV1.out.below B8.out (by omega); have f1w8 := K1.free 0; have c1w8 := K1.cellAt 0; have l1w8 := K1.lt; obtain ⟨ltw8, -, -, -, -, -, -, a22w8, -, -⟩ := cells9 K8.out; clear hb8 K1)
          | (go_at_call 56; refine (WL.out _ _ (Ints.whole (t := 3) (whole_new w8 [.int .i64 s.al] 3 _ rfl) rfl (by simp))).mono ?_; rintro e w9 ⟨rfl, hb9⟩; clear WL; have B9 := Lib.hid (B8.out.trans ((((Below.refl _ w8).alloc (Nat.le_refl _) (.cells #[.int .i64 s.al] 3)).trans (hb9.mono (by simp))).mono B8.out.size)); have K9 := Lib.hid (KV.out.below B9.out (by omega)); have K1 := KV1.out.below B9.out (by omega); have f1w9 := K1.free 0; have c1w9 := K1.cellAt 0; have l1w9 := K1.lt; obtain ⟨ltw9, -, -, -, -, -, -, -, -, -⟩ := cells9 K9.out; clear hb9 K1))
        refine leaves_marks w.heap.size [D] _ ((Marks.nil w.heap.size _).cons (D := D) (by omega) ((Below.heap_setCell w6 ⟨w.heap.size + 1, 0, none⟩ _ D (by simp; omega)).trans ((B6.out.block D hDl).trans HK.out)) (fun E hE => by cases hE)) (fun W' hck hbk => ⟨_, results_cell_bool (g := w.heap.size + 1) rfl rfl (hck _ _ ((KV1.out.below B6.out (by omega)).set 0 _) rfl), ?_⟩)
        exact ⟨by rw [hv.out], ((HBV.out.trans (B6.out.mono hbz)).setCell (p := ⟨w.heap.size + 1, 0, none⟩) (by simp) _).trans hbk⟩
      | true =>
        rw [hb2] at hvs SV1
        clear hb2
        cases hb3 : (!([s.g0, s.g1].any (outB (-1073741824) 1073741824))) with
        | false =>
          rw [hb3] at hvs WG
          have hv : Hid (validS s = false) := Lib.hid (by rw [hvs]; simp)
          clear hvs hb3
          go_wp2_with (first
            | (go_at_call 57; refine (SV0.out _).mono ?_; rintro e w5 ⟨rfl, hb5⟩; clear SV0; have B5 := Lib.hid hb5; have K5 := Lib.hid (KV.out.below B5.out (by omega)); have K1 := KV1.out.below B5.out (by omega); have f1w5 := K1.free 0; have c1w5 := K1.cellAt 0; have l1w5 := K1.lt; obtain ⟨ltw5, -, -, a2w5, a3w5, -, -, -, -, -⟩ := cells9 K5.out; clear hb5 K1)
            | (go_at_call 57; refine (SV1.out _).mono ?_; rintro e w6 ⟨rfl, hb6⟩; clear SV1; have B6 := Lib.hid (B5.out.trans ((hb6).mono B5.out.size)); have K6 := Lib.hid (KV.out.below B6.out (by omega)); have K1 := KV1.out.below B6.out (by omega); have f1w6 := K1.free 0; have c1w6 := K1.cellAt 0; have l1w6 := K1.lt; obtain ⟨ltw6, -, -, -, -, -, -, -, -, -⟩ := cells9 K6.out; clear hb6 K1)
            | (go_at_call 55; refine (WG.out _ _ (ints_spacing K6.out)).mono ?_; rintro e w7 ⟨rfl, hb7⟩; clear WG; have B7 := Lib.hid (B6.out.trans ((hb7).mono B6.out.size)); have K7 := Lib.hid (KV.out.below B7.out (by omega)); have K1 := KV1.out.below B7.out (by omega); have f1w7 := K1.free 0; have c1w7 := K1.cellAt 0; have l1w7 := K1.lt; obtain ⟨ltw7, -, -, -, -, a20w7, a21w7, -, -, -⟩ := cells9 K7.out; clear hb7 K1)
            | (go_at_call 56; refine (WS.out _ _ (Ints.whole (t := 3) (whole_new w7 [.int .i64 s.cs, .int .i64 s.rs] 3 _ rfl) rfl (by simp))).mono ?_; rintro e w8 ⟨rfl, hb8⟩; clear WS; have B8 := Lib.hid (B7.out.trans ((((Below.refl _ w7).alloc (Nat.le_refl _) (.cells #[.int .i64 s.cs, .int .i64 s.rs] 3)).trans (hb8.mono (by simp))).mono B7.out.size)); have K8 := Lib.hid (KV.out.below B8.out (by omega)); have K1 := KV1.out.below B8.out (by omega); have f1w8 := K1.free 0; have c1w8 := K1.cellAt 0; have l1w8 := K1.lt; obtain ⟨ltw8, -, -, -, -, -, -, a22w8, -, -⟩ := cells9 K8.out; clear hb8 K1)
            | (go_at_call 56; refine (WL.out _ _ (Ints.whole (t := 3) (whole_new w8 [.int .i64 s.al] 3 _ rfl) rfl (by simp))).mono ?_; rintro e w9 ⟨rfl, hb9⟩; clear WL; have B9 := Lib.hid (B8.out.trans ((((Below.refl _ w8).alloc (Nat.le_refl _) (.cells #[.int .i64 s.al] 3)).trans (hb9.mono (by simp))).mono B8.out.size)); have K9 := Lib.hid (KV.out.below B9.out (by omega)); have K1 := KV1.out.below B9.out (by omega); have f1w9 := K1.free 0; have c1w9 := K1.cellAt 0; have l1w9 := K1.lt; obtain ⟨ltw9, -, -, -, -, -, -, -, -, -⟩ := cells9 K9.out; clear hb9 K1))
          refine leaves_marks w.heap.size [D] _ ((Marks.nil w.heap.size _).cons (D := D) (by omega) ((Below.heap_setCell w7 ⟨w.heap.size + 1, 0, none⟩ _ D (by simp; omega)).trans ((B7.out.block D hDl).trans HK.out)) (fun E hE => by cases hE)) (fun W' hck hbk => ⟨_, results_cell_bool (g := w.heap.size + 1) rfl rfl (hck _ _ ((KV1.out.below B7.out (by omega)).set 0 _) rfl), ?_⟩)
          exact ⟨by rw [hv.out], ((HBV.out.trans (B7.out.mono hbz)).setCell (p := ⟨w.heap.size + 1, 0, none⟩) (by simp) _).trans hbk⟩
        | true =>
          rw [hb3] at hvs WG
          clear hb3
          cases hb4 : (!([s.cs, s.rs].any (outB (-1000) 1000))) with
          | false =>
            rw [hb4] at hvs WS
            have hv : Hid (validS s = false) := Lib.hid (by rw [hvs]; simp)
            clear hvs hb4
            go_wp2_with (first
              | (go_at_call 57; refine (SV0.out _).mono ?_; rintro e w5 ⟨rfl, hb5⟩; clear SV0; have B5 := Lib.hid hb5; have K5 := Lib.hid (KV.out.below B5.out (by omega)); have K1 := KV1.out.below B5.out (by omega); have f1w5 := K1.free 0; have c1w5 := K1.cellAt 0; have l1w5 := K1.lt; obtain ⟨ltw5, -, -, a2w5, a3w5, -, -, -, -, -⟩ := cells9 K5.out; clear hb5 K1)
              | (go_at_call 57; refine (SV1.out _).mono ?_; rintro e w6 ⟨rfl, hb6⟩; clear SV1; have B6 := Lib.hid (B5.out.trans ((hb6).mono B5.out.size)); have K6 := Lib.hid (KV.out.below B6.out (by omega)); have K1 := KV1.out.below B6.out (by omega); have f1w6 := K1.free 0; have c1w6 := K1.cellAt 0; have l1w6 := K1.lt; obtain ⟨ltw6, -, -, -, -, -, -, -, -, -⟩ := cells9 K6.out; clear hb6 K1)
              | (go_at_call 55; refine (WG.out _ _ (ints_spacing K6.out)).mono ?_; rintro e w7 ⟨rfl, hb7⟩; clear WG; have B7 := Lib.hid (B6.out.trans ((hb7).mono B6.out.size)); have K7 := Lib.hid (KV.out.below B7.out (by omega)); have K1 := KV1.out.below B7.out (by omega); have f1w7 := K1.free 0; have c1w7 := K1.cellAt 0; have l1w7 := K1.lt; obtain ⟨ltw7, -, -, -, -, a20w7, a21w7, -, -, -⟩ := cells9 K7.out; clear hb7 K1)
              | (go_at_call 56; refine (WS.out _ _ (Ints.whole (t := 3) (whole_new w7 [.int .i64 s.cs, .int .i64 s.rs] 3 _ rfl) rfl (by simp))).mono ?_; rintro e w8 ⟨rfl, hb8⟩; clear WS; have B8 := Lib.hid (B7.out.trans ((((Below.refl _ w7).alloc (Nat.le_refl _) (.cells #[.int .i64 s.cs, .int .i64 s.rs] 3)).trans (hb8.mono (by simp))).mono B7.out.size)); have K8 := Lib.hid (KV.out.below B8.out (by omega)); have K1 := KV1.out.below B8.out (by omega); have f1w8 := K1.free 0; have c1w8 := K1.cellAt 0; have l1w8 := K1.lt; obtain ⟨ltw8, -, -, -, -, -, -, a22w8, -, -⟩ := cells9 K8.out; clear hb8 K1)
              | (go_at_call 56; refine (WL.out _ _ (Ints.whole (t := 3) (whole_new w8 [.int .i64 s.al] 3 _ rfl) rfl (by simp))).mono ?_; rintro e w9 ⟨rfl, hb9⟩; clear WL; have B9 := Lib.hid (B8.out.trans ((((Below.refl _ w8).alloc (Nat.le_refl _) (.cells #[.int .i64 s.al] 3)).trans (hb9.mono (by simp))).mono B8.out.size)); have K9 := Lib.hid (KV.out.below B9.out (by omega)); have K1 := KV1.out.below B9.out (by omega); have f1w9 := K1.free 0; have c1w9 := K1.cellAt 0; have l1w9 := K1.lt; obtain ⟨ltw9, -, -, -, -, -, -, -, -, -⟩ := cells9 K9.out; clear hb9 K1))
            refine leaves_marks w.heap.size [D] _ ((Marks.nil w.heap.size _).cons (D := D) (by omega) ((Below.heap_setCell w8 ⟨w.heap.size + 1, 0, none⟩ _ D (by simp; omega)).trans ((B8.out.block D hDl).trans HK.out)) (fun E hE => by cases hE)) (fun W' hck hbk => ⟨_, results_cell_bool (g := w.heap.size + 1) rfl rfl (hck _ _ ((KV1.out.below B8.out (by omega)).set 0 _) rfl), ?_⟩)
            exact ⟨by rw [hv.out], ((HBV.out.trans (B8.out.mono hbz)).setCell (p := ⟨w.heap.size + 1, 0, none⟩) (by simp) _).trans hbk⟩
          | true =>
            rw [hb4] at hvs WS
            clear hb4
            cases hb5 : (!([s.al].any (outB 0 3))) with
            | false =>
              rw [hb5] at hvs WL
              have hv : Hid (validS s = false) := Lib.hid (by rw [hvs]; simp)
              clear hvs hb5
              go_wp2_with (first
                | (go_at_call 57; refine (SV0.out _).mono ?_; rintro e w5 ⟨rfl, hb5⟩; clear SV0; have B5 := Lib.hid hb5; have K5 := Lib.hid (KV.out.below B5.out (by omega)); have K1 := KV1.out.below B5.out (by omega); have f1w5 := K1.free 0; have c1w5 := K1.cellAt 0; have l1w5 := K1.lt; obtain ⟨ltw5, -, -, a2w5, a3w5, -, -, -, -, -⟩ := cells9 K5.out; clear hb5 K1)
                | (go_at_call 57; refine (SV1.out _).mono ?_; rintro e w6 ⟨rfl, hb6⟩; clear SV1; have B6 := Lib.hid (B5.out.trans ((hb6).mono B5.out.size)); have K6 := Lib.hid (KV.out.below B6.out (by omega)); have K1 := KV1.out.below B6.out (by omega); have f1w6 := K1.free 0; have c1w6 := K1.cellAt 0; have l1w6 := K1.lt; obtain ⟨ltw6, -, -, -, -, -, -, -, -, -⟩ := cells9 K6.out; clear hb6 K1)
                | (go_at_call 55; refine (WG.out _ _ (ints_spacing K6.out)).mono ?_; rintro e w7 ⟨rfl, hb7⟩; clear WG; have B7 := Lib.hid (B6.out.trans ((hb7).mono B6.out.size)); have K7 := Lib.hid (KV.out.below B7.out (by omega)); have K1 := KV1.out.below B7.out (by omega); have f1w7 := K1.free 0; have c1w7 := K1.cellAt 0; have l1w7 := K1.lt; obtain ⟨ltw7, -, -, -, -, a20w7, a21w7, -, -, -⟩ := cells9 K7.out; clear hb7 K1)
                | (go_at_call 56; refine (WS.out _ _ (Ints.whole (t := 3) (whole_new w7 [.int .i64 s.cs, .int .i64 s.rs] 3 _ rfl) rfl (by simp))).mono ?_; rintro e w8 ⟨rfl, hb8⟩; clear WS; have B8 := Lib.hid (B7.out.trans ((((Below.refl _ w7).alloc (Nat.le_refl _) (.cells #[.int .i64 s.cs, .int .i64 s.rs] 3)).trans (hb8.mono (by simp))).mono B7.out.size)); have K8 := Lib.hid (KV.out.below B8.out (by omega)); have K1 := KV1.out.below B8.out (by omega); have f1w8 := K1.free 0; have c1w8 := K1.cellAt 0; have l1w8 := K1.lt; obtain ⟨ltw8, -, -, -, -, -, -, a22w8, -, -⟩ := cells9 K8.out; clear hb8 K1)
                | (go_at_call 56; refine (WL.out _ _ (Ints.whole (t := 3) (whole_new w8 [.int .i64 s.al] 3 _ rfl) rfl (by simp))).mono ?_; rintro e w9 ⟨rfl, hb9⟩; clear WL; have B9 := Lib.hid (B8.out.trans ((((Below.refl _ w8).alloc (Nat.le_refl _) (.cells #[.int .i64 s.al] 3)).trans (hb9.mono (by simp))).mono B8.out.size)); have K9 := Lib.hid (KV.out.below B9.out (by omega)); have K1 := KV1.out.below B9.out (by omega); have f1w9 := K1.free 0; have c1w9 := K1.cellAt 0; have l1w9 := K1.lt; obtain ⟨ltw9, -, -, -, -, -, -, -, -, -⟩ := cells9 K9.out; clear hb9 K1))
              refine leaves_marks w.heap.size [D] _ ((Marks.nil w.heap.size _).cons (D := D) (by omega) ((Below.heap_setCell w9 ⟨w.heap.size + 1, 0, none⟩ _ D (by simp; omega)).trans ((B9.out.block D hDl).trans HK.out)) (fun E hE => by cases hE)) (fun W' hck hbk => ⟨_, results_cell_bool (g := w.heap.size + 1) rfl rfl (hck _ _ ((KV1.out.below B9.out (by omega)).set 0 _) rfl), ?_⟩)
              exact ⟨by rw [hv.out], ((HBV.out.trans (B9.out.mono hbz)).setCell (p := ⟨w.heap.size + 1, 0, none⟩) (by simp) _).trans hbk⟩
            | true =>
              rw [hb5] at hvs WL
              have hv : Hid (validS s = true) := Lib.hid (by rw [hvs]; simp)
              clear hvs hb5
              go_wp2_with (first
                | (go_at_call 57; refine (SV0.out _).mono ?_; rintro e w5 ⟨rfl, hb5⟩; clear SV0; have B5 := Lib.hid hb5; have K5 := Lib.hid (KV.out.below B5.out (by omega)); have K1 := KV1.out.below B5.out (by omega); have f1w5 := K1.free 0; have c1w5 := K1.cellAt 0; have l1w5 := K1.lt; obtain ⟨ltw5, -, -, a2w5, a3w5, -, -, -, -, -⟩ := cells9 K5.out; clear hb5 K1)
                | (go_at_call 57; refine (SV1.out _).mono ?_; rintro e w6 ⟨rfl, hb6⟩; clear SV1; have B6 := Lib.hid (B5.out.trans ((hb6).mono B5.out.size)); have K6 := Lib.hid (KV.out.below B6.out (by omega)); have K1 := KV1.out.below B6.out (by omega); have f1w6 := K1.free 0; have c1w6 := K1.cellAt 0; have l1w6 := K1.lt; obtain ⟨ltw6, -, -, -, -, -, -, -, -, -⟩ := cells9 K6.out; clear hb6 K1)
                | (go_at_call 55; refine (WG.out _ _ (ints_spacing K6.out)).mono ?_; rintro e w7 ⟨rfl, hb7⟩; clear WG; have B7 := Lib.hid (B6.out.trans ((hb7).mono B6.out.size)); have K7 := Lib.hid (KV.out.below B7.out (by omega)); have K1 := KV1.out.below B7.out (by omega); have f1w7 := K1.free 0; have c1w7 := K1.cellAt 0; have l1w7 := K1.lt; obtain ⟨ltw7, -, -, -, -, a20w7, a21w7, -, -, -⟩ := cells9 K7.out; clear hb7 K1)
                | (go_at_call 56; refine (WS.out _ _ (Ints.whole (t := 3) (whole_new w7 [.int .i64 s.cs, .int .i64 s.rs] 3 _ rfl) rfl (by simp))).mono ?_; rintro e w8 ⟨rfl, hb8⟩; clear WS; have B8 := Lib.hid (B7.out.trans ((((Below.refl _ w7).alloc (Nat.le_refl _) (.cells #[.int .i64 s.cs, .int .i64 s.rs] 3)).trans (hb8.mono (by simp))).mono B7.out.size)); have K8 := Lib.hid (KV.out.below B8.out (by omega)); have K1 := KV1.out.below B8.out (by omega); have f1w8 := K1.free 0; have c1w8 := K1.cellAt 0; have l1w8 := K1.lt; obtain ⟨ltw8, -, -, -, -, -, -, a22w8, -, -⟩ := cells9 K8.out; clear hb8 K1)
                | (go_at_call 56; refine (WL.out _ _ (Ints.whole (t := 3) (whole_new w8 [.int .i64 s.al] 3 _ rfl) rfl (by simp))).mono ?_; rintro e w9 ⟨rfl, hb9⟩; clear WL; have B9 := Lib.hid (B8.out.trans ((((Below.refl _ w8).alloc (Nat.le_refl _) (.cells #[.int .i64 s.al] 3)).trans (hb9.mono (by simp))).mono B8.out.size)); have K9 := Lib.hid (KV.out.below B9.out (by omega)); have K1 := KV1.out.below B9.out (by omega); have f1w9 := K1.free 0; have c1w9 := K1.cellAt 0; have l1w9 := K1.lt; obtain ⟨ltw9, -, -, -, -, -, -, -, -, -⟩ := cells9 K9.out; clear hb9 K1))
              refine leaves_marks w.heap.size [D] _ ((Marks.nil w.heap.size _).cons (D := D) (by omega) ((Below.heap_setCell w9 ⟨w.heap.size + 1, 0, none⟩ _ D (by simp; omega)).trans ((B9.out.block D hDl).trans HK.out)) (fun E hE => by cases hE)) (fun W' hck hbk => ⟨_, results_cell_bool (g := w.heap.size + 1) rfl rfl (hck _ _ ((KV1.out.below B9.out (by omega)).set 0 _) rfl), ?_⟩)
              exact ⟨by rw [hv.out], ((HBV.out.trans (B9.out.mono hbz)).setCell (p := ⟨w.heap.size + 1, 0, none⟩) (by simp) _).trans hbk⟩
  case stop =>
    rintro D c pre V hD _ ⟨rfl, hsb, v1, hbV⟩ hK
    have hv : Hid (validS s = false) := Lib.hid (by rw [validS, hsb]; rfl)
    have HM := Lib.hid ((Marks.nil w.heap.size V).cons (D := D) (by omega) hK (fun E hE => by cases hE))
    clear k0 k1 k2 hB SV0 SV1 hcs hsz hK
    gi_wp2
    refine leaves_marks w.heap.size [D] _ HM.out (fun W' hck hbk => ⟨.bool false, results_cell_bool (g := w.heap.size + 1) rfl rfl ?_, ?_⟩)
    · exact hck _ _ v1 rfl
    · exact ⟨by rw [hv.out], hbV.trans hbk⟩
end Go.Proofs.Ytecnapecmioamaa
