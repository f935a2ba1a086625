/- Contract of grid.Right: whether rows of cells, with their ends, are right. -/
import Derived.Test.YtcgnldcdcbnofaaGSp
import Derived.Test.YtcgnldcdcbnofaaGWithin
namespace Go.Proofs.Ytcgnldcdcbnofaa
open Go.RowKit Go.Shelf
set_option linter.unusedVariables false
attribute [local go_sem] Oper.semAt_some

def okC (x : Sp) : Bool := (!([x.c].any (outB 1 1000))) && (!([x.r].any (outB 0 1000)))
def okE (m t : Nat) (e : Int) : Bool := !([e].any (outB ((t : Int) + 1) m))
/-- rows of cells and their ends are right -/
structure RightQ (rows : List (List Sp)) (ends : List Int) : Prop where
  many : rows.length ≤ 65536
  len : ends.length = rows.length
  ends : ∀ i e, ends[i]? = some e → okE rows.length i e = true
  cells : ∀ x ∈ cellsF 0 rows, okC x.2 = true
theorem kept_below {W W' : World} (h : Below W.heap.size W W') : KeepsOthers W W' := ⟨h.size, fun k o hk ho' => (h.block k (Array.getElem?_eq_some_iff.1 hk).1).trans hk⟩
theorem results_cell_bool4 {W : World} {g : Nat} {b : Bool} {tmps : Array Value} {fn : Func} (hf : fn.results = #[.cell 4 4]) (ht : tmps[4]? = some (.pointer (some ⟨g, 0, none⟩))) (h : Whole W g 4 [.bool b]) :
    (results fn tmps).run Try.prog W = .ok (.bool b) W := by
  have c0 := h.cellAt 0
  simp [results, hf, go_sem, ht, c0]
def RI (g : Nat) (B : Nat) (w : World) (pre : List (Nat × Sp)) (W : World) : Prop := Whole W g 4 [.bool false] ∧ (∀ x ∈ pre, okC x.2 = true) ∧ Below B w W
def RX (bad : Prop) (g : Nat) (B : Nat) (w : World) (c : Code) (pre : List (Nat × Sp)) (W : World) : Prop := c = .ret ∧ bad ∧ Whole W g 4 [.bool false] ∧ Below B w W
theorem RI.own (g B : Nat) (w : World) (K : Nat) (h1 : B ≤ w.heap.size) (h2 : B ≤ K) : OwnFrom K (RI g B w) := fun pre X Y row ⟨ha, hp, hb⟩ hg hr =>
  ⟨ha.grown hg (ha.ne fun r e => (hr r e).2), hp, (ownFrom_below (β := Unit) h1 h2) () X Y row hb hg hr⟩
theorem RX.own (bad : Prop) (g B : Nat) (w : World) (K : Nat) (h1 : B ≤ w.heap.size) (h2 : B ≤ K) (c : Code) : OwnFrom K (RX bad g B w c) := fun pre X Y row ⟨hc, hz, hw, hb⟩ hg hr =>
  ⟨hc, hz, hw.grown hg (hw.ne fun r e => (hr r e).2), (ownFrom_below (β := Unit) h1 h2) () X Y row hb hg hr⟩
theorem okC_of (x : Sp) (d1 d2 : Bool) (h1 : (!([x.c].any (outB 1 1000))) = d1) (h2 : (!([x.r].any (outB 0 1000))) = d2) : okC x = (d1 && d2) := by unfold okC; rw [h1, h2]
set_option maxHeartbeats 1000000 in
theorem gright_bad (p q : Option Addr) (m c m' c' : Nat) (w : World) (h : 65536 < m ∨ m' ≠ m) :
    Calls Try.prog 25 #[.slice p m c, .slice q m' c'] w fun e W' => e = .returned (.bool false) ∧ Below w.heap.size w W' := by
  refine (callsIn_wide (n := 3)).1 (callsIn_of_wp_marks Try.func25 rfl trivial (wpIn_wide.2 ?_) rfl)
  simp only [Try.ntmps25, List.size_toArray, List.length_cons, List.length_nil, Nat.reduceAdd, Nat.reduceSub, Array.replicate_succ, Array.replicate_zero, List.push_toArray, List.append_toArray, List.nil_append, List.cons_append]
  have k4 := whole_new w [.bool false] 4 _ rfl
  have b4 : Below w.heap.size w (w.alloc (.cells #[.bool false] 4)) := (Below.refl _ w).alloc (Nat.le_refl _) _
  have HK := Lib.hid (And.intro k4 b4)
  clear k4 b4
  by_cases hm : 65536 < m
  · clear h
    go_wp2
    refine leaves_marks w.heap.size [] _ (Marks.nil _ _) (fun W' hck hbk => ⟨.bool false, results_cell_bool4 (g := w.heap.size) rfl rfl (hck _ _ HK.out.1 rfl), ⟨rfl, HK.out.2.trans hbk⟩⟩)
  · have hne : (m' != m) = true := by simp; omega
    have hne' : ((m' : Int) != (m : Int)) = true := by simp; omega
    have h3 : ¬ (m' : Int) = (m : Int) := by omega
    clear h
    go_wp2
    refine leaves_marks w.heap.size [] _ (Marks.nil _ _) (fun W' hck hbk => ⟨.bool false, results_cell_bool4 (g := w.heap.size) rfl rfl (hck _ _ HK.out.1 rfl), ⟨rfl, HK.out.2.trans hbk⟩⟩)
set_option maxRecDepth 100000 in
set_option maxHeartbeats 2000000 in
theorem gright_main (p q : Option Addr) (m c c' : Nat) (hv : Nat → Value) (rows : List (List Sp)) (ends : List Int) (w : World) (hm : m ≤ 65536) (hl : rows.length = m) (he : ends.length = m) (hR : RowsIn w.heap.size w (.slice p m c) hv rows) (hE : Ints w (.slice q m c') ends) :
    Calls Try.prog 25 #[.slice p m c, .slice q m c'] w fun e W' => ∃ b, e = .returned (.bool b) ∧ (b = true ↔ RightQ rows ends) ∧ Below w.heap.size w W' := by
  have HR := Lib.hid hR
  have HE := Lib.hid hE
  have HL := Lib.hid hl
  have HL2 := Lib.hid he
  have k4 := whole_new w [.bool false] 4 _ rfl
  have b4 : Below w.heap.size w (w.alloc (.cells #[.bool false] 4)) := (Below.refl _ w).alloc (Nat.le_refl _) _
  have HK := Lib.hid (And.intro k4 b4)
  clear hR hE hl he k4 b4
  refine (callsIn_wide (n := 3)).1 (callsIn_of_wp_marks Try.func25 rfl trivial (wpIn_wide.2 ?_) rfl)
  simp only [Try.ntmps25, List.size_toArray, List.length_cons, List.length_nil, Nat.reduceAdd, Nat.reduceSub, Array.replicate_succ, Array.replicate_zero, List.push_toArray, List.append_toArray, List.nil_append, List.cons_append]
  go_wp2
  go_loopw [21] (fun s21 X => ∃ t : Nat, t ≤ m ∧ s21 = .int .i64 t ∧ Hid (∀ i e, i < t → ends[i]? = some e → okE m i e = true) ∧ Hid (Whole X w.heap.size 4 [.bool false] ∧ Below w.heap.size w X)) (fun s21 _ => m - (intOf s21).toNat)
  case atStart => exact ⟨0, Nat.zero_le _, rfl, Lib.hid (fun i e h => by omega), HK⟩
  case round =>
    obtain ⟨t, ht, rfl, HA, HX⟩ := hrel
    clear HK
    by_cases hlt : t < m
    · obtain ⟨e, he⟩ : ∃ e, ends[t]? = some e := ⟨_, List.getElem?_eq_getElem (by rw [HL2.out]; exact hlt)⟩
      obtain ⟨_, ⟨_, _, _, hn⟩ | ⟨b, off, c2, h1, hce⟩⟩ := HE.out
      · rw [hn] at he; simp at he
      injection h1 with h1 h2 h3
      subst h1 h3
      clear h2
      have ce := hce t (by rw [HL2.out]; exact hlt)
      rw [he] at ce
      simp only [Option.getD_some] at ce
      have lb := cell_lt ce
      dsimp only at lb
      have ce2 := (HX.out.2.cell (p := ⟨b, off + t, none⟩) lb).trans ce
      have lb2 : b < wr.heap.size := by have := HX.out.2.size; omega
      have HEE := Lib.hid he
      have WI := Lib.hid (fun X sv h => gwithin_any_k ((t : Int) + 1) (m : Int) sv [e] X h)
      clear he hce ce
      cases hd : okE m t e with
      | false =>
        unfold okE at hd
        rw [hd] at WI
        have HB : Hid (¬ RightQ rows ends) := Lib.hid fun h => by
          have := h.ends t e HEE.out
          rw [HL.out] at this
          unfold okE at this
          rw [hd] at this; cases this
        clear hd
        go_wp2_with (go_at_call 44; refine (WI.out _ _ (Ints.whole (t := 3) (whole_new wr [.int .i64 e] 3 _ rfl) rfl (by simp))).mono ?_; rintro e w7 ⟨rfl, hb7⟩; have B7 := Lib.hid (((Below.refl _ wr).alloc (Nat.le_refl _) (.cells #[.int .i64 e] 3)).trans (hb7.mono (by simp))); have K7 := HX.out.1.below B7.out HX.out.1.lt; have f7 := K7.free 0; have c7 := K7.cellAt 0; have l7 := K7.lt; have HK7 := Lib.hid K7; clear hb7 K7 WI)
        refine leaves_marks w.heap.size [] _ (Marks.nil _ _) (fun W' hck hbk => ⟨.bool false, results_cell_bool4 (g := w.heap.size) rfl rfl (hck _ _ (HK7.out.set 0 _) rfl), ⟨false, rfl, by simp [HB.out], ?_⟩⟩)
        exact ((HX.out.2.trans (B7.out.mono HX.out.2.size)).setCell (p := ⟨w.heap.size, 0, none⟩) (Nat.le_refl _) _).trans hbk
      | true =>
        have HD := Lib.hid hd
        unfold okE at hd
        rw [hd] at WI
        clear hd
        go_wp2_with (go_at_call 44; refine (WI.out _ _ (Ints.whole (t := 3) (whole_new wr [.int .i64 e] 3 _ rfl) rfl (by simp))).mono ?_; rintro e w7 ⟨rfl, hb7⟩; have B7 := Lib.hid (((Below.refl _ wr).alloc (Nat.le_refl _) (.cells #[.int .i64 e] 3)).trans (hb7.mono (by simp))); have HX7 := Lib.hid (And.intro (HX.out.1.below B7.out HX.out.1.lt) (HX.out.2.trans (B7.out.mono HX.out.2.size))); clear hb7 WI)
        go_roundw
        case rel =>
          refine ⟨t + 1, by omega, by go_num, Lib.hid ?_, HX7⟩
          intro i e' hi he'
          by_cases hit : i = t
          · subst hit
            rw [HEE.out] at he'; cases he'
            exact HD.out
          · exact HA.out i e' (by omega) he'
        case measure => simp [intOf]; omega
    · obtain rfl : t = m := by omega
      have HCF := Lib.hid (fun X => gcellsF_any p t c X)
      have HX1 := HX.out.1
      have HX2 := HX.out.2
      obtain ⟨W1, hW1⟩ : ∃ W1, wr.alloc (.cells #[.slice p t c] 25) = W1 := ⟨_, rfl⟩
      have k1 : Whole W1 w.heap.size 4 [.bool false] := hW1 ▸ HX1.alloc _
      have kb : Whole W1 wr.heap.size 25 [.slice p t c] := hW1 ▸ whole_new wr [.slice p t c] 25 _ rfl
      have b1 : Below w.heap.size w W1 := hW1 ▸ HX2.alloc HX2.size _
      have hz1 : W1.heap.size = wr.heap.size + 1 := by rw [← hW1]; simp
      have hwr := HX1.lt
      have hcm : CellMem w.heap.size wr.heap.size (.slice p t c) hv rows W1 := ⟨b1.size, by omega, kb.cellAt 0, HR.out.below b1⟩
      have HK1 := Lib.hid (And.intro k1 b1)
      have HCM := Lib.hid hcm
      clear HX1 HX2 k1 b1 hcm kb
      have hno : decide ((t : Int) < (t : Int)) = false := by simp
      go_wp2_with (go_at_call 26; refine (HCF.out _).mono ?_; rintro e w' ⟨rfl, rfl⟩; rw [hW1]; clear hW1 HCF)
      refine (wpIn_wide (n := 3)).1 (range_next (F := Fence.wide) rfl (by omega) (gf := 45) (lb := #[.pointer (some ⟨wr.heap.size, 0, none⟩)]) rfl trivial (enters_of Try.func45 (by kernel_rfl) rfl)
        (Kp := KeepG (CellMem w.heap.size wr.heap.size (.slice p t c) hv rows)) (fun _ _ _ h k => h.trans k) (fun W l o h1 h2 => ⟨by simp, fun h => h.keep (by simp) (fun k hk => World.putObj_heap_other (by omega)) (World.putObj_heap_other (by omega))⟩) (gcells_next _ (by omega) w.heap.size wr.heap.size _ hv rows W1 HCM.out) (fun _ => rfl)
        (RI w.heap.size w.heap.size w) (RX (¬ RightQ rows ends) w.heap.size w.heap.size w) (RI.own _ _ _ _ (Nat.le_refl _) (by omega)) (fun c => RX.own _ _ _ _ _ (Nat.le_refl _) (by omega) c)
        ⟨HK1.out.1, (fun x h => by cases h), HK1.out.2⟩ ?round ?done ?stop)
      case round =>
        rintro l pre x V hl ⟨v1, hgood, hbV⟩ hnx
        have hmem : ∀ y, y = x → y ∈ cellsF 0 rows := fun y e => by obtain ⟨rest, h⟩ := hnx; rw [h, e]; simp
        obtain ⟨k, ⟨x1, x2, x3⟩⟩ := x
        apply Exists.intro
        apply Exists.intro
        refine ⟨?_, ?_, ?_, ?_⟩
        · intro K hK
          dsimp only [encC]
          gi_wp2
          exact hK
        · exact (KeepsOthers.alloc V _).from _
        · exact ⟨by simp, fun h => h.below ((Below.refl _ V).alloc (Nat.le_refl _) _)⟩
        · intro V₂ hgV hnc' hbl
          have kc : Whole V₂ V.heap.size 48 [.int .i64 x1, .int .i64 x2, .int .i64 x3] := Whole.grown (whole_new V [.int .i64 x1, .int .i64 x2, .int .i64 x3] 48 _ rfl) hgV (Whole.ne (whole_new V [.int .i64 x1, .int .i64 x2, .int .i64 x3] 48 _ rfl) hnc')
          have v1' := (v1.alloc (.cells #[.int .i64 x1, .int .i64 x2, .int .i64 x3] 48)).grown hgV ((v1.alloc _).ne hnc')
          have hbs := hbV.size
          have hb2 : Below w.heap.size w V₂ := (hbV.alloc hbs (.cells #[.int .i64 x1, .int .i64 x2, .int .i64 x3] 48)).grown hgV (by simp; omega) (fun k e => by cases e; omega)
          have q1 := kc.cellAt 1
          have q2 := kc.cellAt 2
          have lc := kc.lt
          have hz2 := hb2.size
          have WA := Lib.hid (fun X sv h => gwithin_any_k 1 1000 sv [x2] X h)
          have WB := Lib.hid (fun X sv h => gwithin_any_k 0 1000 sv [x3] X h)
          have hS := okC_of ⟨x1, x2, x3⟩ _ _ rfl rfl
          have hbad : okC ⟨x1, x2, x3⟩ = false → ¬ RightQ rows ends := fun h hq => by have := hq.cells _ (hmem _ rfl); rw [h] at this; cases this
          have KV := Lib.hid v1'
          have HB2 := Lib.hid hb2
          have HG := Lib.hid hgood
          clear v1 v1' hbV hgV hnc' hbl hgood hb2 kc hmem hnx
          dsimp only at hS
          generalize (!([x2].any (outB 1 1000))) = d1 at *
          generalize (!([x3].any (outB 0 1000))) = d2 at *
          cases d1 with
          | false =>
            have HX' := Lib.hid (hbad hS)
            clear hbad hS WB
            gi_wp2_with (refine ⟨trivial, ?_⟩; gi_at_call 44; refine (CallsIn.inRound l (callsIn_wide.2 (WA.out _ _ (Ints.whole (t := 3) (whole_new V₂ [.int .i64 x2] 3 _ rfl) rfl (by simp))))).mono ?_; rintro e w3 ⟨rfl, hb3⟩; have B3 := Lib.hid (((Below.refl _ V₂).alloc (Nat.le_refl _) (.cells #[.int .i64 x2] 3)).trans (hb3.mono (by simp))); have K3 := KV.out.below B3.out KV.out.lt; have HK3 := Lib.hid K3; have f3 := K3.free 0; have c3 := K3.cellAt 0; have l3 := K3.lt; clear hb3 K3)
            refine ⟨trivial, ?_⟩
            gi_wp2
            exact ⟨((kept_below B3.out).trans (KeepsOthers.setCell _ _ _)).from _, rfl, HX'.out, HK3.out.set 0 _, (HB2.out.trans (B3.out.mono hz2)).setCell (p := ⟨w.heap.size, 0, none⟩) (Nat.le_refl _) _⟩
          | true =>
            cases d2 with
            | false =>
              have HX' := Lib.hid (hbad hS)
              clear hbad hS
              gi_wp2_with (refine ⟨trivial, ?_⟩; first
                | (gi_at_call 44; refine (CallsIn.inRound l (callsIn_wide.2 (WA.out _ _ (Ints.whole (t := 3) (whole_new V₂ [.int .i64 x2] 3 _ rfl) rfl (by simp))))).mono ?_; clear WA; rintro e w3 ⟨rfl, hb3⟩; have B3 := Lib.hid (((Below.refl _ V₂).alloc (Nat.le_refl _) (.cells #[.int .i64 x2] 3)).trans (hb3.mono (by simp))); have hz3 := B3.out.size; have q3 := (B3.out.cell (p := ⟨V.heap.size, 2, none⟩) lc).trans q2; clear hb3)
                | (gi_at_call 44; refine (CallsIn.inRound l (callsIn_wide.2 (WB.out _ _ (Ints.whole (t := 3) (whole_new w3 [.int .i64 x3] 3 _ rfl) rfl (by simp))))).mono ?_; clear WB; rintro e w4 ⟨rfl, hb4⟩; have B4 := Lib.hid (B3.out.trans ((((Below.refl _ w3).alloc (Nat.le_refl _) (.cells #[.int .i64 x3] 3)).trans (hb4.mono (by simp))).mono hz3)); have K4 := KV.out.below B4.out KV.out.lt; have HK4 := Lib.hid K4; have f4 := K4.free 0; have c4 := K4.cellAt 0; have l4 := K4.lt; clear hb4 K4))
              exact ⟨((kept_below B4.out).trans (KeepsOthers.setCell _ _ _)).from _, rfl, HX'.out, HK4.out.set 0 _, (HB2.out.trans (B4.out.mono hz2)).setCell (p := ⟨w.heap.size, 0, none⟩) (Nat.le_refl _) _⟩
            | true =>
              have HX' : Hid (okC ⟨x1, x2, x3⟩ = true) := Lib.hid hS
              clear hbad hS
              gi_wp2_with (refine ⟨trivial, ?_⟩; first
                | (gi_at_call 44; refine (CallsIn.inRound l (callsIn_wide.2 (WA.out _ _ (Ints.whole (t := 3) (whole_new V₂ [.int .i64 x2] 3 _ rfl) rfl (by simp))))).mono ?_; clear WA; rintro e w3 ⟨rfl, hb3⟩; have B3 := Lib.hid (((Below.refl _ V₂).alloc (Nat.le_refl _) (.cells #[.int .i64 x2] 3)).trans (hb3.mono (by simp))); have hz3 := B3.out.size; have q3 := (B3.out.cell (p := ⟨V.heap.size, 2, none⟩) lc).trans q2; clear hb3)
                | (gi_at_call 44; refine (CallsIn.inRound l (callsIn_wide.2 (WB.out _ _ (Ints.whole (t := 3) (whole_new w3 [.int .i64 x3] 3 _ rfl) rfl (by simp))))).mono ?_; clear WB; rintro e w4 ⟨rfl, hb4⟩; have B4 := Lib.hid (B3.out.trans ((((Below.refl _ w3).alloc (Nat.le_refl _) (.cells #[.int .i64 x3] 3)).trans (hb4.mono (by simp))).mono hz3)); have K4 := KV.out.below B4.out KV.out.lt; have HK4 := Lib.hid K4; clear hb4 K4))
              refine ⟨(kept_below B4.out).from _, ⟨B4.out.size, fun h => h.below B4.out⟩, HK4.out, ?_, HB2.out.trans (B4.out.mono hz2)⟩
              intro x hx
              rcases List.mem_append.1 hx with hx | hx
              · exact HG.out x hx
              · obtain rfl := List.mem_singleton.1 hx; exact HX'.out
      case done =>
        rintro D xs V hD rfl ⟨v1, hgood, hbV⟩ hK
        have HQ : Hid (RightQ rows ends) := Lib.hid ⟨by rw [HL.out]; exact hm, by rw [HL2.out, HL.out], fun i e h => by
          rw [HL.out]
          exact HA.out i e (by have := (List.getElem?_eq_some_iff.1 h).1; rw [HL2.out] at this; exact this) h, hgood⟩
        have f1 := v1.free 0
        have c1 := v1.cellAt 0
        have l1 := v1.lt
        have HV := Lib.hid (And.intro v1 hbV)
        have HKK := Lib.hid hK
        clear v1 hgood hbV hK
        go_wp2
        refine leaves_marks w.heap.size [D] _ ((Marks.nil w.heap.size _).cons (D := D) (by omega) ((Below.heap_setCell V ⟨w.heap.size, 0, none⟩ _ D (by simp; omega)).trans HKK.out) (fun E hE => by cases hE)) (fun W' hck hbk => ⟨_, results_cell_bool4 (g := w.heap.size) rfl rfl (hck _ _ (HV.out.1.set 0 _) rfl), ⟨true, rfl, by simp [HQ.out], ?_⟩⟩)
        exact (HV.out.2.setCell (p := ⟨w.heap.size, 0, none⟩) (Nat.le_refl _) _).trans hbk
      case stop =>
        rintro D c pre V hD _ ⟨rfl, hbad, v1, hbV⟩ hK
        have HQ := Lib.hid hbad
        have HM := Lib.hid ((Marks.nil w.heap.size V).cons (D := D) (by omega) hK (fun E hE => by cases hE))
        have HV := Lib.hid (And.intro v1 hbV)
        clear v1 hbV hK hbad
        gi_wp2
        exact leaves_marks w.heap.size [D] _ HM.out (fun W' hck hbk => ⟨.bool false, results_cell_bool4 (g := w.heap.size) rfl rfl (hck _ _ HV.out.1 rfl), ⟨false, rfl, by simp [HQ.out], HV.out.2.trans hbk⟩⟩)
theorem gright_any (v ev : Value) (hv : Nat → Value) (rows : List (List Sp)) (ends : List Int) (w : World) (hR : RowsIn w.heap.size w v hv rows) (hE : Ints w ev ends) :
    Calls Try.prog 25 #[v, ev] w fun e W' => ∃ b, e = .returned (.bool b) ∧ (b = true ↔ RightQ rows ends) ∧ Below w.heap.size w W' := by
  obtain ⟨p, c, rfl⟩ := hR.form
  obtain ⟨q, c', rfl⟩ : ∃ q c', ev = .slice q ends.length c' := by
    obtain ⟨_, ⟨a, c', rfl, rfl⟩ | ⟨b, off, c', rfl, _⟩⟩ := hE
    · exact ⟨_, _, rfl⟩
    · exact ⟨_, _, rfl⟩
  by_cases h : 65536 < rows.length ∨ ends.length ≠ rows.length
  · refine (gright_bad p q _ c _ c' w h).mono ?_
    rintro e W' ⟨rfl, hb⟩
    refine ⟨false, rfl, ⟨(fun h => by cases h), fun hq => ?_⟩, hb⟩
    have := hq.many; have := hq.len; omega
  · have hm : ends.length = rows.length := by omega
    rw [hm] at hE ⊢
    exact gright_main p q rows.length c c' hv rows ends w (by omega) rfl hm hR hE
end Go.Proofs.Ytcgnldcdcbnofaa
