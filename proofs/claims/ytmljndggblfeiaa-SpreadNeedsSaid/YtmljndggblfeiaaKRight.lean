/- Contract of columns.Right: whether sizes and needs are right. -/
import Derived.Test.YtmljndggblfeiaaKIter
namespace Go.Proofs.Ytmljndggblfeiaa
open Go.RowKit Go.Shelf Go.Sort
set_option linter.unusedVariables false
set_option linter.unusedSimpArgs false
attribute [local go_sem] Oper.semAt_some

theorem results_boolK {W : World} {g : Nat} {b : Bool} {tmps : Array Value} {fn : Func} (hf : fn.results = #[.cell 4 4]) (ht : tmps[4]? = some (.pointer (some ⟨g, 0, none⟩))) (h : Whole W g 4 [.bool b]) :
    (results fn tmps).run Try.prog W = .ok (.bool b) W := by
  have c0 := h.cellAt 0
  simp [results, hf, go_sem, ht, c0]
def IRK (g B : Nat) (w : World) (pre : List Ne) (X : World) : Prop := pre = [] ∧ Whole X g 4 [.bool false] ∧ Below B w X
def IXK (g B : Nat) (w : World) (bad : Prop) (c : Code) (pre : List Ne) (X : World) : Prop := c = .ret ∧ bad ∧ Whole X g 4 [.bool false] ∧ Below B w X
set_option maxRecDepth 100000 in
set_option maxHeartbeats 4000000 in
theorem kright_any (p q : Option Addr) (m c m' c' : Nat) (zs : List Sz) (ns : List Ne) (W : World) (hz : RowsK Sz.cells 2 W (.slice p m c) zs) (hn : RowsK Ne.cells 9 W (.slice q m' c') ns) :
    Calls Try.prog 31 #[.slice p m c, .slice q m' c'] W fun e W' => e = .returned (.bool (rightK zs ns)) ∧ Below W.heap.size W W' := by
  have hl : zs.length = m := hz.len
  have hl' : ns.length = m' := hn.len
  have hm1 : m ≤ 9223372036854775807 := by have := hz.1; omega
  have hm2 : m' ≤ 9223372036854775807 := by have := hn.1; omega
  have k4 : Whole ((W.alloc (.cells #[.slice p m c] 65)).alloc (.cells #[.bool false] 4)) (W.heap.size + 1) 4 [.bool false] := whole_new (W.alloc (.cells #[.slice p m c] 65)) [.bool false] 4 _ (by simp)
  have k2 : Whole ((W.alloc (.cells #[.slice p m c] 65)).alloc (.cells #[.bool false] 4)) W.heap.size 65 [.slice p m c] := (whole_new W [.slice p m c] 65 _ rfl).alloc _
  have b4 : Below W.heap.size W ((W.alloc (.cells #[.slice p m c] 65)).alloc (.cells #[.bool false] 4)) := ((Below.refl _ W).alloc (Nat.le_refl _) _).alloc (by simp) _
  refine (callsIn_wide (n := 3)).1 (callsIn_of_wp_marks Try.func31 rfl trivial (wpIn_wide.2 ?_) rfl)
  simp only [Try.ntmps31, List.size_toArray, List.length_cons, List.length_nil, Nat.reduceAdd, Nat.reduceSub, Array.replicate_succ, Array.replicate_zero, List.push_toArray, List.append_toArray, List.nil_append, List.cons_append]
  by_cases hm : 10000 < m
  · have hr : Hid (rightK zs ns = false) := Lib.hid (by simp [rightK]; omega)
    have HK := Lib.hid (And.intro k4 b4)
    clear hz hn hl hl' k4 k2 b4
    go_wp2
    refine leaves_marks W.heap.size [] _ (Marks.nil _ _) (fun W' hck hbk => ⟨.bool false, results_boolK (g := W.heap.size + 1) rfl rfl (hck _ _ HK.out.1 rfl), ⟨by rw [hr.out], HK.out.2.trans hbk⟩⟩)
  have HA := Lib.hid (fun X h => allComp_any (.slice p m c) zs X h)
  have HZ := Lib.hid (hz.below b4)
  have hr : rightK zs ns = (zs.all szB && ns.all (neB m)) := by rw [rightK, hl]; simp; omega
  have HR := Lib.hid hr
  obtain ⟨b, hb⟩ : ∃ b, zs.all szB = b := ⟨_, rfl⟩
  rw [hb] at HA HR
  have HK := Lib.hid (And.intro k4 (And.intro k2 b4))
  have HN := Lib.hid hn
  have HL := Lib.hid hl
  have HL' := Lib.hid hl'
  clear hz hn hl hl' k4 k2 b4 hr hb
  obtain ⟨W1, hW1⟩ : ∃ W1, (W.alloc (.cells #[.slice p m c] 65)).alloc (.cells #[.bool false] 4) = W1 := ⟨_, rfl⟩
  rw [hW1] at HK HZ
  have sW1 : W1.heap.size = W.heap.size + 2 := by rw [← hW1]; simp
  have c2 := HK.out.2.1.cellAt 0
  have l2 := HK.out.2.1.lt
  simp only [List.getElem?_cons_zero] at c2
  cases b with
  | false =>
    go_wp2_with fail
    refine (HA.out _ HZ.out).mono ?_
    rintro e w1 ⟨rfl, hb1⟩
    clear c2 l2
    have HK1 := Lib.hid (And.intro (HK.out.1.below hb1 HK.out.1.lt) (HK.out.2.2.trans (hb1.mono (by omega))))
    clear hb1 HK HZ hW1 sW1
    have f0 := HK1.out.1.free 0
    have c0 := HK1.out.1.cellAt 0
    have l0 := HK1.out.1.lt
    go_wp2
    refine leaves_marks W.heap.size [] _ (Marks.nil _ _) (fun W' hck hbk => ⟨.bool false, results_boolK (g := W.heap.size + 1) rfl rfl (hck _ _ (HK1.out.1.set 0 _) rfl), ⟨by rw [HR.out]; rfl, (HK1.out.2.setCell (p := ⟨W.heap.size + 1, 0, none⟩) (by simp) _).trans hbk⟩⟩)
  | true =>
    go_wp2_with fail
    refine (HA.out _ HZ.out).mono ?_
    rintro e w1 ⟨rfl, hb1⟩
    clear c2 l2
    have HK1 := Lib.hid (And.intro (HK.out.1.below hb1 HK.out.1.lt) (And.intro (HK.out.2.1.below hb1 HK.out.2.1.lt) (HK.out.2.2.trans (hb1.mono (by omega)))))
    clear hb1 HK HZ hW1 sW1
    have HCH := Lib.hid (fun X => chosen_any 51 #[.pointer (some ⟨W.heap.size, 0, none⟩)] q m' c' X)
    go_wp2_with (go_at_call 53; refine (HCH.out _).mono ?_; clear HCH; rintro e w' ⟨rfl, rfl⟩)
    have l0 := HK1.out.1.lt
    have lg := HK1.out.2.1.lt
    obtain ⟨W2, hW2⟩ : ∃ W2, (w1.alloc (.cells #[.func (.func 51) #[] #[.pointer (some ⟨W.heap.size, 0, none⟩)]] 66)).alloc (.cells #[.slice q m' c'] 23) = W2 := ⟨_, rfl⟩
    have B2 : Below w1.heap.size w1 W2 := hW2 ▸ ((Below.refl _ w1).alloc (Nat.le_refl _) _).alloc (by simp) _
    have kM : Whole W2 w1.heap.size 66 [.func (.func 51) #[] #[.pointer (some ⟨W.heap.size, 0, none⟩)]] := hW2 ▸ (whole_new w1 [.func (.func 51) #[] #[.pointer (some ⟨W.heap.size, 0, none⟩)]] 66 _ rfl).alloc _
    have kL : Whole W2 (w1.heap.size + 1) 23 [.slice q m' c'] := hW2 ▸ whole_new (w1.alloc (.cells #[.func (.func 51) #[] #[.pointer (some ⟨W.heap.size, 0, none⟩)]] 66)) [.slice q m' c'] 23 _ (by simp)
    have s2 : W2.heap.size = w1.heap.size + 2 := by rw [← hW2]; simp
    have HK2 := Lib.hid (And.intro (HK1.out.1.below B2 l0) (And.intro (HK1.out.2.1.below B2 lg) (HK1.out.2.2.trans (B2.mono HK1.out.2.2.size))))
    have sw : W.heap.size + 1 < w1.heap.size := l0
    have hseq := cho_nextR (3 - 1) (by omega) w1.heap.size (w1.heap.size + 1) W.heap.size [W2.heap.size + 1] (fun s => !neB m s) q m' c' ns HL'.out hm2 W2
      (fun s X hX => wrong_any m (by omega) W.heap.size p c s X (by
        have h1 := World.cell?_of_block (a := ⟨W.heap.size, 0, none⟩) (hX.2 W.heap.size (by simp; omega) HK2.out.2.1.lt)
        rw [h1]; exact HK2.out.2.1.cellAt 0))
      (by simp; omega) (by simp; omega) (kM.cellAt 0) (kL.cellAt 0)
      (fun k s hk => by
        obtain ⟨b, off, e, hb, hc⟩ := HN.out.at k s hk
        have hbw : b < w1.heap.size := by omega
        exact ⟨b, off, e, by omega, by simp; omega, fun i v hv => ((HK2.out.2.2.cell (p := ⟨b, off + k * 9 + i, none⟩) hb)).trans (hc i v hv)⟩)
    have HS := Lib.hid hseq
    clear hseq kM kL B2 HK1 l0 lg
    have hbad : ∀ x pre, nxtK (fun s => !neB m s) ns pre x → ns.all (neB m) = false := fun x pre ⟨k, h1, h2, _⟩ => by
      rw [List.all_eq_false]; exact ⟨x, List.mem_of_getElem? h1, by simpa using h2⟩
    rw [hW2]
    clear hW2
    refine (wpIn_wide (n := 3)).1 (range_keep (F := Fence.wide) rfl (by omega) (gf := 73) (lb := #[.pointer (some ⟨w1.heap.size + 1, 0, none⟩), .pointer (some ⟨w1.heap.size, 0, none⟩)]) rfl trivial (enters_of Try.func73 (by kernel_rfl) rfl)
      (Kp := KeepBut [W2.heap.size + 1]) (fun _ _ _ h k => h.trans k) (fun W o _ => KeepBut.put W _ o (by simp)) HS.out (fun _ => rfl)
      (IRK (W.heap.size + 1) W.heap.size W) (IXK (W.heap.size + 1) W.heap.size W (ns.all (neB m) = false))
      (fun s X Y h hb => ⟨h.1, h.2.1.below hb (by omega), h.2.2.trans (hb.mono (by omega))⟩)
      (fun cd s X Y h hb => ⟨h.1, h.2.1, h.2.2.1.below hb (by omega), h.2.2.2.trans (hb.mono (by omega))⟩)
      ⟨rfl, HK2.out.1, HK2.out.2.2⟩ ?round ?done ?stop)
    case round =>
      rintro l pre x V hl ⟨rfl, v1, hbV⟩ hnx
      have HB := Lib.hid (hbad x [] hnx)
      clear hbad hnx HS
      obtain ⟨nd, ro, co, rs, cs, mn, mx, ⟨wk, wn⟩⟩ := x
      apply Exists.intro
      apply Exists.intro
      refine ⟨?_, ?_, ?_, ?_⟩
      · intro K hK
        dsimp only [encK, Ne.val]
        gi_wp2
        exact hK
      · exact (KeepsOthers.refl V).from _
      · exact KeepBut.refl _ _
      · intro V₂ hgV hnc' hbl
        have v1' := v1.grown hgV (v1.ne hnc')
        have hbs := hbV.size
        have hb2 : Below W.heap.size W V₂ := hbV.grown hgV (by omega) (fun k e => by cases e; omega)
        have f0 := v1'.free 0
        have c0 := v1'.cellAt 0
        have l0 := v1'.lt
        have KV := Lib.hid v1'
        have HB2 := Lib.hid hb2
        clear v1 v1' hbV hgV hnc' hbl hb2
        gi_wp2
        exact ⟨(KeepsOthers.setCell _ _ _).from _, rfl, HB.out, KV.out.set 0 _, HB2.out.setCell (p := ⟨W.heap.size + 1, 0, none⟩) (by simp) _⟩
    case done =>
      rintro D xs V hD hxs ⟨rfl, v1, hbV⟩ hK
      have HQ : Hid (ns.all (neB m) = true) := Lib.hid (by
        rw [List.all_eq_true]
        intro x hx
        cases e : neB m x
        · exfalso
          have : x ∈ ns.filter (fun s => !neB m s) := List.mem_filter.2 ⟨hx, by simp [e]⟩
          rw [← hxs] at this; cases this
        · rfl)
      have f1 := v1.free 0
      have c1 := v1.cellAt 0
      have l1 := v1.lt
      have HV := Lib.hid (And.intro v1 hbV)
      have HKK := Lib.hid hK
      clear v1 hbV hK hxs hbad HS
      go_wp2
      refine leaves_marks W.heap.size [D] _ ((Marks.nil W.heap.size _).cons (D := D) (by omega) ((Below.heap_setCell V ⟨W.heap.size + 1, 0, none⟩ _ D (by simp; omega)).trans HKK.out) (fun E hE => by cases hE)) (fun W' hck hbk => ⟨_, results_boolK (g := W.heap.size + 1) rfl rfl (hck _ _ (HV.out.1.set 0 _) rfl), ⟨by rw [HR.out, HQ.out]; rfl, ?_⟩⟩)
      exact (HV.out.2.setCell (p := ⟨W.heap.size + 1, 0, none⟩) (by simp) _).trans hbk
    case stop =>
      rintro D cd pre V hD _ ⟨rfl, hbad2, v1, hbV⟩ hK
      have HQ := Lib.hid hbad2
      have HM := Lib.hid ((Marks.nil W.heap.size V).cons (D := D) (by omega) hK (fun E hE => by cases hE))
      have HV := Lib.hid (And.intro v1 hbV)
      clear v1 hbV hK hbad hbad2 HS
      gi_wp2
      exact leaves_marks W.heap.size [D] _ HM.out (fun W' hck hbk => ⟨_, results_boolK (g := W.heap.size + 1) rfl rfl (hck _ _ HV.out.1 rfl), ⟨by rw [HR.out, HQ.out]; rfl, HV.out.2.trans hbk⟩⟩)
end Go.Proofs.Ytmljndggblfeiaa
