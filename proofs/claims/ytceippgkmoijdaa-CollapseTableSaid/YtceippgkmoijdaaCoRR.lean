/- Contract of collapse.rightRuns. -/
import Derived.Test.YtceippgkmoijdaaCoRun
namespace Go.Proofs.Ytceippgkmoijdaa
open Go.RowKit Go.Shelf Go.Sort
set_option linter.unusedVariables false
set_option linter.unusedSimpArgs false
attribute [local go_sem] Oper.semAt_some

theorem results_boolR {W : World} {g : Nat} {b : Bool} {tmps : Array Value} {fn : Func} (hf : fn.results = #[.cell 4 4]) (ht : tmps[4]? = some (.pointer (some ⟨g, 0, none⟩))) (h : Whole W g 4 [.bool b]) :
    (results fn tmps).run Try.prog W = .ok (.bool b) W := by
  have c0 := h.cellAt 0
  simp [results, hf, go_sem, ht, c0]
theorem runsF_any (sv : Value) (hs : ∃ p m c, sv = .slice p m c) (w : World) : Calls Try.prog 62 #[sv] w fun e w' => e = .returned (.func (.func 76) #[] #[.pointer (some ⟨w.heap.size, 0, none⟩)]) ∧ w' = w.alloc (.cells #[sv] 114) := by
  obtain ⟨p, m, c, rfl⟩ := hs
  go_enter Try.func62, Try.ntmps62
  go_wp2
  go_ret
  exact ⟨rfl, rfl⟩
theorem runs_next (n : Nat) (hn : 1 ≤ n) (gl : Nat) (E : List Nat) (sv : Value) (Ls : List (List Rn)) (w w0 : World) (hE : ∀ k ∈ E, w.heap.size ≤ k) (hbl : w.cell? ⟨gl, 0, none⟩ = some sv) (hL : LsAt w sv Ls) :
    SeqKeep Fence.wide n Try.prog 76 #[.pointer (some ⟨gl, 0, none⟩)] encU (KeepBut E) (nxtU Ls) (fun ys => ys = Ls.flatten) (fun _ => True) w := fun l J Jx W hW hs hJ hY h0 =>
  runs_in n hn l gl w.heap.size E sv Ls J Jx W hY hs hJ (cell_lt hbl) hE ((hW.cell (p := ⟨gl, 0, none⟩) (cell_lt hbl)).trans hbl) w rfl hL hW h0
def IRR (Ls : List (List Rn)) (n : Int) (g B : Nat) (w : World) (pre : List Rn) (X : World) : Prop := (∀ x ∈ pre, rnB n x = true) ∧ Whole X g 4 [.bool false] ∧ Below B w X
def IXR (g B : Nat) (w : World) (bad : Prop) (c : Code) (pre : List Rn) (X : World) : Prop := c = .ret ∧ bad ∧ Whole X g 4 [.bool false] ∧ Below B w X
theorem rows_off {X : World} {g t : Nat} {u v : Value} {s : Fr} (h : Whole X g t (u :: v :: s.cells)) : RowsK Li.cells 3 X (.slice (some ⟨g, 2, none⟩) 4 4) s.list := by
  refine ⟨by simp [Fr.list], .inr ⟨g, 2, 4, rfl, h.lt, fun j hj i v' hv => ?_⟩⟩
  have hi : i < 3 := (List.getElem?_eq_some_iff.1 hv).1
  have hf := flat_getK Li.cells 3 Li.cells_len s.list j i hi hj
  rw [Fr.flat] at hf
  rw [h.cellAt, show 2 + j * 3 + i = (j * 3 + i) + 1 + 1 by omega, List.getElem?_cons_succ, List.getElem?_cons_succ, hf, hv]
set_option maxRecDepth 100000 in
set_option maxHeartbeats 4000000 in
theorem rightRuns_any (n : Int) (hn1 : -9223372036854775808 ≤ n) (hn2 : n ≤ 9223372036854775807) (sv : Value) (Ls : List (List Rn)) (W : World) (hL : LsAt W sv Ls) :
    Calls Try.prog 38 #[.int .i64 n, sv] W fun e W' => e = .returned (.bool (Ls.flatten.all (rnB n))) ∧ Below W.heap.size W W' := by
  have hsf : ∃ p m c, sv = .slice p m c := by obtain ⟨_, b, c, e, _⟩ := hL; exact ⟨_, _, _, e⟩
  have HRF := Lib.hid (fun X => runsF_any sv hsf X)
  obtain ⟨W1, hW1⟩ : ∃ W1, (W.alloc (.cells #[.int .i64 n] 3)).alloc (.cells #[.bool false] 4) = W1 := ⟨_, rfl⟩
  have k4 : Whole W1 (W.heap.size + 1) 4 [.bool false] := hW1 ▸ whole_new (W.alloc (.cells #[.int .i64 n] 3)) [.bool false] 4 _ (by simp)
  have k2 : Whole W1 W.heap.size 3 [.int .i64 n] := hW1 ▸ (whole_new W [.int .i64 n] 3 _ rfl).alloc _
  have b4 : Below W.heap.size W W1 := hW1 ▸ ((Below.refl _ W).alloc (Nat.le_refl _) _).alloc (by simp) _
  have s1 : W1.heap.size = W.heap.size + 2 := by rw [← hW1]; simp
  have hL1 := hL.below b4
  obtain ⟨W2, hW2⟩ : ∃ W2, W1.alloc (.cells #[sv] 114) = W2 := ⟨_, rfl⟩
  have b2 : Below W1.heap.size W1 W2 := hW2 ▸ (Below.refl _ W1).alloc (Nat.le_refl _) _
  have kL : Whole W2 W1.heap.size 114 [sv] := hW2 ▸ whole_new W1 [sv] 114 _ rfl
  have s2 : W2.heap.size = W1.heap.size + 1 := by rw [← hW2]; simp
  have HK2 := Lib.hid (And.intro (k4.below b2 k4.lt) (And.intro (k2.below b2 k2.lt) (b4.trans (b2.mono (by omega)))))
  have HS := Lib.hid (runs_next (3 - 1) (by omega) W1.heap.size [W2.heap.size + 1] sv Ls W2 W2 (by simp) (kL.cellAt 0) (hL1.below b2))
  obtain ⟨p, m, c, rfl⟩ := hsf
  have S1 := Lib.hid s1
  have S2 := Lib.hid s2
  clear hL hL1 k4 k2 b4 b2 kL s1 s2
  refine (callsIn_wide (n := 3)).1 (callsIn_of_wp_marks Try.func38 rfl trivial (wpIn_wide.2 ?_) rfl)
  simp only [Try.ntmps38, List.size_toArray, List.length_cons, List.length_nil, Nat.reduceAdd, Nat.reduceSub, Array.replicate_succ, Array.replicate_zero, List.push_toArray, List.append_toArray, List.nil_append, List.cons_append]
  go_wp2_with (go_at_call 62; refine (HRF.out _).mono ?_; clear HRF; rintro e w' ⟨rfl, rfl⟩)
  try rw [hW1]
  try rw [hW2]
  clear hW1 hW2
  have s1 := S1.out
  have s2 := S2.out
  refine (wpIn_wide (n := 3)).1 (range_keep (F := Fence.wide) rfl (by omega) (gf := 76) (lb := #[.pointer (some ⟨W1.heap.size, 0, none⟩)]) rfl trivial (enters_of Try.func76 (by kernel_rfl) rfl)
    (Kp := KeepBut [W2.heap.size + 1]) (fun _ _ _ h k => h.trans k) (fun W o _ => KeepBut.put W _ o (by simp)) HS.out (fun _ => rfl)
    (fun pre X => (∀ x ∈ pre, rnB n x = true) ∧ Whole X (W.heap.size + 1) 4 [.bool false] ∧ Whole X W.heap.size 3 [.int .i64 n] ∧ Below W.heap.size W X) (IXR (W.heap.size + 1) W.heap.size W (Ls.flatten.all (rnB n) = false))
    (fun s X Y h hb => ⟨h.1, h.2.1.below hb (by omega), h.2.2.1.below hb (by omega), h.2.2.2.trans (hb.mono (by omega))⟩)
    (fun cd s X Y h hb => ⟨h.1, h.2.1, h.2.2.1.below hb (by omega), h.2.2.2.trans (hb.mono (by omega))⟩)
    ⟨(by intro x hx; cases hx), HK2.out.1, HK2.out.2.1, HK2.out.2.2⟩ ?round ?done ?stop)
  case round =>
    rintro l pre x V hl ⟨hpre, v1, v2, hbV⟩ hnx
    have HMEM := Lib.hid (List.mem_of_getElem? (show Ls.flatten[pre.length]? = some x from hnx))
    have HBAD := Lib.hid (fun h : rnB n x = false => show Ls.flatten.all (rnB n) = false from List.all_eq_false.2 ⟨x, HMEM.out, by rw [h]; simp⟩)
    have HPRE := Lib.hid hpre
    clear hnx HS hpre
    obtain ⟨fr, to, ⟨⟨a0, a1, a2⟩, ⟨b0, b1, b2⟩, ⟨c0, c1, c2⟩, ⟨d0, d1, d2⟩⟩⟩ := x
    have hrn : rnB n ⟨fr, to, ⟨⟨a0, a1, a2⟩, ⟨b0, b1, b2⟩, ⟨c0, c1, c2⟩, ⟨d0, d1, d2⟩⟩⟩ = (decide (0 ≤ fr) && (decide (to ≤ n) && (decide (fr < to) && frB ⟨⟨a0, a1, a2⟩, ⟨b0, b1, b2⟩, ⟨c0, c1, c2⟩, ⟨d0, d1, d2⟩⟩))) := rfl
    obtain ⟨q, hq⟩ : ∃ q, frB ⟨⟨a0, a1, a2⟩, ⟨b0, b1, b2⟩, ⟨c0, c1, c2⟩, ⟨d0, d1, d2⟩⟩ = q := ⟨_, rfl⟩
    have hrl : ∀ (X : World) (g : Nat), Whole X g 81 (Rn.cells ⟨fr, to, ⟨⟨a0, a1, a2⟩, ⟨b0, b1, b2⟩, ⟨c0, c1, c2⟩, ⟨d0, d1, d2⟩⟩⟩) → Calls Try.prog 40 #[.slice (some ⟨g, 2, none⟩) 4 4] X (fun e W' => e = Ending.returned (.bool (frB ⟨⟨a0, a1, a2⟩, ⟨b0, b1, b2⟩, ⟨c0, c1, c2⟩, ⟨d0, d1, d2⟩⟩)) ∧ Below X.heap.size X W') :=
      fun X g h => rightLines_any _ (Fr.list ⟨⟨a0, a1, a2⟩, ⟨b0, b1, b2⟩, ⟨c0, c1, c2⟩, ⟨d0, d1, d2⟩⟩) X (rows_off (u := .int .i64 fr) (v := .int .i64 to) h)
    simp only [hq] at hrl
    have HRL := Lib.hid hrl
    clear hrl
    rw [hq] at hrn
    clear hq
    apply Exists.intro
    apply Exists.intro
    refine ⟨?_, ?_, ?_, ?_⟩
    · intro K hK
      simp only [encU, Rn.val, Rn.cells, Fr.cells, Li.cells, List.cons_append, List.nil_append]
      gi_wp2
      exact hK
    · exact (KeepsOthers.alloc V _).from _
    · exact KeepBut.of_below ((Below.refl _ _).alloc (Nat.le_refl _) _)
    · intro V₂ hgV hnc hbl
      have KX0 := whole_new V (Rn.cells ⟨fr, to, ⟨⟨a0, a1, a2⟩, ⟨b0, b1, b2⟩, ⟨c0, c1, c2⟩, ⟨d0, d1, d2⟩⟩⟩) 81 _ rfl
      have kx := KX0.grown hgV (KX0.ne hnc)
      have w1' := (v1.alloc (.cells (Rn.cells ⟨fr, to, ⟨⟨a0, a1, a2⟩, ⟨b0, b1, b2⟩, ⟨c0, c1, c2⟩, ⟨d0, d1, d2⟩⟩⟩).toArray 81)).grown hgV ((v1.alloc _).ne hnc)
      have w2' := (v2.alloc (.cells (Rn.cells ⟨fr, to, ⟨⟨a0, a1, a2⟩, ⟨b0, b1, b2⟩, ⟨c0, c1, c2⟩, ⟨d0, d1, d2⟩⟩⟩).toArray 81)).grown hgV ((v2.alloc _).ne hnc)
      have hbs := hbV.size
      have hb2 : Below W.heap.size W V₂ := (hbV.alloc hbs (.cells (Rn.cells ⟨fr, to, ⟨⟨a0, a1, a2⟩, ⟨b0, b1, b2⟩, ⟨c0, c1, c2⟩, ⟨d0, d1, d2⟩⟩⟩).toArray 81)).grown hgV (by simp; omega) (fun k e => by cases e; omega)
      obtain ⟨gx, hgx⟩ : ∃ gx, V.heap.size = gx := ⟨_, rfl⟩
      have hVg : W.heap.size + 1 < gx := by rw [← hgx]; exact v1.lt
      rw [hgx] at kx ⊢
      have HRX := Lib.hid (HRL.out V₂ gx kx)
      have x0 := kx.cellAt 0
      have x1 := kx.cellAt 1
      have lx := kx.lt
      have n0 := w2'.cellAt 0
      have ln := w2'.lt
      have f4 := w1'.free 0
      have c4 := w1'.cellAt 0
      have l4 := w1'.lt
      simp only [Rn.cells, List.cons_append, List.nil_append, List.getElem?_cons_zero, List.getElem?_cons_succ] at x0 x1
      simp only [List.getElem?_cons_zero] at n0 c4
      have KX := Lib.hid kx
      have H1 := Lib.hid w1'
      have H2 := Lib.hid w2'
      have HB2 := Lib.hid hb2
      clear KX0 kx w1' w2' v1 v2 hbV hgV hnc hbl hb2 hgx HRL
      by_cases h1 : fr < 0
      · have HB := Lib.hid (HBAD.out (by rw [hrn]; simp; omega))
        clear hrn HRX HBAD
        gi_wp2
        refine ⟨trivial, ?_⟩
        gi_wp2
        exact ⟨(KeepsOthers.setCell _ _ _).from _, rfl, HB.out, H1.out.set 0 _, HB2.out.setCell (p := ⟨W.heap.size + 1, 0, none⟩) (by simp) _⟩
      · by_cases h2 : n < to
        · have HB := Lib.hid (HBAD.out (by rw [hrn]; simp; omega))
          clear hrn HRX HBAD
          gi_wp2
          refine ⟨trivial, ?_⟩
          gi_wp2
          exact ⟨(KeepsOthers.setCell _ _ _).from _, rfl, HB.out, H1.out.set 0 _, HB2.out.setCell (p := ⟨W.heap.size + 1, 0, none⟩) (by simp) _⟩
        · by_cases h3 : to ≤ fr
          · have HB := Lib.hid (HBAD.out (by rw [hrn]; simp; omega))
            clear hrn HRX HBAD
            gi_wp2
            refine ⟨trivial, ?_⟩
            gi_wp2
            exact ⟨(KeepsOthers.setCell _ _ _).from _, rfl, HB.out, H1.out.set 0 _, HB2.out.setCell (p := ⟨W.heap.size + 1, 0, none⟩) (by simp) _⟩
          · cases q with
            | false =>
              have HB := Lib.hid (HBAD.out (by rw [hrn]; simp))
              clear hrn HBAD
              gi_wp2_with fail
              refine ⟨trivial, (CallsIn.inRound l (callsIn_wide.2 HRX.out)).mono ?_⟩
              rintro e w3 ⟨rfl, hb3⟩
              have H13 := Lib.hid (H1.out.below hb3 H1.out.lt)
              have HB3 := Lib.hid (HB2.out.trans (hb3.mono HB2.out.size))
              have KF := Lib.hid (show KeepsOthers V₂ w3 from ⟨hb3.size, fun k o hk _ => (hb3.block k (Array.getElem?_eq_some_iff.1 hk).1).trans hk⟩)
              have f4 := H13.out.free 0
              have c4 := H13.out.cellAt 0
              have l4 := H13.out.lt
              clear hb3 x0 x1 lx n0 ln HRX
              gi_wp2
              exact ⟨(KF.out.trans (KeepsOthers.setCell _ _ _)).from _, rfl, HB.out, H13.out.set 0 _, HB3.out.setCell (p := ⟨W.heap.size + 1, 0, none⟩) (by simp) _⟩
            | true =>
              have HG := Lib.hid (show rnB n ⟨fr, to, ⟨⟨a0, a1, a2⟩, ⟨b0, b1, b2⟩, ⟨c0, c1, c2⟩, ⟨d0, d1, d2⟩⟩⟩ = true by rw [hrn]; simp; omega)
              clear hrn HBAD
              gi_wp2_with fail
              refine ⟨trivial, (CallsIn.inRound l (callsIn_wide.2 HRX.out)).mono ?_⟩
              rintro e w3 ⟨rfl, hb3⟩
              have H13 := Lib.hid (H1.out.below hb3 H1.out.lt)
              have H23 := Lib.hid (H2.out.below hb3 H2.out.lt)
              have HB3 := Lib.hid (HB2.out.trans (hb3.mono HB2.out.size))
              have KF := Lib.hid (show KeepsOthers V₂ w3 from ⟨hb3.size, fun k o hk _ => (hb3.block k (Array.getElem?_eq_some_iff.1 hk).1).trans hk⟩)
              have KB := Lib.hid (KeepBut.of_below (E := [W2.heap.size + 1]) hb3)
              clear hb3 x0 x1 lx n0 ln HRX f4 c4 l4
              gi_wp2
              refine ⟨KF.out.from _, KB.out, ?_, H13.out, H23.out, HB3.out⟩
              intro y hy
              rcases List.mem_append.1 hy with hy | hy
              · exact HPRE.out y hy
              · obtain rfl := List.mem_singleton.1 hy; exact HG.out
  case done =>
    rintro D xs V hD hxs ⟨hall, v1, v2, hbV⟩ hK
    have HQ : Hid (Ls.flatten.all (rnB n) = true) := Lib.hid (by rw [← hxs]; exact List.all_eq_true.2 hall)
    have f1 := v1.free 0
    have c1 := v1.cellAt 0
    have l1 := v1.lt
    have HV := Lib.hid (And.intro v1 hbV)
    have HKK := Lib.hid hK
    clear v1 v2 hbV hK hxs HS hall
    go_wp2
    refine leaves_marks W.heap.size [D] _ ((Marks.nil W.heap.size _).cons (D := D) (by omega) ((Below.heap_setCell V ⟨W.heap.size + 1, 0, none⟩ _ D (by simp; omega)).trans HKK.out) (fun E hE => by cases hE)) (fun W' hck hbk => ⟨_, results_boolR (g := W.heap.size + 1) rfl rfl (hck _ _ (HV.out.1.set 0 _) rfl), ⟨by rw [HQ.out], ?_⟩⟩)
    exact (HV.out.2.setCell (p := ⟨W.heap.size + 1, 0, none⟩) (by simp) _).trans hbk
  case stop =>
    rintro D cd pre V hD _ ⟨rfl, hbad2, v1, hbV⟩ hK
    have HQ := Lib.hid hbad2
    have HM := Lib.hid ((Marks.nil W.heap.size V).cons (D := D) (by omega) hK (fun E hE => by cases hE))
    have HV := Lib.hid (And.intro v1 hbV)
    clear v1 hbV hK hbad2 HS
    gi_wp2
    exact leaves_marks W.heap.size [D] _ HM.out (fun W' hck hbk => ⟨_, results_boolR (g := W.heap.size + 1) rfl rfl (hck _ _ HV.out.1 rfl), ⟨by rw [HQ.out], HV.out.2.trans hbk⟩⟩)
end Go.Proofs.Ytceippgkmoijdaa
