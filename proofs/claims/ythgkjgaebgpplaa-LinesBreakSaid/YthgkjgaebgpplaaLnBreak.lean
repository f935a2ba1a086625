/- Contract of lines.Break: the lines of a text. Written by mk_LnBreak.py. -/
import Derived.Test.YthgkjgaebgpplaaLnBrk
namespace Go.Proofs.Ythgkjgaebgpplaa
open Go.RowKit Go.Shelf
set_option linter.unusedVariables false
attribute [local go_sem] Oper.semAt_some

theorem jump_le {l : Nat} {J J' : Act → World → Prop} {Q : Exit → Act → World → Prop} (h : ∀ a w, J a w → J' a w) : ∀ e a w, Exit.jump l J Q e a w → Exit.jump l J' Q e a w := by
  intro e a w k
  cases e <;> first | exact k | exact ⟨k.1, h _ _ k.2⟩
theorem scope_pass {P : Program} {a : Act} {w : World} {Q : Exit → Act → World → Prop} {c rest : Code} (l : Nat) (J : Act → World → Prop) (μ : Act → World → Nat) (hf : findLabel c l = some (.seq .skip rest))
    (first : (∀ a w, J a w → rest.wp P (Exit.jump l J Q) a w) → c.wp P (Exit.jump l J Q) a w)
    (pass : ∀ a w, J a w → rest.wp P (Exit.jump l (fun a' w' => J a' w' ∧ μ a' w' < μ a w) Q) a w) : (Code.scope c).wp P Q a w :=
  wp_scope_jumps l J μ hf (first fun a w h => (wpIn_wide (n := 3)).1 (wpIn_mono (wpIn_wide.2 (pass a w h)) (jump_le fun _ _ h => h.1))) (fun a w h => wp_seq (wp_skip (pass a w h)))
theorem LowI.drop {B : Nat} {X : World} {p : Option Addr} {m c fr : Nat} {zs : List Int} (h : LowI B X (.slice p m c) zs) (hm : zs.length = m) (hc : m ≤ c) (h1 : fr ≤ m) :
    LowI B X (.slice (if c = fr then p else p.map (·.add fr)) (m - fr) (c - fr)) (zs.drop fr) := by
  have := h.sub (fr := fr) (to := m) hm hc h1 (Nat.le_refl _)
  rwa [List.take_of_length_le (by simp; omega)] at this
theorem okW.drop {b : Int} {ws : List Int} (h : okW b ws) (fr : Nat) : okW b (ws.drop fr) :=
  ⟨h.1, by have := h.2.1; simp; omega, fun x hx => h.2.2 x (List.mem_of_mem_drop hx)⟩
def muA (n : Nd) (a : Act) (X : World) : Nat := match a.tmps.getD 7 undef with | .pointer (some ad) => muB ad.block n X | _ => 0
set_option maxRecDepth 100000 in
set_option maxHeartbeats 4000000 in
theorem break_main (n : Nd) (w : World) (p : Option Addr) (m c : Nat) (width b : Int) (hok : n.ok w) (ht : textB n = true) (hwv : n.wv = .slice p m c) (hm : n.ws.length = m) (hmc : m ≤ c) (hb : n.b = b) :
    Calls Try.prog 12 #[n.val, .int .i64 width] w (BrPost n width w) := by
  have hT := textQ ht
  have HOK := Lib.hid hT.ok
  have HND := Lib.hid hok
  have HLOW : Hid (LowI w.heap.size w (.slice p m c) n.ws) := Lib.hid (by rw [← hwv]; exact .of hok.2.1)
  have HN0 := NdIn.new n w hok
  obtain ⟨cs, hcs⟩ : ∃ cs, n.cells.toArray = cs := ⟨_, rfl⟩
  obtain ⟨W0, hW0⟩ : ∃ W0, (w.alloc (.cells cs 35)).alloc (.cells #[.int .i64 width] 2) = W0 := ⟨_, rfl⟩
  have HN : Hid (NdIn n w.heap.size W0) := Lib.hid (by rw [← hW0, ← hcs]; exact HN0.below ((Below.refl _ _).alloc (Nat.le_refl _) _))
  have hB0 : Below w.heap.size w W0 := by rw [← hW0]; exact ((Below.refl _ w).alloc (Nat.le_refl _) _).alloc (by simp) _
  have hWD : Whole W0 (w.heap.size + 1) 2 [.int .i64 width] := by rw [← hW0]; exact whole_new (w.alloc (.cells cs 35)) [.int .i64 width] 2 _ (by simp)
  have HWD := Lib.hid hWD
  have hs0 : W0.heap.size = w.heap.size + 2 := by rw [← hW0]; simp
  have HRI : Hid (Calls Try.prog 15 #[.agg cs] W0 fun e Y => e = .returned (.bool true) ∧ Below W0.heap.size W0 Y) := Lib.hid (by
    have := lnRight_any n W0 HN.out.ok
    rw [show n.val = .agg n.cells.toArray from rfl, hcs, ht] at this
    exact this)
  have LN : ∀ j v, cs[j]? = some v → W0.cell? ((⟨w.heap.size, 0, none⟩ : Addr).add j) = some v := by rw [← hcs]; exact HN.out.load
  have HLN := Lib.hid LN
  have iN : Hid ((Try.prog.info? 35).map (·.size) = some cs.size) := Lib.hid (by rw [← hcs]; exact nd_info n)
  rw [show n.val = .agg n.cells.toArray from rfl, hcs]
  have HWV := Lib.hid hwv
  have HM := Lib.hid hm
  have HBB := Lib.hid hb
  have HB0 := Lib.hid hB0
  have HS0 := Lib.hid hs0
  have hm64 : m ≤ 10000 := by have := hT.ok.2.1; omega
  have hmc' : m ≤ c := hmc
  clear LN hok ht hwv hm hb hT hcs HN0 hB0 hWD hs0
  refine (callsIn_wide (n := 3)).1 (callsIn_of_wp_marks Try.func12 rfl trivial (wpIn_wide.2 ?_) rfl)
  simp only [Try.ntmps12, List.size_toArray, List.length_cons, List.length_nil, Nat.reduceAdd, Nat.reduceSub, Array.replicate_succ, Array.replicate_zero, List.push_toArray, List.append_toArray, List.nil_append, List.cons_append]
  go_wp2
  refine scope_pass 0 (fun a X => ∃ L, JB L n width w cs a X) (muA n) rfl ?first ?pass
  case first =>
    intro pass
    go_wp2_with (first
      | (with_reducible refine wpList_load_at rfl 35 (.tmp 2) rfl _ rfl cs _ HLN.out Try.underlying35 rfl iN.out ?_)
      | (go_at_call 15; refine HRI.out.mono ?_; clear HRI hW0; rintro e w1 ⟨rfl, hb1⟩; have HB1 := Lib.hid hb1; clear hb1))
    refine wp_label ?_
    simp only [Exit.then]
    rename_i KK hKK
    refine hKK _ _ (pass _ _ ?_)
    have h1 := HB1.out.size
    have h2 := HS0.out
    have hb2 : Below W0.heap.size W0 (w1.alloc (.cells #[.int .i64 0, .int .i64 0] 57)) := HB1.out.alloc h1 _
    refine ⟨w1.heap.size, [], .slice none 0 0, [], 0, 0, _, _, _, _, _, _, _, _, _, _, _, _, _, _, _, _, _, _, _, _, _, _, _, _, _, _, _, _, _, _, _, _, _, _, _, _, _, _, _, _, _, _, _, _, rfl, Lib.hid (Marks.nil _ _), Lib.hid ⟨HN.out.below hb2, HWD.out.below hb2 (by omega), whole_new w1 [.int .i64 0, .int .i64 0] 57 _ rfl, ⟨rfl, .inl ⟨rfl, rfl⟩⟩, HB0.out.trans (hb2.mono (by omega)), by omega⟩, Lib.hid rfl, Lib.hid (Nat.zero_le _)⟩
  case pass =>
    clear HRI HLN HN hW0 HWD HS0 HB0 iN
    rintro a X ⟨L, Ds, lv, Ls, s0, s, x8, x9, x10, x11, x12, x13, x14, x15, x16, x17, x18, x19, x20, x21, x22, x23, x24, x25, x26, x27, x28, x29, x30, x31, x32, x33, x34, x35, x36, x37, x38, x39, x40, x41, x42, x43, x44, x45, x46, x47, x48, x49, x50, x51, rfl, HMK, HBI, HBR, HSL⟩
    have c70 := HBI.out.ln.cellAt 0
    have c71 := HBI.out.ln.cellAt 1
    have f70 := HBI.out.ln.free 0
    have f71 := HBI.out.ln.free 1
    have l7 := HBI.out.ln.lt
    have hsl := HSL.out
    have hnl := HBI.out.nl
    go_wp2
    obtain ⟨H, hH⟩ : ∃ H, X.heap.size = H := ⟨_, rfl⟩
    obtain ⟨X2, hX2⟩ : ∃ X2, ((X.setCell ⟨L, 0, none⟩ (.int .i64 (s : Int))).setCell ⟨L, 1, none⟩ (.int .i64 (s : Int))).alloc (.cells #[.int .i64 (s : Int), .int .i64 (s : Int)] 57) = X2 := ⟨_, rfl⟩
    have hR2 : RB L H n width w lv Ls Ds s 0 X2 := by
      have hX1 : BI L n width w lv Ls s s ((X.setCell ⟨L, 0, none⟩ (.int .i64 (s : Int))).setCell ⟨L, 1, none⟩ (.int .i64 (s : Int))) := HBI.out.set HND.out ((HBI.out.ln.set 0 _).set 1 _) (fun k hk => (Below.heap_setCell _ _ _ _ (by simpa using hk)).trans (Below.heap_setCell _ _ _ _ (by simpa using hk))) (by simp) ((HBI.out.lo.setCell (p := ⟨L, 0, none⟩) (by show w.heap.size ≤ L; omega) _).setCell (p := ⟨L, 1, none⟩) (by show w.heap.size ≤ L; omega) _)
      have hM1 : Marks w.heap.size Ds ((X.setCell ⟨L, 0, none⟩ (.int .i64 (s : Int))).setCell ⟨L, 1, none⟩ (.int .i64 (s : Int))) := marks_kept HMK.out fun D hD => by
        have := marks_ne HMK.out HBI.out.ln D hD
        exact (Below.heap_setCell _ _ _ _ (by simpa using this)).trans (Below.heap_setCell _ _ _ _ (by simpa using this))
      rw [← hX2]
      refine ⟨hX1.below HND.out ((Below.refl _ _).alloc (Nat.le_refl _) _), whole_new _ [.int .i64 (s : Int), .int .i64 (s : Int)] 57 _ (by simp [hH]), marks_kept hM1 fun D hD => Below.heap_alloc _ _ D (marks_lt hM1 D hD)⟩
    have hs2 : X2.heap.size = H + 1 := by rw [← hX2, ← hH]; simp
    rw [hX2, hH]
    clear hX2 c70 c71 f70 f71 l7
    refine wp_label ?_
    simp only [Exit.then]
    rename_i KK hKK
    refine hKK _ _ ?_
    clear hKK KK
    refine wp_seq (wp_seq ?_)
    refine region_still_tailN 7 (by kernel_rfl) (by decide +kernel) (fun w2 hw2 => ?_)
    have bW : Below X2.heap.size X2 w2 := by rw [← hw2]; exact (Below.refl _ X2).drew
    have hR3 : RB L H n width w lv Ls Ds s 0 w2 := by rw [← hw2]; exact ⟨hR2.bi.below HND.out (Below.refl _ X2).drew, hR2.no, hR2.mks⟩
    have hz2 : w2.heap.size = H + 1 := by rw [← hw2]; exact hs2
    have d31 := hR3.bi.nd.w
    rw [HWV.out] at d31
    have d32 := hR3.bi.nd.b
    have d70 := hR3.bi.ln.cellAt 0
    have l2 := hR3.bi.nd.row.lt
    have l3 := hR3.bi.ln.lt
    have HR3 := Lib.hid hR3
    have HZ := Lib.hid hz2
    have hsm : s ≤ m := by have := HM.out; omega
    clear hw2 bW hR2 hs2 hR3 hz2
    simp only [List.take_succ_cons, List.take_zero, List.drop_succ_cons, List.drop_zero]
    still_step
    still_step
    still_step
    still_step
    still_step
    still_step
    refine wpStill_val rfl _ (exec_slice_l 33 _ _ rfl 2 Try.underlying33 (Try.sizeI64 _) p m c s rfl rfl hsm) ?_
    have HSUB := Lib.hid ((HLOW.out.keep (Y := w2) (fun k hk => HR3.out.bi.lo.block k hk)).drop HM.out hmc hsm)
    have HOKS := Lib.hid (HOK.out.drop s)
    have HLEN : Hid ((n.ws.drop s).length = m - s) := Lib.hid (by have := HM.out; simp; omega)
    generalize (if c = s then p else p.map (·.add s)) = q at HSUB ⊢
    generalize hk : m - s = k at HSUB HLEN ⊢
    have HK := Lib.hid hk
    generalize c - s = c2 at HSUB ⊢
    clear hk
    refine wpStill_nil ?_
    have hk64 : k ≤ 10000 := by have := HK.out; omega
    have HWF := Lib.hid (fun X => widthsF_any n.b q k c2 X)
    obtain ⟨W3, hW3⟩ : ∃ W3, (w2.alloc (.cells #[.int .i64 n.b] 2)).alloc (.cells #[.slice q k c2] 33) = W3 := ⟨_, rfl⟩
    have b3 : Below w2.heap.size w2 W3 := by rw [← hW3]; exact ((Below.refl _ w2).alloc (Nat.le_refl _) _).alloc (by simp) _
    have y1 : Whole W3 w2.heap.size 2 [.int .i64 n.b] := by rw [← hW3]; exact (whole_new w2 [.int .i64 n.b] 2 _ rfl).alloc _
    have y2 : Whole W3 (w2.heap.size + 1) 33 [.slice q k c2] := by rw [← hW3]; exact whole_new (w2.alloc (.cells #[.int .i64 n.b] 2)) [.slice q k c2] 33 _ (by simp)
    have s3 : W3.heap.size = w2.heap.size + 2 := by rw [← hW3]; simp
    have hR4 : RB L H n width w lv Ls Ds s 0 W3 := ⟨HR3.out.bi.below HND.out b3, HR3.out.no.below b3 HR3.out.no.lt, marks_kept HR3.out.mks fun D hD => b3.block D (marks_lt HR3.out.mks D hD)⟩
    have hDL : ∀ D ∈ Ds, D < W3.heap.size := fun D hD => marks_lt hR4.mks D hD
    have HMEM : Hid (WidMem w.heap.size w2.heap.size (w2.heap.size + 1) n.b (.slice q k c2) (n.ws.drop s) W3) := Lib.hid ⟨hR4.bi.lo.size, by omega, by omega, y1.cellAt 0, y2.cellAt 0, HSUB.out.keep (fun j hj => b3.block j (by have := HR3.out.bi.lo.size; omega))⟩
    have HR4 := Lib.hid hR4
    have HDL := Lib.hid hDL
    have z3 : w2.heap.size + 2 ≤ W3.heap.size := by omega
    have z2 : H + 1 ≤ w2.heap.size := by have := HZ.out; omega
    have z1 : L < H := by have := HBI.out.ln.lt; omega
    have z0 := HR4.out.bi.lo.size
    have HELE : Hid (∀ j, j < k → preW n.b (j + 1) (n.ws.drop s) - n.b = wideW n.b n.ws s (s + (j + 1))) := Lib.hid fun j hj => wideW_drop (by rw [HM.out]; exact hsm) (by omega)
    clear b3 y1 y2 s3 hR4 hDL d31 d32 d70 HR3
    go_wp2_with (go_at_call 25; refine (HWF.out _).mono ?_; clear HWF; rintro e w' ⟨rfl, rfl⟩; rw [hW3]; clear hW3)
    refine (wpIn_wide (n := 3)).1 (range_next (F := Fence.wide) rfl (by omega) (gf := 29) (lb := #[.pointer (some ⟨w2.heap.size, 0, none⟩), .pointer (some ⟨w2.heap.size + 1, 0, none⟩)]) rfl trivial (enters_of Try.func29 (by kernel_rfl) rfl)
      (Kp := KeepL (WidMem w.heap.size w2.heap.size (w2.heap.size + 1) n.b (.slice q k c2) (n.ws.drop s))) (fun _ _ _ h k => h.trans k) (fun W l o h1 h2 => ⟨by simp, fun h => h.keep (by simp) (fun k hk => World.putObj_heap_other (by omega)) (World.putObj_heap_other (by omega)) (World.putObj_heap_other (by omega))⟩) (widths_next _ (by omega) w.heap.size w2.heap.size (w2.heap.size + 1) n.b (.slice q k c2) (n.ws.drop s) W3 HOKS.out HMEM.out) (fun _ => rfl)
      (RI L H n width w lv Ls Ds s) (RX L H n width w lv Ls Ds s) (RI.own HND.out z0 HDL.out) (fun c => RX.own HND.out z0 HDL.out c) ⟨HR4.out, by simp; omega, fun m h1 h2 => by simp at h2; omega⟩ ?round ?done ?stop)
    case round =>
      rintro l pre x V hl ⟨hR, hle, hfit⟩ ⟨hx1, hx2⟩
      rw [HLEN.out] at hx2
      obtain ⟨k2, hk2⟩ : ∃ k2, pre.length = k2 := ⟨_, rfl⟩
      rw [hk2] at hR hle hfit hx1
      subst hx1
      obtain ⟨v, hv⟩ : ∃ v, preW n.b (x + 1) (n.ws.drop s) - n.b = v := ⟨_, rfl⟩
      have hvw := HELE.out x hx2
      rw [hv] at hvw
      have HVW := Lib.hid hvw
      have HPL := Lib.hid hk2
      have HLE := Lib.hid hle
      have HFIT := Lib.hid hfit
      have hsx : s + x < m := by have := HK.out; omega
      have HV := Lib.hid hv
      clear hv hvw hk2 hle hfit
      apply Exists.intro
      apply Exists.intro
      refine ⟨?_, ?_, ?_, ?_⟩
      · intro K hK
        dsimp only [encW]
        rw [HV.out]
        gi_wp2
        exact hK
      · exact (KeepsOthers.refl V).from _
      · exact ⟨Nat.le_refl _, id⟩
      · intro V₂ hgV hnc' hbl
        have hR2 := hR.grown HND.out hgV hnc' (K := W3.heap.size) (fun j e => by cases e; exact hl) z0 HDL.out
        have HR2 := Lib.hid hR2
        have c70 := hR2.bi.ln.cellAt 0
        have c71 := hR2.bi.ln.cellAt 1
        have f71 := hR2.bi.ln.free 1
        have l7 := hR2.bi.ln.lt
        have h80 := hR2.no.cellAt 0
        have h81 := hR2.no.cellAt 1
        have l8 := hR2.no.lt
        have cw := hR2.bi.wd.cellAt 0
        have lw := hR2.bi.wd.lt
        have HPUT : Hid (∀ u : Int, u = ((s + (x + 1) : Nat) : Int) → RB L H n width w lv Ls Ds s (x + 1) (V₂.setCell ⟨L, 1, none⟩ (.int .i64 u)) ∧ KeepL (WidMem w.heap.size w2.heap.size (w2.heap.size + 1) n.b (.slice q k c2) (n.ws.drop s)) V₂ (V₂.setCell ⟨L, 1, none⟩ (.int .i64 u))) := Lib.hid fun u hu => by
          subst hu
          have hh : ∀ j, j ≠ L → (V₂.setCell ⟨L, 1, none⟩ (.int .i64 ((s + (x + 1) : Nat) : Int))).heap[j]? = V₂.heap[j]? := fun j hj => Below.heap_setCell _ _ _ _ (by simpa using hj)
          refine ⟨⟨HR2.out.bi.set HND.out (HR2.out.bi.ln.set 1 _) hh (by simp) (HR2.out.bi.lo.setCell (p := ⟨L, 1, none⟩) (by show w.heap.size ≤ L; omega) _), (hh H (by omega)).trans HR2.out.no, marks_kept HR2.out.mks fun D hD => hh D (marks_ne HR2.out.mks HR2.out.bi.ln D hD)⟩, by simp, fun h => h.keep (by simp) (fun j hj => hh j (by omega)) (hh _ (by omega)) (hh _ (by omega))⟩
        clear hgV hnc' hbl hR2
        clear hR
        have hx64 : x ≤ 10000 := by omega
        have hs64 : s ≤ 10000 := by omega
        by_cases hgt : width < v
        · have hg : decide (width < v) = true := by simpa using hgt
          by_cases hx0 : x = 0
          · subst hx0
            have EQ := two_neq (s : Int) ((s + 0 : Nat) : Int) (s : Int) (s : Int) false (by simp)
            have HP := Lib.hid (HPUT.out ((s : Int) + 0 + 1) (by omega))
            clear HPUT
            simp only [Nat.add_zero, Int.natCast_zero, Int.cast_ofNat_Int, Int.add_zero] at c71 EQ HP ⊢
            gi_wp2
            refine ⟨(KeepsOthers.setCell _ _ _).from _, HP.out.2, ?_⟩
            refine ⟨?_, ?_, ?_⟩
            · rw [List.length_append, HPL.out]; exact HP.out.1
            · rw [List.length_append, HPL.out]; simp; have := HM.out; omega
            · rw [List.length_append, HPL.out]; intro m' h1 h2; simp at h2; omega
          · have EQ := two_eqr (s : Int) ((s : Int) + (x : Int)) (s : Int) (s : Int) false (by simp; omega)
            gi_wp2
            refine ⟨KeepsFrom.refl _ _, rfl, x, by omega, HR2.out, ?_, ?_, ?_, ?_⟩
            · omega
            · have := HM.out; omega
            · exact HFIT.out
            · intro _; rw [show s + x + 1 = s + (x + 1) by omega, ← HVW.out]; exact hgt
        · have hg : decide (width < v) = false := by simpa using hgt
          have HP := Lib.hid (HPUT.out ((s : Int) + (x : Int) + 1) (by omega))
          clear HPUT h80 h81 l8
          gi_wp2
          refine ⟨(KeepsOthers.setCell _ _ _).from _, HP.out.2, ?_⟩
          refine ⟨?_, ?_, ?_⟩
          · rw [List.length_append, HPL.out]; exact HP.out.1
          · rw [List.length_append, HPL.out]; simp; have := HM.out; omega
          · rw [List.length_append, HPL.out]; intro m' h1 h2; simp at h2
            by_cases he : m' = s + (x + 1)
            · rw [he, ← HVW.out]; omega
            · exact HFIT.out m' h1 (by omega)
    case done =>
      rintro D xs V hD hxs ⟨hR, hle, hfit⟩ hK
      rw [hxs, HLEN.out] at hR hle hfit
      have hskm : s + k = m := by have := HK.out; omega
      by_cases hk0 : k = 0
      · subst hk0
        have c70 := hR.bi.ln.cellAt 0
        have c71 := hR.bi.ln.cellAt 1
        have h80 := hR.no.cellAt 0
        have h81 := hR.no.cellAt 1
        have l7 := hR.bi.ln.lt
        have l8 := hR.no.lt
        have EQ := two_eqr (s : Int) (s : Int) (s : Int) (s : Int) true (by simp)
        have HMK2 : Hid (Marks w.heap.size (D :: Ds) V) := Lib.hid (hR.mks.cons (by omega) hK (fun E hE => by have := HDL.out E hE; omega))
        have HBI2 := Lib.hid hR.bi
        have HBR2 : Hid (Broke (IsLine n.b width n.ws) 0 Ls n.ws.length) := Lib.hid (by have := HBR.out; have h2 := HM.out; rwa [show s = n.ws.length by omega] at this)
        simp only [Nat.add_zero] at c71
        clear hR hK hxs hle hfit
        go_wp2
        exact leaves_marks w.heap.size (D :: Ds) _ HMK2.out (fun W' hck hbk => ⟨_, results_tmp2 rfl _ _ _, ⟨lv, Ls, rfl, HBR2.out, own_keptL HBI2.out.own hck (by omega), HBI2.out.lo.trans hbk⟩⟩)
      have hline : IsLine n.b width n.ws s (s + k) := ⟨by omega, by have := HM.out; omega, hfit, fun h => by have := HM.out; omega⟩
      clear hle hfit hxs hskm
      have c70 := hR.bi.ln.cellAt 0
      have c71 := hR.bi.ln.cellAt 1
      have h80 := hR.no.cellAt 0
      have h81 := hR.no.cellAt 1
      have l7 := hR.bi.ln.lt
      have l8 := hR.no.lt
      have EQ := two_eqr (s : Int) ((s + k : Nat) : Int) (s : Int) (s : Int) false (by simp; omega)
      have HMK2 : Hid (Marks w.heap.size (D :: Ds) V) := Lib.hid (hR.mks.cons (by omega) hK (fun E hE => by have := HDL.out E hE; omega))
      have HBI2 := Lib.hid hR.bi
      have HOWN := Lib.hid hR.bi.own
      have hLs : Ls.length ≤ 10000 := by have := HBR.out.len; have := HOK.out.2.1; have := HSL.out; omega
      have hsz : L + 1 ≤ V.heap.size := l7
      obtain ⟨i1, hi1, hz0', hz1', hz2'⟩ := info_parts Try.infoLn
      have HZ1 := Lib.hid hz0'
      have HZ2 := Lib.hid hz1'
      have HZ3 := Lib.hid hz2'
      have HFIN := Lib.hid (fun (w9 : World) (v9 : Value) (hg : (V.alloc (.cells #[.int .i64 (s : Int), .int .i64 ((s + k : Nat) : Int)] 57)).grownBy w9 lv.ownBlock) (hown : w9.ownsRow (L + 1) 57 2 v9 (Ls.length + 1) (flatLn Ls ++ [.int .i64 (s : Int), .int .i64 ((s + k : Nat) : Int)])) => And.intro (BI.app HBI2.out HND.out hg hown) (marks_app HMK2.out HOWN.out hg))
      have HBR2 : Hid (Broke (IsLine n.b width n.ws) 0 (Ls ++ [(s, s + k)]) (s + k)) := Lib.hid (HBR.out.snoc hline)
      have hle2 := hline.2.1
      generalize hsk : s + k = sk at *
      clear hR hK hline hz0' hz1' hz2'
      skip
      go_wp2_with (at_builtin; refine wpList_append_own_at _ rfl _ _ 38 rfl (L + 1) 57 i1 (.agg #[.int .i64 0, .int .i64 0]) 2 16 Try.underlying38 hi1 HZ1.out HZ2.out HZ3.out rfl (by decide) lv Ls.length (flatLn Ls) rfl (HOWN.out.alloc _) ⟨V.heap.size, 0, none⟩ 1 1 [.int .i64 (s : Int), .int .i64 (sk : Int)] rfl rfl (lay_newL _ [.int .i64 (s : Int), .int .i64 (sk : Int)] 57 V.heap.size rfl) (by simp [Value.oneCell']) (by unfold maxLen; omega) (by omega) (by simp; omega) ?_; intro v9 w9 hown9 hgrow9 _ _; have HF9 := Lib.hid (HFIN.out w9 v9 hgrow9 hown9); clear hown9 hgrow9 HFIN)
      apply wp_goto
      refine ⟨rfl, ⟨L, D :: Ds, v9, Ls ++ [(s, sk)], s, sk, _, _, _, _, _, _, _, _, _, _, _, _, _, _, _, _, _, _, _, _, _, _, _, _, _, _, _, _, _, _, _, _, _, _, _, _, _, _, _, _, _, _, _, _, rfl, Lib.hid HF9.out.2, Lib.hid HF9.out.1, HBR2, Lib.hid hle2⟩, ?_⟩
      show muB L n w9 < muB L n X
      rw [muB_at HF9.out.1, muB_at HBI.out]
      omega
    case stop =>
      rintro D c pre V hD _ ⟨rfl, k, hk0, hR, hline⟩ hK
      have c70 := hR.bi.ln.cellAt 0
      have c71 := hR.bi.ln.cellAt 1
      have h80 := hR.no.cellAt 0
      have h81 := hR.no.cellAt 1
      have l7 := hR.bi.ln.lt
      have l8 := hR.no.lt
      have EQ := two_eqr (s : Int) ((s + k : Nat) : Int) (s : Int) (s : Int) false (by simp; omega)
      have HMK2 : Hid (Marks w.heap.size (D :: Ds) V) := Lib.hid (hR.mks.cons (by omega) hK (fun E hE => by have := HDL.out E hE; omega))
      have HBI2 := Lib.hid hR.bi
      have HOWN := Lib.hid hR.bi.own
      have hLs : Ls.length ≤ 10000 := by have := HBR.out.len; have := HOK.out.2.1; have := HSL.out; omega
      have hsz : L + 1 ≤ V.heap.size := l7
      obtain ⟨i1, hi1, hz0', hz1', hz2'⟩ := info_parts Try.infoLn
      have HZ1 := Lib.hid hz0'
      have HZ2 := Lib.hid hz1'
      have HZ3 := Lib.hid hz2'
      have HFIN := Lib.hid (fun (w9 : World) (v9 : Value) (hg : (V.alloc (.cells #[.int .i64 (s : Int), .int .i64 ((s + k : Nat) : Int)] 57)).grownBy w9 lv.ownBlock) (hown : w9.ownsRow (L + 1) 57 2 v9 (Ls.length + 1) (flatLn Ls ++ [.int .i64 (s : Int), .int .i64 ((s + k : Nat) : Int)])) => And.intro (BI.app HBI2.out HND.out hg hown) (marks_app HMK2.out HOWN.out hg))
      have HBR2 : Hid (Broke (IsLine n.b width n.ws) 0 (Ls ++ [(s, s + k)]) (s + k)) := Lib.hid (HBR.out.snoc hline)
      have hle2 := hline.2.1
      generalize hsk : s + k = sk at *
      clear hR hK hline hz0' hz1' hz2'
      refine wpIn_wide.2 ?_
      go_wp2_with (at_builtin; refine wpList_append_own_at _ rfl _ _ 38 rfl (L + 1) 57 i1 (.agg #[.int .i64 0, .int .i64 0]) 2 16 Try.underlying38 hi1 HZ1.out HZ2.out HZ3.out rfl (by decide) lv Ls.length (flatLn Ls) rfl (HOWN.out.alloc _) ⟨V.heap.size, 0, none⟩ 1 1 [.int .i64 (s : Int), .int .i64 (sk : Int)] rfl rfl (lay_newL _ [.int .i64 (s : Int), .int .i64 (sk : Int)] 57 V.heap.size rfl) (by simp [Value.oneCell']) (by unfold maxLen; omega) (by omega) (by simp; omega) ?_; intro v9 w9 hown9 hgrow9 _ _; have HF9 := Lib.hid (HFIN.out w9 v9 hgrow9 hown9); clear hown9 hgrow9 HFIN)
      apply wp_goto
      refine ⟨rfl, ⟨L, D :: Ds, v9, Ls ++ [(s, sk)], s, sk, _, _, _, _, _, _, _, _, _, _, _, _, _, _, _, _, _, _, _, _, _, _, _, _, _, _, _, _, _, _, _, _, _, _, _, _, _, _, _, _, _, _, _, _, rfl, Lib.hid HF9.out.2, Lib.hid HF9.out.1, HBR2, Lib.hid hle2⟩, ?_⟩
      show muB L n w9 < muB L n X
      rw [muB_at HF9.out.1, muB_at HBI.out]
      omega
end Go.Proofs.Ythgkjgaebgpplaa
