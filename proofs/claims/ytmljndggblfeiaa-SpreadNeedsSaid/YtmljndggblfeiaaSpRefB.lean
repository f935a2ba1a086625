/- The document's Over (layer 14), for what may be distributed. Written by mk_SpRefB.py. -/
import Derived.Test.YtmljndggblfeiaaSpRefA
import Derived.Test.YtmljndggblfeiaaSpWd
import Derived.Test.YtmljndggblfeiaaStRef
namespace Go.Proofs.Ytmljndggblfeiaa
open Go.RowKit Go.Shelf
set_option linter.unusedVariables false
set_option linter.unusedSimpArgs false
attribute [local go_sem] Oper.semAt_some

theorem refShareW_any (b off cap k : Nat) (t : Int) (ws : List Int) (w : World) (hk : ws.length = k) (hc : ∀ j, j < k → w.cell? ⟨b, off + j, none⟩ = some (.int .i64 (ws[j]?.getD 0))) (h : mayB t k = true) (hok : OkW ws) (k1 : 1 ≤ k) (t0 : 0 ≤ t) :
    Calls Try.prog 59 #[.int .i64 t, .slice (some ⟨b, off, none⟩) k cap] w fun e w' => (∃ v, e = .returned (.tuple #[v, .int .i64 0]) ∧ Nums .i64 w' v (shrW t ws)) ∧ Below w.heap.size w w' := by
  have hs0 := (sumZ_bd ws hok).1
  have hkm : k ≤ 10000 := by simp [mayB] at h; omega
  by_cases h0 : sumZ ws = 0
  · have e : shrW t ws = evenL t k := by unfold shrW counted; rw [if_pos h0, hk, shareS_rep t 1 k (by omega) k1 t0]
    rw [e]
    exact (refShare_zero b off cap k t ws w hk hc h hok h0).mono fun e w' ⟨⟨v, h1, h2⟩, h3⟩ => ⟨⟨v, h1, h2.nums (by rw [evenL_length]; omega)⟩, h3⟩
  · have e : shrW t ws = shareL (ordS k) t ws := by unfold shrW counted shareS; rw [if_neg h0, hk]
    rw [e]
    exact refShare_main b off cap k t (sumZ ws) ws w hk hc h hok rfl (by omega)
theorem addS_take (l : List Int) (i : Nat) (hi : i < l.length) : addS (l.take (i + 1)) = sat (addS (l.take i) + l[i]?.getD 0) := by
  unfold addS
  rw [List.take_add_one, List.foldl_append, List.getElem?_eq_getElem hi]; rfl
theorem nums_at {W : World} {a : Option Addr} {k c : Nat} {zs : List Int} (h : Nums .i64 W (.slice a k c) zs) (hk : 1 ≤ k) (hl : zs.length = k) : ∃ b o, a = some ⟨b, o, none⟩ ∧ b < W.heap.size ∧ ∀ j, j < k → W.cell? ⟨b, o + j, none⟩ = some (.int .i64 (zs[j]?.getD 0)) := by
  obtain ⟨_, ⟨a', c', e, _, e2⟩ | ⟨b, off, c', e, _, _, hc⟩⟩ := h
  · rw [e2] at hl; simp at hl; omega
  · simp only [Value.slice.injEq] at e
    rw [hl] at hc
    exact ⟨b, off, e.1, cell_lt (hc 0 (by omega)), hc⟩
theorem wp_appendI {P : Program} {o : Oper} {a : Act} {w w' : World} {K : Act → World → Prop} {Q : Exit → Act → World → Prop} (s x : Operand) (t : TypeId) (ho : o.op = .call { callee := .builtin .append, args := #[s, x], argTypes := #[t, t] })
    (v u v' : Value) (hs : a.eval s = v) (hx : a.eval x = u) (hr : (Builtin.append_ #[t, t] o.type #[v, u]).run P w = .ok v' w') (h : K (a.put o.dst v') w') : o.wp P a w K Q := by
  unfold Oper.wp execOp
  simp only [ho, resolve, invoke, builtin, Sem.run_bind, Sem.run_pure, Result.andThen_ok, List.map_toArray, List.map_cons, List.map_nil, hs, hx, hr]
  exact h
theorem take_mapI (op : List Int) (i : Nat) (z : Int) (h : op[i]? = some z) : op.take (i + 1) = op.take i ++ [z] := by rw [List.take_add_one, h]; rfl
set_option maxRecDepth 100000 in
set_option maxHeartbeats 4000000 in
theorem refOver_ok (a0 a1 : Option Addr) (k c0 c1 : Nat) (n : Int) (l ws : List Int) (W : World) (hk : l.length = k) (hl : Nums .i64 W (.slice a0 k c0) l) (hw : Nums .i64 W (.slice a1 k c1) ws) (ho : OverOk n l ws) :
    Calls Try.prog 40 #[.int .i64 n, .slice a0 k c0, .slice a1 k c1] W fun e X => ∃ g cap sp, e = .returned (.tuple #[.slice (some ⟨g, 0, none⟩) k cap, .int .i64 0]) ∧ IRow X g (overP n l ws) sp ∧ W.heap.size ≤ g ∧ k ≤ cap ∧ cap ≤ 9223372036854775807 ∧ Below W.heap.size W X := by
  have hwl : ws.length = k := by rw [ho.wl, hk]
  have k1 : 1 ≤ k := by have := ho.l1; omega
  have k2 : k ≤ 10000 := by have := ho.l2; omega
  have n0 := ho.n0
  have n1 := ho.n1
  obtain ⟨b1, o1, rfl, lb1, hc1⟩ := nums_at hl k1 hk
  obtain ⟨b2, o2, rfl, lb2, hc2⟩ := nums_at hw k1 hwl
  have hE := excess_eq n l n0 n1 ho.lo
  obtain ⟨i0, hi, hz0, hz1, hz2⟩ := info_parts Try.infoI64
  have HI0 : Hid (Try.prog.info? 2 = some i0 ∧ i0.zero = some (.int .i64 0) ∧ i0.size = 1 ∧ i0.bytes = 8) := Lib.hid ⟨hi, hz0, hz1, hz2⟩
  have HC1 := Lib.hid hc1
  have HC2 := Lib.hid hc2
  have HOL := Lib.hid ho.lo
  have HOW := Lib.hid ho.wo
  have HLK := Lib.hid hk
  have HWK := Lib.hid hwl
  have HOP : Hid ((overP n l ws).length = k) := Lib.hid (by rw [ho.len]; exact hk)
  have HOS := Lib.hid ho.shl
  have HBW := Lib.hid (okW_get _ ho.ok)
  have HE := Lib.hid hE
  clear hl hw ho hc1 hc2 hi hz0 hz1 hz2 hk hwl hE
  have f1 : ¬ (n < 0) := by omega
  have f2 : ¬ (1125899906842623 < n) := by omega
  have f3 : ¬ ((k : Int) < 1) := by omega
  have f4 : ¬ ((10000 : Int) < (k : Int)) := by omega
  have f5 : ((k : Int) == (k : Int)) = true := by simp
  go_enter Try.func40, Try.ntmps40
  go_wp2
  go_loopw [8, 9] (fun s8 s9 X => ∃ i : Nat, i ≤ k ∧ s8 = .int .i64 (addS (l.take i)) ∧ s9 = .int .i64 (i : Int) ∧ Hid (W = X)) (fun _ s9 _ => k - (intOf s9).toNat)
  case atStart => exact ⟨0, Nat.zero_le _, by simp [addS], rfl, Lib.hid rfl⟩
  case round =>
    obtain ⟨i, hi, rfl, rfl, HX⟩ := hrel
    by_cases hlt : i < k
    · have x1 := HC1.out i hlt
      have x2 := HC2.out i hlt
      rw [HX.out] at x1 x2
      have g1 := okW_get l HOL.out i
      have g2 := okW_get ws HOW.out i
      have HS := Lib.hid (addS_take l i (by rw [HLK.out]; exact hlt))
      have hb := addS_bd (l.take i)
      generalize l[i]?.getD 0 = za at *
      generalize ws[i]?.getD 0 = zb at *
      have HSM := Lib.hid (fun X => refSum_any (addS (l.take i)) za X hb.1 hb.2 (by omega) (by omega))
      rw [← HS.out] at HSM
      generalize addS (l.take i) = sa at *
      obtain ⟨sb, hsb⟩ : ∃ q, q = addS (l.take (i + 1)) := ⟨_, rfl⟩
      rw [← hsb] at HSM
      have HSB := Lib.hid hsb
      clear hsb
      have d1 : decide (za < 0) = false := by simp; omega
      have d2 : decide (1125899906842623 < za) = false := by simp; omega
      have d3 : decide (zb < 0) = false := by simp; omega
      have d4 : decide (1125899906842623 < zb) = false := by simp; omega
      have e1 : ¬ za < 0 := by omega
      have e2 : ¬ 1125899906842623 < za := by omega
      have e3 : ¬ zb < 0 := by omega
      have e4 : ¬ 1125899906842623 < zb := by omega
      have l1 := cell_lt x1
      have l2 := cell_lt x2
      clear hb g1 g2 lb1 lb2
      go_wp2_with fail
      refine (HSM.out _).mono ?_
      rintro e w1 ⟨rfl, rfl⟩
      clear HSM x1 x2 HS
      go_wp2
      go_roundw
      case rel => exact ⟨i + 1, by omega, by rw [HSB.out], by go_num, HX⟩
      case measure => simp [intOf]; omega
    · obtain rfl : k = i := by omega
      have e0 : Hid (l.take k = l) := Lib.hid (List.take_of_length_le (by rw [HLK.out]; exact Nat.le_refl _))
      have hX := HX.out
      subst hX
      rw [e0.out]
      have hb := addS_bd l
      obtain ⟨q, hq⟩ : ∃ q, q = addS l := ⟨_, rfl⟩
      rw [← hq] at hb HE ⊢
      have HSB := Lib.hid (fun X => refSub_any n q X (by omega) (by omega) hb.1 hb.2)
      obtain ⟨u, hu⟩ : ∃ u, u = sat (n - q) := ⟨_, rfl⟩
      rw [← hu] at HSB HE
      obtain ⟨t, ht⟩ : ∃ t, t = max 0 (n - sumZ l) := ⟨_, rfl⟩
      have hE := HE.out
      rw [← ht] at hE
      have hs := sumZ_nn l HOL.out
      have t0 : 0 ≤ t := by omega
      have t1 : t ≤ 1125899906842623 := by omega
      have HSH := Lib.hid (refShareW_any b2 o2 c1 k t ws W HWK.out HC2.out (by simp [mayB]; omega) HOW.out k1 t0)
      have HOV : Hid (overP n l ws = addL (shrW t ws) l ∧ (shrW t ws).length = k ∧ (∀ z ∈ shrW t ws, 0 ≤ z ∧ z ≤ t)) := Lib.hid ⟨by unfold overP; rw [ht], by rw [ht, HOS.out, HLK.out], shrW_bd t ws t0 HOW.out (by rw [HWK.out]; exact k1)⟩
      generalize shrW t ws = sh at *
      clear hb hq hu ht hs HE HX e0 f1 f2 f3 f4 f5 hlt hi
      go_wp2_with fail
      refine (HSB.out _).mono ?_
      rintro e w1 ⟨rfl, rfl⟩
      clear HSB
      go_wp2_with fail
      try rw [hE]
      clear hE
      refine HSH.out.mono ?_
      rintro e w1 ⟨⟨v3, rfl, hn3⟩, hb3⟩
      obtain ⟨a3, c3, rfl⟩ : ∃ a3 c3, v3 = .slice a3 k c3 := by
        obtain ⟨_, ⟨a, c, _, _, e⟩ | ⟨b, off, c, e, _, _, _⟩⟩ := hn3
        · have := HOV.out.2.1; rw [e] at this; simp at this; omega
        · exact ⟨_, _, by rw [e, HOV.out.2.1]⟩
      obtain ⟨b3, o3, rfl, lb3, hc3⟩ := nums_at hn3 k1 HOV.out.2.1
      have HC3 := Lib.hid hc3
      have B1 := Lib.hid hb3
      have HOG : Hid (∀ j, j < k → (overP n l ws)[j]? = some (l[j]?.getD 0 + sh[j]?.getD 0)) := Lib.hid (fun j hj => by
        have h1 : j < (overP n l ws).length := by rw [HOP.out]; exact hj
        have h2 := addL_get sh l (by rw [HOV.out.2.1, HLK.out]) j
        rw [← HOV.out.1, List.getElem?_eq_getElem h1] at h2
        rw [List.getElem?_eq_getElem h1]; rw [Option.getD_some] at h2; rw [h2, Int.add_comm])
      clear hn3 hc3 hb3 HSH
      obtain ⟨op, hop⟩ : ∃ op, op = overP n l ws := ⟨_, rfl⟩
      rw [← hop] at HOG HOP HBW
      have HOE := Lib.hid hop
      clear hop
      go_wp2
      go_loopw [12, 13] (fun s12 s13 X => ∃ (i : Nat) (p : Option Addr) (nv cv : Nat), i ≤ k ∧ s12 = .slice p nv cv ∧ s13 = .int .i64 (i : Int) ∧ Hid (X.ownsRow w1.heap.size 2 1 (.slice p nv cv) (op.take i).length ((op.take i).map (Value.int .i64))) ∧ Hid (Below w1.heap.size w1 X)) (fun _ s13 _ => k - (intOf s13).toNat)
      case atStart => exact ⟨0, none, 0, 0, Nat.zero_le _, rfl, rfl, Lib.hid (by simpa using World.ownsRow_nil _ _ _ _), Lib.hid (Below.refl _ _)⟩
      case round =>
        obtain ⟨i, pv, nv, cv, hi, rfl, rfl, HO, HX⟩ := hrel
        by_cases hlt : i < k
        · have x1 := (B1.out.cell (p := ⟨b1, o1 + i, none⟩) lb1).trans (HC1.out i hlt)
          have x3 := HC3.out i hlt
          have lw1 := cell_lt x1
          have hz := HOG.out i hlt
          have hbd := HBW.out i
          rw [hz, Option.getD_some] at hbd
          have HTK := Lib.hid (take_mapI op i _ hz)
          have HTL : Hid ((op.take i).length = i) := Lib.hid (by rw [List.length_take, HOP.out]; omega)
          generalize op.take i = A at *
          generalize l[i]?.getD 0 = za at *
          generalize sh[i]?.getD 0 = zb at *
          have hwz : IntKind.i64.wrap (za + zb) = za + zb := by rw [IntKind.wrap_i64]; omega
          have hi2 : (i : Int) < (k : Int) := by omega
          go_wp2
          refine region_held_atC (S := fun X => Hid (Below w1.heap.size w1 X)) (by kernel_rfl) (fun w2 hw2 => ?_)
          have SV : Hid (Below w1.heap.size w1 w2) := Lib.hid (HX.out.trans (hw2 ▸ below_dn _ _ _))
          have HO2 : Hid (w2.ownsRow w1.heap.size 2 1 (.slice pv nv cv) A.length (A.map (Value.int .i64))) := Lib.hid (hw2 ▸ own_belowK HO.out (below_dn _ _ 1))
          clear hw2 HO HX
          try simp only [Act.put, List.setIfInBounds_toArray, List.set_cons_succ, List.set_cons_zero]
          refine wpAnyH_takeC (i := 0) (v := .slice pv nv cv) (some 90) rfl rfl (by kernel_rfl) (by kernel_rfl) (by kernel_rfl) (fun _ _ _ h => h) (Or.inl ⟨by rfl, ?_⟩) SV ?_
          · intro X hX; go_simp
          try simp only [Act.put, List.setIfInBounds_toArray, List.set_cons_succ, List.set_cons_zero]
          refine wpAnyH_takeC (i := 1) (v := .slice (some ⟨b1, o1, none⟩) k c0) (some 91) rfl rfl (by kernel_rfl) (by kernel_rfl) (by kernel_rfl) (fun _ _ _ h => h) (Or.inl ⟨by rfl, ?_⟩) SV ?_
          · intro X hX; go_simp
          try simp only [Act.put, List.setIfInBounds_toArray, List.set_cons_succ, List.set_cons_zero]
          refine wpAnyH_takeC (i := 2) (v := .int .i64 (i : Int)) (some 92) rfl rfl (by kernel_rfl) (by kernel_rfl) (by kernel_rfl) (fun _ _ _ h => h) (Or.inl ⟨by rfl, ?_⟩) SV ?_
          · intro X hX; go_simp
          try simp only [Act.put, List.setIfInBounds_toArray, List.set_cons_succ, List.set_cons_zero]
          refine wpAnyH_takeC (i := 3) (v := .pointer (some ⟨b1, o1 + i, none⟩)) (some 93) rfl rfl (by kernel_rfl) (by kernel_rfl) (by kernel_rfl) (fun _ _ _ h => h) (Or.inl ⟨by rfl, ?_⟩) SV ?_
          · intro X hX; go_simp
          try simp only [Act.put, List.setIfInBounds_toArray, List.set_cons_succ, List.set_cons_zero]
          refine wpAnyH_takeC (i := 4) (v := .int .i64 za) (some 94) rfl rfl (by kernel_rfl) (by kernel_rfl) (by kernel_rfl) (fun _ _ _ h => h) (Or.inl ⟨by rfl, ?_⟩) SV ?_
          · intro X hX; have o0 := hX.out.cell (p := ⟨b1, o1 + i, none⟩) lw1; rw [x1] at o0; have lX := hX.out.size; have lbX : b1 < X.heap.size := (by have : b1 < w1.heap.size := lw1; omega); go_simp
          try simp only [Act.put, List.setIfInBounds_toArray, List.set_cons_succ, List.set_cons_zero]
          refine wpAnyH_takeC (i := 5) (v := .slice (some ⟨b3, o3, none⟩) k c3) (some 95) rfl rfl (by kernel_rfl) (by kernel_rfl) (by kernel_rfl) (fun _ _ _ h => h) (Or.inl ⟨by rfl, ?_⟩) SV ?_
          · intro X hX; go_simp
          try simp only [Act.put, List.setIfInBounds_toArray, List.set_cons_succ, List.set_cons_zero]
          refine wpAnyH_takeC (i := 6) (v := .int .i64 (i : Int)) (some 96) rfl rfl (by kernel_rfl) (by kernel_rfl) (by kernel_rfl) (fun _ _ _ h => h) (Or.inl ⟨by rfl, ?_⟩) SV ?_
          · intro X hX; go_simp
          try simp only [Act.put, List.setIfInBounds_toArray, List.set_cons_succ, List.set_cons_zero]
          refine wpAnyH_takeC (i := 7) (v := .pointer (some ⟨b3, o3 + i, none⟩)) (some 97) rfl rfl (by kernel_rfl) (by kernel_rfl) (by kernel_rfl) (fun _ _ _ h => h) (Or.inl ⟨by rfl, ?_⟩) SV ?_
          · intro X hX; go_simp
          try simp only [Act.put, List.setIfInBounds_toArray, List.set_cons_succ, List.set_cons_zero]
          refine wpAnyH_takeC (i := 8) (v := .int .i64 zb) (some 98) rfl rfl (by kernel_rfl) (by kernel_rfl) (by kernel_rfl) (fun _ _ _ h => h) (Or.inl ⟨by rfl, ?_⟩) SV ?_
          · intro X hX; have o0 := hX.out.cell (p := ⟨b3, o3 + i, none⟩) lb3; rw [x3] at o0; have lX := hX.out.size; have lbX : b3 < X.heap.size := (by omega); go_simp
          try simp only [Act.put, List.setIfInBounds_toArray, List.set_cons_succ, List.set_cons_zero]
          refine wpAnyH_takeC (i := 9) (v := .int .i64 (za + zb)) (some 99) rfl rfl (by kernel_rfl) (by kernel_rfl) (by kernel_rfl) (fun _ _ _ h => h) (Or.inl ⟨by rfl, ?_⟩) SV ?_
          · intro X hX; go_simp
          try simp only [Act.put, List.setIfInBounds_toArray, List.set_cons_succ, List.set_cons_zero]
          refine wpAnyH_all (rs := [10]) (by kernel_rfl) (by simp) ?_
          intro ii hii; obtain rfl : ii = 10 := by simpa using hii
          clear hii
          refine wpOp_step rfl (fun K hK => ?_)
          go_simp
          have S3 : Hid (Below w1.heap.size w1 (w2.alloc (.cells #[.int .i64 (za + zb)] 2))) := Lib.hid (SV.out.alloc SV.out.size _)
          refine hK _ _ ⟨S3, ?_⟩
          clear hK K
          try simp only [Act.put, List.setIfInBounds_toArray, List.set_cons_succ, List.set_cons_zero]
          refine wpAnyH_all (rs := [11]) (by kernel_rfl) (by simp) ?_
          intro ii hii; obtain rfl : ii = 11 := by simpa using hii
          clear hii
          refine wpOp_step rfl (fun K hK => ?_)
          obtain ⟨v9, w9, hr9, hown9, hgrow9, hnil9, hat9⟩ := run_append_own_at (P := Try.prog) (w2.alloc (.cells #[.int .i64 (za + zb)] 2)) w1.heap.size 41 41 2 i0 (.int .i64 0) 1 8 Try.underlying41 HI0.out.1 HI0.out.2.1 HI0.out.2.2.1 HI0.out.2.2.2 rfl (by decide) (.slice pv nv cv) A.length (A.map (Value.int .i64)) (own_belowK HO2.out ((Below.refl _ w2).alloc (Nat.le_refl _) _)) ⟨w2.heap.size, 0, none⟩ 1 1 [.int .i64 (za + zb)] rfl
            (fun j u hj => (by cases j with | zero => (simp only [List.getElem?_cons_zero, Option.some.injEq] at hj; rw [add_plainC, ← hj]; simp) | succ j => simp at hj)) (by simp [Value.oneCell']) (by have := HTL.out; unfold maxLen; omega) (by have := HTL.out; omega) (by have := SV.out.size; simp; omega)
          obtain ⟨p9, k9, c9, rfl⟩ := own_sliceK hown9
          have S9 : Hid (Below w1.heap.size w1 w9) := Lib.hid (S3.out.grown hgrow9 S3.out.size (fun g e => (HO2.out.lt g e).1))
          have HO9 : Hid (w9.ownsRow w1.heap.size 2 1 (.slice p9 k9 c9) (op.take (i + 1)).length ((op.take (i + 1)).map (Value.int .i64))) := Lib.hid (by rw [HTK.out, List.length_append, List.map_append]; exact hown9)
          refine wp_appendI _ _ _ rfl _ _ _ rfl rfl hr9 ?_
          refine hK _ _ ⟨S9, ?_⟩
          clear hK K hr9 hown9 hgrow9 hnil9 hat9 S3 HO2 SV
          have SV := S9
          try simp only [Act.put, List.setIfInBounds_toArray, List.set_cons_succ, List.set_cons_zero]
          refine wpAnyH_takeC (i := 12) (v := .slice p9 k9 c9) (some 12) rfl rfl (by kernel_rfl) (by kernel_rfl) (by kernel_rfl) (fun _ _ _ h => h) (Or.inl ⟨by rfl, ?_⟩) SV ?_
          · intro X hX; go_simp
          try simp only [Act.put, List.setIfInBounds_toArray, List.set_cons_succ, List.set_cons_zero]
          refine wpAnyH_done (by kernel_rfl) ?_ _
          clear SV x1 x3
          go_wp2
          go_roundw
          case rel => exact ⟨i + 1, p9, k9, c9, by omega, rfl, by go_num, HO9, S9⟩
          case measure => simp [intOf]; omega
        · obtain rfl : k = i := by omega
          have e0 : Hid (op.take k = op) := Lib.hid (List.take_of_length_le (by rw [HOP.out]; exact Nat.le_refl _))
          rw [e0.out] at HO
          obtain ⟨g, cap, sp, e1, hg, hcap, hcm, hir⟩ := made_row (show Made .i64 2 w1.heap.size wr (.slice pv nv cv) op from HO.out) (by rw [HOP.out]; exact k1)
          simp only [Value.slice.injEq] at e1
          obtain ⟨rfl, rfl, rfl⟩ := e1
          have HR := Lib.hid hir
          have HN : Hid (op.length = k ∧ w1.heap.size ≤ g ∧ op.length ≤ cv ∧ cv ≤ 9223372036854775807) := Lib.hid ⟨HOP.out, hg, hcap, hcm⟩
          clear hir hg hcap hcm HO e0
          go_wp2
          go_ret2
          exact ⟨g, cv, sp, by rw [HN.out.1]; rfl, by rw [← HOE.out]; exact HR.out, Nat.le_trans B1.out.size HN.out.2.1, by have := HN.out; omega, HN.out.2.2.2, B1.out.trans (HX.out.mono B1.out.size)⟩
end Go.Proofs.Ytmljndggblfeiaa
