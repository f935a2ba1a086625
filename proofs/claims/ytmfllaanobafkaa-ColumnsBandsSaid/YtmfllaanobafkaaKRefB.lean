/- The document's Bands of layer 13. -/
import Derived.Test.YtmfllaanobafkaaKApp
namespace Go.Proofs.Ytmfllaanobafkaa
open Go.RowKit Go.Shelf Go.Maps
set_option linter.unusedVariables false
set_option linter.unusedSimpArgs false
attribute [local go_sem] Oper.semAt_some

theorem infoBaT : ∃ i : TypeInfo, Try.prog.info? 42 = some i ∧ i.zero = some (.agg #[.int .i64 0, .int .i64 0, .int .i64 0, .int .i64 0]) ∧ i.size = 4 ∧ i.bytes = 32 := by
  cases hi : Try.prog.info? 42 with
  | none => have := Try.infoBa; rw [hi] at this; cases this
  | some i =>
    have h := Try.infoBa
    rw [hi] at h
    simp only [Option.map_some, Option.some.injEq, Prod.mk.injEq] at h
    exact ⟨i, rfl, h.1, h.2.1, h.2.2⟩
/-- a list of bands that grows: its memory is its own -/
def GB (B : World) (v : Value) (ys : List Ba) (X : World) : Prop := X.ownsRow B.heap.size 42 4 v ys.length (ys.flatMap Ba.cells) ∧ Below B.heap.size B X
theorem GB.nil (B : World) : GB B (.slice none 0 0) [] B := ⟨⟨rfl, .inl ⟨rfl, rfl⟩⟩, Below.refl _ _⟩
theorem GB.below {B X Y : World} {v : Value} {ys : List Ba} (h : GB B v ys X) (hb : Below X.heap.size X Y) : GB B v ys Y := ⟨own_belowK h.1 hb, h.2.trans (hb.mono h.2.size)⟩
theorem GB.step {B X Y : World} {v v' : Value} {ys zs : List Ba} {o : Obj} (h : GB B v ys X) (ho : Y.ownsRow B.heap.size 42 4 v' (ys.length + zs.length) (ys.flatMap Ba.cells ++ zs.flatMap Ba.cells)) (hg : (X.alloc o).grownBy Y v.ownBlock) : GB B v' (ys ++ zs) Y :=
  ⟨by rw [List.length_append, List.flatMap_append]; exact ho, (h.2.alloc h.2.size o).grown hg (by have := h.2.size; simp; omega) (fun g e => own_ltK h.1 g e)⟩
theorem GB.rows {B X : World} {v : Value} {ys : List Ba} (h : GB B v ys X) (hm : ys.length ≤ 9223372036854775807) : RowsK Ba.cells 4 X v ys := by
  refine ⟨hm, ?_⟩
  rcases h.1.2 with ⟨rfl, h0⟩ | ⟨g, cap, cur, rfl, hb, hg, hnc, hcm, hcs, htk⟩
  · exact .inl ⟨none, 0, rfl, List.length_eq_zero_iff.1 h0⟩
  · refine .inr ⟨g, 0, cap, rfl, (Array.getElem?_eq_some_iff.1 hg).1, fun j hj i v hv => ?_⟩
    have hi : i < 4 := (List.getElem?_eq_some_iff.1 hv).1
    have hf := flat_getK Ba.cells 4 Ba.cells_len ys j i hi hj
    rw [← htk, List.getElem?_take_of_lt (by have := Nat.mul_le_mul_right 4 (show j + 1 ≤ ys.length by omega); omega)] at hf
    rw [show 0 + j * 4 + i = j * 4 + i by omega]
    simp [World.cell?, hg]
    rw [← hv, ← hf]; simp
theorem bands_step (zs : List Sz) (ns : List Ne) (i : Nat) (s : Sz) (h : zs[i]? = some s) : (bandsB zs ns).take (i + 1) = (bandsB zs ns).take i ++ [bandB s ns i] := by
  have hb : (bandsB zs ns)[i]? = some (bandB s ns i) := by simp [bandsB, List.getElem?_mapIdx, h]
  rw [List.take_add_one, hb]; rfl
theorem fold_step (c : Nat) (b0 : Ba) (ns : List Ne) (t : Nat) (s : Ne) (h : ns[t]? = some s) : (ns.take (t + 1)).foldl (stepB c) b0 = stepB c ((ns.take t).foldl (stepB c) b0) s := by
  rw [List.take_add_one, h, List.foldl_append]; rfl
set_option maxRecDepth 100000 in
set_option maxHeartbeats 8000000 in
theorem refBands_any (p q : Option Addr) (m c m' c' : Nat) (zs : List Sz) (ns : List Ne) (W : World) (hz : RowsK Sz.cells 2 W (.slice p m c) zs) (hn : RowsK Ne.cells 9 W (.slice q m' c') ns) (hr : rightK zs ns = true) :
    Calls Try.prog 15 #[.slice p m c, .slice q m' c'] W fun e W' => ∃ a k, e = .returned (.slice a m k) ∧ RowsK Ba.cells 4 W' (.slice a m k) (bandsB zs ns) ∧ Below W.heap.size W W' := by
  have hl : zs.length = m := hz.len
  have hl' : ns.length = m' := hn.len
  have hm2 : m' ≤ 9223372036854775807 := by have := hn.1; omega
  have hm : m ≤ 10000 := by have := (rightK_iff zs ns).1 hr; omega
  have HOK := Lib.hid (((rightK_iff zs ns).1 hr).2.1)
  have HZ := Lib.hid (fun X (hX : Below W.heap.size W X) => hz.below hX)
  have HN := Lib.hid (fun X (hX : Below W.heap.size W X) => hn.below hX)
  have HL := Lib.hid hl
  have HL' := Lib.hid hl'
  have HBL : Hid ((bandsB zs ns).length = m) := Lib.hid (by rw [bandsB_len, hl])
  obtain ⟨i0, hi0, hz0, hz1, hz2⟩ := infoBaT
  have HI0 := Lib.hid hi0
  have HZ0 := Lib.hid hz0
  have HZ1 := Lib.hid hz1
  have HZ2 := Lib.hid hz2
  clear hz hn hr hl hl' hi0 hz0 hz1 hz2
  go_enter Try.func15, Try.ntmps15
  go_wp2
  go_loopw [5, 6] (fun s5 s6 X => ∃ i : Nat, i ≤ m ∧ s6 = .int .i64 (i : Int) ∧ (∃ a b d, s5 = .slice a b d) ∧ Hid (GB W s5 ((bandsB zs ns).take i) X)) (fun _ s6 _ => m - (intOf s6).toNat)
  case atStart => exact ⟨0, Nat.zero_le _, rfl, ⟨_, _, _, rfl⟩, Lib.hid (GB.nil W)⟩
  case round =>
    obtain ⟨i, hi, rfl, ⟨pv, kv, cv, rfl⟩, HG⟩ := hrel
    by_cases hlt : i < m
    · obtain ⟨s, hs⟩ : ∃ s, zs[i]? = some s := ⟨_, List.getElem?_eq_getElem (by rw [HL.out]; exact hlt)⟩
      have hs0 := (szB_iff s).1 (HOK.out s (List.mem_of_getElem? hs))
      obtain ⟨g1, o1, rfl, l1, ha⟩ := (HZ.out _ HG.out.2).at i s hs
      have HST := Lib.hid (bands_step zs ns i s hs)
      have HBB : Hid (bandB s ns i = setB (ns.foldl (stepB i) (askB ⟨0, 0, -1, -1⟩ s))) := Lib.hid rfl
      obtain ⟨sk, sn⟩ := s
      have x0 : wr.cell? ⟨g1, o1 + i * 2, none⟩ = some (.int .i64 sk) := ha 0 _ rfl
      have x1 : wr.cell? ⟨g1, o1 + i * 2 + 1, none⟩ = some (.int .i64 sn) := ha 1 _ rfl
      have hn0 := hs0.1
      dsimp only at hn0
      have hzw := HG.out.2.size
      clear hs ha hs0
      have hk : (sk = 1 ∧ Hid (askB ⟨0, 0, -1, -1⟩ ⟨sk, sn⟩ = ⟨0, 0, -1, sn⟩)) ∨ (sk = 2 ∧ Hid (askB ⟨0, 0, -1, -1⟩ ⟨sk, sn⟩ = ⟨0, 0, sn, -1⟩)) ∨ ((sk == 1) = false ∧ (sk == 2) = false ∧ Hid (askB ⟨0, 0, -1, -1⟩ ⟨sk, sn⟩ = ⟨0, 0, -1, -1⟩)) := by
        have e : max (-1) sn = sn := by omega
        by_cases h1 : sk = 1
        · exact .inl ⟨h1, Lib.hid (by simp [askB, h1, e])⟩
        · by_cases h2 : sk = 2
          · exact .inr (.inl ⟨h2, Lib.hid (by simp [askB, h2, e])⟩)
          · exact .inr (.inr ⟨by simpa using h1, by simpa using h2, Lib.hid (by simp [askB, h1, h2])⟩)
      obtain ⟨b0, hb0⟩ : ∃ b0, askB ⟨0, 0, -1, -1⟩ ⟨sk, sn⟩ = b0 := ⟨_, rfl⟩
      rw [hb0] at hk HBB
      clear hb0
      have HIN : Hid (∀ X bs bt, b0 = ⟨0, 0, bs, bt⟩ → X = wr.alloc (.cells #[.int .i64 0, .int .i64 0, .int .i64 bs, .int .i64 bt] 42) → Whole X wr.heap.size 42 b0.cells ∧ Below wr.heap.size wr X) := Lib.hid fun X bs bt e1 e2 => by
        subst e1 e2
        exact ⟨whole_new wr [.int .i64 0, .int .i64 0, .int .i64 bs, .int .i64 bt] 42 _ rfl, (Below.refl _ _).alloc (Nat.le_refl _) _⟩
      rcases hk with ⟨rfl, HB0⟩ | ⟨rfl, HB0⟩ | ⟨k1, k2, HB0⟩
      all_goals
        go_wp2
        have HI2 := HIN.out _ _ _ HB0.out rfl
        have HW := Lib.hid HI2.1
        have HX := Lib.hid HI2.2
        clear HI2 HIN HB0 x0 x1
        obtain ⟨V0, hV0⟩ : ∃ V, V = wr := ⟨_, rfl⟩
        subst hV0
        go_loopw [8] (fun s8 X => ∃ (t : Nat) (b : Ba), t ≤ m' ∧ s8 = .int .i64 (t : Int) ∧ Hid (b = (ns.take t).foldl (stepB i) b0) ∧ Hid (Whole X V0.heap.size 42 b.cells) ∧ Hid (Below V0.heap.size V0 X)) (fun s8 _ => m' - (intOf s8).toNat)
        case atStart => exact ⟨0, b0, Nat.zero_le _, rfl, Lib.hid (by simp), HW, HX⟩
        case round =>
          clear HW HX
          obtain ⟨t, ⟨bm, bx, bs, bt⟩, ht, rfl, HBF, HWB, HXB⟩ := hrel
          have q0 := HWB.out.cellAt 0
          have q1 := HWB.out.cellAt 1
          have q2 := HWB.out.cellAt 2
          have q3 := HWB.out.cellAt 3
          have f0 := HWB.out.free 0
          have f1 := HWB.out.free 1
          have f2 := HWB.out.free 2
          have f3 := HWB.out.free 3
          have lgb := HWB.out.lt
          simp only [Ba.cells, List.getElem?_cons_zero, List.getElem?_cons_succ] at q0 q1 q2 q3
          by_cases hlt2 : t < m'
          · obtain ⟨s, hs⟩ : ∃ s, ns[t]? = some s := ⟨_, List.getElem?_eq_getElem (by rw [HL'.out]; exact hlt2)⟩
            obtain ⟨g2, o2, rfl, l2, hb⟩ := (HN.out _ (HG.out.2.trans (HXB.out.mono hzw))).at t s hs
            have HF := Lib.hid (fold_step i b0 ns t s hs)
            rw [← HBF.out] at HF
            obtain ⟨nd, ro, co, rs, cs, mn, mx, ⟨wk, wn⟩⟩ := s
            have x0 : wr.cell? ⟨g2, o2 + t * 9, none⟩ = some (.int .i64 nd) := hb 0 _ rfl
            have x1 : wr.cell? ⟨g2, o2 + t * 9 + 1, none⟩ = some (.int .i64 ro) := hb 1 _ rfl
            have x2 : wr.cell? ⟨g2, o2 + t * 9 + 2, none⟩ = some (.int .i64 co) := hb 2 _ rfl
            have x3 : wr.cell? ⟨g2, o2 + t * 9 + 3, none⟩ = some (.int .i64 rs) := hb 3 _ rfl
            have x4 : wr.cell? ⟨g2, o2 + t * 9 + 4, none⟩ = some (.int .i64 cs) := hb 4 _ rfl
            have x5 : wr.cell? ⟨g2, o2 + t * 9 + 5, none⟩ = some (.int .i64 mn) := hb 5 _ rfl
            have x6 : wr.cell? ⟨g2, o2 + t * 9 + 6, none⟩ = some (.int .i64 mx) := hb 6 _ rfl
            have x7 : wr.cell? ⟨g2, o2 + t * 9 + 7, none⟩ = some (.int .i64 wk) := hb 7 _ rfl
            have x8 : wr.cell? ⟨g2, o2 + t * 9 + 8, none⟩ = some (.int .i64 wn) := hb 8 _ rfl
            clear hs hb
            by_cases hco : co = (i : Int)
            · by_cases hcs : cs = 1
              · subst hco hcs
                rcases (show wk = 1 ∨ wk = 2 ∨ (wk ≠ 1 ∧ wk ≠ 2) by omega) with rfl | rfl | ⟨k1, k2⟩
                · have HS2 : Hid (stepB i ⟨bm, bx, bs, bt⟩ ⟨nd, ro, (i : Int), rs, 1, mn, mx, ⟨1, wn⟩⟩ = ⟨max bm mn, max bx mx, bs, max bt wn⟩) := Lib.hid (by simp [stepB, useB, askB])
                  go_wp2
                  go_roundw
                  case rel => exact ⟨t + 1, ⟨max bm mn, max bx mx, bs, max bt wn⟩, by omega, by go_num, Lib.hid (by rw [HF.out, HS2.out]), Lib.hid (Whole.alloc (((Whole.set HWB.out 0 (.int .i64 (max bm mn))).set 1 (.int .i64 (max bx mx))).set 3 (.int .i64 (max bt wn))) _), Lib.hid ((((HXB.out.setCell (p := ⟨V0.heap.size, 0, none⟩) (Nat.le_refl _) _).setCell (p := ⟨V0.heap.size, 1, none⟩) (Nat.le_refl _) _).setCell (p := ⟨V0.heap.size, 3, none⟩) (Nat.le_refl _) _).alloc (by have := HXB.out.size; simpa using this) _)⟩
                  case measure => simp [intOf]; omega
                · have HS2 : Hid (stepB i ⟨bm, bx, bs, bt⟩ ⟨nd, ro, (i : Int), rs, 1, mn, mx, ⟨2, wn⟩⟩ = ⟨max bm mn, max bx mx, max bs wn, bt⟩) := Lib.hid (by simp [stepB, useB, askB])
                  go_wp2
                  go_roundw
                  case rel => exact ⟨t + 1, ⟨max bm mn, max bx mx, max bs wn, bt⟩, by omega, by go_num, Lib.hid (by rw [HF.out, HS2.out]), Lib.hid (Whole.alloc (((Whole.set HWB.out 0 (.int .i64 (max bm mn))).set 1 (.int .i64 (max bx mx))).set 2 (.int .i64 (max bs wn))) _), Lib.hid ((((HXB.out.setCell (p := ⟨V0.heap.size, 0, none⟩) (Nat.le_refl _) _).setCell (p := ⟨V0.heap.size, 1, none⟩) (Nat.le_refl _) _).setCell (p := ⟨V0.heap.size, 2, none⟩) (Nat.le_refl _) _).alloc (by have := HXB.out.size; simpa using this) _)⟩
                  case measure => simp [intOf]; omega
                · have k1' : (wk == 1) = false := by simpa using k1
                  have k2' : (wk == 2) = false := by simpa using k2
                  have HS2 : Hid (stepB i ⟨bm, bx, bs, bt⟩ ⟨nd, ro, (i : Int), rs, 1, mn, mx, ⟨wk, wn⟩⟩ = ⟨max bm mn, max bx mx, bs, bt⟩) := Lib.hid (by simp [stepB, useB, askB, k1, k2])
                  go_wp2
                  go_roundw
                  case rel => exact ⟨t + 1, ⟨max bm mn, max bx mx, bs, bt⟩, by omega, by go_num, Lib.hid (by rw [HF.out, HS2.out]), Lib.hid (Whole.alloc (((Whole.set HWB.out 0 (.int .i64 (max bm mn))).set 1 (.int .i64 (max bx mx)))) _), Lib.hid ((((HXB.out.setCell (p := ⟨V0.heap.size, 0, none⟩) (Nat.le_refl _) _).setCell (p := ⟨V0.heap.size, 1, none⟩) (Nat.le_refl _) _)).alloc (by have := HXB.out.size; simpa using this) _)⟩
                  case measure => simp [intOf]; omega
              · have hcs' : (cs == 1) = false := by simpa using hcs
                have HS2 : Hid (stepB i ⟨bm, bx, bs, bt⟩ ⟨nd, ro, co, rs, cs, mn, mx, ⟨wk, wn⟩⟩ = ⟨bm, bx, bs, bt⟩) := Lib.hid (by simp [stepB, hcs])
                subst hco
                go_wp2
                go_roundw
                case rel => exact ⟨t + 1, ⟨bm, bx, bs, bt⟩, by omega, by go_num, Lib.hid (by rw [HF.out, HS2.out]), Lib.hid (HWB.out.alloc _), Lib.hid (HXB.out.alloc HXB.out.size _)⟩
                case measure => simp [intOf]; omega
            · have hco' : (co == (i : Int)) = false := by simpa using hco
              have HS2 : Hid (stepB i ⟨bm, bx, bs, bt⟩ ⟨nd, ro, co, rs, cs, mn, mx, ⟨wk, wn⟩⟩ = ⟨bm, bx, bs, bt⟩) := Lib.hid (by simp [stepB, hco])
              go_wp2
              go_roundw
              case rel => exact ⟨t + 1, ⟨bm, bx, bs, bt⟩, by omega, by go_num, Lib.hid (by rw [HF.out, HS2.out]), Lib.hid (HWB.out.alloc _), Lib.hid (HXB.out.alloc HXB.out.size _)⟩
              case measure => simp [intOf]; omega
          · have HF : Hid (⟨bm, bx, bs, bt⟩ = ns.foldl (stepB i) b0) := Lib.hid (by rw [HBF.out, List.take_of_length_le (by have := HL'.out; omega)])
            clear HBF
            obtain ⟨yl, hyl⟩ : ∃ yl, ((bandsB zs ns).take i).length = yl := ⟨_, rfl⟩
            have HYL := Lib.hid hyl
            have hyl2 : yl ≤ 10000 := by rw [← hyl, List.length_take]; omega
            clear hyl
            by_cases s1 : 0 ≤ bs
            · have HS2 : Hid (setB ⟨bm, bx, bs, bt⟩ = ⟨bm, bx, bs, (-1)⟩) := Lib.hid (by simp [setB, s1])
              have HGY := Lib.hid (HG.out.below (HXB.out.setCell (p := ⟨V0.heap.size, 3, none⟩) (Nat.le_refl _) (.int .i64 (-1))))
              have HO : Hid ((wr.setCell ⟨V0.heap.size, 3, none⟩ (.int .i64 (-1))).ownsRow W.heap.size 42 4 (.slice pv kv cv) yl (((bandsB zs ns).take i).flatMap Ba.cells)) := Lib.hid (by rw [← HYL.out]; exact HGY.out.1)
              go_wp2_with (at_builtin; refine wpList_append_own_at _ rfl _ _ 27 rfl W.heap.size 42 i0 (.agg #[.int .i64 0, .int .i64 0, .int .i64 0, .int .i64 0]) 4 32 Try.underlying27 HI0.out HZ0.out HZ1.out HZ2.out rfl (by decide) _ _ _ rfl (HO.out.alloc _) ⟨wr.heap.size, 0, none⟩ 1 1 [.int .i64 bm, .int .i64 bx, .int .i64 bs, .int .i64 (-1)] rfl rfl (lay_newK _ [.int .i64 bm, .int .i64 bx, .int .i64 bs, .int .i64 (-1)] 42 wr.heap.size (by simp)) (by simp [Value.oneCell']) (by unfold maxLen; omega) (by omega) (by have := HXB.out.size; simp; omega) ?_)
              intro v9 w9 hown9 hgrow9 _ _
              obtain ⟨p9, k9, c9, rfl⟩ := own_sliceK hown9
              have HG9 : Hid (GB W (.slice p9 k9 c9) ((bandsB zs ns).take (i + 1)) w9) := Lib.hid (by
                rw [HST.out, HBB.out, ← HF.out, HS2.out]
                exact HGY.out.step (zs := [⟨bm, bx, bs, (-1)⟩]) (by rw [HYL.out]; exact hown9) hgrow9)
              clear hown9 hgrow9 HO HGY HG q0 q1 q2 q3 f0 f1 f2 f3 lgb
              go_wp2
              go_roundw
              case rel => exact ⟨i + 1, by omega, by go_num, ⟨_, _, _, rfl⟩, HG9⟩
              case measure => (simp [intOf]; try omega)
            · by_cases s2 : 0 ≤ bt
              · have HS2 : Hid (setB ⟨bm, bx, bs, bt⟩ = ⟨bm, (max bt bm), bs, bt⟩) := Lib.hid (by simp [setB, s1, s2])
                have HGY := Lib.hid (HG.out.below (HXB.out.setCell (p := ⟨V0.heap.size, 1, none⟩) (Nat.le_refl _) (.int .i64 (max bt bm))))
                have HO : Hid ((wr.setCell ⟨V0.heap.size, 1, none⟩ (.int .i64 (max bt bm))).ownsRow W.heap.size 42 4 (.slice pv kv cv) yl (((bandsB zs ns).take i).flatMap Ba.cells)) := Lib.hid (by rw [← HYL.out]; exact HGY.out.1)
                go_wp2_with (at_builtin; refine wpList_append_own_at _ rfl _ _ 27 rfl W.heap.size 42 i0 (.agg #[.int .i64 0, .int .i64 0, .int .i64 0, .int .i64 0]) 4 32 Try.underlying27 HI0.out HZ0.out HZ1.out HZ2.out rfl (by decide) _ _ _ rfl (HO.out.alloc _) ⟨wr.heap.size, 0, none⟩ 1 1 [.int .i64 bm, .int .i64 (max bt bm), .int .i64 bs, .int .i64 bt] rfl rfl (lay_newK _ [.int .i64 bm, .int .i64 (max bt bm), .int .i64 bs, .int .i64 bt] 42 wr.heap.size (by simp)) (by simp [Value.oneCell']) (by unfold maxLen; omega) (by omega) (by have := HXB.out.size; simp; omega) ?_)
                intro v9 w9 hown9 hgrow9 _ _
                obtain ⟨p9, k9, c9, rfl⟩ := own_sliceK hown9
                have HG9 : Hid (GB W (.slice p9 k9 c9) ((bandsB zs ns).take (i + 1)) w9) := Lib.hid (by
                  rw [HST.out, HBB.out, ← HF.out, HS2.out]
                  exact HGY.out.step (zs := [⟨bm, (max bt bm), bs, bt⟩]) (by rw [HYL.out]; exact hown9) hgrow9)
                clear hown9 hgrow9 HO HGY HG q0 q1 q2 q3 f0 f1 f2 f3 lgb
                go_wp2
                go_roundw
                case rel => exact ⟨i + 1, by omega, by go_num, ⟨_, _, _, rfl⟩, HG9⟩
                case measure => (simp [intOf]; try omega)
              · have HS2 : Hid (setB ⟨bm, bx, bs, bt⟩ = ⟨bm, bx, bs, bt⟩) := Lib.hid (by simp [setB, s1, s2])
                have HGY := Lib.hid (HG.out.below HXB.out)
                have HO : Hid (wr.ownsRow W.heap.size 42 4 (.slice pv kv cv) yl (((bandsB zs ns).take i).flatMap Ba.cells)) := Lib.hid (by rw [← HYL.out]; exact HGY.out.1)
                go_wp2_with (at_builtin; refine wpList_append_own_at _ rfl _ _ 27 rfl W.heap.size 42 i0 (.agg #[.int .i64 0, .int .i64 0, .int .i64 0, .int .i64 0]) 4 32 Try.underlying27 HI0.out HZ0.out HZ1.out HZ2.out rfl (by decide) _ _ _ rfl (HO.out.alloc _) ⟨wr.heap.size, 0, none⟩ 1 1 [.int .i64 bm, .int .i64 bx, .int .i64 bs, .int .i64 bt] rfl rfl (lay_newK _ [.int .i64 bm, .int .i64 bx, .int .i64 bs, .int .i64 bt] 42 wr.heap.size (by simp)) (by simp [Value.oneCell']) (by unfold maxLen; omega) (by omega) (by have := HXB.out.size; simp; omega) ?_)
                intro v9 w9 hown9 hgrow9 _ _
                obtain ⟨p9, k9, c9, rfl⟩ := own_sliceK hown9
                have HG9 : Hid (GB W (.slice p9 k9 c9) ((bandsB zs ns).take (i + 1)) w9) := Lib.hid (by
                  rw [HST.out, HBB.out, ← HF.out, HS2.out]
                  exact HGY.out.step (zs := [⟨bm, bx, bs, bt⟩]) (by rw [HYL.out]; exact hown9) hgrow9)
                clear hown9 hgrow9 HO HGY HG q0 q1 q2 q3 f0 f1 f2 f3 lgb
                go_wp2
                go_roundw
                case rel => exact ⟨i + 1, by omega, by go_num, ⟨_, _, _, rfl⟩, HG9⟩
                case measure => (simp [intOf]; try omega)
    · have hk : Hid ((bandsB zs ns).take i = bandsB zs ns) := Lib.hid (List.take_of_length_le (by have := HBL.out; omega))
      have HR := Lib.hid (HG.out.rows (by have := HBL.out; rw [hk.out]; omega))
      have HR2 : Hid (RowsK Ba.cells 4 wr (.slice pv kv cv) (bandsB zs ns)) := Lib.hid (by have := HR.out; rwa [hk.out] at this)
      have hkv : m = kv := by rw [← HBL.out]; exact HR2.out.len
      subst hkv
      go_wp2
      go_ret
      exact ⟨_, _, rfl, HR2.out, HG.out.2⟩
end Go.Proofs.Ytmfllaanobafkaa
