/- rect.Tiles of a slice at any address. Written by mk_RTilesA.py out of XRTiles. -/
import Derived.Test.YtjdnhpbifblneaaRTiles
import Derived.Test.YtjdnhpbifblneaaROpenL
namespace Go.Proofs.Ytjdnhpbifblneaa
open Go.ChangeShapes Go.WideShapes Go.ChangeAt Go.RowKit Go.Joins Go.Shelf
set_option linter.unusedVariables false
set_option linter.unusedSimpArgs false
attribute [local go_sem] Oper.semAt_some

set_option maxRecDepth 100000 in
set_option maxHeartbeats 1000000 in
theorem tiles_at (x y u v : Int) (hr : rightB ⟨x, y, u, v⟩ = true) (l : List RR) (hn : l.length ≤ 400) (w : World) (m cap0 : Nat) (A0 : Addr) (hm : Hid ((vals l).length = m)) (hcells : ∀ X, Below w.heap.size w X → ∀ j u', ((vals l).flatMap R.cells)[j]? = some u' → X.cell? (A0.add j) = some u') (hI : Rects w (.slice (some A0) m cap0) (vals l)) :
    Calls Try.prog 6 #[.agg #[.int .i64 x, .int .i64 y, .int .i64 u, .int .i64 v], .slice (some A0) m cap0] w fun e W' => e = .returned (.tuple #[.bool (tilesB ⟨x, y, u, v⟩ (vals l)), .int .i64 0]) ∧ Below w.heap.size w W' := by
  obtain ⟨i0, hi, hz0, hz1, hz2⟩ := info_parts Try.infoRect
  have hall : (vals l).all rightB = true := by rw [List.all_eq_true]; intro q hq; obtain ⟨p, _, rfl⟩ := List.mem_map.1 hq; exact p.2
  have HR := Lib.hid (fun X => hr ▸ right_any x y u v X)
  have HA := Lib.hid (fun X hX => hall ▸ allRight_any (.slice (some A0) m cap0) (vals l) X hX)
  have HI := Lib.hid hI
  have hlen1 : m ≤ 400 := by have := hm.out; simp [vals] at this; omega
  have hdl : decide (400 < (m : Int)) = false := by simp; omega
  have hHr := Lib.hid hr
  clear hall hr hI
  go_enter Try.func6, Try.ntmps6
  go_wp2_with fail
  refine (HR.out _).mono ?_
  rintro e w1 ⟨rfl, hb1⟩
  have k1 := Whole.below (whole_new w [.int .i64 x, .int .i64 y, .int .i64 u, .int .i64 v] 23 _ rfl) hb1 (by simp)
  have HB := Lib.hid (((Below.refl w.heap.size w).alloc (Nat.le_refl _) (.cells #[.int .i64 x, .int .i64 y, .int .i64 u, .int .i64 v] 23)).trans (hb1.mono (by simp <;> omega)))
  have hs := HB.out.size
  clear hb1
  go_wp2_with fail
  refine (HA.out _ (HI.out.below HB.out)).mono ?_
  rintro e w2 ⟨rfl, hb2⟩
  replace k1 := k1.below hb2 k1.lt
  have HB2 := Lib.hid (HB.out.trans (hb2.mono hs))
  have hs2 := HB2.out.size
  have d0 : w2.cell? ⟨w.heap.size, 0, none⟩ = some (.int .i64 x) := k1.cellAt 0
  have d1 : w2.cell? ⟨w.heap.size, 1, none⟩ = some (.int .i64 y) := k1.cellAt 1
  have d2 : w2.cell? ⟨w.heap.size, 2, none⟩ = some (.int .i64 u) := k1.cellAt 2
  have d3 : w2.cell? ⟨w.heap.size, 3, none⟩ = some (.int .i64 v) := k1.cellAt 3
  have K1 := Lib.hid k1
  clear hb2 HB hs k1
  obtain ⟨NW, hNW⟩ : ∃ NW, (vals l).flatMap R.cells = NW := ⟨_, rfl⟩
  have NL : NW.length = m * 4 := by rw [← hNW, cells_len, hm.out]
  have NC : ∀ j u', NW[j]? = some u' → (w2.alloc (.cells #[.int .i64 x, .int .i64 y, .int .i64 u, .int .i64 v] 23)).cell? (A0.add j) = some u' := by
    rw [← hNW]
    exact hcells _ (HB2.out.trans ((Below.refl w.heap.size w2).alloc hs2 _))
  have NO : ∀ u' ∈ NW, u'.oneCell' = true := by
    rw [← hNW]; intro u' hu'
    obtain ⟨q, _, hq⟩ := List.mem_flatMap.1 hu'
    simp [R.cells] at hq
    rcases hq with rfl | rfl | rfl | rfl <;> rfl
  have HNW := Lib.hid hNW
  have NC' := Lib.hid NC
  have NO' := Lib.hid NO
  have NL' := Lib.hid NL
  clear hNW NC NO NL hcells
  go_wp2_with (at_builtin; refine wpList_append_own _ rfl _ _ 24 rfl w2.heap.size 23 i0 (.agg #[.int .i64 0, .int .i64 0, .int .i64 0, .int .i64 0]) 4 32 Try.underlying24 hi hz0 hz1 hz2 rfl (by decide) _ 1 _ rfl (World.ownsRow_lit w2 #[.int .i64 x, .int .i64 y, .int .i64 u, .int .i64 v] 1 (Nat.le_refl _) (by unfold maxLen; omega) rfl) A0 m cap0 NW rfl NL'.out NC'.out NO'.out (by unfold maxLen; omega) (by omega) (by simp) ?_)
  intro v' w3 hown3 hgrow3 _
  have K3 := Lib.hid (Whole.grown ((K1.out).alloc (.cells #[.int .i64 x, .int .i64 y, .int .i64 u, .int .i64 v] 23)) hgrow3 (by simp [Value.ownBlock]; have := K1.out.lt; omega))
  have HB3 := Lib.hid (((HB2.out.alloc hs2 (.cells #[.int .i64 x, .int .i64 y, .int .i64 u, .int .i64 v] 23))).grown hgrow3 (by simp <;> omega) (fun k e => by simp [Value.ownBlock] at e; omega))
  have HR3 : Hid (Rects w3 v' (vals ((⟨⟨x, y, u, v⟩, hHr.out⟩ : RR) :: l))) := by
    apply Lib.hid
    refine own_rects (n := 1 + m) (base := w2.heap.size) ?_
    rw [show (vals ((⟨⟨x, y, u, v⟩, hHr.out⟩ : RR) :: l)).flatMap R.cells = .int .i64 x :: .int .i64 y :: .int .i64 u :: .int .i64 v :: (vals l).flatMap R.cells from rfl, HNW.out]
    exact hown3
  clear hown3 hgrow3 d0 d1 d2 d3 HB2 K1 NC' NO' NL' HNW
  go_wp2_with fail
  refine (lines_any _ _ _ HR3.out (by simp; omega) (by simp)).mono ?_
  rintro e w4 ⟨vx, vy, rfl, hX, hY, hb4⟩
  change Ints w4 vx (linesX ⟨x, y, u, v⟩ (vals l)) at hX
  change Ints w4 vy (linesY ⟨x, y, u, v⟩ (vals l)) at hY
  have hs3 := HB3.out.size
  have K4 := Lib.hid (K3.out.below hb4 K3.out.lt)
  have HB4 := Lib.hid (HB3.out.trans (hb4.mono hs3))
  have hs4 := HB4.out.size
  have HI4 := Lib.hid (HI.out.below (HB4.out))
  obtain ⟨ax, nx, cx, rfl⟩ : ∃ a n c, vx = .slice a n c := by obtain ⟨_, ⟨a, cap, rfl, _⟩ | ⟨b, off, cap, rfl, _⟩⟩ := hX <;> exact ⟨_, _, _, rfl⟩
  obtain ⟨ay, ny, cy, rfl⟩ : ∃ a n c, vy = .slice a n c := by obtain ⟨_, ⟨a, cap, rfl, _⟩ | ⟨b, off, cap, rfl, _⟩⟩ := hY <;> exact ⟨_, _, _, rfl⟩
  have HX := Lib.hid hX
  have HY := Lib.hid hY
  clear HB3 K3 HR3 hX hY hb4 hs3
  go_wp2
  have k6 : Whole (w4.alloc (.cells #[.slice ax nx cx, .slice ay ny cy] 41)) w4.heap.size 41 [.slice ax nx cx, .slice ay ny cy] := whole_new w4 [.slice ax nx cx, .slice ay ny cy] 41 _ rfl
  have k2 : Whole (w4.alloc (.cells #[.slice ax nx cx, .slice ay ny cy] 41)) w.heap.size 23 [.int .i64 x, .int .i64 y, .int .i64 u, .int .i64 v] := K4.out.alloc _
  have b54 : Below w4.heap.size w4 (w4.alloc (.cells #[.slice ax nx cx, .slice ay ny cy] 41)) := (Below.refl _ w4).alloc (Nat.le_refl _) _
  obtain ⟨W5, hW5⟩ : ∃ W5, w4.alloc (.cells #[.slice ax nx cx, .slice ay ny cy] 41) = W5 := ⟨_, rfl⟩
  rw [hW5] at k6 k2 b54 ⊢
  have lt6 : w4.heap.size < W5.heap.size := k6.lt
  have lt2 : w.heap.size < W5.heap.size := k2.lt
  have B5 := Lib.hid (HB4.out.trans (b54.mono hs4))
  have hs5 := B5.out.size
  have f60 := k6.cellAt 0
  have f61 := k6.cellAt 1
  have f20 := k2.cellAt 0
  have f21 := k2.cellAt 1
  have f22 := k2.cellAt 2
  have f23 := k2.cellAt 3
  have HXY : Hid (∀ X, Hid (Below W5.heap.size W5 X) → Ints X (.slice ax nx cx) (linesX ⟨x, y, u, v⟩ (vals l)) ∧ Ints X (.slice ay ny cy) (linesY ⟨x, y, u, v⟩ (vals l))) := Lib.hid fun X hX => ⟨(HX.out.below b54).below hX.out, (HY.out.below b54).below hX.out⟩
  have HRL : Hid (∀ X, Hid (Below W5.heap.size W5 X) → Rects X (.slice (some A0) m cap0) (vals l)) := Lib.hid fun X hX => (HI4.out.below b54).below hX.out
  have HSX := Lib.hid (msort_sorted (edgesX (⟨x, y, u, v⟩ :: vals l)))
  have HSY := Lib.hid (msort_sorted (edgesY (⟨x, y, u, v⟩ :: vals l)))
  change Hid ((linesX ⟨x, y, u, v⟩ (vals l)).Pairwise _) at HSX
  change Hid ((linesY ⟨x, y, u, v⟩ (vals l)).Pairwise _) at HSY
  have hvl : (vals l).length = l.length := by simp [vals]
  have HLX : Hid (1 ≤ (linesX ⟨x, y, u, v⟩ (vals l)).length ∧ (linesX ⟨x, y, u, v⟩ (vals l)).length < 2048) := Lib.hid (by rw [linesX_len]; omega)
  have HLY : Hid (1 ≤ (linesY ⟨x, y, u, v⟩ (vals l)).length ∧ (linesY ⟨x, y, u, v⟩ (vals l)).length < 2048) := Lib.hid (by rw [linesY_len]; omega)
  obtain ⟨i2, ci, cz0, cz1, cz2⟩ := info_parts Try.infoCor
  clear hvl hW5 k6 k2 b54 HX HY HI4 HB4 K4 hs4 hi hz0 hz1 hz2 HR HA HI
  refine region_held_at (S := fun X => Hid (Below W5.heap.size W5 X)) (by kernel_rfl) (fun W6 hW6 => ?_)
  have SV : Hid (Below W5.heap.size W5 W6) := by apply Lib.hid; rw [← hW6]; exact below_dn _ W5 1
  clear hW6
  refine wpAnyH_take (i := 0) (v := .agg #[.slice ax nx cx, .slice ay ny cy]) rfl (by kernel_rfl) (by kernel_rfl) (by kernel_rfl) (fun _ _ _ h => h) (Or.inl ⟨by rfl, ?_⟩) SV ?_
  · intro X hX5; have o0 := (hX5.out.cell (p := ⟨w4.heap.size, 0, none⟩) lt6).trans f60; have o1 := (hX5.out.cell (p := ⟨w4.heap.size, 1, none⟩) lt6).trans f61; go_simp
  change wpAnyH _ _ _ _ _ _ _ { tmps := #[.agg #[.int .i64 x, .int .i64 y, .int .i64 u, .int .i64 v], .slice (some A0) m cap0, .pointer (some ⟨w.heap.size, 0, none⟩), undef, .bool false, .int .i64 0, .pointer (some ⟨w4.heap.size, 0, none⟩), .slice (some A0) m cap0, .int .i64 (m : Int), .bool false, .bool false, .agg #[.int .i64 x, .int .i64 y, .int .i64 u, .int .i64 v], .bool true, .bool false, .bool false, .bool false, .slice (some A0) m cap0, .bool true, .bool false, .bool false, .agg #[.int .i64 x, .int .i64 y, .int .i64 u, .int .i64 v], .slice (some ⟨w2.heap.size, 0, none⟩) 1 1, .slice (some A0) m cap0, v', .agg #[.slice ax nx cx, .slice ay ny cy], .agg #[.slice ax nx cx, .slice ay ny cy], undef, undef, undef, undef, undef, undef, undef, undef], defers := [] } _
  refine wpAnyH_take (i := 1) (v := .slice (some A0) m cap0) rfl (by kernel_rfl) (by kernel_rfl) (by kernel_rfl) (fun _ _ _ h => h) (Or.inl ⟨by rfl, ?_⟩) SV ?_
  · intro X hX5; go_simp
  change wpAnyH _ _ _ _ _ _ _ { tmps := #[.agg #[.int .i64 x, .int .i64 y, .int .i64 u, .int .i64 v], .slice (some A0) m cap0, .pointer (some ⟨w.heap.size, 0, none⟩), undef, .bool false, .int .i64 0, .pointer (some ⟨w4.heap.size, 0, none⟩), .slice (some A0) m cap0, .int .i64 (m : Int), .bool false, .bool false, .agg #[.int .i64 x, .int .i64 y, .int .i64 u, .int .i64 v], .bool true, .bool false, .bool false, .bool false, .slice (some A0) m cap0, .bool true, .bool false, .bool false, .agg #[.int .i64 x, .int .i64 y, .int .i64 u, .int .i64 v], .slice (some ⟨w2.heap.size, 0, none⟩) 1 1, .slice (some A0) m cap0, v', .agg #[.slice ax nx cx, .slice ay ny cy], .agg #[.slice ax nx cx, .slice ay ny cy], .slice (some A0) m cap0, undef, undef, undef, undef, undef, undef, undef], defers := [] } _
  refine wpAnyH_take (i := 3) (v := .agg #[.slice ax nx cx, .slice ay ny cy]) rfl (by kernel_rfl) (by kernel_rfl) (by kernel_rfl) (fun _ _ _ h => h) (Or.inl ⟨by rfl, ?_⟩) SV ?_
  · intro X hX5; have o0 := (hX5.out.cell (p := ⟨w4.heap.size, 0, none⟩) lt6).trans f60; have o1 := (hX5.out.cell (p := ⟨w4.heap.size, 1, none⟩) lt6).trans f61; go_simp
  change wpAnyH _ _ _ _ _ _ _ { tmps := #[.agg #[.int .i64 x, .int .i64 y, .int .i64 u, .int .i64 v], .slice (some A0) m cap0, .pointer (some ⟨w.heap.size, 0, none⟩), undef, .bool false, .int .i64 0, .pointer (some ⟨w4.heap.size, 0, none⟩), .slice (some A0) m cap0, .int .i64 (m : Int), .bool false, .bool false, .agg #[.int .i64 x, .int .i64 y, .int .i64 u, .int .i64 v], .bool true, .bool false, .bool false, .bool false, .slice (some A0) m cap0, .bool true, .bool false, .bool false, .agg #[.int .i64 x, .int .i64 y, .int .i64 u, .int .i64 v], .slice (some ⟨w2.heap.size, 0, none⟩) 1 1, .slice (some A0) m cap0, v', .agg #[.slice ax nx cx, .slice ay ny cy], .agg #[.slice ax nx cx, .slice ay ny cy], .slice (some A0) m cap0, undef, .agg #[.slice ax nx cx, .slice ay ny cy], undef, undef, undef, undef, undef], defers := [] } _
  refine wpAnyH_take (i := 4) (v := .agg #[.int .i64 x, .int .i64 y, .int .i64 u, .int .i64 v]) rfl (by kernel_rfl) (by kernel_rfl) (by kernel_rfl) (fun _ _ _ h => h) (Or.inl ⟨by rfl, ?_⟩) SV ?_
  · intro X hX5; have r0 := (hX5.out.cell (p := ⟨w.heap.size, 0, none⟩) lt2).trans f20; have r1 := (hX5.out.cell (p := ⟨w.heap.size, 1, none⟩) lt2).trans f21; have r2 := (hX5.out.cell (p := ⟨w.heap.size, 2, none⟩) lt2).trans f22; have r3 := (hX5.out.cell (p := ⟨w.heap.size, 3, none⟩) lt2).trans f23; go_simp
  change wpAnyH _ _ _ _ _ _ _ { tmps := #[.agg #[.int .i64 x, .int .i64 y, .int .i64 u, .int .i64 v], .slice (some A0) m cap0, .pointer (some ⟨w.heap.size, 0, none⟩), undef, .bool false, .int .i64 0, .pointer (some ⟨w4.heap.size, 0, none⟩), .slice (some A0) m cap0, .int .i64 (m : Int), .bool false, .bool false, .agg #[.int .i64 x, .int .i64 y, .int .i64 u, .int .i64 v], .bool true, .bool false, .bool false, .bool false, .slice (some A0) m cap0, .bool true, .bool false, .bool false, .agg #[.int .i64 x, .int .i64 y, .int .i64 u, .int .i64 v], .slice (some ⟨w2.heap.size, 0, none⟩) 1 1, .slice (some A0) m cap0, v', .agg #[.slice ax nx cx, .slice ay ny cy], .agg #[.slice ax nx cx, .slice ay ny cy], .slice (some A0) m cap0, undef, .agg #[.slice ax nx cx, .slice ay ny cy], .agg #[.int .i64 x, .int .i64 y, .int .i64 u, .int .i64 v], undef, undef, undef, undef], defers := [] } _
  refine wpAnyH_all (rs := [2, 5]) (by kernel_rfl) (by simp) ?_
  intro i hi25
  have hi25' : i = 2 ∨ i = 5 := by simpa using hi25
  clear hi25
  rcases hi25' with rfl | rfl
  · refine wpOp_step rfl (fun K hK => ?_)
    go_simp
    refine (corners_any (.slice ax nx cx) (.slice ay ny cy) (.slice (some A0) m cap0) (linesX ⟨x, y, u, v⟩ (vals l)) (linesY ⟨x, y, u, v⟩ (vals l)) 1 l W6 (HRL.out _ SV) (by omega) (.inl rfl) (HXY.out _ SV).1 (HXY.out _ SV).2 HSX.out HSY.out HLX.out HLY.out).mono ?_
    rintro e Y ⟨v1, rfl, ho1, hbY⟩
    have YS : Hid (Below W5.heap.size W5 Y) := Lib.hid (SV.out.trans (hbY.mono SV.out.size))
    refine hK _ _ ⟨YS, ?_⟩
    clear hK K
    change wpAnyH _ _ _ _ _ _ _ { tmps := #[.agg #[.int .i64 x, .int .i64 y, .int .i64 u, .int .i64 v], .slice (some A0) m cap0, .pointer (some ⟨w.heap.size, 0, none⟩), undef, .bool false, .int .i64 0, .pointer (some ⟨w4.heap.size, 0, none⟩), .slice (some A0) m cap0, .int .i64 (m : Int), .bool false, .bool false, .agg #[.int .i64 x, .int .i64 y, .int .i64 u, .int .i64 v], .bool true, .bool false, .bool false, .bool false, .slice (some A0) m cap0, .bool true, .bool false, .bool false, .agg #[.int .i64 x, .int .i64 y, .int .i64 u, .int .i64 v], .slice (some ⟨w2.heap.size, 0, none⟩) 1 1, .slice (some A0) m cap0, v', .agg #[.slice ax nx cx, .slice ay ny cy], .agg #[.slice ax nx cx, .slice ay ny cy], .slice (some A0) m cap0, v1, .agg #[.slice ax nx cx, .slice ay ny cy], .agg #[.int .i64 x, .int .i64 y, .int .i64 u, .int .i64 v], undef, undef, undef, undef], defers := [] } _
    refine wpAnyH_all (rs := [5]) (by kernel_rfl) (by simp) ?_
    intro i hi5; obtain rfl : i = 5 := by simpa using hi5
    refine wpOp_step rfl (fun K hK => ?_)
    go_simp
    have hnb := Lib.hid (whole_new Y [.int .i64 x, .int .i64 y, .int .i64 u, .int .i64 v] 23 Y.heap.size rfl)
    have bYZ : Below Y.heap.size Y (Y.alloc (.cells [.int .i64 x, .int .i64 y, .int .i64 u, .int .i64 v].toArray 23)) := (Below.refl _ Y).alloc (Nat.le_refl _) _
    have ZS : Hid (Below W5.heap.size W5 (Y.alloc (.cells [.int .i64 x, .int .i64 y, .int .i64 u, .int .i64 v].toArray 23))) := Lib.hid (YS.out.trans (bYZ.mono YS.out.size))
    have own1 : Hid (∃ base, W5.heap.size ≤ base ∧ base ≤ (Y.alloc (.cells [.int .i64 x, .int .i64 y, .int .i64 u, .int .i64 v].toArray 23)).heap.size ∧ (Y.alloc (.cells [.int .i64 x, .int .i64 y, .int .i64 u, .int .i64 v].toArray 23)).ownsRow base 59 2 v1 (4 * (vals l).length) (encC (cornersL (linesX ⟨x, y, u, v⟩ (vals l)) (linesY ⟨x, y, u, v⟩ (vals l)) 1 (vals l)))) := Lib.hid ⟨_, SV.out.size, Nat.le_trans hbY.size bYZ.size, own_later ho1 bYZ⟩
    refine hK _ _ ⟨ZS, ?_⟩
    clear hK K hi5 ho1 hbY bYZ YS
    change wpAnyH _ _ _ _ _ _ _ { tmps := #[.agg #[.int .i64 x, .int .i64 y, .int .i64 u, .int .i64 v], .slice (some A0) m cap0, .pointer (some ⟨w.heap.size, 0, none⟩), undef, .bool false, .int .i64 0, .pointer (some ⟨w4.heap.size, 0, none⟩), .slice (some A0) m cap0, .int .i64 (m : Int), .bool false, .bool false, .agg #[.int .i64 x, .int .i64 y, .int .i64 u, .int .i64 v], .bool true, .bool false, .bool false, .bool false, .slice (some A0) m cap0, .bool true, .bool false, .bool false, .agg #[.int .i64 x, .int .i64 y, .int .i64 u, .int .i64 v], .slice (some ⟨w2.heap.size, 0, none⟩) 1 1, .slice (some A0) m cap0, v', .agg #[.slice ax nx cx, .slice ay ny cy], .agg #[.slice ax nx cx, .slice ay ny cy], .slice (some A0) m cap0, v1, .agg #[.slice ax nx cx, .slice ay ny cy], .agg #[.int .i64 x, .int .i64 y, .int .i64 u, .int .i64 v], .slice (some ⟨Y.heap.size, 0, none⟩) 1 1, undef, undef, undef], defers := [] } (Y.alloc (.cells [.int .i64 x, .int .i64 y, .int .i64 u, .int .i64 v].toArray 23))
    generalize Y.heap.size = nb at *
    generalize Y.alloc (.cells [.int .i64 x, .int .i64 y, .int .i64 u, .int .i64 v].toArray 23) = Z at *
    refine wpAnyH_all (rs := [6]) (by kernel_rfl) (by simp) ?_
    intro i hi6; obtain rfl : i = 6 := by simpa using hi6
    refine wpOp_step rfl (fun K hK => ?_)
    go_simp
    refine (corners_any (.slice ax nx cx) (.slice ay ny cy) (.slice (some ⟨nb, 0, none⟩) 1 1) (linesX ⟨x, y, u, v⟩ (vals l)) (linesY ⟨x, y, u, v⟩ (vals l)) (-1) [(⟨⟨x, y, u, v⟩, hHr.out⟩ : RR)] Z (Rects.whole (t := 23) hnb.out rfl (by omega)) (by simp) (.inr rfl) (HXY.out Z ZS).1 (HXY.out Z ZS).2 HSX.out HSY.out HLX.out HLY.out).mono ?_
    rintro e Z2 ⟨v2, rfl, ho2, hbZ⟩
    have Z2S : Hid (Below W5.heap.size W5 Z2) := Lib.hid (ZS.out.trans (hbZ.mono ZS.out.size))
    refine hK _ _ ⟨Z2S, ?_⟩
    clear hK K hi6
    obtain ⟨base1, hbase1, hbase1b, ho1⟩ := own1.out
    replace ho1 := own_later ho1 hbZ
    have ez : 4 * (vals ([(⟨⟨x, y, u, v⟩, hHr.out⟩ : RR)])).length = 4 := rfl
    rw [ez] at ho2
    have ho2' := ho2
    obtain ⟨hl2, ⟨rfl, h4⟩ | ⟨g2, cap2, cur2, rfl, hb2, hg2, hnc2, hcm2, hcs2, htk2⟩⟩ := ho2
    · omega
    have hnews := Lib.hid (World.ownsRow.cells ho2' (g := g2) rfl)
    have HO1 := Lib.hid ho1
    have hl2' := Lib.hid hl2
    have hone : Hid (∀ u' ∈ encC (cornersL (linesX ⟨x, y, u, v⟩ (vals l)) (linesY ⟨x, y, u, v⟩ (vals l)) (-1) [⟨x, y, u, v⟩]), u'.oneCell' = true) := by
      apply Lib.hid
      intro u' hu'
      obtain ⟨q, _, hq⟩ := List.mem_flatMap.1 hu'
      simp [Cor.cells] at hq
      rcases hq with rfl | rfl <;> rfl
    have hmv : (vals l).length ≤ 400 := by simp [vals]; omega
    have hsz5 := Z2S.out.size
    have hbase2 : base1 ≤ Z2.heap.size := by
      have := hbZ.size; omega
    clear ho1 ho2' hb2 hg2 hnc2 hcm2 hcs2 htk2 ez hl2 own1 hbZ
    change wpAnyH _ _ _ _ _ _ _ { tmps := #[.agg #[.int .i64 x, .int .i64 y, .int .i64 u, .int .i64 v], .slice (some A0) m cap0, .pointer (some ⟨w.heap.size, 0, none⟩), undef, .bool false, .int .i64 0, .pointer (some ⟨w4.heap.size, 0, none⟩), .slice (some A0) m cap0, .int .i64 (m : Int), .bool false, .bool false, .agg #[.int .i64 x, .int .i64 y, .int .i64 u, .int .i64 v], .bool true, .bool false, .bool false, .bool false, .slice (some A0) m cap0, .bool true, .bool false, .bool false, .agg #[.int .i64 x, .int .i64 y, .int .i64 u, .int .i64 v], .slice (some ⟨w2.heap.size, 0, none⟩) 1 1, .slice (some A0) m cap0, v', .agg #[.slice ax nx cx, .slice ay ny cy], .agg #[.slice ax nx cx, .slice ay ny cy], .slice (some A0) m cap0, v1, .agg #[.slice ax nx cx, .slice ay ny cy], .agg #[.int .i64 x, .int .i64 y, .int .i64 u, .int .i64 v], .slice (some ⟨nb, 0, none⟩) 1 1, .slice (some ⟨g2, 0, none⟩) 4 cap2, undef, undef], defers := [] } _
    refine wpAnyH_all (rs := [7]) (by kernel_rfl) (by simp) ?_
    intro i hi7; obtain rfl : i = 7 := by simpa using hi7
    refine wpOp_step rfl (fun K hK => ?_)
    rw [if_pos (by rfl)]
    refine wp_append_own _ _ _ 44 rfl base1 59 i2 (.agg #[.complex .f64 0 0, .int .i64 0]) 2 24 Try.underlying44 ci cz0 cz1 cz2 rfl (by decide) v1 (4 * (vals l).length) _ rfl HO1.out ⟨g2, 0, none⟩ 4 cap2 _ rfl hl2'.out hnews.out hone.out (by unfold maxLen; omega) (by omega) hbase2 ?_
    intro v3 Z3 ho3 hg3 _
    have Z3S : Hid (Below W5.heap.size W5 Z3) := Lib.hid (own_below Z2S.out HO1.out hbase1 hg3 hsz5)
    refine hK _ _ ⟨Z3S, ?_⟩
    clear hK K hi7 hg3
    have hTl := tileC_len ⟨x, y, u, v⟩ (vals l)
    have hTt := tileC_t ⟨x, y, u, v⟩ (vals l)
    have hTB := Lib.hid (show tilesB ⟨x, y, u, v⟩ (vals l) = cancB (tileC ⟨x, y, u, v⟩ (vals l)) from rfl)
    rw [← encC_append, show 4 * (vals l).length + 4 = (tileC ⟨x, y, u, v⟩ (vals l)).length from hTl.symm] at ho3
    change Z3.ownsRow base1 59 2 v3 (tileC ⟨x, y, u, v⟩ (vals l)).length (encC (tileC ⟨x, y, u, v⟩ (vals l))) at ho3
    generalize tileC ⟨x, y, u, v⟩ (vals l) = TC at *
    have t1 : 1 ≤ TC.length := by omega
    have t2 : TC.length ≤ 4000 := by omega
    obtain ⟨hl3, ⟨rfl, h4⟩ | ⟨g3, cap3, cur3, rfl, hb3, hgg3, hnc3, hcm3, hcs3, htk3⟩⟩ := ho3
    · omega
    have CA := Lib.hid (cancel_any base1 g3 cap3 TC cur3 Z3 hb3 hgg3 hnc3 hcm3 hcs3 htk3 t1 t2 hTt)
    clear hgg3 hnc3 hcm3 hcs3 htk3 hTt hl3 hTl HO1 hnews hone hl2'
    change wpAnyH _ _ _ _ _ _ _ { tmps := #[.agg #[.int .i64 x, .int .i64 y, .int .i64 u, .int .i64 v], .slice (some A0) m cap0, .pointer (some ⟨w.heap.size, 0, none⟩), undef, .bool false, .int .i64 0, .pointer (some ⟨w4.heap.size, 0, none⟩), .slice (some A0) m cap0, .int .i64 (m : Int), .bool false, .bool false, .agg #[.int .i64 x, .int .i64 y, .int .i64 u, .int .i64 v], .bool true, .bool false, .bool false, .bool false, .slice (some A0) m cap0, .bool true, .bool false, .bool false, .agg #[.int .i64 x, .int .i64 y, .int .i64 u, .int .i64 v], .slice (some ⟨w2.heap.size, 0, none⟩) 1 1, .slice (some A0) m cap0, v', .agg #[.slice ax nx cx, .slice ay ny cy], .agg #[.slice ax nx cx, .slice ay ny cy], .slice (some A0) m cap0, v1, .agg #[.slice ax nx cx, .slice ay ny cy], .agg #[.int .i64 x, .int .i64 y, .int .i64 u, .int .i64 v], .slice (some ⟨nb, 0, none⟩) 1 1, .slice (some ⟨g2, 0, none⟩) 4 cap2, .slice (some ⟨g3, 0, none⟩) TC.length cap3, undef], defers := [] } _
    refine wpAnyH_all (rs := [8]) (by kernel_rfl) (by simp) ?_
    intro i hi8; obtain rfl : i = 8 := by simpa using hi8
    refine wpOp_step rfl (fun K hK => ?_)
    go_simp
    refine CA.out.mono ?_
    rintro e Z4 ⟨rfl, hg4⟩
    have Z4S : Hid (Below W5.heap.size W5 Z4) := Lib.hid (Z3S.out.grown hg4 (by have := Z3S.out.size; omega) (fun k e => by cases e; omega))
    refine hK _ _ ⟨Z4S, ?_⟩
    clear hK K hi8 hg4 CA
    change wpAnyH _ _ _ _ _ _ _ { tmps := #[.agg #[.int .i64 x, .int .i64 y, .int .i64 u, .int .i64 v], .slice (some A0) m cap0, .pointer (some ⟨w.heap.size, 0, none⟩), undef, .bool false, .int .i64 0, .pointer (some ⟨w4.heap.size, 0, none⟩), .slice (some A0) m cap0, .int .i64 (m : Int), .bool false, .bool false, .agg #[.int .i64 x, .int .i64 y, .int .i64 u, .int .i64 v], .bool true, .bool false, .bool false, .bool false, .slice (some A0) m cap0, .bool true, .bool false, .bool false, .agg #[.int .i64 x, .int .i64 y, .int .i64 u, .int .i64 v], .slice (some ⟨w2.heap.size, 0, none⟩) 1 1, .slice (some A0) m cap0, v', .agg #[.slice ax nx cx, .slice ay ny cy], .agg #[.slice ax nx cx, .slice ay ny cy], .slice (some A0) m cap0, v1, .agg #[.slice ax nx cx, .slice ay ny cy], .agg #[.int .i64 x, .int .i64 y, .int .i64 u, .int .i64 v], .slice (some ⟨nb, 0, none⟩) 1 1, .slice (some ⟨g2, 0, none⟩) 4 cap2, .slice (some ⟨g3, 0, none⟩) TC.length cap3, .bool (cancB TC)], defers := [] } _
    refine wpAnyH_take (i := 9) (v := .bool (cancB TC)) rfl (by kernel_rfl) (by kernel_rfl) (by kernel_rfl) (fun _ _ _ h => h) (Or.inl ⟨by rfl, ?_⟩) Z4S ?_
    · intro X hX5; go_simp
    refine wpAnyH_take (i := 10) (v := .int .i64 0) rfl (by kernel_rfl) (by kernel_rfl) (by kernel_rfl) (fun _ _ _ h => h) (Or.inl ⟨by rfl, ?_⟩) Z4S ?_
    · intro X hX5; go_simp
    refine wpAnyH_done (by kernel_rfl) ?_ _
    have FIN := Lib.hid (B5.out.trans (Z4S.out.mono hs5))
    clear Z4S Z3S Z2S ZS SV HXY HRL hnb f60 f61 f20 f21 f22 f23
    generalize cancB TC = res at *
    go_wp2
    go_ret2
    exact ⟨by rw [hTB.out] <;> rfl, FIN.out⟩
  · refine wpOp_step rfl (fun K hK => ?_)
    go_simp
    have hnb0 := whole_new W6 [.int .i64 x, .int .i64 y, .int .i64 u, .int .i64 v] 23 W6.heap.size rfl
    have bYZ : Below W6.heap.size W6 (W6.alloc (.cells [.int .i64 x, .int .i64 y, .int .i64 u, .int .i64 v].toArray 23)) := (Below.refl _ W6).alloc (Nat.le_refl _) _
    have YS : Hid (Below W5.heap.size W5 (W6.alloc (.cells [.int .i64 x, .int .i64 y, .int .i64 u, .int .i64 v].toArray 23))) := Lib.hid (SV.out.trans (bYZ.mono SV.out.size))
    refine hK _ _ ⟨YS, ?_⟩
    clear hK K bYZ
    change wpAnyH _ _ _ _ _ _ _ { tmps := #[.agg #[.int .i64 x, .int .i64 y, .int .i64 u, .int .i64 v], .slice (some A0) m cap0, .pointer (some ⟨w.heap.size, 0, none⟩), undef, .bool false, .int .i64 0, .pointer (some ⟨w4.heap.size, 0, none⟩), .slice (some A0) m cap0, .int .i64 (m : Int), .bool false, .bool false, .agg #[.int .i64 x, .int .i64 y, .int .i64 u, .int .i64 v], .bool true, .bool false, .bool false, .bool false, .slice (some A0) m cap0, .bool true, .bool false, .bool false, .agg #[.int .i64 x, .int .i64 y, .int .i64 u, .int .i64 v], .slice (some ⟨w2.heap.size, 0, none⟩) 1 1, .slice (some A0) m cap0, v', .agg #[.slice ax nx cx, .slice ay ny cy], .agg #[.slice ax nx cx, .slice ay ny cy], .slice (some A0) m cap0, undef, .agg #[.slice ax nx cx, .slice ay ny cy], .agg #[.int .i64 x, .int .i64 y, .int .i64 u, .int .i64 v], .slice (some ⟨W6.heap.size, 0, none⟩) 1 1, undef, undef, undef], defers := [] } (W6.alloc (.cells [.int .i64 x, .int .i64 y, .int .i64 u, .int .i64 v].toArray 23))
    generalize W6.heap.size = nb at *
    generalize W6.alloc (.cells [.int .i64 x, .int .i64 y, .int .i64 u, .int .i64 v].toArray 23) = Y at *
    refine wpAnyH_all (rs := [2]) (by kernel_rfl) (by simp) ?_
    intro i hi5; obtain rfl : i = 2 := by simpa using hi5
    refine wpOp_step rfl (fun K hK => ?_)
    go_simp
    refine (corners_any (.slice ax nx cx) (.slice ay ny cy) (.slice (some A0) m cap0) (linesX ⟨x, y, u, v⟩ (vals l)) (linesY ⟨x, y, u, v⟩ (vals l)) 1 l Y (HRL.out _ YS) (by omega) (.inl rfl) (HXY.out _ YS).1 (HXY.out _ YS).2 HSX.out HSY.out HLX.out HLY.out).mono ?_
    rintro e Z ⟨v1, rfl, ho1, hbY⟩
    have ZS : Hid (Below W5.heap.size W5 Z) := Lib.hid (YS.out.trans (hbY.mono YS.out.size))
    have hnb := Lib.hid (hnb0.below hbY hnb0.lt)
    have own1 : Hid (∃ base, W5.heap.size ≤ base ∧ base ≤ Z.heap.size ∧ Z.ownsRow base 59 2 v1 (4 * (vals l).length) (encC (cornersL (linesX ⟨x, y, u, v⟩ (vals l)) (linesY ⟨x, y, u, v⟩ (vals l)) 1 (vals l)))) := Lib.hid ⟨_, YS.out.size, hbY.size, ho1⟩
    refine hK _ _ ⟨ZS, ?_⟩
    clear hK K hi5 ho1 hbY hnb0 YS
    change wpAnyH _ _ _ _ _ _ _ { tmps := #[.agg #[.int .i64 x, .int .i64 y, .int .i64 u, .int .i64 v], .slice (some A0) m cap0, .pointer (some ⟨w.heap.size, 0, none⟩), undef, .bool false, .int .i64 0, .pointer (some ⟨w4.heap.size, 0, none⟩), .slice (some A0) m cap0, .int .i64 (m : Int), .bool false, .bool false, .agg #[.int .i64 x, .int .i64 y, .int .i64 u, .int .i64 v], .bool true, .bool false, .bool false, .bool false, .slice (some A0) m cap0, .bool true, .bool false, .bool false, .agg #[.int .i64 x, .int .i64 y, .int .i64 u, .int .i64 v], .slice (some ⟨w2.heap.size, 0, none⟩) 1 1, .slice (some A0) m cap0, v', .agg #[.slice ax nx cx, .slice ay ny cy], .agg #[.slice ax nx cx, .slice ay ny cy], .slice (some A0) m cap0, v1, .agg #[.slice ax nx cx, .slice ay ny cy], .agg #[.int .i64 x, .int .i64 y, .int .i64 u, .int .i64 v], .slice (some ⟨nb, 0, none⟩) 1 1, undef, undef, undef], defers := [] } _
    refine wpAnyH_all (rs := [6]) (by kernel_rfl) (by simp) ?_
    intro i hi6; obtain rfl : i = 6 := by simpa using hi6
    refine wpOp_step rfl (fun K hK => ?_)
    go_simp
    refine (corners_any (.slice ax nx cx) (.slice ay ny cy) (.slice (some ⟨nb, 0, none⟩) 1 1) (linesX ⟨x, y, u, v⟩ (vals l)) (linesY ⟨x, y, u, v⟩ (vals l)) (-1) [(⟨⟨x, y, u, v⟩, hHr.out⟩ : RR)] Z (Rects.whole (t := 23) hnb.out rfl (by omega)) (by simp) (.inr rfl) (HXY.out Z ZS).1 (HXY.out Z ZS).2 HSX.out HSY.out HLX.out HLY.out).mono ?_
    rintro e Z2 ⟨v2, rfl, ho2, hbZ⟩
    have Z2S : Hid (Below W5.heap.size W5 Z2) := Lib.hid (ZS.out.trans (hbZ.mono ZS.out.size))
    refine hK _ _ ⟨Z2S, ?_⟩
    clear hK K hi6
    obtain ⟨base1, hbase1, hbase1b, ho1⟩ := own1.out
    replace ho1 := own_later ho1 hbZ
    have ez : 4 * (vals ([(⟨⟨x, y, u, v⟩, hHr.out⟩ : RR)])).length = 4 := rfl
    rw [ez] at ho2
    have ho2' := ho2
    obtain ⟨hl2, ⟨rfl, h4⟩ | ⟨g2, cap2, cur2, rfl, hb2, hg2, hnc2, hcm2, hcs2, htk2⟩⟩ := ho2
    · omega
    have hnews := Lib.hid (World.ownsRow.cells ho2' (g := g2) rfl)
    have HO1 := Lib.hid ho1
    have hl2' := Lib.hid hl2
    have hone : Hid (∀ u' ∈ encC (cornersL (linesX ⟨x, y, u, v⟩ (vals l)) (linesY ⟨x, y, u, v⟩ (vals l)) (-1) [⟨x, y, u, v⟩]), u'.oneCell' = true) := by
      apply Lib.hid
      intro u' hu'
      obtain ⟨q, _, hq⟩ := List.mem_flatMap.1 hu'
      simp [Cor.cells] at hq
      rcases hq with rfl | rfl <;> rfl
    have hmv : (vals l).length ≤ 400 := by simp [vals]; omega
    have hsz5 := Z2S.out.size
    have hbase2 : base1 ≤ Z2.heap.size := by
      have := hbZ.size; omega
    clear ho1 ho2' hb2 hg2 hnc2 hcm2 hcs2 htk2 ez hl2 own1 hbZ
    change wpAnyH _ _ _ _ _ _ _ { tmps := #[.agg #[.int .i64 x, .int .i64 y, .int .i64 u, .int .i64 v], .slice (some A0) m cap0, .pointer (some ⟨w.heap.size, 0, none⟩), undef, .bool false, .int .i64 0, .pointer (some ⟨w4.heap.size, 0, none⟩), .slice (some A0) m cap0, .int .i64 (m : Int), .bool false, .bool false, .agg #[.int .i64 x, .int .i64 y, .int .i64 u, .int .i64 v], .bool true, .bool false, .bool false, .bool false, .slice (some A0) m cap0, .bool true, .bool false, .bool false, .agg #[.int .i64 x, .int .i64 y, .int .i64 u, .int .i64 v], .slice (some ⟨w2.heap.size, 0, none⟩) 1 1, .slice (some A0) m cap0, v', .agg #[.slice ax nx cx, .slice ay ny cy], .agg #[.slice ax nx cx, .slice ay ny cy], .slice (some A0) m cap0, v1, .agg #[.slice ax nx cx, .slice ay ny cy], .agg #[.int .i64 x, .int .i64 y, .int .i64 u, .int .i64 v], .slice (some ⟨nb, 0, none⟩) 1 1, .slice (some ⟨g2, 0, none⟩) 4 cap2, undef, undef], defers := [] } _
    refine wpAnyH_all (rs := [7]) (by kernel_rfl) (by simp) ?_
    intro i hi7; obtain rfl : i = 7 := by simpa using hi7
    refine wpOp_step rfl (fun K hK => ?_)
    rw [if_pos (by rfl)]
    refine wp_append_own _ _ _ 44 rfl base1 59 i2 (.agg #[.complex .f64 0 0, .int .i64 0]) 2 24 Try.underlying44 ci cz0 cz1 cz2 rfl (by decide) v1 (4 * (vals l).length) _ rfl HO1.out ⟨g2, 0, none⟩ 4 cap2 _ rfl hl2'.out hnews.out hone.out (by unfold maxLen; omega) (by omega) hbase2 ?_
    intro v3 Z3 ho3 hg3 _
    have Z3S : Hid (Below W5.heap.size W5 Z3) := Lib.hid (own_below Z2S.out HO1.out hbase1 hg3 hsz5)
    refine hK _ _ ⟨Z3S, ?_⟩
    clear hK K hi7 hg3
    have hTl := tileC_len ⟨x, y, u, v⟩ (vals l)
    have hTt := tileC_t ⟨x, y, u, v⟩ (vals l)
    have hTB := Lib.hid (show tilesB ⟨x, y, u, v⟩ (vals l) = cancB (tileC ⟨x, y, u, v⟩ (vals l)) from rfl)
    rw [← encC_append, show 4 * (vals l).length + 4 = (tileC ⟨x, y, u, v⟩ (vals l)).length from hTl.symm] at ho3
    change Z3.ownsRow base1 59 2 v3 (tileC ⟨x, y, u, v⟩ (vals l)).length (encC (tileC ⟨x, y, u, v⟩ (vals l))) at ho3
    generalize tileC ⟨x, y, u, v⟩ (vals l) = TC at *
    have t1 : 1 ≤ TC.length := by omega
    have t2 : TC.length ≤ 4000 := by omega
    obtain ⟨hl3, ⟨rfl, h4⟩ | ⟨g3, cap3, cur3, rfl, hb3, hgg3, hnc3, hcm3, hcs3, htk3⟩⟩ := ho3
    · omega
    have CA := Lib.hid (cancel_any base1 g3 cap3 TC cur3 Z3 hb3 hgg3 hnc3 hcm3 hcs3 htk3 t1 t2 hTt)
    clear hgg3 hnc3 hcm3 hcs3 htk3 hTt hl3 hTl HO1 hnews hone hl2'
    change wpAnyH _ _ _ _ _ _ _ { tmps := #[.agg #[.int .i64 x, .int .i64 y, .int .i64 u, .int .i64 v], .slice (some A0) m cap0, .pointer (some ⟨w.heap.size, 0, none⟩), undef, .bool false, .int .i64 0, .pointer (some ⟨w4.heap.size, 0, none⟩), .slice (some A0) m cap0, .int .i64 (m : Int), .bool false, .bool false, .agg #[.int .i64 x, .int .i64 y, .int .i64 u, .int .i64 v], .bool true, .bool false, .bool false, .bool false, .slice (some A0) m cap0, .bool true, .bool false, .bool false, .agg #[.int .i64 x, .int .i64 y, .int .i64 u, .int .i64 v], .slice (some ⟨w2.heap.size, 0, none⟩) 1 1, .slice (some A0) m cap0, v', .agg #[.slice ax nx cx, .slice ay ny cy], .agg #[.slice ax nx cx, .slice ay ny cy], .slice (some A0) m cap0, v1, .agg #[.slice ax nx cx, .slice ay ny cy], .agg #[.int .i64 x, .int .i64 y, .int .i64 u, .int .i64 v], .slice (some ⟨nb, 0, none⟩) 1 1, .slice (some ⟨g2, 0, none⟩) 4 cap2, .slice (some ⟨g3, 0, none⟩) TC.length cap3, undef], defers := [] } _
    refine wpAnyH_all (rs := [8]) (by kernel_rfl) (by simp) ?_
    intro i hi8; obtain rfl : i = 8 := by simpa using hi8
    refine wpOp_step rfl (fun K hK => ?_)
    go_simp
    refine CA.out.mono ?_
    rintro e Z4 ⟨rfl, hg4⟩
    have Z4S : Hid (Below W5.heap.size W5 Z4) := Lib.hid (Z3S.out.grown hg4 (by have := Z3S.out.size; omega) (fun k e => by cases e; omega))
    refine hK _ _ ⟨Z4S, ?_⟩
    clear hK K hi8 hg4 CA
    change wpAnyH _ _ _ _ _ _ _ { tmps := #[.agg #[.int .i64 x, .int .i64 y, .int .i64 u, .int .i64 v], .slice (some A0) m cap0, .pointer (some ⟨w.heap.size, 0, none⟩), undef, .bool false, .int .i64 0, .pointer (some ⟨w4.heap.size, 0, none⟩), .slice (some A0) m cap0, .int .i64 (m : Int), .bool false, .bool false, .agg #[.int .i64 x, .int .i64 y, .int .i64 u, .int .i64 v], .bool true, .bool false, .bool false, .bool false, .slice (some A0) m cap0, .bool true, .bool false, .bool false, .agg #[.int .i64 x, .int .i64 y, .int .i64 u, .int .i64 v], .slice (some ⟨w2.heap.size, 0, none⟩) 1 1, .slice (some A0) m cap0, v', .agg #[.slice ax nx cx, .slice ay ny cy], .agg #[.slice ax nx cx, .slice ay ny cy], .slice (some A0) m cap0, v1, .agg #[.slice ax nx cx, .slice ay ny cy], .agg #[.int .i64 x, .int .i64 y, .int .i64 u, .int .i64 v], .slice (some ⟨nb, 0, none⟩) 1 1, .slice (some ⟨g2, 0, none⟩) 4 cap2, .slice (some ⟨g3, 0, none⟩) TC.length cap3, .bool (cancB TC)], defers := [] } _
    refine wpAnyH_take (i := 9) (v := .bool (cancB TC)) rfl (by kernel_rfl) (by kernel_rfl) (by kernel_rfl) (fun _ _ _ h => h) (Or.inl ⟨by rfl, ?_⟩) Z4S ?_
    · intro X hX5; go_simp
    refine wpAnyH_take (i := 10) (v := .int .i64 0) rfl (by kernel_rfl) (by kernel_rfl) (by kernel_rfl) (fun _ _ _ h => h) (Or.inl ⟨by rfl, ?_⟩) Z4S ?_
    · intro X hX5; go_simp
    refine wpAnyH_done (by kernel_rfl) ?_ _
    have FIN := Lib.hid (B5.out.trans (Z4S.out.mono hs5))
    clear Z4S Z3S Z2S ZS SV HXY HRL hnb f60 f61 f20 f21 f22 f23
    generalize cancB TC = res at *
    go_wp2
    go_ret2
    exact ⟨by rw [hTB.out] <;> rfl, FIN.out⟩
/-- of every slice -/
theorem tiles_any (r : R) (sv : Value) (zs : List R) (w : World) (hI : Rects w sv zs) (hn : ∀ n c, sv = .slice none n c → n = 0 ∧ c = 0) : Calls Try.prog 6 #[r.val, sv] w (TilesPost r zs w) := by
  cases hk : tilesOk r zs with
  | false => exact tiles_bad r zs sv w hI hk
  | true =>
    have hk2 := hk
    unfold tilesOk at hk2
    simp only [Bool.and_eq_true, decide_eq_true_eq] at hk2
    obtain ⟨⟨hl, hr⟩, hall⟩ := hk2
    obtain ⟨l, rfl⟩ := all_vals hall
    obtain ⟨x, y, u, v⟩ := r
    have hll : l.length ≤ 400 := by simpa [vals] using hl
    have fin : ∀ e W', e = .returned (.tuple #[.bool (tilesB ⟨x, y, u, v⟩ (vals l)), .int .i64 0]) ∧ Below w.heap.size w W' → TilesPost ⟨x, y, u, v⟩ (vals l) w e W' := fun e W' h => by
      unfold TilesPost
      rw [hk]
      exact ⟨by rw [h.1]; simp, h.2⟩
    have hI' := hI
    obtain ⟨hm, ⟨a, cap, rfl, hz⟩ | ⟨b, off, cap, rfl, hlt, hc⟩⟩ := hI
    · cases a with
      | none =>
        obtain ⟨_, rfl⟩ := hn 0 cap rfl
        exact (tiles_nil x y u v hr l hll w (Lib.hid (by rw [hz]; rfl)) hI').mono fin
      | some A0 =>
        exact (tiles_at x y u v hr l hll w 0 cap A0 (Lib.hid (by rw [hz]; rfl)) (fun X _ j u' h => by rw [hz] at h; simp at h) hI').mono fin
    · refine (tiles_at x y u v hr l hll w _ cap ⟨b, off, none⟩ (Lib.hid rfl) (fun X hX => ?_) hI').mono fin
      exact rects_news (n := 0) (cap := 0) fun j hj i v' hv => (hX.cell (p := ⟨b, off + j * 4 + i, none⟩) hlt).trans (hc j hj i v' hv)
/-- the law's cut of an argument: it is nil only as a whole -/
theorem cut_any2 {W : World} {a : Option Addr} {len cap : Nat} {zs : List R} (h : RectRow W a len cap zs) :
    ∃ sv, Rects W sv (zs.take 60) ∧ (∀ n c, sv = .slice none n c → n = 0 ∧ c = 0) ∧ ∀ X, Calls Try.prog 7 #[.slice a len cap] X fun e X' => e = .returned sv ∧ X' = X := by
  have h0 := h
  rcases h with ⟨rfl, rfl, rfl, rfl⟩ | ⟨x, rfl, hl, hm, hz, hc⟩
  · exact ⟨.slice none 0 0, ⟨by simp, .inl ⟨none, 0, rfl, rfl⟩⟩, fun n c e => by injection e with e1 e2 e3; exact ⟨e2.symm, e3.symm⟩, fun X => cut_none X⟩
  · unfold maxLen at hm
    obtain ⟨g, off, m⟩ := x
    refine ⟨.slice (some ⟨g, off, m⟩) (min len 60) cap, ?_, ?_, fun X => cut_some g off len cap m X hl (by omega)⟩
    rotate_left
    · intro n c e; injection e with e1; cases e1
    have ht : (zs.take 60).length = min len 60 := by rw [List.length_take, hz, Nat.min_comm]
    refine ⟨by omega, ?_⟩
    by_cases h0 : len = 0
    · subst h0
      have : zs = [] := List.length_eq_zero_iff.1 hz
      subst this
      exact .inl ⟨some ⟨g, off, m⟩, cap, rfl, rfl⟩
    · right
      have c0 := hc 0 (by omega) 0 (.int .i64 (zs[0]!).x) rfl
      have hs : m = none := by simpa [Addr.add] using World.cell?_spot c0
      subst hs
      refine ⟨g, off, cap, by rw [ht], ?_, fun j hj i v hv => ?_⟩
      · simpa [Addr.add] using cell_lt c0
      · have hj' : j < len := by omega
        have hj6 : j < 60 := by omega
        have e : (zs.take 60)[j]! = zs[j]! := by simp [List.getElem!_eq_getElem?_getD, List.getElem?_take, hj6]
        rw [e] at hv
        have := hc j hj' i v hv
        rw [add_plain] at this
        rw [show off + j * 4 + i = off + (j * 4 + i) by omega]
        exact this
end Go.Proofs.Ytjdnhpbifblneaa
