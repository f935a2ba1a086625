/- Which of two sides wins: the contract of contest.order. Written by mk_CRank.py. -/
import Derived.Test.YtceippgkmoijdaaCRank
import Derived.Test.YtceippgkmoijdaaCoWho
namespace Go.Proofs.Ytceippgkmoijdaa
open Go.RowKit Go.Shelf Go.Sort
set_option linter.unusedVariables false
set_option linter.unusedSimpArgs false
attribute [local go_sem] Oper.semAt_some

theorem Si.cells_len (s : Si) : s.cells.length = 6 := rfl
theorem Si.cells_one (s : Si) : s.cells.toArray.all (·.oneCell') = true := by simp [Si.cells, Value.oneCell']
theorem Try.infoSide : (Try.prog.info? 54).map (·.size) = some 6 := by kernel_rfl
theorem Try.infoRank : (Try.prog.info? 161).map (·.size) = some 7 := by kernel_rfl
theorem rank_one (s : Si) : (((rankL s).map (Value.int .i64)).toArray).all (·.oneCell') = true := by simp [rankL, Value.oneCell']
set_option maxRecDepth 100000 in
set_option maxHeartbeats 8000000 in
theorem order_any (a b : Si) (ha : Fit a) (hb : Fit b) (W : World) :
    Calls Try.prog 86 #[a.val, b.val] W fun e W' => e = .returned (.int .i64 (cmpS a b)) ∧ Grew W W' := by
  have HCM := Lib.hid (fun b1 b2 X h1 h2 => compare_any b1 b2 161 (rankL a) (rankL b) X h1 h2 rfl rfl)
  rw [show cmpL (rankL a) (rankL b) = cmpS a b from rfl] at HCM
  generalize cmpS a b = c at *
  have hra := fun X => rankOf_any a ha X
  have hrb := fun X => rankOf_any b hb X
  rw [Si.val_eq] at hra ⊢
  rw [Si.val_eq] at hrb ⊢
  have one1 := a.cells_one
  have one2 := b.cells_one
  have len1 := a.cells_len
  have len2 := b.cells_len
  have Ora := Lib.hid (rank_one a)
  have Orb := Lib.hid (rank_one b)
  have Ira : Hid ((Try.prog.info? 161).map (·.size) = some ((rankL a).map (Value.int .i64)).toArray.size) := Lib.hid Try.infoRank
  have Irb : Hid ((Try.prog.info? 161).map (·.size) = some ((rankL b).map (Value.int .i64)).toArray.size) := Lib.hid Try.infoRank
  have Zra : Hid ((#[.int .i64 0, .int .i64 0, .int .i64 0, .int .i64 0, .int .i64 0, .int .i64 0, .int .i64 0] : Array Value).size = ((rankL a).map (Value.int .i64)).toArray.size) := Lib.hid rfl
  have Zrb : Hid ((#[.int .i64 0, .int .i64 0, .int .i64 0, .int .i64 0, .int .i64 0, .int .i64 0, .int .i64 0] : Array Value).size = ((rankL b).map (Value.int .i64)).toArray.size) := Lib.hid rfl
  have ha2 : (Try.prog.info? 54).map (·.size) = some a.cells.toArray.size := Try.infoSide
  have hb2 : (Try.prog.info? 54).map (·.size) = some b.cells.toArray.size := Try.infoSide
  have HRL1 : Hid (((rankL a).map (Value.int .i64)).toArray.toList = (rankL a).map (Value.int .i64)) := Lib.hid rfl
  have HRL2 : Hid (((rankL b).map (Value.int .i64)).toArray.toList = (rankL b).map (Value.int .i64)) := Lib.hid rfl
  generalize ((rankL a).map (Value.int .i64)).toArray = ra at *
  generalize ((rankL b).map (Value.int .i64)).toArray = rb at *
  generalize a.cells.toArray = ca at *
  generalize b.cells.toArray = cb at *
  have HRA := Lib.hid hra
  have HRB := Lib.hid hrb
  have IA := Lib.hid ha2
  have IB := Lib.hid hb2
  clear hra hrb ha2 hb2 one1 one2 len1 len2 ha hb
  go_enter Try.func86, Try.ntmps86
  go_wp2_with fail
  obtain ⟨W0, hW0⟩ : ∃ W0, (W.alloc (.cells ca 54)).alloc (.cells cb 54) = W0 := ⟨_, rfl⟩
  have KA : Hid (Whole W0 W.heap.size 54 ca.toList) := Lib.hid (by rw [← hW0]; exact (whole_new W ca.toList 54 _ rfl).alloc _)
  have KB : Hid (Whole W0 (W.heap.size + 1) 54 cb.toList) := Lib.hid (by rw [← hW0]; exact whole_new (W.alloc _) cb.toList 54 _ (by simp))
  have GW : Hid (Grew W W0) := Lib.hid (by rw [← hW0]; exact ((Grew.refl W).alloc _).alloc _)
  rw [hW0]
  clear hW0
  refine region_held_atC (S := fun X => Hid (Grew W0 X)) (by kernel_rfl) (fun w9 hw9 => ?_)
  have SV : Hid (Grew W0 w9) := Lib.hid (by rw [← hw9]; exact (Grew.refl _).drew)
  clear hw9
  try simp only [Act.put, List.setIfInBounds_toArray, List.set_cons_succ, List.set_cons_zero]
  refine wpAnyH_takeC (i := 0) (v := .agg ca) (some 7) rfl rfl (by kernel_rfl) (by kernel_rfl) (by kernel_rfl) (fun _ _ _ h => h) (yields_loadC (by rfl) 54 (.tmp 2) rfl _ rfl ca _ (fun X hX => (KA.out.below hX.out.lo KA.out.lt).loads) Try.underlying54 rfl IA.out) SV ?_
  try simp only [Act.put, List.setIfInBounds_toArray, List.set_cons_succ, List.set_cons_zero]
  refine wpAnyH_takeC (i := 2) (v := .agg cb) (some 9) rfl rfl (by kernel_rfl) (by kernel_rfl) (by kernel_rfl) (fun _ _ _ h => h) (yields_loadC (by rfl) 54 (.tmp 3) rfl _ rfl cb _ (fun X hX => (KB.out.below hX.out.lo KB.out.lt).loads) Try.underlying54 rfl IB.out) SV ?_
  try simp only [Act.put, List.setIfInBounds_toArray, List.set_cons_succ, List.set_cons_zero]
  refine wpAnyH_all (rs := [1, 4, 5]) (by kernel_rfl) (by simp) ?_
  intro ii hii
  rcases (show ii = 1 ∨ ii = 4 ∨ ii = 5 by simpa using hii) with rfl | rfl | rfl
  · clear hii
    refine wpOp_step rfl (fun K hK => ?_)
    go_simp
    refine (HRA.out _).mono ?_
    rintro e w1 ⟨rfl, hb1⟩
    have SX : Hid (Grew W0 w1) := Lib.hid (SV.out.trans hb1)
    refine hK _ _ ⟨SX, ?_⟩
    clear hK K hb1 SV
    have SV := SX
    clear SX
    try simp only [Act.put, List.setIfInBounds_toArray, List.set_cons_succ, List.set_cons_zero]
    refine wpAnyH_all (rs := [3, 4, 5]) (by kernel_rfl) (by simp) ?_
    intro ii hii
    rcases (show ii = 3 ∨ ii = 4 ∨ ii = 5 by simpa using hii) with rfl | rfl | rfl
    · clear hii
      refine wpOp_step rfl (fun K hK => ?_)
      go_simp
      refine (HRB.out _).mono ?_
      rintro e w2 ⟨rfl, hb2⟩
      have SX : Hid (Grew W0 w2) := Lib.hid (SV.out.trans hb2)
      refine hK _ _ ⟨SX, ?_⟩
      clear hK K hb2 SV
      have SV := SX
      clear SX
      try simp only [Act.put, List.setIfInBounds_toArray, List.set_cons_succ, List.set_cons_zero]
      refine wpAnyH_all (rs := [4, 5]) (by kernel_rfl) (by simp) ?_
      intro ii hii
      rcases (show ii = 4 ∨ ii = 5 by simpa using hii) with rfl | rfl
      · clear hii
        refine wpOp_step rfl (fun K hK => ?_)
        go_simp
        have SX : Hid (Grew W0 (World.alloc w2 (.cells #[.int .i64 0, .int .i64 0, .int .i64 0, .int .i64 0, .int .i64 0, .int .i64 0, .int .i64 0] 161))) := Lib.hid (SV.out.alloc _)
        obtain ⟨g5, hg5⟩ : ∃ g5, (World.heap w2).size = g5 := ⟨_, rfl⟩
        have L5 := Lib.hid (show W0.heap.size ≤ g5 by rw [← hg5]; exact SV.out.lo.size)
        have GX : Hid (Whole (World.alloc w2 (.cells #[.int .i64 0, .int .i64 0, .int .i64 0, .int .i64 0, .int .i64 0, .int .i64 0, .int .i64 0] 161)) g5 161 [.int .i64 0, .int .i64 0, .int .i64 0, .int .i64 0, .int .i64 0, .int .i64 0, .int .i64 0]) := Lib.hid (whole_new _ _ _ _ hg5.symm)
        refine hK _ _ ⟨SX, ?_⟩
        rw [hg5]
        clear hK K SV hg5
        have SV := SX
        clear SX
        have G5 := GX
        clear GX
        generalize World.alloc w2 (.cells #[.int .i64 0, .int .i64 0, .int .i64 0, .int .i64 0, .int .i64 0, .int .i64 0, .int .i64 0] 161) = v3 at SV G5 ⊢
        try simp only [Act.put, List.setIfInBounds_toArray, List.set_cons_succ, List.set_cons_zero]
        refine wpAnyH_all (rs := [5]) (by kernel_rfl) (by simp) ?_
        intro ii hii
        obtain rfl : ii = 5 := by simpa using hii
        clear hii
        refine wpOp_step rfl (fun K hK => ?_)
        go_simp
        have SX : Hid (Grew W0 (World.alloc v3 (.cells #[.int .i64 0, .int .i64 0, .int .i64 0, .int .i64 0, .int .i64 0, .int .i64 0, .int .i64 0] 161))) := Lib.hid (SV.out.alloc _)
        obtain ⟨g6, hg6⟩ : ∃ g6, (World.heap v3).size = g6 := ⟨_, rfl⟩
        have L6 := Lib.hid (show W0.heap.size ≤ g6 by rw [← hg6]; exact SV.out.lo.size)
        have GX : Hid (Whole (World.alloc v3 (.cells #[.int .i64 0, .int .i64 0, .int .i64 0, .int .i64 0, .int .i64 0, .int .i64 0, .int .i64 0] 161)) g6 161 [.int .i64 0, .int .i64 0, .int .i64 0, .int .i64 0, .int .i64 0, .int .i64 0, .int .i64 0]) := Lib.hid (whole_new _ _ _ _ hg6.symm)
        have GY := Lib.hid (G5.out.alloc (.cells #[.int .i64 0, .int .i64 0, .int .i64 0, .int .i64 0, .int .i64 0, .int .i64 0, .int .i64 0] 161))
        have NE : Hid (g5 ≠ g6) := Lib.hid (by have := G5.out.lt; omega)
        refine hK _ _ ⟨SX, ?_⟩
        rw [hg6]
        clear hK K SV hg6
        have SV := SX
        clear SX
        have G6 := GX
        clear GX
        clear G5
        have G5 := GY
        clear GY
        generalize World.alloc v3 (.cells #[.int .i64 0, .int .i64 0, .int .i64 0, .int .i64 0, .int .i64 0, .int .i64 0, .int .i64 0] 161) = v4 at SV G6 G5 ⊢
        try simp only [Act.put, List.setIfInBounds_toArray, List.set_cons_succ, List.set_cons_zero]
        refine wpAnyH_all (rs := [6]) (by kernel_rfl) (by simp) ?_
        intro ii hii; obtain rfl : ii = 6 := by simpa using hii
        clear hii
        refine wpOp_step rfl (fun K hK => ?_)
        refine wp_store_rowC rfl 161 (.tmp 5) (.tmp 8) rfl g5 ra rfl rfl 161 #[.int .i64 0, .int .i64 0, .int .i64 0, .int .i64 0, .int .i64 0, .int .i64 0, .int .i64 0] G5.out Ira.out Zra.out Ora.out ?_
        have SX := Lib.hid (SV.out.row g5 ra L5.out)
        have GX := Lib.hid (whole_rowA G5.out ra)
        have GY := Lib.hid (whole_rowO G6.out g5 ra (by have := NE.out; omega))
        refine hK _ _ ⟨SX, ?_⟩
        clear hK K SV G5 G6
        have SV := SX
        have G5 := GX
        have G6 := GY
        clear SX GX GY
        try simp only [Act.put, List.setIfInBounds_toArray, List.set_cons_succ, List.set_cons_zero]
        generalize World.setRow _ g5 ra = wq at SV G5 G6 ⊢
        refine wpAnyH_all (rs := [7]) (by kernel_rfl) (by simp) ?_
        intro ii hii; obtain rfl : ii = 7 := by simpa using hii
        clear hii
        refine wpOp_step rfl (fun K hK => ?_)
        refine wp_store_rowC rfl 161 (.tmp 6) (.tmp 10) rfl g6 rb rfl rfl 161 #[.int .i64 0, .int .i64 0, .int .i64 0, .int .i64 0, .int .i64 0, .int .i64 0, .int .i64 0] G6.out Irb.out Zrb.out Orb.out ?_
        have SX := Lib.hid (SV.out.row g6 rb L6.out)
        have GX := Lib.hid (whole_rowA G6.out rb)
        have GY := Lib.hid (whole_rowO G5.out g6 rb (by have := NE.out; omega))
        refine hK _ _ ⟨SX, ?_⟩
        clear hK K SV G5 G6
        have SV := SX
        have G6 := GX
        have G5 := GY
        clear SX GX GY
        try simp only [Act.put, List.setIfInBounds_toArray, List.set_cons_succ, List.set_cons_zero]
        generalize World.setRow _ g6 rb = wq at SV G5 G6 ⊢
        refine wpAnyH_done (by kernel_rfl) ?_ _
        have HC7 := Lib.hid (fun X (h1 : Whole X g5 161 ra.toList) (h2 : Whole X g6 161 rb.toList) => HCM.out g5 g6 X (HRL1.out ▸ h1) (HRL2.out ▸ h2))
        have HCQ : Hid (∀ n, Calls Try.prog 99 #[.slice (some ⟨g5, 0, none⟩) 7 7, .slice (some ⟨g6, 0, none⟩) 7 7] (wq.drewN n) fun e w1 => e = .returned (.int .i64 c) ∧ w1 = wq.drewN n) := Lib.hid fun n => (HC7.out (wq.drewN n) G5.out G6.out).mono fun _ _ h => ⟨h.1, h.2.symm⟩
        have HGW := Lib.hid (GW.out.trans SV.out)
        clear GW SV KA KB HRA HRB IA IB Ora Orb Ira Irb Zra Zrb HRL1 HRL2 L5 L6 NE HCM
        go_wp2
        go_quiet ((go_at_call 99; exact Calls.quiet_of_same (HCQ.out _)))
        go_wp2
        go_ret
        exact ⟨rfl, HGW.out.drewN _⟩
      · clear hii
        refine wpOp_step rfl (fun K hK => ?_)
        go_simp
        have SX : Hid (Grew W0 (World.alloc w2 (.cells #[.int .i64 0, .int .i64 0, .int .i64 0, .int .i64 0, .int .i64 0, .int .i64 0, .int .i64 0] 161))) := Lib.hid (SV.out.alloc _)
        obtain ⟨g6, hg6⟩ : ∃ g6, (World.heap w2).size = g6 := ⟨_, rfl⟩
        have L6 := Lib.hid (show W0.heap.size ≤ g6 by rw [← hg6]; exact SV.out.lo.size)
        have GX : Hid (Whole (World.alloc w2 (.cells #[.int .i64 0, .int .i64 0, .int .i64 0, .int .i64 0, .int .i64 0, .int .i64 0, .int .i64 0] 161)) g6 161 [.int .i64 0, .int .i64 0, .int .i64 0, .int .i64 0, .int .i64 0, .int .i64 0, .int .i64 0]) := Lib.hid (whole_new _ _ _ _ hg6.symm)
        refine hK _ _ ⟨SX, ?_⟩
        rw [hg6]
        clear hK K SV hg6
        have SV := SX
        clear SX
        have G6 := GX
        clear GX
        generalize World.alloc w2 (.cells #[.int .i64 0, .int .i64 0, .int .i64 0, .int .i64 0, .int .i64 0, .int .i64 0, .int .i64 0] 161) = v5 at SV G6 ⊢
        try simp only [Act.put, List.setIfInBounds_toArray, List.set_cons_succ, List.set_cons_zero]
        refine wpAnyH_all (rs := [4]) (by kernel_rfl) (by simp) ?_
        intro ii hii
        obtain rfl : ii = 4 := by simpa using hii
        clear hii
        refine wpOp_step rfl (fun K hK => ?_)
        go_simp
        have SX : Hid (Grew W0 (World.alloc v5 (.cells #[.int .i64 0, .int .i64 0, .int .i64 0, .int .i64 0, .int .i64 0, .int .i64 0, .int .i64 0] 161))) := Lib.hid (SV.out.alloc _)
        obtain ⟨g5, hg5⟩ : ∃ g5, (World.heap v5).size = g5 := ⟨_, rfl⟩
        have L5 := Lib.hid (show W0.heap.size ≤ g5 by rw [← hg5]; exact SV.out.lo.size)
        have GX : Hid (Whole (World.alloc v5 (.cells #[.int .i64 0, .int .i64 0, .int .i64 0, .int .i64 0, .int .i64 0, .int .i64 0, .int .i64 0] 161)) g5 161 [.int .i64 0, .int .i64 0, .int .i64 0, .int .i64 0, .int .i64 0, .int .i64 0, .int .i64 0]) := Lib.hid (whole_new _ _ _ _ hg5.symm)
        have GY := Lib.hid (G6.out.alloc (.cells #[.int .i64 0, .int .i64 0, .int .i64 0, .int .i64 0, .int .i64 0, .int .i64 0, .int .i64 0] 161))
        have NE : Hid (g5 ≠ g6) := Lib.hid (by have := G6.out.lt; omega)
        refine hK _ _ ⟨SX, ?_⟩
        rw [hg5]
        clear hK K SV hg5
        have SV := SX
        clear SX
        have G5 := GX
        clear GX
        clear G6
        have G6 := GY
        clear GY
        generalize World.alloc v5 (.cells #[.int .i64 0, .int .i64 0, .int .i64 0, .int .i64 0, .int .i64 0, .int .i64 0, .int .i64 0] 161) = v6 at SV G5 G6 ⊢
        try simp only [Act.put, List.setIfInBounds_toArray, List.set_cons_succ, List.set_cons_zero]
        refine wpAnyH_all (rs := [6]) (by kernel_rfl) (by simp) ?_
        intro ii hii; obtain rfl : ii = 6 := by simpa using hii
        clear hii
        refine wpOp_step rfl (fun K hK => ?_)
        refine wp_store_rowC rfl 161 (.tmp 5) (.tmp 8) rfl g5 ra rfl rfl 161 #[.int .i64 0, .int .i64 0, .int .i64 0, .int .i64 0, .int .i64 0, .int .i64 0, .int .i64 0] G5.out Ira.out Zra.out Ora.out ?_
        have SX := Lib.hid (SV.out.row g5 ra L5.out)
        have GX := Lib.hid (whole_rowA G5.out ra)
        have GY := Lib.hid (whole_rowO G6.out g5 ra (by have := NE.out; omega))
        refine hK _ _ ⟨SX, ?_⟩
        clear hK K SV G5 G6
        have SV := SX
        have G5 := GX
        have G6 := GY
        clear SX GX GY
        try simp only [Act.put, List.setIfInBounds_toArray, List.set_cons_succ, List.set_cons_zero]
        generalize World.setRow _ g5 ra = wq at SV G5 G6 ⊢
        refine wpAnyH_all (rs := [7]) (by kernel_rfl) (by simp) ?_
        intro ii hii; obtain rfl : ii = 7 := by simpa using hii
        clear hii
        refine wpOp_step rfl (fun K hK => ?_)
        refine wp_store_rowC rfl 161 (.tmp 6) (.tmp 10) rfl g6 rb rfl rfl 161 #[.int .i64 0, .int .i64 0, .int .i64 0, .int .i64 0, .int .i64 0, .int .i64 0, .int .i64 0] G6.out Irb.out Zrb.out Orb.out ?_
        have SX := Lib.hid (SV.out.row g6 rb L6.out)
        have GX := Lib.hid (whole_rowA G6.out rb)
        have GY := Lib.hid (whole_rowO G5.out g6 rb (by have := NE.out; omega))
        refine hK _ _ ⟨SX, ?_⟩
        clear hK K SV G5 G6
        have SV := SX
        have G6 := GX
        have G5 := GY
        clear SX GX GY
        try simp only [Act.put, List.setIfInBounds_toArray, List.set_cons_succ, List.set_cons_zero]
        generalize World.setRow _ g6 rb = wq at SV G5 G6 ⊢
        refine wpAnyH_done (by kernel_rfl) ?_ _
        have HC7 := Lib.hid (fun X (h1 : Whole X g5 161 ra.toList) (h2 : Whole X g6 161 rb.toList) => HCM.out g5 g6 X (HRL1.out ▸ h1) (HRL2.out ▸ h2))
        have HCQ : Hid (∀ n, Calls Try.prog 99 #[.slice (some ⟨g5, 0, none⟩) 7 7, .slice (some ⟨g6, 0, none⟩) 7 7] (wq.drewN n) fun e w1 => e = .returned (.int .i64 c) ∧ w1 = wq.drewN n) := Lib.hid fun n => (HC7.out (wq.drewN n) G5.out G6.out).mono fun _ _ h => ⟨h.1, h.2.symm⟩
        have HGW := Lib.hid (GW.out.trans SV.out)
        clear GW SV KA KB HRA HRB IA IB Ora Orb Ira Irb Zra Zrb HRL1 HRL2 L5 L6 NE HCM
        go_wp2
        go_quiet ((go_at_call 99; exact Calls.quiet_of_same (HCQ.out _)))
        go_wp2
        go_ret
        exact ⟨rfl, HGW.out.drewN _⟩
    · clear hii
      refine wpOp_step rfl (fun K hK => ?_)
      go_simp
      have SX : Hid (Grew W0 (World.alloc w1 (.cells #[.int .i64 0, .int .i64 0, .int .i64 0, .int .i64 0, .int .i64 0, .int .i64 0, .int .i64 0] 161))) := Lib.hid (SV.out.alloc _)
      obtain ⟨g5, hg5⟩ : ∃ g5, (World.heap w1).size = g5 := ⟨_, rfl⟩
      have L5 := Lib.hid (show W0.heap.size ≤ g5 by rw [← hg5]; exact SV.out.lo.size)
      have GX : Hid (Whole (World.alloc w1 (.cells #[.int .i64 0, .int .i64 0, .int .i64 0, .int .i64 0, .int .i64 0, .int .i64 0, .int .i64 0] 161)) g5 161 [.int .i64 0, .int .i64 0, .int .i64 0, .int .i64 0, .int .i64 0, .int .i64 0, .int .i64 0]) := Lib.hid (whole_new _ _ _ _ hg5.symm)
      refine hK _ _ ⟨SX, ?_⟩
      rw [hg5]
      clear hK K SV hg5
      have SV := SX
      clear SX
      have G5 := GX
      clear GX
      generalize World.alloc w1 (.cells #[.int .i64 0, .int .i64 0, .int .i64 0, .int .i64 0, .int .i64 0, .int .i64 0, .int .i64 0] 161) = v7 at SV G5 ⊢
      try simp only [Act.put, List.setIfInBounds_toArray, List.set_cons_succ, List.set_cons_zero]
      refine wpAnyH_all (rs := [3, 5]) (by kernel_rfl) (by simp) ?_
      intro ii hii
      rcases (show ii = 3 ∨ ii = 5 by simpa using hii) with rfl | rfl
      · clear hii
        refine wpOp_step rfl (fun K hK => ?_)
        go_simp
        refine (HRB.out _).mono ?_
        rintro e w8 ⟨rfl, hb8⟩
        have SX : Hid (Grew W0 w8) := Lib.hid (SV.out.trans hb8)
        have GX5 := Lib.hid (G5.out.below hb8.lo G5.out.lt)
        refine hK _ _ ⟨SX, ?_⟩
        clear hK K hb8 SV
        have SV := SX
        clear SX
        clear G5
        have G5 := GX5
        clear GX5
        try simp only [Act.put, List.setIfInBounds_toArray, List.set_cons_succ, List.set_cons_zero]
        refine wpAnyH_all (rs := [5]) (by kernel_rfl) (by simp) ?_
        intro ii hii
        obtain rfl : ii = 5 := by simpa using hii
        clear hii
        refine wpOp_step rfl (fun K hK => ?_)
        go_simp
        have SX : Hid (Grew W0 (World.alloc w8 (.cells #[.int .i64 0, .int .i64 0, .int .i64 0, .int .i64 0, .int .i64 0, .int .i64 0, .int .i64 0] 161))) := Lib.hid (SV.out.alloc _)
        obtain ⟨g6, hg6⟩ : ∃ g6, (World.heap w8).size = g6 := ⟨_, rfl⟩
        have L6 := Lib.hid (show W0.heap.size ≤ g6 by rw [← hg6]; exact SV.out.lo.size)
        have GX : Hid (Whole (World.alloc w8 (.cells #[.int .i64 0, .int .i64 0, .int .i64 0, .int .i64 0, .int .i64 0, .int .i64 0, .int .i64 0] 161)) g6 161 [.int .i64 0, .int .i64 0, .int .i64 0, .int .i64 0, .int .i64 0, .int .i64 0, .int .i64 0]) := Lib.hid (whole_new _ _ _ _ hg6.symm)
        have GY := Lib.hid (G5.out.alloc (.cells #[.int .i64 0, .int .i64 0, .int .i64 0, .int .i64 0, .int .i64 0, .int .i64 0, .int .i64 0] 161))
        have NE : Hid (g5 ≠ g6) := Lib.hid (by have := G5.out.lt; omega)
        refine hK _ _ ⟨SX, ?_⟩
        rw [hg6]
        clear hK K SV hg6
        have SV := SX
        clear SX
        have G6 := GX
        clear GX
        clear G5
        have G5 := GY
        clear GY
        generalize World.alloc w8 (.cells #[.int .i64 0, .int .i64 0, .int .i64 0, .int .i64 0, .int .i64 0, .int .i64 0, .int .i64 0] 161) = v9 at SV G6 G5 ⊢
        try simp only [Act.put, List.setIfInBounds_toArray, List.set_cons_succ, List.set_cons_zero]
        refine wpAnyH_all (rs := [6]) (by kernel_rfl) (by simp) ?_
        intro ii hii; obtain rfl : ii = 6 := by simpa using hii
        clear hii
        refine wpOp_step rfl (fun K hK => ?_)
        refine wp_store_rowC rfl 161 (.tmp 5) (.tmp 8) rfl g5 ra rfl rfl 161 #[.int .i64 0, .int .i64 0, .int .i64 0, .int .i64 0, .int .i64 0, .int .i64 0, .int .i64 0] G5.out Ira.out Zra.out Ora.out ?_
        have SX := Lib.hid (SV.out.row g5 ra L5.out)
        have GX := Lib.hid (whole_rowA G5.out ra)
        have GY := Lib.hid (whole_rowO G6.out g5 ra (by have := NE.out; omega))
        refine hK _ _ ⟨SX, ?_⟩
        clear hK K SV G5 G6
        have SV := SX
        have G5 := GX
        have G6 := GY
        clear SX GX GY
        try simp only [Act.put, List.setIfInBounds_toArray, List.set_cons_succ, List.set_cons_zero]
        generalize World.setRow _ g5 ra = wq at SV G5 G6 ⊢
        refine wpAnyH_all (rs := [7]) (by kernel_rfl) (by simp) ?_
        intro ii hii; obtain rfl : ii = 7 := by simpa using hii
        clear hii
        refine wpOp_step rfl (fun K hK => ?_)
        refine wp_store_rowC rfl 161 (.tmp 6) (.tmp 10) rfl g6 rb rfl rfl 161 #[.int .i64 0, .int .i64 0, .int .i64 0, .int .i64 0, .int .i64 0, .int .i64 0, .int .i64 0] G6.out Irb.out Zrb.out Orb.out ?_
        have SX := Lib.hid (SV.out.row g6 rb L6.out)
        have GX := Lib.hid (whole_rowA G6.out rb)
        have GY := Lib.hid (whole_rowO G5.out g6 rb (by have := NE.out; omega))
        refine hK _ _ ⟨SX, ?_⟩
        clear hK K SV G5 G6
        have SV := SX
        have G6 := GX
        have G5 := GY
        clear SX GX GY
        try simp only [Act.put, List.setIfInBounds_toArray, List.set_cons_succ, List.set_cons_zero]
        generalize World.setRow _ g6 rb = wq at SV G5 G6 ⊢
        refine wpAnyH_done (by kernel_rfl) ?_ _
        have HC7 := Lib.hid (fun X (h1 : Whole X g5 161 ra.toList) (h2 : Whole X g6 161 rb.toList) => HCM.out g5 g6 X (HRL1.out ▸ h1) (HRL2.out ▸ h2))
        have HCQ : Hid (∀ n, Calls Try.prog 99 #[.slice (some ⟨g5, 0, none⟩) 7 7, .slice (some ⟨g6, 0, none⟩) 7 7] (wq.drewN n) fun e w1 => e = .returned (.int .i64 c) ∧ w1 = wq.drewN n) := Lib.hid fun n => (HC7.out (wq.drewN n) G5.out G6.out).mono fun _ _ h => ⟨h.1, h.2.symm⟩
        have HGW := Lib.hid (GW.out.trans SV.out)
        clear GW SV KA KB HRA HRB IA IB Ora Orb Ira Irb Zra Zrb HRL1 HRL2 L5 L6 NE HCM
        go_wp2
        go_quiet ((go_at_call 99; exact Calls.quiet_of_same (HCQ.out _)))
        go_wp2
        go_ret
        exact ⟨rfl, HGW.out.drewN _⟩
      · clear hii
        refine wpOp_step rfl (fun K hK => ?_)
        go_simp
        have SX : Hid (Grew W0 (World.alloc v7 (.cells #[.int .i64 0, .int .i64 0, .int .i64 0, .int .i64 0, .int .i64 0, .int .i64 0, .int .i64 0] 161))) := Lib.hid (SV.out.alloc _)
        obtain ⟨g6, hg6⟩ : ∃ g6, (World.heap v7).size = g6 := ⟨_, rfl⟩
        have L6 := Lib.hid (show W0.heap.size ≤ g6 by rw [← hg6]; exact SV.out.lo.size)
        have GX : Hid (Whole (World.alloc v7 (.cells #[.int .i64 0, .int .i64 0, .int .i64 0, .int .i64 0, .int .i64 0, .int .i64 0, .int .i64 0] 161)) g6 161 [.int .i64 0, .int .i64 0, .int .i64 0, .int .i64 0, .int .i64 0, .int .i64 0, .int .i64 0]) := Lib.hid (whole_new _ _ _ _ hg6.symm)
        have GY := Lib.hid (G5.out.alloc (.cells #[.int .i64 0, .int .i64 0, .int .i64 0, .int .i64 0, .int .i64 0, .int .i64 0, .int .i64 0] 161))
        have NE : Hid (g5 ≠ g6) := Lib.hid (by have := G5.out.lt; omega)
        refine hK _ _ ⟨SX, ?_⟩
        rw [hg6]
        clear hK K SV hg6
        have SV := SX
        clear SX
        have G6 := GX
        clear GX
        clear G5
        have G5 := GY
        clear GY
        generalize World.alloc v7 (.cells #[.int .i64 0, .int .i64 0, .int .i64 0, .int .i64 0, .int .i64 0, .int .i64 0, .int .i64 0] 161) = v10 at SV G6 G5 ⊢
        try simp only [Act.put, List.setIfInBounds_toArray, List.set_cons_succ, List.set_cons_zero]
        refine wpAnyH_all (rs := [3]) (by kernel_rfl) (by simp) ?_
        intro ii hii
        obtain rfl : ii = 3 := by simpa using hii
        clear hii
        refine wpOp_step rfl (fun K hK => ?_)
        go_simp
        refine (HRB.out _).mono ?_
        rintro e w11 ⟨rfl, hb11⟩
        have SX : Hid (Grew W0 w11) := Lib.hid (SV.out.trans hb11)
        have GX5 := Lib.hid (G5.out.below hb11.lo G5.out.lt)
        have GX6 := Lib.hid (G6.out.below hb11.lo G6.out.lt)
        refine hK _ _ ⟨SX, ?_⟩
        clear hK K hb11 SV
        have SV := SX
        clear SX
        clear G5
        have G5 := GX5
        clear GX5
        clear G6
        have G6 := GX6
        clear GX6
        try simp only [Act.put, List.setIfInBounds_toArray, List.set_cons_succ, List.set_cons_zero]
        refine wpAnyH_all (rs := [6]) (by kernel_rfl) (by simp) ?_
        intro ii hii; obtain rfl : ii = 6 := by simpa using hii
        clear hii
        refine wpOp_step rfl (fun K hK => ?_)
        refine wp_store_rowC rfl 161 (.tmp 5) (.tmp 8) rfl g5 ra rfl rfl 161 #[.int .i64 0, .int .i64 0, .int .i64 0, .int .i64 0, .int .i64 0, .int .i64 0, .int .i64 0] G5.out Ira.out Zra.out Ora.out ?_
        have SX := Lib.hid (SV.out.row g5 ra L5.out)
        have GX := Lib.hid (whole_rowA G5.out ra)
        have GY := Lib.hid (whole_rowO G6.out g5 ra (by have := NE.out; omega))
        refine hK _ _ ⟨SX, ?_⟩
        clear hK K SV G5 G6
        have SV := SX
        have G5 := GX
        have G6 := GY
        clear SX GX GY
        try simp only [Act.put, List.setIfInBounds_toArray, List.set_cons_succ, List.set_cons_zero]
        generalize World.setRow _ g5 ra = wq at SV G5 G6 ⊢
        refine wpAnyH_all (rs := [7]) (by kernel_rfl) (by simp) ?_
        intro ii hii; obtain rfl : ii = 7 := by simpa using hii
        clear hii
        refine wpOp_step rfl (fun K hK => ?_)
        refine wp_store_rowC rfl 161 (.tmp 6) (.tmp 10) rfl g6 rb rfl rfl 161 #[.int .i64 0, .int .i64 0, .int .i64 0, .int .i64 0, .int .i64 0, .int .i64 0, .int .i64 0] G6.out Irb.out Zrb.out Orb.out ?_
        have SX := Lib.hid (SV.out.row g6 rb L6.out)
        have GX := Lib.hid (whole_rowA G6.out rb)
        have GY := Lib.hid (whole_rowO G5.out g6 rb (by have := NE.out; omega))
        refine hK _ _ ⟨SX, ?_⟩
        clear hK K SV G5 G6
        have SV := SX
        have G6 := GX
        have G5 := GY
        clear SX GX GY
        try simp only [Act.put, List.setIfInBounds_toArray, List.set_cons_succ, List.set_cons_zero]
        generalize World.setRow _ g6 rb = wq at SV G5 G6 ⊢
        refine wpAnyH_done (by kernel_rfl) ?_ _
        have HC7 := Lib.hid (fun X (h1 : Whole X g5 161 ra.toList) (h2 : Whole X g6 161 rb.toList) => HCM.out g5 g6 X (HRL1.out ▸ h1) (HRL2.out ▸ h2))
        have HCQ : Hid (∀ n, Calls Try.prog 99 #[.slice (some ⟨g5, 0, none⟩) 7 7, .slice (some ⟨g6, 0, none⟩) 7 7] (wq.drewN n) fun e w1 => e = .returned (.int .i64 c) ∧ w1 = wq.drewN n) := Lib.hid fun n => (HC7.out (wq.drewN n) G5.out G6.out).mono fun _ _ h => ⟨h.1, h.2.symm⟩
        have HGW := Lib.hid (GW.out.trans SV.out)
        clear GW SV KA KB HRA HRB IA IB Ora Orb Ira Irb Zra Zrb HRL1 HRL2 L5 L6 NE HCM
        go_wp2
        go_quiet ((go_at_call 99; exact Calls.quiet_of_same (HCQ.out _)))
        go_wp2
        go_ret
        exact ⟨rfl, HGW.out.drewN _⟩
    · clear hii
      refine wpOp_step rfl (fun K hK => ?_)
      go_simp
      have SX : Hid (Grew W0 (World.alloc w1 (.cells #[.int .i64 0, .int .i64 0, .int .i64 0, .int .i64 0, .int .i64 0, .int .i64 0, .int .i64 0] 161))) := Lib.hid (SV.out.alloc _)
      obtain ⟨g6, hg6⟩ : ∃ g6, (World.heap w1).size = g6 := ⟨_, rfl⟩
      have L6 := Lib.hid (show W0.heap.size ≤ g6 by rw [← hg6]; exact SV.out.lo.size)
      have GX : Hid (Whole (World.alloc w1 (.cells #[.int .i64 0, .int .i64 0, .int .i64 0, .int .i64 0, .int .i64 0, .int .i64 0, .int .i64 0] 161)) g6 161 [.int .i64 0, .int .i64 0, .int .i64 0, .int .i64 0, .int .i64 0, .int .i64 0, .int .i64 0]) := Lib.hid (whole_new _ _ _ _ hg6.symm)
      refine hK _ _ ⟨SX, ?_⟩
      rw [hg6]
      clear hK K SV hg6
      have SV := SX
      clear SX
      have G6 := GX
      clear GX
      generalize World.alloc w1 (.cells #[.int .i64 0, .int .i64 0, .int .i64 0, .int .i64 0, .int .i64 0, .int .i64 0, .int .i64 0] 161) = v12 at SV G6 ⊢
      try simp only [Act.put, List.setIfInBounds_toArray, List.set_cons_succ, List.set_cons_zero]
      refine wpAnyH_all (rs := [3, 4]) (by kernel_rfl) (by simp) ?_
      intro ii hii
      rcases (show ii = 3 ∨ ii = 4 by simpa using hii) with rfl | rfl
      · clear hii
        refine wpOp_step rfl (fun K hK => ?_)
        go_simp
        refine (HRB.out _).mono ?_
        rintro e w13 ⟨rfl, hb13⟩
        have SX : Hid (Grew W0 w13) := Lib.hid (SV.out.trans hb13)
        have GX6 := Lib.hid (G6.out.below hb13.lo G6.out.lt)
        refine hK _ _ ⟨SX, ?_⟩
        clear hK K hb13 SV
        have SV := SX
        clear SX
        clear G6
        have G6 := GX6
        clear GX6
        try simp only [Act.put, List.setIfInBounds_toArray, List.set_cons_succ, List.set_cons_zero]
        refine wpAnyH_all (rs := [4]) (by kernel_rfl) (by simp) ?_
        intro ii hii
        obtain rfl : ii = 4 := by simpa using hii
        clear hii
        refine wpOp_step rfl (fun K hK => ?_)
        go_simp
        have SX : Hid (Grew W0 (World.alloc w13 (.cells #[.int .i64 0, .int .i64 0, .int .i64 0, .int .i64 0, .int .i64 0, .int .i64 0, .int .i64 0] 161))) := Lib.hid (SV.out.alloc _)
        obtain ⟨g5, hg5⟩ : ∃ g5, (World.heap w13).size = g5 := ⟨_, rfl⟩
        have L5 := Lib.hid (show W0.heap.size ≤ g5 by rw [← hg5]; exact SV.out.lo.size)
        have GX : Hid (Whole (World.alloc w13 (.cells #[.int .i64 0, .int .i64 0, .int .i64 0, .int .i64 0, .int .i64 0, .int .i64 0, .int .i64 0] 161)) g5 161 [.int .i64 0, .int .i64 0, .int .i64 0, .int .i64 0, .int .i64 0, .int .i64 0, .int .i64 0]) := Lib.hid (whole_new _ _ _ _ hg5.symm)
        have GY := Lib.hid (G6.out.alloc (.cells #[.int .i64 0, .int .i64 0, .int .i64 0, .int .i64 0, .int .i64 0, .int .i64 0, .int .i64 0] 161))
        have NE : Hid (g5 ≠ g6) := Lib.hid (by have := G6.out.lt; omega)
        refine hK _ _ ⟨SX, ?_⟩
        rw [hg5]
        clear hK K SV hg5
        have SV := SX
        clear SX
        have G5 := GX
        clear GX
        clear G6
        have G6 := GY
        clear GY
        generalize World.alloc w13 (.cells #[.int .i64 0, .int .i64 0, .int .i64 0, .int .i64 0, .int .i64 0, .int .i64 0, .int .i64 0] 161) = v14 at SV G5 G6 ⊢
        try simp only [Act.put, List.setIfInBounds_toArray, List.set_cons_succ, List.set_cons_zero]
        refine wpAnyH_all (rs := [6]) (by kernel_rfl) (by simp) ?_
        intro ii hii; obtain rfl : ii = 6 := by simpa using hii
        clear hii
        refine wpOp_step rfl (fun K hK => ?_)
        refine wp_store_rowC rfl 161 (.tmp 5) (.tmp 8) rfl g5 ra rfl rfl 161 #[.int .i64 0, .int .i64 0, .int .i64 0, .int .i64 0, .int .i64 0, .int .i64 0, .int .i64 0] G5.out Ira.out Zra.out Ora.out ?_
        have SX := Lib.hid (SV.out.row g5 ra L5.out)
        have GX := Lib.hid (whole_rowA G5.out ra)
        have GY := Lib.hid (whole_rowO G6.out g5 ra (by have := NE.out; omega))
        refine hK _ _ ⟨SX, ?_⟩
        clear hK K SV G5 G6
        have SV := SX
        have G5 := GX
        have G6 := GY
        clear SX GX GY
        try simp only [Act.put, List.setIfInBounds_toArray, List.set_cons_succ, List.set_cons_zero]
        generalize World.setRow _ g5 ra = wq at SV G5 G6 ⊢
        refine wpAnyH_all (rs := [7]) (by kernel_rfl) (by simp) ?_
        intro ii hii; obtain rfl : ii = 7 := by simpa using hii
        clear hii
        refine wpOp_step rfl (fun K hK => ?_)
        refine wp_store_rowC rfl 161 (.tmp 6) (.tmp 10) rfl g6 rb rfl rfl 161 #[.int .i64 0, .int .i64 0, .int .i64 0, .int .i64 0, .int .i64 0, .int .i64 0, .int .i64 0] G6.out Irb.out Zrb.out Orb.out ?_
        have SX := Lib.hid (SV.out.row g6 rb L6.out)
        have GX := Lib.hid (whole_rowA G6.out rb)
        have GY := Lib.hid (whole_rowO G5.out g6 rb (by have := NE.out; omega))
        refine hK _ _ ⟨SX, ?_⟩
        clear hK K SV G5 G6
        have SV := SX
        have G6 := GX
        have G5 := GY
        clear SX GX GY
        try simp only [Act.put, List.setIfInBounds_toArray, List.set_cons_succ, List.set_cons_zero]
        generalize World.setRow _ g6 rb = wq at SV G5 G6 ⊢
        refine wpAnyH_done (by kernel_rfl) ?_ _
        have HC7 := Lib.hid (fun X (h1 : Whole X g5 161 ra.toList) (h2 : Whole X g6 161 rb.toList) => HCM.out g5 g6 X (HRL1.out ▸ h1) (HRL2.out ▸ h2))
        have HCQ : Hid (∀ n, Calls Try.prog 99 #[.slice (some ⟨g5, 0, none⟩) 7 7, .slice (some ⟨g6, 0, none⟩) 7 7] (wq.drewN n) fun e w1 => e = .returned (.int .i64 c) ∧ w1 = wq.drewN n) := Lib.hid fun n => (HC7.out (wq.drewN n) G5.out G6.out).mono fun _ _ h => ⟨h.1, h.2.symm⟩
        have HGW := Lib.hid (GW.out.trans SV.out)
        clear GW SV KA KB HRA HRB IA IB Ora Orb Ira Irb Zra Zrb HRL1 HRL2 L5 L6 NE HCM
        go_wp2
        go_quiet ((go_at_call 99; exact Calls.quiet_of_same (HCQ.out _)))
        go_wp2
        go_ret
        exact ⟨rfl, HGW.out.drewN _⟩
      · clear hii
        refine wpOp_step rfl (fun K hK => ?_)
        go_simp
        have SX : Hid (Grew W0 (World.alloc v12 (.cells #[.int .i64 0, .int .i64 0, .int .i64 0, .int .i64 0, .int .i64 0, .int .i64 0, .int .i64 0] 161))) := Lib.hid (SV.out.alloc _)
        obtain ⟨g5, hg5⟩ : ∃ g5, (World.heap v12).size = g5 := ⟨_, rfl⟩
        have L5 := Lib.hid (show W0.heap.size ≤ g5 by rw [← hg5]; exact SV.out.lo.size)
        have GX : Hid (Whole (World.alloc v12 (.cells #[.int .i64 0, .int .i64 0, .int .i64 0, .int .i64 0, .int .i64 0, .int .i64 0, .int .i64 0] 161)) g5 161 [.int .i64 0, .int .i64 0, .int .i64 0, .int .i64 0, .int .i64 0, .int .i64 0, .int .i64 0]) := Lib.hid (whole_new _ _ _ _ hg5.symm)
        have GY := Lib.hid (G6.out.alloc (.cells #[.int .i64 0, .int .i64 0, .int .i64 0, .int .i64 0, .int .i64 0, .int .i64 0, .int .i64 0] 161))
        have NE : Hid (g5 ≠ g6) := Lib.hid (by have := G6.out.lt; omega)
        refine hK _ _ ⟨SX, ?_⟩
        rw [hg5]
        clear hK K SV hg5
        have SV := SX
        clear SX
        have G5 := GX
        clear GX
        clear G6
        have G6 := GY
        clear GY
        generalize World.alloc v12 (.cells #[.int .i64 0, .int .i64 0, .int .i64 0, .int .i64 0, .int .i64 0, .int .i64 0, .int .i64 0] 161) = v15 at SV G5 G6 ⊢
        try simp only [Act.put, List.setIfInBounds_toArray, List.set_cons_succ, List.set_cons_zero]
        refine wpAnyH_all (rs := [3]) (by kernel_rfl) (by simp) ?_
        intro ii hii
        obtain rfl : ii = 3 := by simpa using hii
        clear hii
        refine wpOp_step rfl (fun K hK => ?_)
        go_simp
        refine (HRB.out _).mono ?_
        rintro e w16 ⟨rfl, hb16⟩
        have SX : Hid (Grew W0 w16) := Lib.hid (SV.out.trans hb16)
        have GX5 := Lib.hid (G5.out.below hb16.lo G5.out.lt)
        have GX6 := Lib.hid (G6.out.below hb16.lo G6.out.lt)
        refine hK _ _ ⟨SX, ?_⟩
        clear hK K hb16 SV
        have SV := SX
        clear SX
        clear G5
        have G5 := GX5
        clear GX5
        clear G6
        have G6 := GX6
        clear GX6
        try simp only [Act.put, List.setIfInBounds_toArray, List.set_cons_succ, List.set_cons_zero]
        refine wpAnyH_all (rs := [6]) (by kernel_rfl) (by simp) ?_
        intro ii hii; obtain rfl : ii = 6 := by simpa using hii
        clear hii
        refine wpOp_step rfl (fun K hK => ?_)
        refine wp_store_rowC rfl 161 (.tmp 5) (.tmp 8) rfl g5 ra rfl rfl 161 #[.int .i64 0, .int .i64 0, .int .i64 0, .int .i64 0, .int .i64 0, .int .i64 0, .int .i64 0] G5.out Ira.out Zra.out Ora.out ?_
        have SX := Lib.hid (SV.out.row g5 ra L5.out)
        have GX := Lib.hid (whole_rowA G5.out ra)
        have GY := Lib.hid (whole_rowO G6.out g5 ra (by have := NE.out; omega))
        refine hK _ _ ⟨SX, ?_⟩
        clear hK K SV G5 G6
        have SV := SX
        have G5 := GX
        have G6 := GY
        clear SX GX GY
        try simp only [Act.put, List.setIfInBounds_toArray, List.set_cons_succ, List.set_cons_zero]
        generalize World.setRow _ g5 ra = wq at SV G5 G6 ⊢
        refine wpAnyH_all (rs := [7]) (by kernel_rfl) (by simp) ?_
        intro ii hii; obtain rfl : ii = 7 := by simpa using hii
        clear hii
        refine wpOp_step rfl (fun K hK => ?_)
        refine wp_store_rowC rfl 161 (.tmp 6) (.tmp 10) rfl g6 rb rfl rfl 161 #[.int .i64 0, .int .i64 0, .int .i64 0, .int .i64 0, .int .i64 0, .int .i64 0, .int .i64 0] G6.out Irb.out Zrb.out Orb.out ?_
        have SX := Lib.hid (SV.out.row g6 rb L6.out)
        have GX := Lib.hid (whole_rowA G6.out rb)
        have GY := Lib.hid (whole_rowO G5.out g6 rb (by have := NE.out; omega))
        refine hK _ _ ⟨SX, ?_⟩
        clear hK K SV G5 G6
        have SV := SX
        have G6 := GX
        have G5 := GY
        clear SX GX GY
        try simp only [Act.put, List.setIfInBounds_toArray, List.set_cons_succ, List.set_cons_zero]
        generalize World.setRow _ g6 rb = wq at SV G5 G6 ⊢
        refine wpAnyH_done (by kernel_rfl) ?_ _
        have HC7 := Lib.hid (fun X (h1 : Whole X g5 161 ra.toList) (h2 : Whole X g6 161 rb.toList) => HCM.out g5 g6 X (HRL1.out ▸ h1) (HRL2.out ▸ h2))
        have HCQ : Hid (∀ n, Calls Try.prog 99 #[.slice (some ⟨g5, 0, none⟩) 7 7, .slice (some ⟨g6, 0, none⟩) 7 7] (wq.drewN n) fun e w1 => e = .returned (.int .i64 c) ∧ w1 = wq.drewN n) := Lib.hid fun n => (HC7.out (wq.drewN n) G5.out G6.out).mono fun _ _ h => ⟨h.1, h.2.symm⟩
        have HGW := Lib.hid (GW.out.trans SV.out)
        clear GW SV KA KB HRA HRB IA IB Ora Orb Ira Irb Zra Zrb HRL1 HRL2 L5 L6 NE HCM
        go_wp2
        go_quiet ((go_at_call 99; exact Calls.quiet_of_same (HCQ.out _)))
        go_wp2
        go_ret
        exact ⟨rfl, HGW.out.drewN _⟩
  · clear hii
    refine wpOp_step rfl (fun K hK => ?_)
    go_simp
    have SX : Hid (Grew W0 (World.alloc w9 (.cells #[.int .i64 0, .int .i64 0, .int .i64 0, .int .i64 0, .int .i64 0, .int .i64 0, .int .i64 0] 161))) := Lib.hid (SV.out.alloc _)
    obtain ⟨g5, hg5⟩ : ∃ g5, (World.heap w9).size = g5 := ⟨_, rfl⟩
    have L5 := Lib.hid (show W0.heap.size ≤ g5 by rw [← hg5]; exact SV.out.lo.size)
    have GX : Hid (Whole (World.alloc w9 (.cells #[.int .i64 0, .int .i64 0, .int .i64 0, .int .i64 0, .int .i64 0, .int .i64 0, .int .i64 0] 161)) g5 161 [.int .i64 0, .int .i64 0, .int .i64 0, .int .i64 0, .int .i64 0, .int .i64 0, .int .i64 0]) := Lib.hid (whole_new _ _ _ _ hg5.symm)
    refine hK _ _ ⟨SX, ?_⟩
    rw [hg5]
    clear hK K SV hg5
    have SV := SX
    clear SX
    have G5 := GX
    clear GX
    generalize World.alloc w9 (.cells #[.int .i64 0, .int .i64 0, .int .i64 0, .int .i64 0, .int .i64 0, .int .i64 0, .int .i64 0] 161) = v17 at SV G5 ⊢
    try simp only [Act.put, List.setIfInBounds_toArray, List.set_cons_succ, List.set_cons_zero]
    refine wpAnyH_all (rs := [1, 5]) (by kernel_rfl) (by simp) ?_
    intro ii hii
    rcases (show ii = 1 ∨ ii = 5 by simpa using hii) with rfl | rfl
    · clear hii
      refine wpOp_step rfl (fun K hK => ?_)
      go_simp
      refine (HRA.out _).mono ?_
      rintro e w18 ⟨rfl, hb18⟩
      have SX : Hid (Grew W0 w18) := Lib.hid (SV.out.trans hb18)
      have GX5 := Lib.hid (G5.out.below hb18.lo G5.out.lt)
      refine hK _ _ ⟨SX, ?_⟩
      clear hK K hb18 SV
      have SV := SX
      clear SX
      clear G5
      have G5 := GX5
      clear GX5
      try simp only [Act.put, List.setIfInBounds_toArray, List.set_cons_succ, List.set_cons_zero]
      refine wpAnyH_all (rs := [3, 5]) (by kernel_rfl) (by simp) ?_
      intro ii hii
      rcases (show ii = 3 ∨ ii = 5 by simpa using hii) with rfl | rfl
      · clear hii
        refine wpOp_step rfl (fun K hK => ?_)
        go_simp
        refine (HRB.out _).mono ?_
        rintro e w19 ⟨rfl, hb19⟩
        have SX : Hid (Grew W0 w19) := Lib.hid (SV.out.trans hb19)
        have GX5 := Lib.hid (G5.out.below hb19.lo G5.out.lt)
        refine hK _ _ ⟨SX, ?_⟩
        clear hK K hb19 SV
        have SV := SX
        clear SX
        clear G5
        have G5 := GX5
        clear GX5
        try simp only [Act.put, List.setIfInBounds_toArray, List.set_cons_succ, List.set_cons_zero]
        refine wpAnyH_all (rs := [5]) (by kernel_rfl) (by simp) ?_
        intro ii hii
        obtain rfl : ii = 5 := by simpa using hii
        clear hii
        refine wpOp_step rfl (fun K hK => ?_)
        go_simp
        have SX : Hid (Grew W0 (World.alloc w19 (.cells #[.int .i64 0, .int .i64 0, .int .i64 0, .int .i64 0, .int .i64 0, .int .i64 0, .int .i64 0] 161))) := Lib.hid (SV.out.alloc _)
        obtain ⟨g6, hg6⟩ : ∃ g6, (World.heap w19).size = g6 := ⟨_, rfl⟩
        have L6 := Lib.hid (show W0.heap.size ≤ g6 by rw [← hg6]; exact SV.out.lo.size)
        have GX : Hid (Whole (World.alloc w19 (.cells #[.int .i64 0, .int .i64 0, .int .i64 0, .int .i64 0, .int .i64 0, .int .i64 0, .int .i64 0] 161)) g6 161 [.int .i64 0, .int .i64 0, .int .i64 0, .int .i64 0, .int .i64 0, .int .i64 0, .int .i64 0]) := Lib.hid (whole_new _ _ _ _ hg6.symm)
        have GY := Lib.hid (G5.out.alloc (.cells #[.int .i64 0, .int .i64 0, .int .i64 0, .int .i64 0, .int .i64 0, .int .i64 0, .int .i64 0] 161))
        have NE : Hid (g5 ≠ g6) := Lib.hid (by have := G5.out.lt; omega)
        refine hK _ _ ⟨SX, ?_⟩
        rw [hg6]
        clear hK K SV hg6
        have SV := SX
        clear SX
        have G6 := GX
        clear GX
        clear G5
        have G5 := GY
        clear GY
        generalize World.alloc w19 (.cells #[.int .i64 0, .int .i64 0, .int .i64 0, .int .i64 0, .int .i64 0, .int .i64 0, .int .i64 0] 161) = v20 at SV G6 G5 ⊢
        try simp only [Act.put, List.setIfInBounds_toArray, List.set_cons_succ, List.set_cons_zero]
        refine wpAnyH_all (rs := [6]) (by kernel_rfl) (by simp) ?_
        intro ii hii; obtain rfl : ii = 6 := by simpa using hii
        clear hii
        refine wpOp_step rfl (fun K hK => ?_)
        refine wp_store_rowC rfl 161 (.tmp 5) (.tmp 8) rfl g5 ra rfl rfl 161 #[.int .i64 0, .int .i64 0, .int .i64 0, .int .i64 0, .int .i64 0, .int .i64 0, .int .i64 0] G5.out Ira.out Zra.out Ora.out ?_
        have SX := Lib.hid (SV.out.row g5 ra L5.out)
        have GX := Lib.hid (whole_rowA G5.out ra)
        have GY := Lib.hid (whole_rowO G6.out g5 ra (by have := NE.out; omega))
        refine hK _ _ ⟨SX, ?_⟩
        clear hK K SV G5 G6
        have SV := SX
        have G5 := GX
        have G6 := GY
        clear SX GX GY
        try simp only [Act.put, List.setIfInBounds_toArray, List.set_cons_succ, List.set_cons_zero]
        generalize World.setRow _ g5 ra = wq at SV G5 G6 ⊢
        refine wpAnyH_all (rs := [7]) (by kernel_rfl) (by simp) ?_
        intro ii hii; obtain rfl : ii = 7 := by simpa using hii
        clear hii
        refine wpOp_step rfl (fun K hK => ?_)
        refine wp_store_rowC rfl 161 (.tmp 6) (.tmp 10) rfl g6 rb rfl rfl 161 #[.int .i64 0, .int .i64 0, .int .i64 0, .int .i64 0, .int .i64 0, .int .i64 0, .int .i64 0] G6.out Irb.out Zrb.out Orb.out ?_
        have SX := Lib.hid (SV.out.row g6 rb L6.out)
        have GX := Lib.hid (whole_rowA G6.out rb)
        have GY := Lib.hid (whole_rowO G5.out g6 rb (by have := NE.out; omega))
        refine hK _ _ ⟨SX, ?_⟩
        clear hK K SV G5 G6
        have SV := SX
        have G6 := GX
        have G5 := GY
        clear SX GX GY
        try simp only [Act.put, List.setIfInBounds_toArray, List.set_cons_succ, List.set_cons_zero]
        generalize World.setRow _ g6 rb = wq at SV G5 G6 ⊢
        refine wpAnyH_done (by kernel_rfl) ?_ _
        have HC7 := Lib.hid (fun X (h1 : Whole X g5 161 ra.toList) (h2 : Whole X g6 161 rb.toList) => HCM.out g5 g6 X (HRL1.out ▸ h1) (HRL2.out ▸ h2))
        have HCQ : Hid (∀ n, Calls Try.prog 99 #[.slice (some ⟨g5, 0, none⟩) 7 7, .slice (some ⟨g6, 0, none⟩) 7 7] (wq.drewN n) fun e w1 => e = .returned (.int .i64 c) ∧ w1 = wq.drewN n) := Lib.hid fun n => (HC7.out (wq.drewN n) G5.out G6.out).mono fun _ _ h => ⟨h.1, h.2.symm⟩
        have HGW := Lib.hid (GW.out.trans SV.out)
        clear GW SV KA KB HRA HRB IA IB Ora Orb Ira Irb Zra Zrb HRL1 HRL2 L5 L6 NE HCM
        go_wp2
        go_quiet ((go_at_call 99; exact Calls.quiet_of_same (HCQ.out _)))
        go_wp2
        go_ret
        exact ⟨rfl, HGW.out.drewN _⟩
      · clear hii
        refine wpOp_step rfl (fun K hK => ?_)
        go_simp
        have SX : Hid (Grew W0 (World.alloc w18 (.cells #[.int .i64 0, .int .i64 0, .int .i64 0, .int .i64 0, .int .i64 0, .int .i64 0, .int .i64 0] 161))) := Lib.hid (SV.out.alloc _)
        obtain ⟨g6, hg6⟩ : ∃ g6, (World.heap w18).size = g6 := ⟨_, rfl⟩
        have L6 := Lib.hid (show W0.heap.size ≤ g6 by rw [← hg6]; exact SV.out.lo.size)
        have GX : Hid (Whole (World.alloc w18 (.cells #[.int .i64 0, .int .i64 0, .int .i64 0, .int .i64 0, .int .i64 0, .int .i64 0, .int .i64 0] 161)) g6 161 [.int .i64 0, .int .i64 0, .int .i64 0, .int .i64 0, .int .i64 0, .int .i64 0, .int .i64 0]) := Lib.hid (whole_new _ _ _ _ hg6.symm)
        have GY := Lib.hid (G5.out.alloc (.cells #[.int .i64 0, .int .i64 0, .int .i64 0, .int .i64 0, .int .i64 0, .int .i64 0, .int .i64 0] 161))
        have NE : Hid (g5 ≠ g6) := Lib.hid (by have := G5.out.lt; omega)
        refine hK _ _ ⟨SX, ?_⟩
        rw [hg6]
        clear hK K SV hg6
        have SV := SX
        clear SX
        have G6 := GX
        clear GX
        clear G5
        have G5 := GY
        clear GY
        generalize World.alloc w18 (.cells #[.int .i64 0, .int .i64 0, .int .i64 0, .int .i64 0, .int .i64 0, .int .i64 0, .int .i64 0] 161) = v21 at SV G6 G5 ⊢
        try simp only [Act.put, List.setIfInBounds_toArray, List.set_cons_succ, List.set_cons_zero]
        refine wpAnyH_all (rs := [3]) (by kernel_rfl) (by simp) ?_
        intro ii hii
        obtain rfl : ii = 3 := by simpa using hii
        clear hii
        refine wpOp_step rfl (fun K hK => ?_)
        go_simp
        refine (HRB.out _).mono ?_
        rintro e w22 ⟨rfl, hb22⟩
        have SX : Hid (Grew W0 w22) := Lib.hid (SV.out.trans hb22)
        have GX5 := Lib.hid (G5.out.below hb22.lo G5.out.lt)
        have GX6 := Lib.hid (G6.out.below hb22.lo G6.out.lt)
        refine hK _ _ ⟨SX, ?_⟩
        clear hK K hb22 SV
        have SV := SX
        clear SX
        clear G5
        have G5 := GX5
        clear GX5
        clear G6
        have G6 := GX6
        clear GX6
        try simp only [Act.put, List.setIfInBounds_toArray, List.set_cons_succ, List.set_cons_zero]
        refine wpAnyH_all (rs := [6]) (by kernel_rfl) (by simp) ?_
        intro ii hii; obtain rfl : ii = 6 := by simpa using hii
        clear hii
        refine wpOp_step rfl (fun K hK => ?_)
        refine wp_store_rowC rfl 161 (.tmp 5) (.tmp 8) rfl g5 ra rfl rfl 161 #[.int .i64 0, .int .i64 0, .int .i64 0, .int .i64 0, .int .i64 0, .int .i64 0, .int .i64 0] G5.out Ira.out Zra.out Ora.out ?_
        have SX := Lib.hid (SV.out.row g5 ra L5.out)
        have GX := Lib.hid (whole_rowA G5.out ra)
        have GY := Lib.hid (whole_rowO G6.out g5 ra (by have := NE.out; omega))
        refine hK _ _ ⟨SX, ?_⟩
        clear hK K SV G5 G6
        have SV := SX
        have G5 := GX
        have G6 := GY
        clear SX GX GY
        try simp only [Act.put, List.setIfInBounds_toArray, List.set_cons_succ, List.set_cons_zero]
        generalize World.setRow _ g5 ra = wq at SV G5 G6 ⊢
        refine wpAnyH_all (rs := [7]) (by kernel_rfl) (by simp) ?_
        intro ii hii; obtain rfl : ii = 7 := by simpa using hii
        clear hii
        refine wpOp_step rfl (fun K hK => ?_)
        refine wp_store_rowC rfl 161 (.tmp 6) (.tmp 10) rfl g6 rb rfl rfl 161 #[.int .i64 0, .int .i64 0, .int .i64 0, .int .i64 0, .int .i64 0, .int .i64 0, .int .i64 0] G6.out Irb.out Zrb.out Orb.out ?_
        have SX := Lib.hid (SV.out.row g6 rb L6.out)
        have GX := Lib.hid (whole_rowA G6.out rb)
        have GY := Lib.hid (whole_rowO G5.out g6 rb (by have := NE.out; omega))
        refine hK _ _ ⟨SX, ?_⟩
        clear hK K SV G5 G6
        have SV := SX
        have G6 := GX
        have G5 := GY
        clear SX GX GY
        try simp only [Act.put, List.setIfInBounds_toArray, List.set_cons_succ, List.set_cons_zero]
        generalize World.setRow _ g6 rb = wq at SV G5 G6 ⊢
        refine wpAnyH_done (by kernel_rfl) ?_ _
        have HC7 := Lib.hid (fun X (h1 : Whole X g5 161 ra.toList) (h2 : Whole X g6 161 rb.toList) => HCM.out g5 g6 X (HRL1.out ▸ h1) (HRL2.out ▸ h2))
        have HCQ : Hid (∀ n, Calls Try.prog 99 #[.slice (some ⟨g5, 0, none⟩) 7 7, .slice (some ⟨g6, 0, none⟩) 7 7] (wq.drewN n) fun e w1 => e = .returned (.int .i64 c) ∧ w1 = wq.drewN n) := Lib.hid fun n => (HC7.out (wq.drewN n) G5.out G6.out).mono fun _ _ h => ⟨h.1, h.2.symm⟩
        have HGW := Lib.hid (GW.out.trans SV.out)
        clear GW SV KA KB HRA HRB IA IB Ora Orb Ira Irb Zra Zrb HRL1 HRL2 L5 L6 NE HCM
        go_wp2
        go_quiet ((go_at_call 99; exact Calls.quiet_of_same (HCQ.out _)))
        go_wp2
        go_ret
        exact ⟨rfl, HGW.out.drewN _⟩
    · clear hii
      refine wpOp_step rfl (fun K hK => ?_)
      go_simp
      have SX : Hid (Grew W0 (World.alloc v17 (.cells #[.int .i64 0, .int .i64 0, .int .i64 0, .int .i64 0, .int .i64 0, .int .i64 0, .int .i64 0] 161))) := Lib.hid (SV.out.alloc _)
      obtain ⟨g6, hg6⟩ : ∃ g6, (World.heap v17).size = g6 := ⟨_, rfl⟩
      have L6 := Lib.hid (show W0.heap.size ≤ g6 by rw [← hg6]; exact SV.out.lo.size)
      have GX : Hid (Whole (World.alloc v17 (.cells #[.int .i64 0, .int .i64 0, .int .i64 0, .int .i64 0, .int .i64 0, .int .i64 0, .int .i64 0] 161)) g6 161 [.int .i64 0, .int .i64 0, .int .i64 0, .int .i64 0, .int .i64 0, .int .i64 0, .int .i64 0]) := Lib.hid (whole_new _ _ _ _ hg6.symm)
      have GY := Lib.hid (G5.out.alloc (.cells #[.int .i64 0, .int .i64 0, .int .i64 0, .int .i64 0, .int .i64 0, .int .i64 0, .int .i64 0] 161))
      have NE : Hid (g5 ≠ g6) := Lib.hid (by have := G5.out.lt; omega)
      refine hK _ _ ⟨SX, ?_⟩
      rw [hg6]
      clear hK K SV hg6
      have SV := SX
      clear SX
      have G6 := GX
      clear GX
      clear G5
      have G5 := GY
      clear GY
      generalize World.alloc v17 (.cells #[.int .i64 0, .int .i64 0, .int .i64 0, .int .i64 0, .int .i64 0, .int .i64 0, .int .i64 0] 161) = v23 at SV G6 G5 ⊢
      try simp only [Act.put, List.setIfInBounds_toArray, List.set_cons_succ, List.set_cons_zero]
      refine wpAnyH_all (rs := [1]) (by kernel_rfl) (by simp) ?_
      intro ii hii
      obtain rfl : ii = 1 := by simpa using hii
      clear hii
      refine wpOp_step rfl (fun K hK => ?_)
      go_simp
      refine (HRA.out _).mono ?_
      rintro e w24 ⟨rfl, hb24⟩
      have SX : Hid (Grew W0 w24) := Lib.hid (SV.out.trans hb24)
      have GX5 := Lib.hid (G5.out.below hb24.lo G5.out.lt)
      have GX6 := Lib.hid (G6.out.below hb24.lo G6.out.lt)
      refine hK _ _ ⟨SX, ?_⟩
      clear hK K hb24 SV
      have SV := SX
      clear SX
      clear G5
      have G5 := GX5
      clear GX5
      clear G6
      have G6 := GX6
      clear GX6
      try simp only [Act.put, List.setIfInBounds_toArray, List.set_cons_succ, List.set_cons_zero]
      refine wpAnyH_all (rs := [3]) (by kernel_rfl) (by simp) ?_
      intro ii hii
      obtain rfl : ii = 3 := by simpa using hii
      clear hii
      refine wpOp_step rfl (fun K hK => ?_)
      go_simp
      refine (HRB.out _).mono ?_
      rintro e w25 ⟨rfl, hb25⟩
      have SX : Hid (Grew W0 w25) := Lib.hid (SV.out.trans hb25)
      have GX5 := Lib.hid (G5.out.below hb25.lo G5.out.lt)
      have GX6 := Lib.hid (G6.out.below hb25.lo G6.out.lt)
      refine hK _ _ ⟨SX, ?_⟩
      clear hK K hb25 SV
      have SV := SX
      clear SX
      clear G5
      have G5 := GX5
      clear GX5
      clear G6
      have G6 := GX6
      clear GX6
      try simp only [Act.put, List.setIfInBounds_toArray, List.set_cons_succ, List.set_cons_zero]
      refine wpAnyH_all (rs := [6]) (by kernel_rfl) (by simp) ?_
      intro ii hii; obtain rfl : ii = 6 := by simpa using hii
      clear hii
      refine wpOp_step rfl (fun K hK => ?_)
      refine wp_store_rowC rfl 161 (.tmp 5) (.tmp 8) rfl g5 ra rfl rfl 161 #[.int .i64 0, .int .i64 0, .int .i64 0, .int .i64 0, .int .i64 0, .int .i64 0, .int .i64 0] G5.out Ira.out Zra.out Ora.out ?_
      have SX := Lib.hid (SV.out.row g5 ra L5.out)
      have GX := Lib.hid (whole_rowA G5.out ra)
      have GY := Lib.hid (whole_rowO G6.out g5 ra (by have := NE.out; omega))
      refine hK _ _ ⟨SX, ?_⟩
      clear hK K SV G5 G6
      have SV := SX
      have G5 := GX
      have G6 := GY
      clear SX GX GY
      try simp only [Act.put, List.setIfInBounds_toArray, List.set_cons_succ, List.set_cons_zero]
      generalize World.setRow _ g5 ra = wq at SV G5 G6 ⊢
      refine wpAnyH_all (rs := [7]) (by kernel_rfl) (by simp) ?_
      intro ii hii; obtain rfl : ii = 7 := by simpa using hii
      clear hii
      refine wpOp_step rfl (fun K hK => ?_)
      refine wp_store_rowC rfl 161 (.tmp 6) (.tmp 10) rfl g6 rb rfl rfl 161 #[.int .i64 0, .int .i64 0, .int .i64 0, .int .i64 0, .int .i64 0, .int .i64 0, .int .i64 0] G6.out Irb.out Zrb.out Orb.out ?_
      have SX := Lib.hid (SV.out.row g6 rb L6.out)
      have GX := Lib.hid (whole_rowA G6.out rb)
      have GY := Lib.hid (whole_rowO G5.out g6 rb (by have := NE.out; omega))
      refine hK _ _ ⟨SX, ?_⟩
      clear hK K SV G5 G6
      have SV := SX
      have G6 := GX
      have G5 := GY
      clear SX GX GY
      try simp only [Act.put, List.setIfInBounds_toArray, List.set_cons_succ, List.set_cons_zero]
      generalize World.setRow _ g6 rb = wq at SV G5 G6 ⊢
      refine wpAnyH_done (by kernel_rfl) ?_ _
      have HC7 := Lib.hid (fun X (h1 : Whole X g5 161 ra.toList) (h2 : Whole X g6 161 rb.toList) => HCM.out g5 g6 X (HRL1.out ▸ h1) (HRL2.out ▸ h2))
      have HCQ : Hid (∀ n, Calls Try.prog 99 #[.slice (some ⟨g5, 0, none⟩) 7 7, .slice (some ⟨g6, 0, none⟩) 7 7] (wq.drewN n) fun e w1 => e = .returned (.int .i64 c) ∧ w1 = wq.drewN n) := Lib.hid fun n => (HC7.out (wq.drewN n) G5.out G6.out).mono fun _ _ h => ⟨h.1, h.2.symm⟩
      have HGW := Lib.hid (GW.out.trans SV.out)
      clear GW SV KA KB HRA HRB IA IB Ora Orb Ira Irb Zra Zrb HRL1 HRL2 L5 L6 NE HCM
      go_wp2
      go_quiet ((go_at_call 99; exact Calls.quiet_of_same (HCQ.out _)))
      go_wp2
      go_ret
      exact ⟨rfl, HGW.out.drewN _⟩
  · clear hii
    refine wpOp_step rfl (fun K hK => ?_)
    go_simp
    have SX : Hid (Grew W0 (World.alloc w9 (.cells #[.int .i64 0, .int .i64 0, .int .i64 0, .int .i64 0, .int .i64 0, .int .i64 0, .int .i64 0] 161))) := Lib.hid (SV.out.alloc _)
    obtain ⟨g6, hg6⟩ : ∃ g6, (World.heap w9).size = g6 := ⟨_, rfl⟩
    have L6 := Lib.hid (show W0.heap.size ≤ g6 by rw [← hg6]; exact SV.out.lo.size)
    have GX : Hid (Whole (World.alloc w9 (.cells #[.int .i64 0, .int .i64 0, .int .i64 0, .int .i64 0, .int .i64 0, .int .i64 0, .int .i64 0] 161)) g6 161 [.int .i64 0, .int .i64 0, .int .i64 0, .int .i64 0, .int .i64 0, .int .i64 0, .int .i64 0]) := Lib.hid (whole_new _ _ _ _ hg6.symm)
    refine hK _ _ ⟨SX, ?_⟩
    rw [hg6]
    clear hK K SV hg6
    have SV := SX
    clear SX
    have G6 := GX
    clear GX
    generalize World.alloc w9 (.cells #[.int .i64 0, .int .i64 0, .int .i64 0, .int .i64 0, .int .i64 0, .int .i64 0, .int .i64 0] 161) = v26 at SV G6 ⊢
    try simp only [Act.put, List.setIfInBounds_toArray, List.set_cons_succ, List.set_cons_zero]
    refine wpAnyH_all (rs := [1, 4]) (by kernel_rfl) (by simp) ?_
    intro ii hii
    rcases (show ii = 1 ∨ ii = 4 by simpa using hii) with rfl | rfl
    · clear hii
      refine wpOp_step rfl (fun K hK => ?_)
      go_simp
      refine (HRA.out _).mono ?_
      rintro e w27 ⟨rfl, hb27⟩
      have SX : Hid (Grew W0 w27) := Lib.hid (SV.out.trans hb27)
      have GX6 := Lib.hid (G6.out.below hb27.lo G6.out.lt)
      refine hK _ _ ⟨SX, ?_⟩
      clear hK K hb27 SV
      have SV := SX
      clear SX
      clear G6
      have G6 := GX6
      clear GX6
      try simp only [Act.put, List.setIfInBounds_toArray, List.set_cons_succ, List.set_cons_zero]
      refine wpAnyH_all (rs := [3, 4]) (by kernel_rfl) (by simp) ?_
      intro ii hii
      rcases (show ii = 3 ∨ ii = 4 by simpa using hii) with rfl | rfl
      · clear hii
        refine wpOp_step rfl (fun K hK => ?_)
        go_simp
        refine (HRB.out _).mono ?_
        rintro e w28 ⟨rfl, hb28⟩
        have SX : Hid (Grew W0 w28) := Lib.hid (SV.out.trans hb28)
        have GX6 := Lib.hid (G6.out.below hb28.lo G6.out.lt)
        refine hK _ _ ⟨SX, ?_⟩
        clear hK K hb28 SV
        have SV := SX
        clear SX
        clear G6
        have G6 := GX6
        clear GX6
        try simp only [Act.put, List.setIfInBounds_toArray, List.set_cons_succ, List.set_cons_zero]
        refine wpAnyH_all (rs := [4]) (by kernel_rfl) (by simp) ?_
        intro ii hii
        obtain rfl : ii = 4 := by simpa using hii
        clear hii
        refine wpOp_step rfl (fun K hK => ?_)
        go_simp
        have SX : Hid (Grew W0 (World.alloc w28 (.cells #[.int .i64 0, .int .i64 0, .int .i64 0, .int .i64 0, .int .i64 0, .int .i64 0, .int .i64 0] 161))) := Lib.hid (SV.out.alloc _)
        obtain ⟨g5, hg5⟩ : ∃ g5, (World.heap w28).size = g5 := ⟨_, rfl⟩
        have L5 := Lib.hid (show W0.heap.size ≤ g5 by rw [← hg5]; exact SV.out.lo.size)
        have GX : Hid (Whole (World.alloc w28 (.cells #[.int .i64 0, .int .i64 0, .int .i64 0, .int .i64 0, .int .i64 0, .int .i64 0, .int .i64 0] 161)) g5 161 [.int .i64 0, .int .i64 0, .int .i64 0, .int .i64 0, .int .i64 0, .int .i64 0, .int .i64 0]) := Lib.hid (whole_new _ _ _ _ hg5.symm)
        have GY := Lib.hid (G6.out.alloc (.cells #[.int .i64 0, .int .i64 0, .int .i64 0, .int .i64 0, .int .i64 0, .int .i64 0, .int .i64 0] 161))
        have NE : Hid (g5 ≠ g6) := Lib.hid (by have := G6.out.lt; omega)
        refine hK _ _ ⟨SX, ?_⟩
        rw [hg5]
        clear hK K SV hg5
        have SV := SX
        clear SX
        have G5 := GX
        clear GX
        clear G6
        have G6 := GY
        clear GY
        generalize World.alloc w28 (.cells #[.int .i64 0, .int .i64 0, .int .i64 0, .int .i64 0, .int .i64 0, .int .i64 0, .int .i64 0] 161) = v29 at SV G5 G6 ⊢
        try simp only [Act.put, List.setIfInBounds_toArray, List.set_cons_succ, List.set_cons_zero]
        refine wpAnyH_all (rs := [6]) (by kernel_rfl) (by simp) ?_
        intro ii hii; obtain rfl : ii = 6 := by simpa using hii
        clear hii
        refine wpOp_step rfl (fun K hK => ?_)
        refine wp_store_rowC rfl 161 (.tmp 5) (.tmp 8) rfl g5 ra rfl rfl 161 #[.int .i64 0, .int .i64 0, .int .i64 0, .int .i64 0, .int .i64 0, .int .i64 0, .int .i64 0] G5.out Ira.out Zra.out Ora.out ?_
        have SX := Lib.hid (SV.out.row g5 ra L5.out)
        have GX := Lib.hid (whole_rowA G5.out ra)
        have GY := Lib.hid (whole_rowO G6.out g5 ra (by have := NE.out; omega))
        refine hK _ _ ⟨SX, ?_⟩
        clear hK K SV G5 G6
        have SV := SX
        have G5 := GX
        have G6 := GY
        clear SX GX GY
        try simp only [Act.put, List.setIfInBounds_toArray, List.set_cons_succ, List.set_cons_zero]
        generalize World.setRow _ g5 ra = wq at SV G5 G6 ⊢
        refine wpAnyH_all (rs := [7]) (by kernel_rfl) (by simp) ?_
        intro ii hii; obtain rfl : ii = 7 := by simpa using hii
        clear hii
        refine wpOp_step rfl (fun K hK => ?_)
        refine wp_store_rowC rfl 161 (.tmp 6) (.tmp 10) rfl g6 rb rfl rfl 161 #[.int .i64 0, .int .i64 0, .int .i64 0, .int .i64 0, .int .i64 0, .int .i64 0, .int .i64 0] G6.out Irb.out Zrb.out Orb.out ?_
        have SX := Lib.hid (SV.out.row g6 rb L6.out)
        have GX := Lib.hid (whole_rowA G6.out rb)
        have GY := Lib.hid (whole_rowO G5.out g6 rb (by have := NE.out; omega))
        refine hK _ _ ⟨SX, ?_⟩
        clear hK K SV G5 G6
        have SV := SX
        have G6 := GX
        have G5 := GY
        clear SX GX GY
        try simp only [Act.put, List.setIfInBounds_toArray, List.set_cons_succ, List.set_cons_zero]
        generalize World.setRow _ g6 rb = wq at SV G5 G6 ⊢
        refine wpAnyH_done (by kernel_rfl) ?_ _
        have HC7 := Lib.hid (fun X (h1 : Whole X g5 161 ra.toList) (h2 : Whole X g6 161 rb.toList) => HCM.out g5 g6 X (HRL1.out ▸ h1) (HRL2.out ▸ h2))
        have HCQ : Hid (∀ n, Calls Try.prog 99 #[.slice (some ⟨g5, 0, none⟩) 7 7, .slice (some ⟨g6, 0, none⟩) 7 7] (wq.drewN n) fun e w1 => e = .returned (.int .i64 c) ∧ w1 = wq.drewN n) := Lib.hid fun n => (HC7.out (wq.drewN n) G5.out G6.out).mono fun _ _ h => ⟨h.1, h.2.symm⟩
        have HGW := Lib.hid (GW.out.trans SV.out)
        clear GW SV KA KB HRA HRB IA IB Ora Orb Ira Irb Zra Zrb HRL1 HRL2 L5 L6 NE HCM
        go_wp2
        go_quiet ((go_at_call 99; exact Calls.quiet_of_same (HCQ.out _)))
        go_wp2
        go_ret
        exact ⟨rfl, HGW.out.drewN _⟩
      · clear hii
        refine wpOp_step rfl (fun K hK => ?_)
        go_simp
        have SX : Hid (Grew W0 (World.alloc w27 (.cells #[.int .i64 0, .int .i64 0, .int .i64 0, .int .i64 0, .int .i64 0, .int .i64 0, .int .i64 0] 161))) := Lib.hid (SV.out.alloc _)
        obtain ⟨g5, hg5⟩ : ∃ g5, (World.heap w27).size = g5 := ⟨_, rfl⟩
        have L5 := Lib.hid (show W0.heap.size ≤ g5 by rw [← hg5]; exact SV.out.lo.size)
        have GX : Hid (Whole (World.alloc w27 (.cells #[.int .i64 0, .int .i64 0, .int .i64 0, .int .i64 0, .int .i64 0, .int .i64 0, .int .i64 0] 161)) g5 161 [.int .i64 0, .int .i64 0, .int .i64 0, .int .i64 0, .int .i64 0, .int .i64 0, .int .i64 0]) := Lib.hid (whole_new _ _ _ _ hg5.symm)
        have GY := Lib.hid (G6.out.alloc (.cells #[.int .i64 0, .int .i64 0, .int .i64 0, .int .i64 0, .int .i64 0, .int .i64 0, .int .i64 0] 161))
        have NE : Hid (g5 ≠ g6) := Lib.hid (by have := G6.out.lt; omega)
        refine hK _ _ ⟨SX, ?_⟩
        rw [hg5]
        clear hK K SV hg5
        have SV := SX
        clear SX
        have G5 := GX
        clear GX
        clear G6
        have G6 := GY
        clear GY
        generalize World.alloc w27 (.cells #[.int .i64 0, .int .i64 0, .int .i64 0, .int .i64 0, .int .i64 0, .int .i64 0, .int .i64 0] 161) = v30 at SV G5 G6 ⊢
        try simp only [Act.put, List.setIfInBounds_toArray, List.set_cons_succ, List.set_cons_zero]
        refine wpAnyH_all (rs := [3]) (by kernel_rfl) (by simp) ?_
        intro ii hii
        obtain rfl : ii = 3 := by simpa using hii
        clear hii
        refine wpOp_step rfl (fun K hK => ?_)
        go_simp
        refine (HRB.out _).mono ?_
        rintro e w31 ⟨rfl, hb31⟩
        have SX : Hid (Grew W0 w31) := Lib.hid (SV.out.trans hb31)
        have GX5 := Lib.hid (G5.out.below hb31.lo G5.out.lt)
        have GX6 := Lib.hid (G6.out.below hb31.lo G6.out.lt)
        refine hK _ _ ⟨SX, ?_⟩
        clear hK K hb31 SV
        have SV := SX
        clear SX
        clear G5
        have G5 := GX5
        clear GX5
        clear G6
        have G6 := GX6
        clear GX6
        try simp only [Act.put, List.setIfInBounds_toArray, List.set_cons_succ, List.set_cons_zero]
        refine wpAnyH_all (rs := [6]) (by kernel_rfl) (by simp) ?_
        intro ii hii; obtain rfl : ii = 6 := by simpa using hii
        clear hii
        refine wpOp_step rfl (fun K hK => ?_)
        refine wp_store_rowC rfl 161 (.tmp 5) (.tmp 8) rfl g5 ra rfl rfl 161 #[.int .i64 0, .int .i64 0, .int .i64 0, .int .i64 0, .int .i64 0, .int .i64 0, .int .i64 0] G5.out Ira.out Zra.out Ora.out ?_
        have SX := Lib.hid (SV.out.row g5 ra L5.out)
        have GX := Lib.hid (whole_rowA G5.out ra)
        have GY := Lib.hid (whole_rowO G6.out g5 ra (by have := NE.out; omega))
        refine hK _ _ ⟨SX, ?_⟩
        clear hK K SV G5 G6
        have SV := SX
        have G5 := GX
        have G6 := GY
        clear SX GX GY
        try simp only [Act.put, List.setIfInBounds_toArray, List.set_cons_succ, List.set_cons_zero]
        generalize World.setRow _ g5 ra = wq at SV G5 G6 ⊢
        refine wpAnyH_all (rs := [7]) (by kernel_rfl) (by simp) ?_
        intro ii hii; obtain rfl : ii = 7 := by simpa using hii
        clear hii
        refine wpOp_step rfl (fun K hK => ?_)
        refine wp_store_rowC rfl 161 (.tmp 6) (.tmp 10) rfl g6 rb rfl rfl 161 #[.int .i64 0, .int .i64 0, .int .i64 0, .int .i64 0, .int .i64 0, .int .i64 0, .int .i64 0] G6.out Irb.out Zrb.out Orb.out ?_
        have SX := Lib.hid (SV.out.row g6 rb L6.out)
        have GX := Lib.hid (whole_rowA G6.out rb)
        have GY := Lib.hid (whole_rowO G5.out g6 rb (by have := NE.out; omega))
        refine hK _ _ ⟨SX, ?_⟩
        clear hK K SV G5 G6
        have SV := SX
        have G6 := GX
        have G5 := GY
        clear SX GX GY
        try simp only [Act.put, List.setIfInBounds_toArray, List.set_cons_succ, List.set_cons_zero]
        generalize World.setRow _ g6 rb = wq at SV G5 G6 ⊢
        refine wpAnyH_done (by kernel_rfl) ?_ _
        have HC7 := Lib.hid (fun X (h1 : Whole X g5 161 ra.toList) (h2 : Whole X g6 161 rb.toList) => HCM.out g5 g6 X (HRL1.out ▸ h1) (HRL2.out ▸ h2))
        have HCQ : Hid (∀ n, Calls Try.prog 99 #[.slice (some ⟨g5, 0, none⟩) 7 7, .slice (some ⟨g6, 0, none⟩) 7 7] (wq.drewN n) fun e w1 => e = .returned (.int .i64 c) ∧ w1 = wq.drewN n) := Lib.hid fun n => (HC7.out (wq.drewN n) G5.out G6.out).mono fun _ _ h => ⟨h.1, h.2.symm⟩
        have HGW := Lib.hid (GW.out.trans SV.out)
        clear GW SV KA KB HRA HRB IA IB Ora Orb Ira Irb Zra Zrb HRL1 HRL2 L5 L6 NE HCM
        go_wp2
        go_quiet ((go_at_call 99; exact Calls.quiet_of_same (HCQ.out _)))
        go_wp2
        go_ret
        exact ⟨rfl, HGW.out.drewN _⟩
    · clear hii
      refine wpOp_step rfl (fun K hK => ?_)
      go_simp
      have SX : Hid (Grew W0 (World.alloc v26 (.cells #[.int .i64 0, .int .i64 0, .int .i64 0, .int .i64 0, .int .i64 0, .int .i64 0, .int .i64 0] 161))) := Lib.hid (SV.out.alloc _)
      obtain ⟨g5, hg5⟩ : ∃ g5, (World.heap v26).size = g5 := ⟨_, rfl⟩
      have L5 := Lib.hid (show W0.heap.size ≤ g5 by rw [← hg5]; exact SV.out.lo.size)
      have GX : Hid (Whole (World.alloc v26 (.cells #[.int .i64 0, .int .i64 0, .int .i64 0, .int .i64 0, .int .i64 0, .int .i64 0, .int .i64 0] 161)) g5 161 [.int .i64 0, .int .i64 0, .int .i64 0, .int .i64 0, .int .i64 0, .int .i64 0, .int .i64 0]) := Lib.hid (whole_new _ _ _ _ hg5.symm)
      have GY := Lib.hid (G6.out.alloc (.cells #[.int .i64 0, .int .i64 0, .int .i64 0, .int .i64 0, .int .i64 0, .int .i64 0, .int .i64 0] 161))
      have NE : Hid (g5 ≠ g6) := Lib.hid (by have := G6.out.lt; omega)
      refine hK _ _ ⟨SX, ?_⟩
      rw [hg5]
      clear hK K SV hg5
      have SV := SX
      clear SX
      have G5 := GX
      clear GX
      clear G6
      have G6 := GY
      clear GY
      generalize World.alloc v26 (.cells #[.int .i64 0, .int .i64 0, .int .i64 0, .int .i64 0, .int .i64 0, .int .i64 0, .int .i64 0] 161) = v32 at SV G5 G6 ⊢
      try simp only [Act.put, List.setIfInBounds_toArray, List.set_cons_succ, List.set_cons_zero]
      refine wpAnyH_all (rs := [1]) (by kernel_rfl) (by simp) ?_
      intro ii hii
      obtain rfl : ii = 1 := by simpa using hii
      clear hii
      refine wpOp_step rfl (fun K hK => ?_)
      go_simp
      refine (HRA.out _).mono ?_
      rintro e w33 ⟨rfl, hb33⟩
      have SX : Hid (Grew W0 w33) := Lib.hid (SV.out.trans hb33)
      have GX5 := Lib.hid (G5.out.below hb33.lo G5.out.lt)
      have GX6 := Lib.hid (G6.out.below hb33.lo G6.out.lt)
      refine hK _ _ ⟨SX, ?_⟩
      clear hK K hb33 SV
      have SV := SX
      clear SX
      clear G5
      have G5 := GX5
      clear GX5
      clear G6
      have G6 := GX6
      clear GX6
      try simp only [Act.put, List.setIfInBounds_toArray, List.set_cons_succ, List.set_cons_zero]
      refine wpAnyH_all (rs := [3]) (by kernel_rfl) (by simp) ?_
      intro ii hii
      obtain rfl : ii = 3 := by simpa using hii
      clear hii
      refine wpOp_step rfl (fun K hK => ?_)
      go_simp
      refine (HRB.out _).mono ?_
      rintro e w34 ⟨rfl, hb34⟩
      have SX : Hid (Grew W0 w34) := Lib.hid (SV.out.trans hb34)
      have GX5 := Lib.hid (G5.out.below hb34.lo G5.out.lt)
      have GX6 := Lib.hid (G6.out.below hb34.lo G6.out.lt)
      refine hK _ _ ⟨SX, ?_⟩
      clear hK K hb34 SV
      have SV := SX
      clear SX
      clear G5
      have G5 := GX5
      clear GX5
      clear G6
      have G6 := GX6
      clear GX6
      try simp only [Act.put, List.setIfInBounds_toArray, List.set_cons_succ, List.set_cons_zero]
      refine wpAnyH_all (rs := [6]) (by kernel_rfl) (by simp) ?_
      intro ii hii; obtain rfl : ii = 6 := by simpa using hii
      clear hii
      refine wpOp_step rfl (fun K hK => ?_)
      refine wp_store_rowC rfl 161 (.tmp 5) (.tmp 8) rfl g5 ra rfl rfl 161 #[.int .i64 0, .int .i64 0, .int .i64 0, .int .i64 0, .int .i64 0, .int .i64 0, .int .i64 0] G5.out Ira.out Zra.out Ora.out ?_
      have SX := Lib.hid (SV.out.row g5 ra L5.out)
      have GX := Lib.hid (whole_rowA G5.out ra)
      have GY := Lib.hid (whole_rowO G6.out g5 ra (by have := NE.out; omega))
      refine hK _ _ ⟨SX, ?_⟩
      clear hK K SV G5 G6
      have SV := SX
      have G5 := GX
      have G6 := GY
      clear SX GX GY
      try simp only [Act.put, List.setIfInBounds_toArray, List.set_cons_succ, List.set_cons_zero]
      generalize World.setRow _ g5 ra = wq at SV G5 G6 ⊢
      refine wpAnyH_all (rs := [7]) (by kernel_rfl) (by simp) ?_
      intro ii hii; obtain rfl : ii = 7 := by simpa using hii
      clear hii
      refine wpOp_step rfl (fun K hK => ?_)
      refine wp_store_rowC rfl 161 (.tmp 6) (.tmp 10) rfl g6 rb rfl rfl 161 #[.int .i64 0, .int .i64 0, .int .i64 0, .int .i64 0, .int .i64 0, .int .i64 0, .int .i64 0] G6.out Irb.out Zrb.out Orb.out ?_
      have SX := Lib.hid (SV.out.row g6 rb L6.out)
      have GX := Lib.hid (whole_rowA G6.out rb)
      have GY := Lib.hid (whole_rowO G5.out g6 rb (by have := NE.out; omega))
      refine hK _ _ ⟨SX, ?_⟩
      clear hK K SV G5 G6
      have SV := SX
      have G6 := GX
      have G5 := GY
      clear SX GX GY
      try simp only [Act.put, List.setIfInBounds_toArray, List.set_cons_succ, List.set_cons_zero]
      generalize World.setRow _ g6 rb = wq at SV G5 G6 ⊢
      refine wpAnyH_done (by kernel_rfl) ?_ _
      have HC7 := Lib.hid (fun X (h1 : Whole X g5 161 ra.toList) (h2 : Whole X g6 161 rb.toList) => HCM.out g5 g6 X (HRL1.out ▸ h1) (HRL2.out ▸ h2))
      have HCQ : Hid (∀ n, Calls Try.prog 99 #[.slice (some ⟨g5, 0, none⟩) 7 7, .slice (some ⟨g6, 0, none⟩) 7 7] (wq.drewN n) fun e w1 => e = .returned (.int .i64 c) ∧ w1 = wq.drewN n) := Lib.hid fun n => (HC7.out (wq.drewN n) G5.out G6.out).mono fun _ _ h => ⟨h.1, h.2.symm⟩
      have HGW := Lib.hid (GW.out.trans SV.out)
      clear GW SV KA KB HRA HRB IA IB Ora Orb Ira Irb Zra Zrb HRL1 HRL2 L5 L6 NE HCM
      go_wp2
      go_quiet ((go_at_call 99; exact Calls.quiet_of_same (HCQ.out _)))
      go_wp2
      go_ret
      exact ⟨rfl, HGW.out.drewN _⟩
end Go.Proofs.Ytceippgkmoijdaa
