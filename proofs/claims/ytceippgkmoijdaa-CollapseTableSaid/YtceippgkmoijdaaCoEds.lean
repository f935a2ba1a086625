/- Contract of collapse.Edges. Written by mk_CoEds.py. -/
import Derived.Test.YtceippgkmoijdaaCoRq
namespace Go.Proofs.Ytceippgkmoijdaa
open Go.RowKit Go.Shelf Go.Sort Go.Maps
set_option linter.unusedVariables false
set_option linter.unusedSimpArgs false
attribute [local go_sem] Oper.semAt_some

theorem Try.infoNetN : (Try.prog.info? 64).map (·.size) = some 3 := by kernel_rfl
theorem Fm.cells_len (f : Fm) (v : FmV) : (f.cells v).length = 20 := by simp [Fm.cells, Fr.cells, Li.cells]
/-- what stands while Edges goes on: the framing, and its box -/
structure EdM (f : Fm) (v : FmV) (W X : World) : Prop where
  at' : FmAt X f v
  box : Whole X W.heap.size 30 (f.cells v)
  be : Below W.heap.size W X
theorem EdM.below {f : Fm} {v : FmV} {W X Y : World} (h : EdM f v W X) (hb : Below X.heap.size X Y) : EdM f v W Y := ⟨h.at'.below hb, h.box.below hb h.box.lt, h.be.trans (hb.mono h.be.size)⟩
set_option maxRecDepth 100000 in
set_option maxHeartbeats 8000000 in
theorem edges_no (f : Fm) (v : FmV) (W : World) (hf : FmAt W f v) (hok : ¬ okF f) :
    Calls Try.prog 18 #[f.val v] W fun e X => e = .returned (.tuple #[.slice none 0 0, .int .i64 120]) ∧ Below W.heap.size W X := by
  have HN := Lib.hid (fun X (hX : Below W.heap.size W X) => (fa_net (hf.below hX)).mono (R' := fun e X' => (∃ r k p n c, e = .returned (.tuple #[.agg #[.int .i64 r, .int .i64 k, .slice p n c], .bool false])) ∧ Below X.heap.size X X') (fun e X' h => ⟨by
    rcases h.1 with ⟨h1, _⟩ | ⟨_, r, k, p, n, c, h1⟩
    · exact absurd h1 hok
    · exact ⟨r, k, p, n, c, h1⟩, h.2⟩))
  have M0 : Hid (EdM f v W (W.alloc (.cells (f.cells v).toArray 30))) := Lib.hid ⟨hf.below ((Below.refl _ W).alloc (Nat.le_refl _) _), whole_new W _ 30 _ rfl, (Below.refl _ W).alloc (Nat.le_refl _) _⟩
  have hl := Fm.cells_len f v
  unfold Fm.val at HN ⊢
  obtain ⟨fl, hfl⟩ : ∃ fl, f.cells v = fl := ⟨_, rfl⟩
  rw [hfl] at HN hl
  have HFL := Lib.hid hfl
  rw [hfl]
  have IFA : Hid ((Try.prog.info? 30).map (·.size) = some fl.toArray.size) := Lib.hid (by rw [List.size_toArray, hl]; kernel_rfl)
  rw [hfl] at M0
  obtain ⟨fa, hfa⟩ : ∃ fa, fl.toArray = fa := ⟨_, rfl⟩
  rw [hfa] at HN IFA M0
  rw [hfa]
  have HFA := Lib.hid hfa
  clear hfl hfa hl
  go_enter Try.func18, Try.ntmps18
  have LF : Hid (∀ j u, fa[j]? = some u → (W.alloc (.cells fa 30)).cell? ((⟨W.heap.size, 0, none⟩ : Addr).add j) = some u) := Lib.hid ((whole_arr (HFL.out ▸ M0.out.box) HFA.out).loads)
  go_wp2_with (first
    | (refine wpList_loadC rfl 30 (.tmp 1) rfl ⟨W.heap.size, 0, none⟩ rfl fa _ LF.out Try.underlying30 rfl IFA.out ?_)
    | (go_at_call 23; refine (HN.out _ M0.out.be).mono ?_; rintro e w1 ⟨⟨r, k, p, n, c, rfl⟩, hb⟩; have B1 := Lib.hid (M0.out.be.trans (hb.mono M0.out.be.size)); clear hb LF)
    | fail)
  refine bodyPost_ret (v := .tuple #[.slice none 0 0, .int .i64 120]) (by simp [results, Try.func18, go_sem]) rfl ⟨rfl, ?_⟩
  exact B1.out.alloc B1.out.size _

theorem course_len (f : Fm) (rn kn : Nat) (hh : HueF f rn kn) : (courseE true f rn kn).length ≤ 20000 ∧ (courseE false f rn kn).length ≤ 20000 := by
  have hrl := hh.rl
  have hkl := hh.kl
  have h1 : (rn + 1) * kn ≤ 101 * 100 := Nat.mul_le_mul (by omega) hkl
  have h2 : rn * (kn + 1) ≤ 100 * 101 := Nat.mul_le_mul hrl (by omega)
  unfold courseE
  rw [List.length_map, List.length_map]
  have e1 := edT_len (edF true f.ps rn kn) (edC true rn kn) (edR true rn kn) 0
  have e2 := edT_len (edF false f.ps rn kn) (edC false rn kn) (edR false rn kn) 0
  have e3 : edR true rn kn * edC true rn kn = (rn + 1) * kn := rfl
  have e4 : edR false rn kn * edC false rn kn = rn * (kn + 1) := rfl
  omega
/-- the two courses have been laid -/
structure R5P (w5 : World) (rn kn : Nat) (p : Option Addr) (c : Nat) (g8 g9 ga gb : Nat) (X : World) : Prop where
  k8 : Whole X g8 70 (crs true rn kn ga)
  k9 : Whole X g9 70 (crs false rn kn gb)
  na : Whole X ga 64 (NetV rn kn p c)
  nb : Whole X gb 64 (NetV rn kn p c)
  be : Below w5.heap.size w5 X
set_option maxRecDepth 100000 in
set_option maxHeartbeats 8000000 in
theorem edges_ok (f : Fm) (v : FmV) (rn kn : Nat) (W : World) (hf : FmAt W f v) (hok : okF f) (hh : HueF f rn kn) :
    Calls Try.prog 18 #[f.val v] W fun e X => ∃ u, e = .returned (.tuple #[u, .int .i64 0]) ∧ RowsK Ed.cells 10 X u (edgesP f rn kn) ∧ Below W.heap.size W X := by
  have hrt : f.rows.toNat = rn := by rw [hh.rows]; omega
  have hkt : f.cols.toNat = kn := by rw [hh.cols]; omega
  have HN := Lib.hid (fun X (hX : Below W.heap.size W X) => (fa_net (hf.below hX)).mono (R' := fun e X' => (∃ p c, e = .returned (.tuple #[.agg #[.int .i64 (rn : Int), .int .i64 (kn : Int), .slice p rn c], .bool true]) ∧ RowsZ X' (.slice p rn c) (ownM f.ps rn kn)) ∧ Below X.heap.size X X') (fun e X' h => ⟨by
    rcases h.1 with ⟨_, p, c, h1, h2⟩ | ⟨h1, _⟩
    · rw [hrt] at h1 h2
      rw [hkt] at h2
      rw [hh.rows, hh.cols] at h1
      exact ⟨p, c, h1, h2⟩
    · exact absurd hok h1, h.2⟩))
  have HRW := Lib.hid (fun X (hX : Below W.heap.size W X) => fa_row (hf.below hX) hh.lr)
  have HCL := Lib.hid (fun X (hX : Below W.heap.size W X) => fa_col (hf.below hX) hh.lc)
  have HCE := Lib.hid (fun X (hX : Below W.heap.size W X) o (k : Nat) ho hk => fa_cell (hf.below hX) hok.len o k ho hk)
  have HOK := Lib.hid hok
  have HHU := Lib.hid hh
  have M0 : Hid (EdM f v W (W.alloc (.cells (f.cells v).toArray 30))) := Lib.hid ⟨hf.below ((Below.refl _ W).alloc (Nat.le_refl _) _), whole_new W _ 30 _ rfl, (Below.refl _ W).alloc (Nat.le_refl _) _⟩
  have hl := Fm.cells_len f v
  unfold Fm.val at HN HRW HCL HCE ⊢
  obtain ⟨fl, hfl⟩ : ∃ fl, f.cells v = fl := ⟨_, rfl⟩
  rw [hfl] at HN HRW HCL HCE hl
  have HFL := Lib.hid hfl
  rw [hfl]
  have IFA : Hid ((Try.prog.info? 30).map (·.size) = some fl.toArray.size) := Lib.hid (by rw [List.size_toArray, hl]; kernel_rfl)
  rw [hfl] at M0
  obtain ⟨fa, hfa⟩ : ∃ fa, fl.toArray = fa := ⟨_, rfl⟩
  rw [hfa] at HN HRW HCL HCE IFA M0
  rw [hfa]
  have HFA := Lib.hid hfa
  clear hfl hfa hl hrt hkt hf hok hh
  go_enter Try.func18, Try.ntmps18
  have LF : Hid (∀ j u, fa[j]? = some u → (W.alloc (.cells fa 30)).cell? ((⟨W.heap.size, 0, none⟩ : Addr).add j) = some u) := Lib.hid ((whole_arr (HFL.out ▸ M0.out.box) HFA.out).loads)
  go_wp2_with (first
    | (refine wpList_loadC rfl 30 (.tmp 1) rfl ⟨W.heap.size, 0, none⟩ rfl fa _ LF.out Try.underlying30 rfl IFA.out ?_)
    | (go_at_call 23; refine (HN.out _ M0.out.be).mono ?_; rintro e w1 ⟨⟨p, c, rfl, hz⟩, hb⟩; have HZ := Lib.hid hz; have M1' := Lib.hid (M0.out.below hb); have HNW := Lib.hid (whole_new w1 [.int .i64 (rn : Int), .int .i64 (kn : Int), .slice p rn c] 64 _ rfl); have BNW := Lib.hid ((Below.refl w1.heap.size w1).alloc (Nat.le_refl _) (.cells [.int .i64 (rn : Int), .int .i64 (kn : Int), .slice p rn c].toArray 64)); clear hb LF HN hz M0)
    | fail)
  obtain ⟨nb, hnb⟩ : ∃ b, w1.heap.size = b := ⟨_, rfl⟩
  obtain ⟨w2, hw2⟩ : ∃ w, w1.alloc (.cells #[.int .i64 (rn : Int), .int .i64 (kn : Int), .slice p rn c] 64) = w := ⟨_, rfl⟩
  have N2 : Hid (Whole w2 nb 64 [.int .i64 (rn : Int), .int .i64 (kn : Int), .slice p rn c]) := Lib.hid (by rw [← hw2, ← hnb]; exact HNW.out)
  have M1 : Hid (EdM f v W w2) := Lib.hid (by rw [← hw2]; exact M1'.out.below BNW.out)
  have Z2 : Hid (RowsZ w2 (.slice p rn c) (ownM f.ps rn kn)) := Lib.hid (by rw [← hw2]; exact HZ.out.below BNW.out)
  rw [hnb, hw2]
  clear HNW BNW M1' HZ hnb hw2
  refine region_L (S := fun X => Hid (Below w2.heap.size w2 X)) (by kernel_rfl) (fun w3 hw3 => ?_)
  have SV : Hid (Below w2.heap.size w2 w3) := Lib.hid (by rw [← hw3]; exact below_dn _ _ 1)
  clear hw3
  try simp only [Act.put, List.setIfInBounds_toArray, List.set_cons_succ, List.set_cons_zero]
  refine AnyL.take (i := 0) (v := .agg fa) (some 17) rfl rfl (by kernel_rfl) (by kernel_rfl) (by kernel_rfl) (fun _ _ _ h => h) SV (yields_loadC (by rfl) 30 (.tmp 1) rfl _ rfl fa _ (fun X hX => (whole_arr (HFL.out ▸ (M1.out.box.below hX.out M1.out.box.lt)) HFA.out).loads) Try.underlying30 rfl IFA.out) ?_
  try simp only [Act.put, List.setIfInBounds_toArray, List.set_cons_succ, List.set_cons_zero]
  refine AnyL.take (i := 2) (v := .agg fa) (some 19) rfl rfl (by kernel_rfl) (by kernel_rfl) (by kernel_rfl) (fun _ _ _ h => h) SV (yields_loadC (by rfl) 30 (.tmp 1) rfl _ rfl fa _ (fun X hX => (whole_arr (HFL.out ▸ (M1.out.box.below hX.out M1.out.box.lt)) HFA.out).loads) Try.underlying30 rfl IFA.out) ?_
  try simp only [Act.put, List.setIfInBounds_toArray, List.set_cons_succ, List.set_cons_zero]
  refine AnyL.one (i := 1) rfl (by kernel_rfl) ?_
  refine wpOp_step rfl (fun K hK => ?_)
  go_simp
  refine (HRW.out w3 (M1.out.be.trans (SV.out.mono M1.out.be.size))).mono ?_
  rintro e w4 ⟨u1, rfl, hu, hb⟩
  have Hu1 := Lib.hid hu
  have SX := Lib.hid (SV.out.trans (hb.mono SV.out.size))
  refine hK _ _ ⟨fun _ => SX, ?_⟩
  clear hK K hb hu SV
  have SV := SX
  clear SX
  try simp only [Act.put, List.setIfInBounds_toArray, List.set_cons_succ, List.set_cons_zero]
  refine AnyL.one (i := 3) rfl (by kernel_rfl) ?_
  refine wpOp_step rfl (fun K hK => ?_)
  go_simp
  refine (HCL.out w4 (M1.out.be.trans (SV.out.mono M1.out.be.size))).mono ?_
  rintro e w5 ⟨u2, rfl, hu, hb⟩
  have Hu2 := Lib.hid hu
  have Hu1x := Lib.hid (Hu1.out.below hb)
  clear Hu1
  have Hu1 := Hu1x
  clear Hu1x
  have SX := Lib.hid (SV.out.trans (hb.mono SV.out.size))
  refine hK _ _ ⟨fun _ => SX, ?_⟩
  clear hK K hb hu SV
  have SV := SX
  clear SX
  try simp only [Act.put, List.setIfInBounds_toArray, List.set_cons_succ, List.set_cons_zero]
  obtain ⟨r1, rc1, e1⟩ := Hu1.out.slice
  obtain ⟨r2, rc2, e2⟩ := Hu2.out.slice
  obtain ⟨m1, hm1⟩ : ∃ m, (rwSt f).length = m := ⟨_, rfl⟩
  obtain ⟨m2, hm2⟩ : ∃ m, (clSt f).length = m := ⟨_, rfl⟩
  rw [hm1] at e1
  rw [hm2] at e2
  have HM12 := Lib.hid (And.intro hm1 hm2)
  subst e1 e2
  clear hm1 hm2
  refine AnyL.take (i := 4) (v := .slice r1 m1 rc1) (some 6) rfl rfl (by kernel_rfl) (by kernel_rfl) (by kernel_rfl) (fun _ _ _ h => h) SV (Or.inl ⟨by rfl, ?_⟩) ?_
  · intro X hX; go_simp
  try simp only [Act.put, List.setIfInBounds_toArray, List.set_cons_succ, List.set_cons_zero]
  refine AnyL.take (i := 5) (v := .slice r2 m2 rc2) (some 7) rfl rfl (by kernel_rfl) (by kernel_rfl) (by kernel_rfl) (fun _ _ _ h => h) SV (Or.inl ⟨by rfl, ?_⟩) ?_
  · intro X hX; go_simp
  try simp only [Act.put, List.setIfInBounds_toArray, List.set_cons_succ, List.set_cons_zero]
  refine AnyL.done (by kernel_rfl) ?_
  have M5 := Lib.hid (M1.out.below SV.out)
  have N5 := Lib.hid (N2.out.below SV.out N2.out.lt)
  have Z5 := Lib.hid (Z2.out.below SV.out)
  have U1 : Hid (RowsK Sr.cells 20 w5 (.slice r1 m1 rc1) (rwSt f)) := Lib.hid Hu1.out
  have U2 : Hid (RowsK Sr.cells 20 w5 (.slice r2 m2 rc2) (clSt f)) := Lib.hid Hu2.out
  have N5L : Hid (∀ X, Below w5.heap.size w5 X → ∀ j u, (#[.int .i64 (rn : Int), .int .i64 (kn : Int), .slice p rn c] : Array Value)[j]? = some u → X.cell? ((⟨nb, 0, none⟩ : Addr).add j) = some u) := Lib.hid (fun X hX => (show Whole X nb 64 (#[.int .i64 (rn : Int), .int .i64 (kn : Int), .slice p rn c] : Array Value).toList from N5.out.below hX N5.out.lt).loads)
  have TBL : Hid (∀ X, Below w5.heap.size w5 X → ∀ j u, f.tb.cells.toArray[j]? = some u → X.cell? ((⟨W.heap.size, 8, none⟩ : Addr).add j) = some u) := Lib.hid (fun X hX j u hj => by
    have h := (M5.out.box.below hX M5.out.box.lt).cellAt (8 + j)
    rw [add_plainC, h]
    unfold Fm.cells
    rw [List.getElem?_append_right (by simp)]
    simpa using hj)
  have ITB : Hid ((Try.prog.info? 28).map (·.size) = some f.tb.cells.toArray.size) := Lib.hid (by rw [List.size_toArray, Fr.cells_len]; kernel_rfl)
  clear SV M1 N2 Z2 Hu1 Hu2
  go_wp2_with fail
  rename_i KK hKK
  obtain ⟨HT, -⟩ : (∀ (g8 g9 ga gb : Nat) (X : World), R5P w5 rn kn p c g8 g9 ga gb X → KK { tmps := #[Value.agg fa, Value.pointer (some { block := W.heap.size, off := 0 }), Value.slice none 0 0,
          Value.int IntKind.i64 0, Value.pointer (some { block := nb, off := 0 }), Value.bool true,
          Value.slice r1 m1 rc1, Value.slice r2 m2 rc2, Value.pointer (some { block := g8, off := 0 }), Value.pointer (some { block := g9, off := 0 }),
          Value.tuple #[Value.agg #[Value.int IntKind.i64 ↑rn, Value.int IntKind.i64 ↑kn, Value.slice p rn c], Value.bool true],
          Value.agg fa,
          Value.tuple #[Value.agg #[Value.int IntKind.i64 ↑rn, Value.int IntKind.i64 ↑kn, Value.slice p rn c], Value.bool true],
          Value.agg #[Value.int IntKind.i64 ↑rn, Value.int IntKind.i64 ↑kn, Value.slice p rn c], Value.bool true,
          Value.bool true, Value.bool false, Value.agg fa, Value.slice r1 m1 rc1, Value.agg fa, Value.slice r2 m2 rc2,
          Value.agg #[Value.int IntKind.i64 ↑rn, Value.int IntKind.i64 ↑kn, Value.slice p rn c], Value.agg (crs true rn kn ga).toArray, Value.agg #[Value.int IntKind.i64 ↑rn, Value.int IntKind.i64 ↑kn, Value.slice p rn c], Value.agg (crs false rn kn gb).toArray,
          undef, undef, undef, undef, undef, undef, undef, undef, undef, undef, undef, undef, undef, undef, undef, undef, undef, undef, undef, undef], defers := [] } X) ∧ True := by
    refine ⟨fun g8 g9 ga gb wb hF => hKK _ _ ?_, trivial⟩
    have BB := Lib.hid hF.be
    have U1B := Lib.hid (U1.out.below BB.out)
    have U2B := Lib.hid (U2.out.below BB.out)
    have NKA := Lib.hid (fun X (hX : Below wb.heap.size wb X) => (NK.of hF.na (Z5.out.below BB.out)).grow hX)
    have NKB := Lib.hid (fun X (hX : Below wb.heap.size wb X) => (NK.of hF.nb (Z5.out.below BB.out)).grow hX)
    have C8 := Lib.hid hF.k8
    have C9 := Lib.hid hF.k9
    obtain ⟨c1a, hc1a⟩ : ∃ a, (crs true rn kn ga).toArray = a := ⟨_, rfl⟩
    obtain ⟨c2a, hc2a⟩ : ∃ a, (crs false rn kn gb).toArray = a := ⟨_, rfl⟩
    have I1A : Hid ((Try.prog.info? 70).map (·.size) = some c1a.size) := Lib.hid (by rw [Try.infoCourse, ← hc1a]; rfl)
    have I2A : Hid ((Try.prog.info? 70).map (·.size) = some c2a.size) := Lib.hid (by rw [Try.infoCourse, ← hc2a]; rfl)
    have Q1 := Lib.hid (fun X (hX : Below wb.heap.size wb X) => req_crs true f rn kn ga r1 r2 m1 rc1 m2 rc2 X HOK.out HHU.out (U1B.out.below hX) (U2B.out.below hX))
    have Q2 := Lib.hid (fun X (hX : Below wb.heap.size wb X) => req_crs false f rn kn gb r2 r1 m2 rc2 m1 rc1 X HOK.out HHU.out (U2B.out.below hX) (U1B.out.below hX))
    have hfs : fa.size = 20 := by rw [← HFA.out, List.size_toArray, ← HFL.out, Fm.cells_len]
    have HBW : Hid (∀ X, Below wb.heap.size wb X → Below W.heap.size W X) := Lib.hid (fun X hX => (M5.out.be.trans (BB.out.mono M5.out.be.size)).trans (hX.mono (Nat.le_trans M5.out.be.size BB.out.size)))
    have P1 := Lib.hid (fun X (hX : Below wb.heap.size wb X) q1 q2 q3 d1 d2 d3 H1 H2 H3 => won_crs true f rn kn ga p c wb.heap.size fa q1 q2 q3 d1 d2 d3 X HOK.out HHU.out (NKA.out X hX) hfs (fun Y hY o k ho hk => HCE.out Y (HBW.out Y (hX.trans (hY.mono hX.size))) o k ho hk) H1 H2 H3)
    have P2 := Lib.hid (fun X (hX : Below wb.heap.size wb X) q1 q2 q3 d1 d2 d3 H1 H2 H3 => won_crs false f rn kn gb p c wb.heap.size fa q1 q2 q3 d1 d2 d3 X HOK.out HHU.out (NKB.out X hX) hfs (fun Y hY o k ho hk => HCE.out Y (HBW.out Y (hX.trans (hY.mono hX.size))) o k ho hk) H1 H2 H3)
    rw [hc1a] at Q1 P1
    rw [hc2a] at Q2 P2
    try rw [hc1a, hc2a]
    have HC1A := Lib.hid hc1a
    have HC2A := Lib.hid hc2a
    clear hc1a hc2a hfs hF NKA NKB HRW HCL
    unfold Fr.val at Q1 Q2
    go_wp2_with (refine region_L (S := fun X => Hid (Below wb.heap.size wb X)) (by kernel_rfl) (fun w9 hw9 => ?_))
    have SV : Hid (Below wb.heap.size wb w9) := Lib.hid (by rw [← hw9]; exact below_dn _ _ 1)
    clear hw9
    try simp only [Act.put, List.setIfInBounds_toArray, List.set_cons_succ, List.set_cons_zero]
    refine AnyL.take (i := 0) (v := .agg c1a) (some 25) rfl rfl (by kernel_rfl) (by kernel_rfl) (by kernel_rfl) (fun _ _ _ h => h) SV (yields_loadC (by rfl) 70 (.tmp 8) rfl _ rfl c1a _ (fun X hX => (whole_arr (C8.out.below hX.out C8.out.lt) HC1A.out).loads) Try.underlying70 rfl I1A.out) ?_
    try simp only [Act.put, List.setIfInBounds_toArray, List.set_cons_succ, List.set_cons_zero]
    refine AnyL.take (i := 1) (v := .agg fa) (some 26) rfl rfl (by kernel_rfl) (by kernel_rfl) (by kernel_rfl) (fun _ _ _ h => h) SV (yields_loadC (by rfl) 30 (.tmp 1) rfl _ rfl fa _ (fun X hX => (whole_arr (HFL.out ▸ (M5.out.box.below (BB.out.trans (hX.out.mono BB.out.size)) M5.out.box.lt)) HFA.out).loads) Try.underlying30 rfl IFA.out) ?_
    try simp only [Act.put, List.setIfInBounds_toArray, List.set_cons_succ, List.set_cons_zero]
    refine AnyL.take (i := 2) (v := .agg c1a) (some 27) rfl rfl (by kernel_rfl) (by kernel_rfl) (by kernel_rfl) (fun _ _ _ h => h) SV (yields_loadC (by rfl) 70 (.tmp 8) rfl _ rfl c1a _ (fun X hX => (whole_arr (C8.out.below hX.out C8.out.lt) HC1A.out).loads) Try.underlying70 rfl I1A.out) ?_
    try simp only [Act.put, List.setIfInBounds_toArray, List.set_cons_succ, List.set_cons_zero]
    refine AnyL.take (i := 3) (v := .slice r1 m1 rc1) (some 28) rfl rfl (by kernel_rfl) (by kernel_rfl) (by kernel_rfl) (fun _ _ _ h => h) SV (Or.inl ⟨by rfl, ?_⟩) ?_
    · intro X hX; go_simp
    try simp only [Act.put, List.setIfInBounds_toArray, List.set_cons_succ, List.set_cons_zero]
    refine AnyL.take (i := 4) (v := .slice r2 m2 rc2) (some 29) rfl rfl (by kernel_rfl) (by kernel_rfl) (by kernel_rfl) (fun _ _ _ h => h) SV (Or.inl ⟨by rfl, ?_⟩) ?_
    · intro X hX; go_simp
    try simp only [Act.put, List.setIfInBounds_toArray, List.set_cons_succ, List.set_cons_zero]
    refine AnyL.take (i := 5) (v := .pointer (some ⟨W.heap.size, 8, none⟩)) (some 30) rfl rfl (by kernel_rfl) (by kernel_rfl) (by kernel_rfl) (fun _ _ _ h => h) SV (Or.inl ⟨by rfl, ?_⟩) ?_
    · intro X hX; go_simp
    try simp only [Act.put, List.setIfInBounds_toArray, List.set_cons_succ, List.set_cons_zero]
    refine AnyL.take (i := 6) (v := .agg f.tb.cells.toArray) (some 31) rfl rfl (by kernel_rfl) (by kernel_rfl) (by kernel_rfl) (fun _ _ _ h => h) SV (yields_loadC (by rfl) 28 (.tmp 30) rfl _ rfl f.tb.cells.toArray _ (fun X hX => TBL.out X (BB.out.trans (hX.out.mono BB.out.size))) Try.underlying28 rfl ITB.out) ?_
    try simp only [Act.put, List.setIfInBounds_toArray, List.set_cons_succ, List.set_cons_zero]
    refine AnyL.take (i := 9) (v := .agg c2a) (some 34) rfl rfl (by kernel_rfl) (by kernel_rfl) (by kernel_rfl) (fun _ _ _ h => h) SV (yields_loadC (by rfl) 70 (.tmp 9) rfl _ rfl c2a _ (fun X hX => (whole_arr (C9.out.below hX.out C9.out.lt) HC2A.out).loads) Try.underlying70 rfl I2A.out) ?_
    try simp only [Act.put, List.setIfInBounds_toArray, List.set_cons_succ, List.set_cons_zero]
    refine AnyL.take (i := 10) (v := .agg fa) (some 35) rfl rfl (by kernel_rfl) (by kernel_rfl) (by kernel_rfl) (fun _ _ _ h => h) SV (yields_loadC (by rfl) 30 (.tmp 1) rfl _ rfl fa _ (fun X hX => (whole_arr (HFL.out ▸ (M5.out.box.below (BB.out.trans (hX.out.mono BB.out.size)) M5.out.box.lt)) HFA.out).loads) Try.underlying30 rfl IFA.out) ?_
    try simp only [Act.put, List.setIfInBounds_toArray, List.set_cons_succ, List.set_cons_zero]
    refine AnyL.take (i := 11) (v := .agg c2a) (some 36) rfl rfl (by kernel_rfl) (by kernel_rfl) (by kernel_rfl) (fun _ _ _ h => h) SV (yields_loadC (by rfl) 70 (.tmp 9) rfl _ rfl c2a _ (fun X hX => (whole_arr (C9.out.below hX.out C9.out.lt) HC2A.out).loads) Try.underlying70 rfl I2A.out) ?_
    try simp only [Act.put, List.setIfInBounds_toArray, List.set_cons_succ, List.set_cons_zero]
    refine AnyL.take (i := 12) (v := .slice r2 m2 rc2) (some 37) rfl rfl (by kernel_rfl) (by kernel_rfl) (by kernel_rfl) (fun _ _ _ h => h) SV (Or.inl ⟨by rfl, ?_⟩) ?_
    · intro X hX; go_simp
    try simp only [Act.put, List.setIfInBounds_toArray, List.set_cons_succ, List.set_cons_zero]
    refine AnyL.take (i := 13) (v := .slice r1 m1 rc1) (some 38) rfl rfl (by kernel_rfl) (by kernel_rfl) (by kernel_rfl) (fun _ _ _ h => h) SV (Or.inl ⟨by rfl, ?_⟩) ?_
    · intro X hX; go_simp
    try simp only [Act.put, List.setIfInBounds_toArray, List.set_cons_succ, List.set_cons_zero]
    refine AnyL.take (i := 14) (v := .pointer (some ⟨W.heap.size, 8, none⟩)) (some 39) rfl rfl (by kernel_rfl) (by kernel_rfl) (by kernel_rfl) (fun _ _ _ h => h) SV (Or.inl ⟨by rfl, ?_⟩) ?_
    · intro X hX; go_simp
    try simp only [Act.put, List.setIfInBounds_toArray, List.set_cons_succ, List.set_cons_zero]
    refine AnyL.take (i := 15) (v := .agg f.tb.cells.toArray) (some 40) rfl rfl (by kernel_rfl) (by kernel_rfl) (by kernel_rfl) (fun _ _ _ h => h) SV (yields_loadC (by rfl) 28 (.tmp 39) rfl _ rfl f.tb.cells.toArray _ (fun X hX => TBL.out X (BB.out.trans (hX.out.mono BB.out.size))) Try.underlying28 rfl ITB.out) ?_
    try simp only [Act.put, List.setIfInBounds_toArray, List.set_cons_succ, List.set_cons_zero]
    refine AnyL.one (i := 7) rfl (by kernel_rfl) ?_
    refine wpOp_step rfl (fun K hK => ?_)
    go_simp
    refine (Q1.out w9 SV.out).mono ?_
    rintro e v1 ⟨q1, q2, q3, d1, d2, d3, rfl, h1, h2, h3, hb⟩
    have HP1 := Lib.hid (P1.out v1 (SV.out.trans (hb.mono SV.out.size)) q1 q2 q3 d1 d2 d3 h1 h2 h3)
    clear h1 h2 h3
    have SX := Lib.hid (SV.out.trans (hb.mono SV.out.size))
    refine hK _ _ ⟨fun _ => SX, ?_⟩
    clear hK K hb SV
    have SV := SX
    clear SX
    try simp only [Act.put, List.setIfInBounds_toArray, List.set_cons_succ, List.set_cons_zero]
    refine AnyL.one (i := 8) rfl (by kernel_rfl) ?_
    refine wpOp_step rfl (fun K hK => ?_)
    go_simp
    refine HP1.out.mono ?_
    rintro e v2 ⟨e1, rfl, h1, hb⟩
    have L1 := Lib.hid h1
    clear h1 HP1
    have SX := Lib.hid (SV.out.trans (hb.mono SV.out.size))
    refine hK _ _ ⟨fun _ => SX, ?_⟩
    clear hK K hb SV
    have SV := SX
    clear SX
    try simp only [Act.put, List.setIfInBounds_toArray, List.set_cons_succ, List.set_cons_zero]
    refine AnyL.one (i := 16) rfl (by kernel_rfl) ?_
    refine wpOp_step rfl (fun K hK => ?_)
    go_simp
    refine (Q2.out v2 SV.out).mono ?_
    rintro e v3 ⟨q1, q2, q3, d1, d2, d3, rfl, h1, h2, h3, hb⟩
    have HP2 := Lib.hid (P2.out v3 (SV.out.trans (hb.mono SV.out.size)) q1 q2 q3 d1 d2 d3 h1 h2 h3)
    clear h1 h2 h3
    have L1x := Lib.hid (L1.out.below hb)
    clear L1
    have L1 := L1x
    clear L1x
    have SX := Lib.hid (SV.out.trans (hb.mono SV.out.size))
    refine hK _ _ ⟨fun _ => SX, ?_⟩
    clear hK K hb SV
    have SV := SX
    clear SX
    try simp only [Act.put, List.setIfInBounds_toArray, List.set_cons_succ, List.set_cons_zero]
    refine AnyL.one (i := 17) rfl (by kernel_rfl) ?_
    refine wpOp_step rfl (fun K hK => ?_)
    go_simp
    refine HP2.out.mono ?_
    rintro e v4 ⟨e2, rfl, h1, hb⟩
    have L2 := Lib.hid h1
    clear h1 HP2
    have L1x := Lib.hid (L1.out.below hb)
    clear L1
    have L1 := L1x
    clear L1x
    have SX := Lib.hid (SV.out.trans (hb.mono SV.out.size))
    refine hK _ _ ⟨fun _ => SX, ?_⟩
    clear hK K hb SV
    have SV := SX
    clear SX
    try simp only [Act.put, List.setIfInBounds_toArray, List.set_cons_succ, List.set_cons_zero]
    obtain ⟨x1, xc1, he1⟩ := L1.out.slice
    obtain ⟨x2, xc2, he2⟩ := L2.out.slice
    subst he1 he2
    refine AnyL.one (i := 18) rfl (by kernel_rfl) ?_
    refine wpOp_step rfl (fun K hK => ?_)
    go_simp
    have HV := Lib.hid (whole_new v4 [.slice x1 (courseE true f rn kn).length xc1, .slice x2 (courseE false f rn kn).length xc2] 31 _ rfl)
    have BV := Lib.hid ((Below.refl v4.heap.size v4).alloc (Nat.le_refl _) (.cells [.slice x1 (courseE true f rn kn).length xc1, .slice x2 (courseE false f rn kn).length xc2].toArray 31))
    have hll := course_len f rn kn HHU.out
    have HCC := concat_ed v4.heap.size 2 2 [courseE true f rn kn, courseE false f rn kn] (v4.alloc (.cells [.slice x1 (courseE true f rn kn).length xc1, .slice x2 (courseE false f rn kn).length xc2].toArray 31)) rfl (by omega) (by simp only [List.flatten_cons, List.flatten_nil, List.append_nil, List.length_append]; omega) (by simp) (fun i L hL => by
      rcases i with _ | _ | i
      · simp at hL; subst hL
        exact ⟨x1, xc1, by rw [HV.out.cellAt]; rfl, L1.out.below BV.out⟩
      · simp at hL; subst hL
        exact ⟨x2, xc2, by rw [HV.out.cellAt]; rfl, L2.out.below BV.out⟩
      · simp at hL)
    have SX := Lib.hid (SV.out.trans (BV.out.mono SV.out.size))
    refine hK _ _ ⟨fun _ => SX, ?_⟩
    clear hK K SV
    have SV := SX
    clear SX
    try simp only [Act.put, List.setIfInBounds_toArray, List.set_cons_succ, List.set_cons_zero]
    refine AnyL.one (i := 19) rfl (by kernel_rfl) ?_
    refine wpOp_step rfl (fun K hK => ?_)
    go_simp
    refine HCC.mono ?_
    rintro e v5 ⟨eu, rfl, h1, hb⟩
    have LU : Hid (RowsK Ed.cells 10 v5 eu (edgesP f rn kn)) := Lib.hid (by simpa [edgesP] using h1)
    clear h1 HCC HV BV L1 L2 hll
    have SX := Lib.hid (SV.out.trans (hb.mono SV.out.size))
    refine hK _ _ ⟨fun _ => SX, ?_⟩
    clear hK K hb SV
    have SV := SX
    clear SX
    try simp only [Act.put, List.setIfInBounds_toArray, List.set_cons_succ, List.set_cons_zero]
    refine AnyL.take (i := 20) (v := eu) (some 2) rfl rfl (by kernel_rfl) (by kernel_rfl) (by kernel_rfl) (fun _ _ _ h => h) SV (Or.inl ⟨by rfl, ?_⟩) ?_
    · intro X hX; go_simp
    try simp only [Act.put, List.setIfInBounds_toArray, List.set_cons_succ, List.set_cons_zero]
    refine AnyL.take (i := 21) (v := .int .i64 0) (some 3) rfl rfl (by kernel_rfl) (by kernel_rfl) (by kernel_rfl) (fun _ _ _ h => h) SV (Or.inl ⟨by rfl, ?_⟩) ?_
    · intro X hX; go_simp
    try simp only [Act.put, List.setIfInBounds_toArray, List.set_cons_succ, List.set_cons_zero]
    refine AnyL.done (by kernel_rfl) ?_
    go_wp2
    refine bodyPost_ret (v := .tuple #[eu, .int .i64 0]) (by simp [results, Try.func18, go_sem]) rfl ⟨eu, rfl, LU.out, HBW.out _ SV.out⟩
  clear hKK
  refine region_L (S := fun X => Hid (Below w5.heap.size w5 X)) (by kernel_rfl) (fun w9 hw9 => ?_)
  have SV : Hid (Below w5.heap.size w5 w9) := Lib.hid (by rw [← hw9]; exact below_dn _ _ 1)
  clear hw9 M5 N5 Z5 U1 U2 HRW HCL HCE TBL
  try simp only [Act.put, List.setIfInBounds_toArray, List.set_cons_succ, List.set_cons_zero]
  refine AnyL.take (i := 0) (v := .agg #[.int .i64 (rn : Int), .int .i64 (kn : Int), .slice p rn c]) (some 21) rfl rfl (by kernel_rfl) (by kernel_rfl) (by kernel_rfl) (fun _ _ _ h => h) SV (yields_loadC (by rfl) 64 (.tmp 4) rfl _ rfl #[.int .i64 (rn : Int), .int .i64 (kn : Int), .slice p rn c] _ (fun X hX => N5L.out X hX.out) Try.underlying64 rfl (by rw [Try.infoNetN]; rfl)) ?_
  try simp only [Act.put, List.setIfInBounds_toArray, List.set_cons_succ, List.set_cons_zero]
  refine AnyL.take (i := 2) (v := .agg #[.int .i64 (rn : Int), .int .i64 (kn : Int), .slice p rn c]) (some 23) rfl rfl (by kernel_rfl) (by kernel_rfl) (by kernel_rfl) (fun _ _ _ h => h) SV (yields_loadC (by rfl) 64 (.tmp 4) rfl _ rfl #[.int .i64 (rn : Int), .int .i64 (kn : Int), .slice p rn c] _ (fun X hX => N5L.out X hX.out) Try.underlying64 rfl (by rw [Try.infoNetN]; rfl)) ?_
  try simp only [Act.put, List.setIfInBounds_toArray, List.set_cons_succ, List.set_cons_zero]
  refine AnyL.some (rs := [1, 4, 5]) (by kernel_rfl) (by simp) ?_
  intro ii hii
  obtain rfl | rfl | rfl : ii = 1 ∨ ii = 4 ∨ ii = 5 := by simpa using hii
  · clear hii
    refine wpOp_step rfl (fun K hK => ?_)
    go_simp
    refine (lying_any rn kn p c w9).mono ?_
    rintro e y1 ⟨rfl, hw, hb⟩
    have FA := Lib.hid hw
    have LEga : Hid (w5.heap.size ≤ w9.heap.size) := Lib.hid SV.out.size
    have SX := Lib.hid (SV.out.trans (hb.mono SV.out.size))
    obtain ⟨ga, hga⟩ : ∃ g, w9.heap.size = g := ⟨_, rfl⟩
    rw [hga] at FA LEga
    try rw [hga]
    refine hK _ _ ⟨fun _ => SX, ?_⟩
    clear hK K hb hw SV hga
    have SV := SX
    clear SX
    try simp only [Act.put, List.setIfInBounds_toArray, List.set_cons_succ, List.set_cons_zero]
    refine AnyL.some (rs := [3, 4, 5]) (by kernel_rfl) (by simp) ?_
    intro ii hii
    obtain rfl | rfl | rfl : ii = 3 ∨ ii = 4 ∨ ii = 5 := by simpa using hii
    · clear hii
      refine wpOp_step rfl (fun K hK => ?_)
      go_simp
      refine (standing_any rn kn p c y1).mono ?_
      rintro e y2 ⟨rfl, hw, hb⟩
      have FB := Lib.hid hw
      have NEgagb : Hid (ga ≠ y1.heap.size) := Lib.hid (by have := FA.out.lt; omega)
      have FAx := Lib.hid (FA.out.below hb FA.out.lt)
      have LEgb : Hid (w5.heap.size ≤ y1.heap.size) := Lib.hid SV.out.size
      have SX := Lib.hid (SV.out.trans (hb.mono SV.out.size))
      obtain ⟨gb, hgb⟩ : ∃ g, y1.heap.size = g := ⟨_, rfl⟩
      rw [hgb] at FB LEgb NEgagb
      try rw [hgb]
      refine hK _ _ ⟨fun _ => SX, ?_⟩
      clear hK K hb hw SV hgb FA
      have SV := SX
      clear SX
      have FA := FAx
      clear FAx
      try simp only [Act.put, List.setIfInBounds_toArray, List.set_cons_succ, List.set_cons_zero]
      refine AnyL.some (rs := [4, 5]) (by kernel_rfl) (by simp) ?_
      intro ii hii
      obtain rfl | rfl : ii = 4 ∨ ii = 5 := by simpa using hii
      · clear hii
        refine wpOp_step rfl (fun K hK => ?_)
        go_simp
        have F8 := Lib.hid (whole_new y2 zeroCo 70 _ rfl)
        have hb := (Below.refl y2.heap.size y2).alloc (Nat.le_refl _) (.cells zeroCo.toArray 70)
        have NEgag8 : Hid (ga ≠ y2.heap.size) := Lib.hid (by have := FA.out.lt; omega)
        have FAx := Lib.hid (FA.out.below hb FA.out.lt)
        have NEgbg8 : Hid (gb ≠ y2.heap.size) := Lib.hid (by have := FB.out.lt; omega)
        have FBx := Lib.hid (FB.out.below hb FB.out.lt)
        have LEg8 : Hid (w5.heap.size ≤ y2.heap.size) := Lib.hid SV.out.size
        have SX := Lib.hid (SV.out.trans (hb.mono SV.out.size))
        obtain ⟨g8, hg8⟩ : ∃ g, y2.heap.size = g := ⟨_, rfl⟩
        rw [hg8] at F8 LEg8 NEgag8 NEgbg8
        try rw [hg8]
        obtain ⟨y3, hy⟩ : ∃ w, y2.alloc (.cells zeroCo.toArray 70) = w := ⟨_, rfl⟩
        rw [hy] at F8 SX FAx FBx
        have hy2 : y2.alloc (.cells #[.bool false, .int .i64 0, .int .i64 0, .int .i64 0, .int .i64 0, .nilFunc, .nilFunc] 70) = y3 := hy
        try rw [hy2]
        refine hK _ _ ⟨fun _ => SX, ?_⟩
        clear hy hy2
        clear hK K hb SV hg8 FA FB
        have SV := SX
        clear SX
        have FA := FAx
        clear FAx
        have FB := FBx
        clear FBx
        try simp only [Act.put, List.setIfInBounds_toArray, List.set_cons_succ, List.set_cons_zero]
        refine AnyL.one (i := 5) rfl (by kernel_rfl) ?_
        refine wpOp_step rfl (fun K hK => ?_)
        go_simp
        have F9 := Lib.hid (whole_new y3 zeroCo 70 _ rfl)
        have hb := (Below.refl y3.heap.size y3).alloc (Nat.le_refl _) (.cells zeroCo.toArray 70)
        have NEgag9 : Hid (ga ≠ y3.heap.size) := Lib.hid (by have := FA.out.lt; omega)
        have FAx := Lib.hid (FA.out.below hb FA.out.lt)
        have NEgbg9 : Hid (gb ≠ y3.heap.size) := Lib.hid (by have := FB.out.lt; omega)
        have FBx := Lib.hid (FB.out.below hb FB.out.lt)
        have NEg8g9 : Hid (g8 ≠ y3.heap.size) := Lib.hid (by have := F8.out.lt; omega)
        have F8x := Lib.hid (F8.out.below hb F8.out.lt)
        have LEg9 : Hid (w5.heap.size ≤ y3.heap.size) := Lib.hid SV.out.size
        have SX := Lib.hid (SV.out.trans (hb.mono SV.out.size))
        obtain ⟨g9, hg9⟩ : ∃ g, y3.heap.size = g := ⟨_, rfl⟩
        rw [hg9] at F9 LEg9 NEgag9 NEgbg9 NEg8g9
        try rw [hg9]
        obtain ⟨y4, hy⟩ : ∃ w, y3.alloc (.cells zeroCo.toArray 70) = w := ⟨_, rfl⟩
        rw [hy] at F9 SX FAx FBx F8x
        have hy2 : y3.alloc (.cells #[.bool false, .int .i64 0, .int .i64 0, .int .i64 0, .int .i64 0, .nilFunc, .nilFunc] 70) = y4 := hy
        try rw [hy2]
        refine hK _ _ ⟨fun _ => SX, ?_⟩
        clear hy hy2
        clear hK K hb SV hg9 FA FB F8
        have SV := SX
        clear SX
        have FA := FAx
        clear FAx
        have FB := FBx
        clear FBx
        have F8 := F8x
        clear F8x
        try simp only [Act.put, List.setIfInBounds_toArray, List.set_cons_succ, List.set_cons_zero]
        refine AnyL.one (i := 6) rfl (by kernel_rfl) ?_
        refine wpOp_step rfl (fun K hK => ?_)
        refine wp_store_rowC rfl 70 (.tmp 8) (.tmp 22) rfl g8 (crs true rn kn ga).toArray rfl rfl 70 zeroCo.toArray F8.out (by rw [Try.infoCourse]; rfl) rfl (by simp [crs, colying, costanding, Value.oneCell']) ?_
        have F8x : Hid (Whole (y4.setRow g8 (crs true rn kn ga).toArray) g8 70 (crs true rn kn ga)) := Lib.hid (whole_rowA F8.out (crs true rn kn ga).toArray)
        have FAx := Lib.hid (whole_rowO FA.out g8 (crs true rn kn ga).toArray NEgag8.out)
        have FBx := Lib.hid (whole_rowO FB.out g8 (crs true rn kn ga).toArray NEgbg8.out)
        have F9x := Lib.hid (whole_rowO F9.out g8 (crs true rn kn ga).toArray (Ne.symm NEg8g9.out))
        have SX : Hid (Below w5.heap.size w5 (y4.setRow g8 (crs true rn kn ga).toArray)) := Lib.hid (SV.out.trans (below_setRow (Below.refl _ _) _ _ LEg8.out))
        generalize y4.setRow g8 (crs true rn kn ga).toArray = z1 at F8x FAx FBx F9x SX ⊢
        refine hK _ _ ⟨fun _ => SX, ?_⟩
        clear hK K SV F8 FA FB F9
        try simp only [Act.put, List.setIfInBounds_toArray, List.set_cons_succ, List.set_cons_zero]
        refine AnyL.one (i := 7) rfl (by kernel_rfl) ?_
        refine wpOp_step rfl (fun K hK => ?_)
        refine wp_store_rowC rfl 70 (.tmp 9) (.tmp 24) rfl g9 (crs false rn kn gb).toArray rfl rfl 70 zeroCo.toArray F9x.out (by rw [Try.infoCourse]; rfl) rfl (by simp [crs, colying, costanding, Value.oneCell']) ?_
        have F9y : Hid (Whole (z1.setRow g9 (crs false rn kn gb).toArray) g9 70 (crs false rn kn gb)) := Lib.hid (whole_rowA F9x.out (crs false rn kn gb).toArray)
        have FAy := Lib.hid (whole_rowO FAx.out g9 (crs false rn kn gb).toArray NEgag9.out)
        have FBy := Lib.hid (whole_rowO FBx.out g9 (crs false rn kn gb).toArray NEgbg9.out)
        have F8y := Lib.hid (whole_rowO F8x.out g9 (crs false rn kn gb).toArray NEg8g9.out)
        have SY : Hid (Below w5.heap.size w5 (z1.setRow g9 (crs false rn kn gb).toArray)) := Lib.hid (SX.out.trans (below_setRow (Below.refl _ _) _ _ LEg9.out))
        generalize z1.setRow g9 (crs false rn kn gb).toArray = z2 at F8y FAy FBy F9y SY ⊢
        refine hK _ _ ⟨fun _ => SY, ?_⟩
        clear hK K
        refine AnyL.done (by kernel_rfl) ?_
        exact HT g8 g9 ga gb z2 ⟨F8y.out, F9y.out, FAy.out, FBy.out, SY.out⟩
      · clear hii
        refine wpOp_step rfl (fun K hK => ?_)
        go_simp
        have F9 := Lib.hid (whole_new y2 zeroCo 70 _ rfl)
        have hb := (Below.refl y2.heap.size y2).alloc (Nat.le_refl _) (.cells zeroCo.toArray 70)
        have NEgag9 : Hid (ga ≠ y2.heap.size) := Lib.hid (by have := FA.out.lt; omega)
        have FAx := Lib.hid (FA.out.below hb FA.out.lt)
        have NEgbg9 : Hid (gb ≠ y2.heap.size) := Lib.hid (by have := FB.out.lt; omega)
        have FBx := Lib.hid (FB.out.below hb FB.out.lt)
        have LEg9 : Hid (w5.heap.size ≤ y2.heap.size) := Lib.hid SV.out.size
        have SX := Lib.hid (SV.out.trans (hb.mono SV.out.size))
        obtain ⟨g9, hg9⟩ : ∃ g, y2.heap.size = g := ⟨_, rfl⟩
        rw [hg9] at F9 LEg9 NEgag9 NEgbg9
        try rw [hg9]
        obtain ⟨y3, hy⟩ : ∃ w, y2.alloc (.cells zeroCo.toArray 70) = w := ⟨_, rfl⟩
        rw [hy] at F9 SX FAx FBx
        have hy2 : y2.alloc (.cells #[.bool false, .int .i64 0, .int .i64 0, .int .i64 0, .int .i64 0, .nilFunc, .nilFunc] 70) = y3 := hy
        try rw [hy2]
        refine hK _ _ ⟨fun _ => SX, ?_⟩
        clear hy hy2
        clear hK K hb SV hg9 FA FB
        have SV := SX
        clear SX
        have FA := FAx
        clear FAx
        have FB := FBx
        clear FBx
        try simp only [Act.put, List.setIfInBounds_toArray, List.set_cons_succ, List.set_cons_zero]
        refine AnyL.one (i := 4) rfl (by kernel_rfl) ?_
        refine wpOp_step rfl (fun K hK => ?_)
        go_simp
        have F8 := Lib.hid (whole_new y3 zeroCo 70 _ rfl)
        have hb := (Below.refl y3.heap.size y3).alloc (Nat.le_refl _) (.cells zeroCo.toArray 70)
        have NEgag8 : Hid (ga ≠ y3.heap.size) := Lib.hid (by have := FA.out.lt; omega)
        have FAx := Lib.hid (FA.out.below hb FA.out.lt)
        have NEgbg8 : Hid (gb ≠ y3.heap.size) := Lib.hid (by have := FB.out.lt; omega)
        have FBx := Lib.hid (FB.out.below hb FB.out.lt)
        have NEg9g8 : Hid (g9 ≠ y3.heap.size) := Lib.hid (by have := F9.out.lt; omega)
        have F9x := Lib.hid (F9.out.below hb F9.out.lt)
        have LEg8 : Hid (w5.heap.size ≤ y3.heap.size) := Lib.hid SV.out.size
        have SX := Lib.hid (SV.out.trans (hb.mono SV.out.size))
        obtain ⟨g8, hg8⟩ : ∃ g, y3.heap.size = g := ⟨_, rfl⟩
        rw [hg8] at F8 LEg8 NEgag8 NEgbg8 NEg9g8
        try rw [hg8]
        obtain ⟨y4, hy⟩ : ∃ w, y3.alloc (.cells zeroCo.toArray 70) = w := ⟨_, rfl⟩
        rw [hy] at F8 SX FAx FBx F9x
        have hy2 : y3.alloc (.cells #[.bool false, .int .i64 0, .int .i64 0, .int .i64 0, .int .i64 0, .nilFunc, .nilFunc] 70) = y4 := hy
        try rw [hy2]
        refine hK _ _ ⟨fun _ => SX, ?_⟩
        clear hy hy2
        clear hK K hb SV hg8 FA FB F9
        have SV := SX
        clear SX
        have FA := FAx
        clear FAx
        have FB := FBx
        clear FBx
        have F9 := F9x
        clear F9x
        try simp only [Act.put, List.setIfInBounds_toArray, List.set_cons_succ, List.set_cons_zero]
        refine AnyL.one (i := 6) rfl (by kernel_rfl) ?_
        refine wpOp_step rfl (fun K hK => ?_)
        refine wp_store_rowC rfl 70 (.tmp 8) (.tmp 22) rfl g8 (crs true rn kn ga).toArray rfl rfl 70 zeroCo.toArray F8.out (by rw [Try.infoCourse]; rfl) rfl (by simp [crs, colying, costanding, Value.oneCell']) ?_
        have F8x : Hid (Whole (y4.setRow g8 (crs true rn kn ga).toArray) g8 70 (crs true rn kn ga)) := Lib.hid (whole_rowA F8.out (crs true rn kn ga).toArray)
        have FAx := Lib.hid (whole_rowO FA.out g8 (crs true rn kn ga).toArray NEgag8.out)
        have FBx := Lib.hid (whole_rowO FB.out g8 (crs true rn kn ga).toArray NEgbg8.out)
        have F9x := Lib.hid (whole_rowO F9.out g8 (crs true rn kn ga).toArray NEg9g8.out)
        have SX : Hid (Below w5.heap.size w5 (y4.setRow g8 (crs true rn kn ga).toArray)) := Lib.hid (SV.out.trans (below_setRow (Below.refl _ _) _ _ LEg8.out))
        generalize y4.setRow g8 (crs true rn kn ga).toArray = z1 at F8x FAx FBx F9x SX ⊢
        refine hK _ _ ⟨fun _ => SX, ?_⟩
        clear hK K SV F8 FA FB F9
        try simp only [Act.put, List.setIfInBounds_toArray, List.set_cons_succ, List.set_cons_zero]
        refine AnyL.one (i := 7) rfl (by kernel_rfl) ?_
        refine wpOp_step rfl (fun K hK => ?_)
        refine wp_store_rowC rfl 70 (.tmp 9) (.tmp 24) rfl g9 (crs false rn kn gb).toArray rfl rfl 70 zeroCo.toArray F9x.out (by rw [Try.infoCourse]; rfl) rfl (by simp [crs, colying, costanding, Value.oneCell']) ?_
        have F9y : Hid (Whole (z1.setRow g9 (crs false rn kn gb).toArray) g9 70 (crs false rn kn gb)) := Lib.hid (whole_rowA F9x.out (crs false rn kn gb).toArray)
        have FAy := Lib.hid (whole_rowO FAx.out g9 (crs false rn kn gb).toArray NEgag9.out)
        have FBy := Lib.hid (whole_rowO FBx.out g9 (crs false rn kn gb).toArray NEgbg9.out)
        have F8y := Lib.hid (whole_rowO F8x.out g9 (crs false rn kn gb).toArray (Ne.symm NEg9g8.out))
        have SY : Hid (Below w5.heap.size w5 (z1.setRow g9 (crs false rn kn gb).toArray)) := Lib.hid (SX.out.trans (below_setRow (Below.refl _ _) _ _ LEg9.out))
        generalize z1.setRow g9 (crs false rn kn gb).toArray = z2 at F8y FAy FBy F9y SY ⊢
        refine hK _ _ ⟨fun _ => SY, ?_⟩
        clear hK K
        refine AnyL.done (by kernel_rfl) ?_
        exact HT g8 g9 ga gb z2 ⟨F8y.out, F9y.out, FAy.out, FBy.out, SY.out⟩
    · clear hii
      refine wpOp_step rfl (fun K hK => ?_)
      go_simp
      have F8 := Lib.hid (whole_new y1 zeroCo 70 _ rfl)
      have hb := (Below.refl y1.heap.size y1).alloc (Nat.le_refl _) (.cells zeroCo.toArray 70)
      have NEgag8 : Hid (ga ≠ y1.heap.size) := Lib.hid (by have := FA.out.lt; omega)
      have FAx := Lib.hid (FA.out.below hb FA.out.lt)
      have LEg8 : Hid (w5.heap.size ≤ y1.heap.size) := Lib.hid SV.out.size
      have SX := Lib.hid (SV.out.trans (hb.mono SV.out.size))
      obtain ⟨g8, hg8⟩ : ∃ g, y1.heap.size = g := ⟨_, rfl⟩
      rw [hg8] at F8 LEg8 NEgag8
      try rw [hg8]
      obtain ⟨y2, hy⟩ : ∃ w, y1.alloc (.cells zeroCo.toArray 70) = w := ⟨_, rfl⟩
      rw [hy] at F8 SX FAx
      have hy2 : y1.alloc (.cells #[.bool false, .int .i64 0, .int .i64 0, .int .i64 0, .int .i64 0, .nilFunc, .nilFunc] 70) = y2 := hy
      try rw [hy2]
      refine hK _ _ ⟨fun _ => SX, ?_⟩
      clear hy hy2
      clear hK K hb SV hg8 FA
      have SV := SX
      clear SX
      have FA := FAx
      clear FAx
      try simp only [Act.put, List.setIfInBounds_toArray, List.set_cons_succ, List.set_cons_zero]
      refine AnyL.some (rs := [3, 5]) (by kernel_rfl) (by simp) ?_
      intro ii hii
      obtain rfl | rfl : ii = 3 ∨ ii = 5 := by simpa using hii
      · clear hii
        refine wpOp_step rfl (fun K hK => ?_)
        go_simp
        refine (standing_any rn kn p c y2).mono ?_
        rintro e y3 ⟨rfl, hw, hb⟩
        have FB := Lib.hid hw
        have NEgagb : Hid (ga ≠ y2.heap.size) := Lib.hid (by have := FA.out.lt; omega)
        have FAx := Lib.hid (FA.out.below hb FA.out.lt)
        have NEg8gb : Hid (g8 ≠ y2.heap.size) := Lib.hid (by have := F8.out.lt; omega)
        have F8x := Lib.hid (F8.out.below hb F8.out.lt)
        have LEgb : Hid (w5.heap.size ≤ y2.heap.size) := Lib.hid SV.out.size
        have SX := Lib.hid (SV.out.trans (hb.mono SV.out.size))
        obtain ⟨gb, hgb⟩ : ∃ g, y2.heap.size = g := ⟨_, rfl⟩
        rw [hgb] at FB LEgb NEgagb NEg8gb
        try rw [hgb]
        refine hK _ _ ⟨fun _ => SX, ?_⟩
        clear hK K hb hw SV hgb FA F8
        have SV := SX
        clear SX
        have FA := FAx
        clear FAx
        have F8 := F8x
        clear F8x
        try simp only [Act.put, List.setIfInBounds_toArray, List.set_cons_succ, List.set_cons_zero]
        refine AnyL.one (i := 5) rfl (by kernel_rfl) ?_
        refine wpOp_step rfl (fun K hK => ?_)
        go_simp
        have F9 := Lib.hid (whole_new y3 zeroCo 70 _ rfl)
        have hb := (Below.refl y3.heap.size y3).alloc (Nat.le_refl _) (.cells zeroCo.toArray 70)
        have NEgag9 : Hid (ga ≠ y3.heap.size) := Lib.hid (by have := FA.out.lt; omega)
        have FAx := Lib.hid (FA.out.below hb FA.out.lt)
        have NEg8g9 : Hid (g8 ≠ y3.heap.size) := Lib.hid (by have := F8.out.lt; omega)
        have F8x := Lib.hid (F8.out.below hb F8.out.lt)
        have NEgbg9 : Hid (gb ≠ y3.heap.size) := Lib.hid (by have := FB.out.lt; omega)
        have FBx := Lib.hid (FB.out.below hb FB.out.lt)
        have LEg9 : Hid (w5.heap.size ≤ y3.heap.size) := Lib.hid SV.out.size
        have SX := Lib.hid (SV.out.trans (hb.mono SV.out.size))
        obtain ⟨g9, hg9⟩ : ∃ g, y3.heap.size = g := ⟨_, rfl⟩
        rw [hg9] at F9 LEg9 NEgag9 NEg8g9 NEgbg9
        try rw [hg9]
        obtain ⟨y4, hy⟩ : ∃ w, y3.alloc (.cells zeroCo.toArray 70) = w := ⟨_, rfl⟩
        rw [hy] at F9 SX FAx F8x FBx
        have hy2 : y3.alloc (.cells #[.bool false, .int .i64 0, .int .i64 0, .int .i64 0, .int .i64 0, .nilFunc, .nilFunc] 70) = y4 := hy
        try rw [hy2]
        refine hK _ _ ⟨fun _ => SX, ?_⟩
        clear hy hy2
        clear hK K hb SV hg9 FA F8 FB
        have SV := SX
        clear SX
        have FA := FAx
        clear FAx
        have F8 := F8x
        clear F8x
        have FB := FBx
        clear FBx
        try simp only [Act.put, List.setIfInBounds_toArray, List.set_cons_succ, List.set_cons_zero]
        refine AnyL.one (i := 6) rfl (by kernel_rfl) ?_
        refine wpOp_step rfl (fun K hK => ?_)
        refine wp_store_rowC rfl 70 (.tmp 8) (.tmp 22) rfl g8 (crs true rn kn ga).toArray rfl rfl 70 zeroCo.toArray F8.out (by rw [Try.infoCourse]; rfl) rfl (by simp [crs, colying, costanding, Value.oneCell']) ?_
        have F8x : Hid (Whole (y4.setRow g8 (crs true rn kn ga).toArray) g8 70 (crs true rn kn ga)) := Lib.hid (whole_rowA F8.out (crs true rn kn ga).toArray)
        have FAx := Lib.hid (whole_rowO FA.out g8 (crs true rn kn ga).toArray NEgag8.out)
        have FBx := Lib.hid (whole_rowO FB.out g8 (crs true rn kn ga).toArray (Ne.symm NEg8gb.out))
        have F9x := Lib.hid (whole_rowO F9.out g8 (crs true rn kn ga).toArray (Ne.symm NEg8g9.out))
        have SX : Hid (Below w5.heap.size w5 (y4.setRow g8 (crs true rn kn ga).toArray)) := Lib.hid (SV.out.trans (below_setRow (Below.refl _ _) _ _ LEg8.out))
        generalize y4.setRow g8 (crs true rn kn ga).toArray = z1 at F8x FAx FBx F9x SX ⊢
        refine hK _ _ ⟨fun _ => SX, ?_⟩
        clear hK K SV F8 FA FB F9
        try simp only [Act.put, List.setIfInBounds_toArray, List.set_cons_succ, List.set_cons_zero]
        refine AnyL.one (i := 7) rfl (by kernel_rfl) ?_
        refine wpOp_step rfl (fun K hK => ?_)
        refine wp_store_rowC rfl 70 (.tmp 9) (.tmp 24) rfl g9 (crs false rn kn gb).toArray rfl rfl 70 zeroCo.toArray F9x.out (by rw [Try.infoCourse]; rfl) rfl (by simp [crs, colying, costanding, Value.oneCell']) ?_
        have F9y : Hid (Whole (z1.setRow g9 (crs false rn kn gb).toArray) g9 70 (crs false rn kn gb)) := Lib.hid (whole_rowA F9x.out (crs false rn kn gb).toArray)
        have FAy := Lib.hid (whole_rowO FAx.out g9 (crs false rn kn gb).toArray NEgag9.out)
        have FBy := Lib.hid (whole_rowO FBx.out g9 (crs false rn kn gb).toArray NEgbg9.out)
        have F8y := Lib.hid (whole_rowO F8x.out g9 (crs false rn kn gb).toArray NEg8g9.out)
        have SY : Hid (Below w5.heap.size w5 (z1.setRow g9 (crs false rn kn gb).toArray)) := Lib.hid (SX.out.trans (below_setRow (Below.refl _ _) _ _ LEg9.out))
        generalize z1.setRow g9 (crs false rn kn gb).toArray = z2 at F8y FAy FBy F9y SY ⊢
        refine hK _ _ ⟨fun _ => SY, ?_⟩
        clear hK K
        refine AnyL.done (by kernel_rfl) ?_
        exact HT g8 g9 ga gb z2 ⟨F8y.out, F9y.out, FAy.out, FBy.out, SY.out⟩
      · clear hii
        refine wpOp_step rfl (fun K hK => ?_)
        go_simp
        have F9 := Lib.hid (whole_new y2 zeroCo 70 _ rfl)
        have hb := (Below.refl y2.heap.size y2).alloc (Nat.le_refl _) (.cells zeroCo.toArray 70)
        have NEgag9 : Hid (ga ≠ y2.heap.size) := Lib.hid (by have := FA.out.lt; omega)
        have FAx := Lib.hid (FA.out.below hb FA.out.lt)
        have NEg8g9 : Hid (g8 ≠ y2.heap.size) := Lib.hid (by have := F8.out.lt; omega)
        have F8x := Lib.hid (F8.out.below hb F8.out.lt)
        have LEg9 : Hid (w5.heap.size ≤ y2.heap.size) := Lib.hid SV.out.size
        have SX := Lib.hid (SV.out.trans (hb.mono SV.out.size))
        obtain ⟨g9, hg9⟩ : ∃ g, y2.heap.size = g := ⟨_, rfl⟩
        rw [hg9] at F9 LEg9 NEgag9 NEg8g9
        try rw [hg9]
        obtain ⟨y3, hy⟩ : ∃ w, y2.alloc (.cells zeroCo.toArray 70) = w := ⟨_, rfl⟩
        rw [hy] at F9 SX FAx F8x
        have hy2 : y2.alloc (.cells #[.bool false, .int .i64 0, .int .i64 0, .int .i64 0, .int .i64 0, .nilFunc, .nilFunc] 70) = y3 := hy
        try rw [hy2]
        refine hK _ _ ⟨fun _ => SX, ?_⟩
        clear hy hy2
        clear hK K hb SV hg9 FA F8
        have SV := SX
        clear SX
        have FA := FAx
        clear FAx
        have F8 := F8x
        clear F8x
        try simp only [Act.put, List.setIfInBounds_toArray, List.set_cons_succ, List.set_cons_zero]
        refine AnyL.one (i := 3) rfl (by kernel_rfl) ?_
        refine wpOp_step rfl (fun K hK => ?_)
        go_simp
        refine (standing_any rn kn p c y3).mono ?_
        rintro e y4 ⟨rfl, hw, hb⟩
        have FB := Lib.hid hw
        have NEgagb : Hid (ga ≠ y3.heap.size) := Lib.hid (by have := FA.out.lt; omega)
        have FAx := Lib.hid (FA.out.below hb FA.out.lt)
        have NEg8gb : Hid (g8 ≠ y3.heap.size) := Lib.hid (by have := F8.out.lt; omega)
        have F8x := Lib.hid (F8.out.below hb F8.out.lt)
        have NEg9gb : Hid (g9 ≠ y3.heap.size) := Lib.hid (by have := F9.out.lt; omega)
        have F9x := Lib.hid (F9.out.below hb F9.out.lt)
        have LEgb : Hid (w5.heap.size ≤ y3.heap.size) := Lib.hid SV.out.size
        have SX := Lib.hid (SV.out.trans (hb.mono SV.out.size))
        obtain ⟨gb, hgb⟩ : ∃ g, y3.heap.size = g := ⟨_, rfl⟩
        rw [hgb] at FB LEgb NEgagb NEg8gb NEg9gb
        try rw [hgb]
        refine hK _ _ ⟨fun _ => SX, ?_⟩
        clear hK K hb hw SV hgb FA F8 F9
        have SV := SX
        clear SX
        have FA := FAx
        clear FAx
        have F8 := F8x
        clear F8x
        have F9 := F9x
        clear F9x
        try simp only [Act.put, List.setIfInBounds_toArray, List.set_cons_succ, List.set_cons_zero]
        refine AnyL.one (i := 6) rfl (by kernel_rfl) ?_
        refine wpOp_step rfl (fun K hK => ?_)
        refine wp_store_rowC rfl 70 (.tmp 8) (.tmp 22) rfl g8 (crs true rn kn ga).toArray rfl rfl 70 zeroCo.toArray F8.out (by rw [Try.infoCourse]; rfl) rfl (by simp [crs, colying, costanding, Value.oneCell']) ?_
        have F8x : Hid (Whole (y4.setRow g8 (crs true rn kn ga).toArray) g8 70 (crs true rn kn ga)) := Lib.hid (whole_rowA F8.out (crs true rn kn ga).toArray)
        have FAx := Lib.hid (whole_rowO FA.out g8 (crs true rn kn ga).toArray NEgag8.out)
        have FBx := Lib.hid (whole_rowO FB.out g8 (crs true rn kn ga).toArray (Ne.symm NEg8gb.out))
        have F9x := Lib.hid (whole_rowO F9.out g8 (crs true rn kn ga).toArray (Ne.symm NEg8g9.out))
        have SX : Hid (Below w5.heap.size w5 (y4.setRow g8 (crs true rn kn ga).toArray)) := Lib.hid (SV.out.trans (below_setRow (Below.refl _ _) _ _ LEg8.out))
        generalize y4.setRow g8 (crs true rn kn ga).toArray = z1 at F8x FAx FBx F9x SX ⊢
        refine hK _ _ ⟨fun _ => SX, ?_⟩
        clear hK K SV F8 FA FB F9
        try simp only [Act.put, List.setIfInBounds_toArray, List.set_cons_succ, List.set_cons_zero]
        refine AnyL.one (i := 7) rfl (by kernel_rfl) ?_
        refine wpOp_step rfl (fun K hK => ?_)
        refine wp_store_rowC rfl 70 (.tmp 9) (.tmp 24) rfl g9 (crs false rn kn gb).toArray rfl rfl 70 zeroCo.toArray F9x.out (by rw [Try.infoCourse]; rfl) rfl (by simp [crs, colying, costanding, Value.oneCell']) ?_
        have F9y : Hid (Whole (z1.setRow g9 (crs false rn kn gb).toArray) g9 70 (crs false rn kn gb)) := Lib.hid (whole_rowA F9x.out (crs false rn kn gb).toArray)
        have FAy := Lib.hid (whole_rowO FAx.out g9 (crs false rn kn gb).toArray NEgag9.out)
        have FBy := Lib.hid (whole_rowO FBx.out g9 (crs false rn kn gb).toArray (Ne.symm NEg9gb.out))
        have F8y := Lib.hid (whole_rowO F8x.out g9 (crs false rn kn gb).toArray NEg8g9.out)
        have SY : Hid (Below w5.heap.size w5 (z1.setRow g9 (crs false rn kn gb).toArray)) := Lib.hid (SX.out.trans (below_setRow (Below.refl _ _) _ _ LEg9.out))
        generalize z1.setRow g9 (crs false rn kn gb).toArray = z2 at F8y FAy FBy F9y SY ⊢
        refine hK _ _ ⟨fun _ => SY, ?_⟩
        clear hK K
        refine AnyL.done (by kernel_rfl) ?_
        exact HT g8 g9 ga gb z2 ⟨F8y.out, F9y.out, FAy.out, FBy.out, SY.out⟩
    · clear hii
      refine wpOp_step rfl (fun K hK => ?_)
      go_simp
      have F9 := Lib.hid (whole_new y1 zeroCo 70 _ rfl)
      have hb := (Below.refl y1.heap.size y1).alloc (Nat.le_refl _) (.cells zeroCo.toArray 70)
      have NEgag9 : Hid (ga ≠ y1.heap.size) := Lib.hid (by have := FA.out.lt; omega)
      have FAx := Lib.hid (FA.out.below hb FA.out.lt)
      have LEg9 : Hid (w5.heap.size ≤ y1.heap.size) := Lib.hid SV.out.size
      have SX := Lib.hid (SV.out.trans (hb.mono SV.out.size))
      obtain ⟨g9, hg9⟩ : ∃ g, y1.heap.size = g := ⟨_, rfl⟩
      rw [hg9] at F9 LEg9 NEgag9
      try rw [hg9]
      obtain ⟨y2, hy⟩ : ∃ w, y1.alloc (.cells zeroCo.toArray 70) = w := ⟨_, rfl⟩
      rw [hy] at F9 SX FAx
      have hy2 : y1.alloc (.cells #[.bool false, .int .i64 0, .int .i64 0, .int .i64 0, .int .i64 0, .nilFunc, .nilFunc] 70) = y2 := hy
      try rw [hy2]
      refine hK _ _ ⟨fun _ => SX, ?_⟩
      clear hy hy2
      clear hK K hb SV hg9 FA
      have SV := SX
      clear SX
      have FA := FAx
      clear FAx
      try simp only [Act.put, List.setIfInBounds_toArray, List.set_cons_succ, List.set_cons_zero]
      refine AnyL.some (rs := [3, 4]) (by kernel_rfl) (by simp) ?_
      intro ii hii
      obtain rfl | rfl : ii = 3 ∨ ii = 4 := by simpa using hii
      · clear hii
        refine wpOp_step rfl (fun K hK => ?_)
        go_simp
        refine (standing_any rn kn p c y2).mono ?_
        rintro e y3 ⟨rfl, hw, hb⟩
        have FB := Lib.hid hw
        have NEgagb : Hid (ga ≠ y2.heap.size) := Lib.hid (by have := FA.out.lt; omega)
        have FAx := Lib.hid (FA.out.below hb FA.out.lt)
        have NEg9gb : Hid (g9 ≠ y2.heap.size) := Lib.hid (by have := F9.out.lt; omega)
        have F9x := Lib.hid (F9.out.below hb F9.out.lt)
        have LEgb : Hid (w5.heap.size ≤ y2.heap.size) := Lib.hid SV.out.size
        have SX := Lib.hid (SV.out.trans (hb.mono SV.out.size))
        obtain ⟨gb, hgb⟩ : ∃ g, y2.heap.size = g := ⟨_, rfl⟩
        rw [hgb] at FB LEgb NEgagb NEg9gb
        try rw [hgb]
        refine hK _ _ ⟨fun _ => SX, ?_⟩
        clear hK K hb hw SV hgb FA F9
        have SV := SX
        clear SX
        have FA := FAx
        clear FAx
        have F9 := F9x
        clear F9x
        try simp only [Act.put, List.setIfInBounds_toArray, List.set_cons_succ, List.set_cons_zero]
        refine AnyL.one (i := 4) rfl (by kernel_rfl) ?_
        refine wpOp_step rfl (fun K hK => ?_)
        go_simp
        have F8 := Lib.hid (whole_new y3 zeroCo 70 _ rfl)
        have hb := (Below.refl y3.heap.size y3).alloc (Nat.le_refl _) (.cells zeroCo.toArray 70)
        have NEgag8 : Hid (ga ≠ y3.heap.size) := Lib.hid (by have := FA.out.lt; omega)
        have FAx := Lib.hid (FA.out.below hb FA.out.lt)
        have NEg9g8 : Hid (g9 ≠ y3.heap.size) := Lib.hid (by have := F9.out.lt; omega)
        have F9x := Lib.hid (F9.out.below hb F9.out.lt)
        have NEgbg8 : Hid (gb ≠ y3.heap.size) := Lib.hid (by have := FB.out.lt; omega)
        have FBx := Lib.hid (FB.out.below hb FB.out.lt)
        have LEg8 : Hid (w5.heap.size ≤ y3.heap.size) := Lib.hid SV.out.size
        have SX := Lib.hid (SV.out.trans (hb.mono SV.out.size))
        obtain ⟨g8, hg8⟩ : ∃ g, y3.heap.size = g := ⟨_, rfl⟩
        rw [hg8] at F8 LEg8 NEgag8 NEg9g8 NEgbg8
        try rw [hg8]
        obtain ⟨y4, hy⟩ : ∃ w, y3.alloc (.cells zeroCo.toArray 70) = w := ⟨_, rfl⟩
        rw [hy] at F8 SX FAx F9x FBx
        have hy2 : y3.alloc (.cells #[.bool false, .int .i64 0, .int .i64 0, .int .i64 0, .int .i64 0, .nilFunc, .nilFunc] 70) = y4 := hy
        try rw [hy2]
        refine hK _ _ ⟨fun _ => SX, ?_⟩
        clear hy hy2
        clear hK K hb SV hg8 FA F9 FB
        have SV := SX
        clear SX
        have FA := FAx
        clear FAx
        have F9 := F9x
        clear F9x
        have FB := FBx
        clear FBx
        try simp only [Act.put, List.setIfInBounds_toArray, List.set_cons_succ, List.set_cons_zero]
        refine AnyL.one (i := 6) rfl (by kernel_rfl) ?_
        refine wpOp_step rfl (fun K hK => ?_)
        refine wp_store_rowC rfl 70 (.tmp 8) (.tmp 22) rfl g8 (crs true rn kn ga).toArray rfl rfl 70 zeroCo.toArray F8.out (by rw [Try.infoCourse]; rfl) rfl (by simp [crs, colying, costanding, Value.oneCell']) ?_
        have F8x : Hid (Whole (y4.setRow g8 (crs true rn kn ga).toArray) g8 70 (crs true rn kn ga)) := Lib.hid (whole_rowA F8.out (crs true rn kn ga).toArray)
        have FAx := Lib.hid (whole_rowO FA.out g8 (crs true rn kn ga).toArray NEgag8.out)
        have FBx := Lib.hid (whole_rowO FB.out g8 (crs true rn kn ga).toArray NEgbg8.out)
        have F9x := Lib.hid (whole_rowO F9.out g8 (crs true rn kn ga).toArray NEg9g8.out)
        have SX : Hid (Below w5.heap.size w5 (y4.setRow g8 (crs true rn kn ga).toArray)) := Lib.hid (SV.out.trans (below_setRow (Below.refl _ _) _ _ LEg8.out))
        generalize y4.setRow g8 (crs true rn kn ga).toArray = z1 at F8x FAx FBx F9x SX ⊢
        refine hK _ _ ⟨fun _ => SX, ?_⟩
        clear hK K SV F8 FA FB F9
        try simp only [Act.put, List.setIfInBounds_toArray, List.set_cons_succ, List.set_cons_zero]
        refine AnyL.one (i := 7) rfl (by kernel_rfl) ?_
        refine wpOp_step rfl (fun K hK => ?_)
        refine wp_store_rowC rfl 70 (.tmp 9) (.tmp 24) rfl g9 (crs false rn kn gb).toArray rfl rfl 70 zeroCo.toArray F9x.out (by rw [Try.infoCourse]; rfl) rfl (by simp [crs, colying, costanding, Value.oneCell']) ?_
        have F9y : Hid (Whole (z1.setRow g9 (crs false rn kn gb).toArray) g9 70 (crs false rn kn gb)) := Lib.hid (whole_rowA F9x.out (crs false rn kn gb).toArray)
        have FAy := Lib.hid (whole_rowO FAx.out g9 (crs false rn kn gb).toArray NEgag9.out)
        have FBy := Lib.hid (whole_rowO FBx.out g9 (crs false rn kn gb).toArray (Ne.symm NEg9gb.out))
        have F8y := Lib.hid (whole_rowO F8x.out g9 (crs false rn kn gb).toArray (Ne.symm NEg9g8.out))
        have SY : Hid (Below w5.heap.size w5 (z1.setRow g9 (crs false rn kn gb).toArray)) := Lib.hid (SX.out.trans (below_setRow (Below.refl _ _) _ _ LEg9.out))
        generalize z1.setRow g9 (crs false rn kn gb).toArray = z2 at F8y FAy FBy F9y SY ⊢
        refine hK _ _ ⟨fun _ => SY, ?_⟩
        clear hK K
        refine AnyL.done (by kernel_rfl) ?_
        exact HT g8 g9 ga gb z2 ⟨F8y.out, F9y.out, FAy.out, FBy.out, SY.out⟩
      · clear hii
        refine wpOp_step rfl (fun K hK => ?_)
        go_simp
        have F8 := Lib.hid (whole_new y2 zeroCo 70 _ rfl)
        have hb := (Below.refl y2.heap.size y2).alloc (Nat.le_refl _) (.cells zeroCo.toArray 70)
        have NEgag8 : Hid (ga ≠ y2.heap.size) := Lib.hid (by have := FA.out.lt; omega)
        have FAx := Lib.hid (FA.out.below hb FA.out.lt)
        have NEg9g8 : Hid (g9 ≠ y2.heap.size) := Lib.hid (by have := F9.out.lt; omega)
        have F9x := Lib.hid (F9.out.below hb F9.out.lt)
        have LEg8 : Hid (w5.heap.size ≤ y2.heap.size) := Lib.hid SV.out.size
        have SX := Lib.hid (SV.out.trans (hb.mono SV.out.size))
        obtain ⟨g8, hg8⟩ : ∃ g, y2.heap.size = g := ⟨_, rfl⟩
        rw [hg8] at F8 LEg8 NEgag8 NEg9g8
        try rw [hg8]
        obtain ⟨y3, hy⟩ : ∃ w, y2.alloc (.cells zeroCo.toArray 70) = w := ⟨_, rfl⟩
        rw [hy] at F8 SX FAx F9x
        have hy2 : y2.alloc (.cells #[.bool false, .int .i64 0, .int .i64 0, .int .i64 0, .int .i64 0, .nilFunc, .nilFunc] 70) = y3 := hy
        try rw [hy2]
        refine hK _ _ ⟨fun _ => SX, ?_⟩
        clear hy hy2
        clear hK K hb SV hg8 FA F9
        have SV := SX
        clear SX
        have FA := FAx
        clear FAx
        have F9 := F9x
        clear F9x
        try simp only [Act.put, List.setIfInBounds_toArray, List.set_cons_succ, List.set_cons_zero]
        refine AnyL.one (i := 3) rfl (by kernel_rfl) ?_
        refine wpOp_step rfl (fun K hK => ?_)
        go_simp
        refine (standing_any rn kn p c y3).mono ?_
        rintro e y4 ⟨rfl, hw, hb⟩
        have FB := Lib.hid hw
        have NEgagb : Hid (ga ≠ y3.heap.size) := Lib.hid (by have := FA.out.lt; omega)
        have FAx := Lib.hid (FA.out.below hb FA.out.lt)
        have NEg9gb : Hid (g9 ≠ y3.heap.size) := Lib.hid (by have := F9.out.lt; omega)
        have F9x := Lib.hid (F9.out.below hb F9.out.lt)
        have NEg8gb : Hid (g8 ≠ y3.heap.size) := Lib.hid (by have := F8.out.lt; omega)
        have F8x := Lib.hid (F8.out.below hb F8.out.lt)
        have LEgb : Hid (w5.heap.size ≤ y3.heap.size) := Lib.hid SV.out.size
        have SX := Lib.hid (SV.out.trans (hb.mono SV.out.size))
        obtain ⟨gb, hgb⟩ : ∃ g, y3.heap.size = g := ⟨_, rfl⟩
        rw [hgb] at FB LEgb NEgagb NEg9gb NEg8gb
        try rw [hgb]
        refine hK _ _ ⟨fun _ => SX, ?_⟩
        clear hK K hb hw SV hgb FA F9 F8
        have SV := SX
        clear SX
        have FA := FAx
        clear FAx
        have F9 := F9x
        clear F9x
        have F8 := F8x
        clear F8x
        try simp only [Act.put, List.setIfInBounds_toArray, List.set_cons_succ, List.set_cons_zero]
        refine AnyL.one (i := 6) rfl (by kernel_rfl) ?_
        refine wpOp_step rfl (fun K hK => ?_)
        refine wp_store_rowC rfl 70 (.tmp 8) (.tmp 22) rfl g8 (crs true rn kn ga).toArray rfl rfl 70 zeroCo.toArray F8.out (by rw [Try.infoCourse]; rfl) rfl (by simp [crs, colying, costanding, Value.oneCell']) ?_
        have F8x : Hid (Whole (y4.setRow g8 (crs true rn kn ga).toArray) g8 70 (crs true rn kn ga)) := Lib.hid (whole_rowA F8.out (crs true rn kn ga).toArray)
        have FAx := Lib.hid (whole_rowO FA.out g8 (crs true rn kn ga).toArray NEgag8.out)
        have FBx := Lib.hid (whole_rowO FB.out g8 (crs true rn kn ga).toArray (Ne.symm NEg8gb.out))
        have F9x := Lib.hid (whole_rowO F9.out g8 (crs true rn kn ga).toArray NEg9g8.out)
        have SX : Hid (Below w5.heap.size w5 (y4.setRow g8 (crs true rn kn ga).toArray)) := Lib.hid (SV.out.trans (below_setRow (Below.refl _ _) _ _ LEg8.out))
        generalize y4.setRow g8 (crs true rn kn ga).toArray = z1 at F8x FAx FBx F9x SX ⊢
        refine hK _ _ ⟨fun _ => SX, ?_⟩
        clear hK K SV F8 FA FB F9
        try simp only [Act.put, List.setIfInBounds_toArray, List.set_cons_succ, List.set_cons_zero]
        refine AnyL.one (i := 7) rfl (by kernel_rfl) ?_
        refine wpOp_step rfl (fun K hK => ?_)
        refine wp_store_rowC rfl 70 (.tmp 9) (.tmp 24) rfl g9 (crs false rn kn gb).toArray rfl rfl 70 zeroCo.toArray F9x.out (by rw [Try.infoCourse]; rfl) rfl (by simp [crs, colying, costanding, Value.oneCell']) ?_
        have F9y : Hid (Whole (z1.setRow g9 (crs false rn kn gb).toArray) g9 70 (crs false rn kn gb)) := Lib.hid (whole_rowA F9x.out (crs false rn kn gb).toArray)
        have FAy := Lib.hid (whole_rowO FAx.out g9 (crs false rn kn gb).toArray NEgag9.out)
        have FBy := Lib.hid (whole_rowO FBx.out g9 (crs false rn kn gb).toArray (Ne.symm NEg9gb.out))
        have F8y := Lib.hid (whole_rowO F8x.out g9 (crs false rn kn gb).toArray (Ne.symm NEg9g8.out))
        have SY : Hid (Below w5.heap.size w5 (z1.setRow g9 (crs false rn kn gb).toArray)) := Lib.hid (SX.out.trans (below_setRow (Below.refl _ _) _ _ LEg9.out))
        generalize z1.setRow g9 (crs false rn kn gb).toArray = z2 at F8y FAy FBy F9y SY ⊢
        refine hK _ _ ⟨fun _ => SY, ?_⟩
        clear hK K
        refine AnyL.done (by kernel_rfl) ?_
        exact HT g8 g9 ga gb z2 ⟨F8y.out, F9y.out, FAy.out, FBy.out, SY.out⟩
  · clear hii
    refine wpOp_step rfl (fun K hK => ?_)
    go_simp
    have F8 := Lib.hid (whole_new w9 zeroCo 70 _ rfl)
    have hb := (Below.refl w9.heap.size w9).alloc (Nat.le_refl _) (.cells zeroCo.toArray 70)
    have LEg8 : Hid (w5.heap.size ≤ w9.heap.size) := Lib.hid SV.out.size
    have SX := Lib.hid (SV.out.trans (hb.mono SV.out.size))
    obtain ⟨g8, hg8⟩ : ∃ g, w9.heap.size = g := ⟨_, rfl⟩
    rw [hg8] at F8 LEg8
    try rw [hg8]
    obtain ⟨y1, hy⟩ : ∃ w, w9.alloc (.cells zeroCo.toArray 70) = w := ⟨_, rfl⟩
    rw [hy] at F8 SX
    have hy2 : w9.alloc (.cells #[.bool false, .int .i64 0, .int .i64 0, .int .i64 0, .int .i64 0, .nilFunc, .nilFunc] 70) = y1 := hy
    try rw [hy2]
    refine hK _ _ ⟨fun _ => SX, ?_⟩
    clear hy hy2
    clear hK K hb SV hg8
    have SV := SX
    clear SX
    try simp only [Act.put, List.setIfInBounds_toArray, List.set_cons_succ, List.set_cons_zero]
    refine AnyL.some (rs := [1, 5]) (by kernel_rfl) (by simp) ?_
    intro ii hii
    obtain rfl | rfl : ii = 1 ∨ ii = 5 := by simpa using hii
    · clear hii
      refine wpOp_step rfl (fun K hK => ?_)
      go_simp
      refine (lying_any rn kn p c y1).mono ?_
      rintro e y2 ⟨rfl, hw, hb⟩
      have FA := Lib.hid hw
      have NEg8ga : Hid (g8 ≠ y1.heap.size) := Lib.hid (by have := F8.out.lt; omega)
      have F8x := Lib.hid (F8.out.below hb F8.out.lt)
      have LEga : Hid (w5.heap.size ≤ y1.heap.size) := Lib.hid SV.out.size
      have SX := Lib.hid (SV.out.trans (hb.mono SV.out.size))
      obtain ⟨ga, hga⟩ : ∃ g, y1.heap.size = g := ⟨_, rfl⟩
      rw [hga] at FA LEga NEg8ga
      try rw [hga]
      refine hK _ _ ⟨fun _ => SX, ?_⟩
      clear hK K hb hw SV hga F8
      have SV := SX
      clear SX
      have F8 := F8x
      clear F8x
      try simp only [Act.put, List.setIfInBounds_toArray, List.set_cons_succ, List.set_cons_zero]
      refine AnyL.some (rs := [3, 5]) (by kernel_rfl) (by simp) ?_
      intro ii hii
      obtain rfl | rfl : ii = 3 ∨ ii = 5 := by simpa using hii
      · clear hii
        refine wpOp_step rfl (fun K hK => ?_)
        go_simp
        refine (standing_any rn kn p c y2).mono ?_
        rintro e y3 ⟨rfl, hw, hb⟩
        have FB := Lib.hid hw
        have NEg8gb : Hid (g8 ≠ y2.heap.size) := Lib.hid (by have := F8.out.lt; omega)
        have F8x := Lib.hid (F8.out.below hb F8.out.lt)
        have NEgagb : Hid (ga ≠ y2.heap.size) := Lib.hid (by have := FA.out.lt; omega)
        have FAx := Lib.hid (FA.out.below hb FA.out.lt)
        have LEgb : Hid (w5.heap.size ≤ y2.heap.size) := Lib.hid SV.out.size
        have SX := Lib.hid (SV.out.trans (hb.mono SV.out.size))
        obtain ⟨gb, hgb⟩ : ∃ g, y2.heap.size = g := ⟨_, rfl⟩
        rw [hgb] at FB LEgb NEg8gb NEgagb
        try rw [hgb]
        refine hK _ _ ⟨fun _ => SX, ?_⟩
        clear hK K hb hw SV hgb F8 FA
        have SV := SX
        clear SX
        have F8 := F8x
        clear F8x
        have FA := FAx
        clear FAx
        try simp only [Act.put, List.setIfInBounds_toArray, List.set_cons_succ, List.set_cons_zero]
        refine AnyL.one (i := 5) rfl (by kernel_rfl) ?_
        refine wpOp_step rfl (fun K hK => ?_)
        go_simp
        have F9 := Lib.hid (whole_new y3 zeroCo 70 _ rfl)
        have hb := (Below.refl y3.heap.size y3).alloc (Nat.le_refl _) (.cells zeroCo.toArray 70)
        have NEg8g9 : Hid (g8 ≠ y3.heap.size) := Lib.hid (by have := F8.out.lt; omega)
        have F8x := Lib.hid (F8.out.below hb F8.out.lt)
        have NEgag9 : Hid (ga ≠ y3.heap.size) := Lib.hid (by have := FA.out.lt; omega)
        have FAx := Lib.hid (FA.out.below hb FA.out.lt)
        have NEgbg9 : Hid (gb ≠ y3.heap.size) := Lib.hid (by have := FB.out.lt; omega)
        have FBx := Lib.hid (FB.out.below hb FB.out.lt)
        have LEg9 : Hid (w5.heap.size ≤ y3.heap.size) := Lib.hid SV.out.size
        have SX := Lib.hid (SV.out.trans (hb.mono SV.out.size))
        obtain ⟨g9, hg9⟩ : ∃ g, y3.heap.size = g := ⟨_, rfl⟩
        rw [hg9] at F9 LEg9 NEg8g9 NEgag9 NEgbg9
        try rw [hg9]
        obtain ⟨y4, hy⟩ : ∃ w, y3.alloc (.cells zeroCo.toArray 70) = w := ⟨_, rfl⟩
        rw [hy] at F9 SX F8x FAx FBx
        have hy2 : y3.alloc (.cells #[.bool false, .int .i64 0, .int .i64 0, .int .i64 0, .int .i64 0, .nilFunc, .nilFunc] 70) = y4 := hy
        try rw [hy2]
        refine hK _ _ ⟨fun _ => SX, ?_⟩
        clear hy hy2
        clear hK K hb SV hg9 F8 FA FB
        have SV := SX
        clear SX
        have F8 := F8x
        clear F8x
        have FA := FAx
        clear FAx
        have FB := FBx
        clear FBx
        try simp only [Act.put, List.setIfInBounds_toArray, List.set_cons_succ, List.set_cons_zero]
        refine AnyL.one (i := 6) rfl (by kernel_rfl) ?_
        refine wpOp_step rfl (fun K hK => ?_)
        refine wp_store_rowC rfl 70 (.tmp 8) (.tmp 22) rfl g8 (crs true rn kn ga).toArray rfl rfl 70 zeroCo.toArray F8.out (by rw [Try.infoCourse]; rfl) rfl (by simp [crs, colying, costanding, Value.oneCell']) ?_
        have F8x : Hid (Whole (y4.setRow g8 (crs true rn kn ga).toArray) g8 70 (crs true rn kn ga)) := Lib.hid (whole_rowA F8.out (crs true rn kn ga).toArray)
        have FAx := Lib.hid (whole_rowO FA.out g8 (crs true rn kn ga).toArray (Ne.symm NEg8ga.out))
        have FBx := Lib.hid (whole_rowO FB.out g8 (crs true rn kn ga).toArray (Ne.symm NEg8gb.out))
        have F9x := Lib.hid (whole_rowO F9.out g8 (crs true rn kn ga).toArray (Ne.symm NEg8g9.out))
        have SX : Hid (Below w5.heap.size w5 (y4.setRow g8 (crs true rn kn ga).toArray)) := Lib.hid (SV.out.trans (below_setRow (Below.refl _ _) _ _ LEg8.out))
        generalize y4.setRow g8 (crs true rn kn ga).toArray = z1 at F8x FAx FBx F9x SX ⊢
        refine hK _ _ ⟨fun _ => SX, ?_⟩
        clear hK K SV F8 FA FB F9
        try simp only [Act.put, List.setIfInBounds_toArray, List.set_cons_succ, List.set_cons_zero]
        refine AnyL.one (i := 7) rfl (by kernel_rfl) ?_
        refine wpOp_step rfl (fun K hK => ?_)
        refine wp_store_rowC rfl 70 (.tmp 9) (.tmp 24) rfl g9 (crs false rn kn gb).toArray rfl rfl 70 zeroCo.toArray F9x.out (by rw [Try.infoCourse]; rfl) rfl (by simp [crs, colying, costanding, Value.oneCell']) ?_
        have F9y : Hid (Whole (z1.setRow g9 (crs false rn kn gb).toArray) g9 70 (crs false rn kn gb)) := Lib.hid (whole_rowA F9x.out (crs false rn kn gb).toArray)
        have FAy := Lib.hid (whole_rowO FAx.out g9 (crs false rn kn gb).toArray NEgag9.out)
        have FBy := Lib.hid (whole_rowO FBx.out g9 (crs false rn kn gb).toArray NEgbg9.out)
        have F8y := Lib.hid (whole_rowO F8x.out g9 (crs false rn kn gb).toArray NEg8g9.out)
        have SY : Hid (Below w5.heap.size w5 (z1.setRow g9 (crs false rn kn gb).toArray)) := Lib.hid (SX.out.trans (below_setRow (Below.refl _ _) _ _ LEg9.out))
        generalize z1.setRow g9 (crs false rn kn gb).toArray = z2 at F8y FAy FBy F9y SY ⊢
        refine hK _ _ ⟨fun _ => SY, ?_⟩
        clear hK K
        refine AnyL.done (by kernel_rfl) ?_
        exact HT g8 g9 ga gb z2 ⟨F8y.out, F9y.out, FAy.out, FBy.out, SY.out⟩
      · clear hii
        refine wpOp_step rfl (fun K hK => ?_)
        go_simp
        have F9 := Lib.hid (whole_new y2 zeroCo 70 _ rfl)
        have hb := (Below.refl y2.heap.size y2).alloc (Nat.le_refl _) (.cells zeroCo.toArray 70)
        have NEg8g9 : Hid (g8 ≠ y2.heap.size) := Lib.hid (by have := F8.out.lt; omega)
        have F8x := Lib.hid (F8.out.below hb F8.out.lt)
        have NEgag9 : Hid (ga ≠ y2.heap.size) := Lib.hid (by have := FA.out.lt; omega)
        have FAx := Lib.hid (FA.out.below hb FA.out.lt)
        have LEg9 : Hid (w5.heap.size ≤ y2.heap.size) := Lib.hid SV.out.size
        have SX := Lib.hid (SV.out.trans (hb.mono SV.out.size))
        obtain ⟨g9, hg9⟩ : ∃ g, y2.heap.size = g := ⟨_, rfl⟩
        rw [hg9] at F9 LEg9 NEg8g9 NEgag9
        try rw [hg9]
        obtain ⟨y3, hy⟩ : ∃ w, y2.alloc (.cells zeroCo.toArray 70) = w := ⟨_, rfl⟩
        rw [hy] at F9 SX F8x FAx
        have hy2 : y2.alloc (.cells #[.bool false, .int .i64 0, .int .i64 0, .int .i64 0, .int .i64 0, .nilFunc, .nilFunc] 70) = y3 := hy
        try rw [hy2]
        refine hK _ _ ⟨fun _ => SX, ?_⟩
        clear hy hy2
        clear hK K hb SV hg9 F8 FA
        have SV := SX
        clear SX
        have F8 := F8x
        clear F8x
        have FA := FAx
        clear FAx
        try simp only [Act.put, List.setIfInBounds_toArray, List.set_cons_succ, List.set_cons_zero]
        refine AnyL.one (i := 3) rfl (by kernel_rfl) ?_
        refine wpOp_step rfl (fun K hK => ?_)
        go_simp
        refine (standing_any rn kn p c y3).mono ?_
        rintro e y4 ⟨rfl, hw, hb⟩
        have FB := Lib.hid hw
        have NEg8gb : Hid (g8 ≠ y3.heap.size) := Lib.hid (by have := F8.out.lt; omega)
        have F8x := Lib.hid (F8.out.below hb F8.out.lt)
        have NEgagb : Hid (ga ≠ y3.heap.size) := Lib.hid (by have := FA.out.lt; omega)
        have FAx := Lib.hid (FA.out.below hb FA.out.lt)
        have NEg9gb : Hid (g9 ≠ y3.heap.size) := Lib.hid (by have := F9.out.lt; omega)
        have F9x := Lib.hid (F9.out.below hb F9.out.lt)
        have LEgb : Hid (w5.heap.size ≤ y3.heap.size) := Lib.hid SV.out.size
        have SX := Lib.hid (SV.out.trans (hb.mono SV.out.size))
        obtain ⟨gb, hgb⟩ : ∃ g, y3.heap.size = g := ⟨_, rfl⟩
        rw [hgb] at FB LEgb NEg8gb NEgagb NEg9gb
        try rw [hgb]
        refine hK _ _ ⟨fun _ => SX, ?_⟩
        clear hK K hb hw SV hgb F8 FA F9
        have SV := SX
        clear SX
        have F8 := F8x
        clear F8x
        have FA := FAx
        clear FAx
        have F9 := F9x
        clear F9x
        try simp only [Act.put, List.setIfInBounds_toArray, List.set_cons_succ, List.set_cons_zero]
        refine AnyL.one (i := 6) rfl (by kernel_rfl) ?_
        refine wpOp_step rfl (fun K hK => ?_)
        refine wp_store_rowC rfl 70 (.tmp 8) (.tmp 22) rfl g8 (crs true rn kn ga).toArray rfl rfl 70 zeroCo.toArray F8.out (by rw [Try.infoCourse]; rfl) rfl (by simp [crs, colying, costanding, Value.oneCell']) ?_
        have F8x : Hid (Whole (y4.setRow g8 (crs true rn kn ga).toArray) g8 70 (crs true rn kn ga)) := Lib.hid (whole_rowA F8.out (crs true rn kn ga).toArray)
        have FAx := Lib.hid (whole_rowO FA.out g8 (crs true rn kn ga).toArray (Ne.symm NEg8ga.out))
        have FBx := Lib.hid (whole_rowO FB.out g8 (crs true rn kn ga).toArray (Ne.symm NEg8gb.out))
        have F9x := Lib.hid (whole_rowO F9.out g8 (crs true rn kn ga).toArray (Ne.symm NEg8g9.out))
        have SX : Hid (Below w5.heap.size w5 (y4.setRow g8 (crs true rn kn ga).toArray)) := Lib.hid (SV.out.trans (below_setRow (Below.refl _ _) _ _ LEg8.out))
        generalize y4.setRow g8 (crs true rn kn ga).toArray = z1 at F8x FAx FBx F9x SX ⊢
        refine hK _ _ ⟨fun _ => SX, ?_⟩
        clear hK K SV F8 FA FB F9
        try simp only [Act.put, List.setIfInBounds_toArray, List.set_cons_succ, List.set_cons_zero]
        refine AnyL.one (i := 7) rfl (by kernel_rfl) ?_
        refine wpOp_step rfl (fun K hK => ?_)
        refine wp_store_rowC rfl 70 (.tmp 9) (.tmp 24) rfl g9 (crs false rn kn gb).toArray rfl rfl 70 zeroCo.toArray F9x.out (by rw [Try.infoCourse]; rfl) rfl (by simp [crs, colying, costanding, Value.oneCell']) ?_
        have F9y : Hid (Whole (z1.setRow g9 (crs false rn kn gb).toArray) g9 70 (crs false rn kn gb)) := Lib.hid (whole_rowA F9x.out (crs false rn kn gb).toArray)
        have FAy := Lib.hid (whole_rowO FAx.out g9 (crs false rn kn gb).toArray NEgag9.out)
        have FBy := Lib.hid (whole_rowO FBx.out g9 (crs false rn kn gb).toArray (Ne.symm NEg9gb.out))
        have F8y := Lib.hid (whole_rowO F8x.out g9 (crs false rn kn gb).toArray NEg8g9.out)
        have SY : Hid (Below w5.heap.size w5 (z1.setRow g9 (crs false rn kn gb).toArray)) := Lib.hid (SX.out.trans (below_setRow (Below.refl _ _) _ _ LEg9.out))
        generalize z1.setRow g9 (crs false rn kn gb).toArray = z2 at F8y FAy FBy F9y SY ⊢
        refine hK _ _ ⟨fun _ => SY, ?_⟩
        clear hK K
        refine AnyL.done (by kernel_rfl) ?_
        exact HT g8 g9 ga gb z2 ⟨F8y.out, F9y.out, FAy.out, FBy.out, SY.out⟩
    · clear hii
      refine wpOp_step rfl (fun K hK => ?_)
      go_simp
      have F9 := Lib.hid (whole_new y1 zeroCo 70 _ rfl)
      have hb := (Below.refl y1.heap.size y1).alloc (Nat.le_refl _) (.cells zeroCo.toArray 70)
      have NEg8g9 : Hid (g8 ≠ y1.heap.size) := Lib.hid (by have := F8.out.lt; omega)
      have F8x := Lib.hid (F8.out.below hb F8.out.lt)
      have LEg9 : Hid (w5.heap.size ≤ y1.heap.size) := Lib.hid SV.out.size
      have SX := Lib.hid (SV.out.trans (hb.mono SV.out.size))
      obtain ⟨g9, hg9⟩ : ∃ g, y1.heap.size = g := ⟨_, rfl⟩
      rw [hg9] at F9 LEg9 NEg8g9
      try rw [hg9]
      obtain ⟨y2, hy⟩ : ∃ w, y1.alloc (.cells zeroCo.toArray 70) = w := ⟨_, rfl⟩
      rw [hy] at F9 SX F8x
      have hy2 : y1.alloc (.cells #[.bool false, .int .i64 0, .int .i64 0, .int .i64 0, .int .i64 0, .nilFunc, .nilFunc] 70) = y2 := hy
      try rw [hy2]
      refine hK _ _ ⟨fun _ => SX, ?_⟩
      clear hy hy2
      clear hK K hb SV hg9 F8
      have SV := SX
      clear SX
      have F8 := F8x
      clear F8x
      try simp only [Act.put, List.setIfInBounds_toArray, List.set_cons_succ, List.set_cons_zero]
      refine AnyL.one (i := 1) rfl (by kernel_rfl) ?_
      refine wpOp_step rfl (fun K hK => ?_)
      go_simp
      refine (lying_any rn kn p c y2).mono ?_
      rintro e y3 ⟨rfl, hw, hb⟩
      have FA := Lib.hid hw
      have NEg8ga : Hid (g8 ≠ y2.heap.size) := Lib.hid (by have := F8.out.lt; omega)
      have F8x := Lib.hid (F8.out.below hb F8.out.lt)
      have NEg9ga : Hid (g9 ≠ y2.heap.size) := Lib.hid (by have := F9.out.lt; omega)
      have F9x := Lib.hid (F9.out.below hb F9.out.lt)
      have LEga : Hid (w5.heap.size ≤ y2.heap.size) := Lib.hid SV.out.size
      have SX := Lib.hid (SV.out.trans (hb.mono SV.out.size))
      obtain ⟨ga, hga⟩ : ∃ g, y2.heap.size = g := ⟨_, rfl⟩
      rw [hga] at FA LEga NEg8ga NEg9ga
      try rw [hga]
      refine hK _ _ ⟨fun _ => SX, ?_⟩
      clear hK K hb hw SV hga F8 F9
      have SV := SX
      clear SX
      have F8 := F8x
      clear F8x
      have F9 := F9x
      clear F9x
      try simp only [Act.put, List.setIfInBounds_toArray, List.set_cons_succ, List.set_cons_zero]
      refine AnyL.one (i := 3) rfl (by kernel_rfl) ?_
      refine wpOp_step rfl (fun K hK => ?_)
      go_simp
      refine (standing_any rn kn p c y3).mono ?_
      rintro e y4 ⟨rfl, hw, hb⟩
      have FB := Lib.hid hw
      have NEg8gb : Hid (g8 ≠ y3.heap.size) := Lib.hid (by have := F8.out.lt; omega)
      have F8x := Lib.hid (F8.out.below hb F8.out.lt)
      have NEg9gb : Hid (g9 ≠ y3.heap.size) := Lib.hid (by have := F9.out.lt; omega)
      have F9x := Lib.hid (F9.out.below hb F9.out.lt)
      have NEgagb : Hid (ga ≠ y3.heap.size) := Lib.hid (by have := FA.out.lt; omega)
      have FAx := Lib.hid (FA.out.below hb FA.out.lt)
      have LEgb : Hid (w5.heap.size ≤ y3.heap.size) := Lib.hid SV.out.size
      have SX := Lib.hid (SV.out.trans (hb.mono SV.out.size))
      obtain ⟨gb, hgb⟩ : ∃ g, y3.heap.size = g := ⟨_, rfl⟩
      rw [hgb] at FB LEgb NEg8gb NEg9gb NEgagb
      try rw [hgb]
      refine hK _ _ ⟨fun _ => SX, ?_⟩
      clear hK K hb hw SV hgb F8 F9 FA
      have SV := SX
      clear SX
      have F8 := F8x
      clear F8x
      have F9 := F9x
      clear F9x
      have FA := FAx
      clear FAx
      try simp only [Act.put, List.setIfInBounds_toArray, List.set_cons_succ, List.set_cons_zero]
      refine AnyL.one (i := 6) rfl (by kernel_rfl) ?_
      refine wpOp_step rfl (fun K hK => ?_)
      refine wp_store_rowC rfl 70 (.tmp 8) (.tmp 22) rfl g8 (crs true rn kn ga).toArray rfl rfl 70 zeroCo.toArray F8.out (by rw [Try.infoCourse]; rfl) rfl (by simp [crs, colying, costanding, Value.oneCell']) ?_
      have F8x : Hid (Whole (y4.setRow g8 (crs true rn kn ga).toArray) g8 70 (crs true rn kn ga)) := Lib.hid (whole_rowA F8.out (crs true rn kn ga).toArray)
      have FAx := Lib.hid (whole_rowO FA.out g8 (crs true rn kn ga).toArray (Ne.symm NEg8ga.out))
      have FBx := Lib.hid (whole_rowO FB.out g8 (crs true rn kn ga).toArray (Ne.symm NEg8gb.out))
      have F9x := Lib.hid (whole_rowO F9.out g8 (crs true rn kn ga).toArray (Ne.symm NEg8g9.out))
      have SX : Hid (Below w5.heap.size w5 (y4.setRow g8 (crs true rn kn ga).toArray)) := Lib.hid (SV.out.trans (below_setRow (Below.refl _ _) _ _ LEg8.out))
      generalize y4.setRow g8 (crs true rn kn ga).toArray = z1 at F8x FAx FBx F9x SX ⊢
      refine hK _ _ ⟨fun _ => SX, ?_⟩
      clear hK K SV F8 FA FB F9
      try simp only [Act.put, List.setIfInBounds_toArray, List.set_cons_succ, List.set_cons_zero]
      refine AnyL.one (i := 7) rfl (by kernel_rfl) ?_
      refine wpOp_step rfl (fun K hK => ?_)
      refine wp_store_rowC rfl 70 (.tmp 9) (.tmp 24) rfl g9 (crs false rn kn gb).toArray rfl rfl 70 zeroCo.toArray F9x.out (by rw [Try.infoCourse]; rfl) rfl (by simp [crs, colying, costanding, Value.oneCell']) ?_
      have F9y : Hid (Whole (z1.setRow g9 (crs false rn kn gb).toArray) g9 70 (crs false rn kn gb)) := Lib.hid (whole_rowA F9x.out (crs false rn kn gb).toArray)
      have FAy := Lib.hid (whole_rowO FAx.out g9 (crs false rn kn gb).toArray (Ne.symm NEg9ga.out))
      have FBy := Lib.hid (whole_rowO FBx.out g9 (crs false rn kn gb).toArray (Ne.symm NEg9gb.out))
      have F8y := Lib.hid (whole_rowO F8x.out g9 (crs false rn kn gb).toArray NEg8g9.out)
      have SY : Hid (Below w5.heap.size w5 (z1.setRow g9 (crs false rn kn gb).toArray)) := Lib.hid (SX.out.trans (below_setRow (Below.refl _ _) _ _ LEg9.out))
      generalize z1.setRow g9 (crs false rn kn gb).toArray = z2 at F8y FAy FBy F9y SY ⊢
      refine hK _ _ ⟨fun _ => SY, ?_⟩
      clear hK K
      refine AnyL.done (by kernel_rfl) ?_
      exact HT g8 g9 ga gb z2 ⟨F8y.out, F9y.out, FAy.out, FBy.out, SY.out⟩
  · clear hii
    refine wpOp_step rfl (fun K hK => ?_)
    go_simp
    have F9 := Lib.hid (whole_new w9 zeroCo 70 _ rfl)
    have hb := (Below.refl w9.heap.size w9).alloc (Nat.le_refl _) (.cells zeroCo.toArray 70)
    have LEg9 : Hid (w5.heap.size ≤ w9.heap.size) := Lib.hid SV.out.size
    have SX := Lib.hid (SV.out.trans (hb.mono SV.out.size))
    obtain ⟨g9, hg9⟩ : ∃ g, w9.heap.size = g := ⟨_, rfl⟩
    rw [hg9] at F9 LEg9
    try rw [hg9]
    obtain ⟨y1, hy⟩ : ∃ w, w9.alloc (.cells zeroCo.toArray 70) = w := ⟨_, rfl⟩
    rw [hy] at F9 SX
    have hy2 : w9.alloc (.cells #[.bool false, .int .i64 0, .int .i64 0, .int .i64 0, .int .i64 0, .nilFunc, .nilFunc] 70) = y1 := hy
    try rw [hy2]
    refine hK _ _ ⟨fun _ => SX, ?_⟩
    clear hy hy2
    clear hK K hb SV hg9
    have SV := SX
    clear SX
    try simp only [Act.put, List.setIfInBounds_toArray, List.set_cons_succ, List.set_cons_zero]
    refine AnyL.some (rs := [1, 4]) (by kernel_rfl) (by simp) ?_
    intro ii hii
    obtain rfl | rfl : ii = 1 ∨ ii = 4 := by simpa using hii
    · clear hii
      refine wpOp_step rfl (fun K hK => ?_)
      go_simp
      refine (lying_any rn kn p c y1).mono ?_
      rintro e y2 ⟨rfl, hw, hb⟩
      have FA := Lib.hid hw
      have NEg9ga : Hid (g9 ≠ y1.heap.size) := Lib.hid (by have := F9.out.lt; omega)
      have F9x := Lib.hid (F9.out.below hb F9.out.lt)
      have LEga : Hid (w5.heap.size ≤ y1.heap.size) := Lib.hid SV.out.size
      have SX := Lib.hid (SV.out.trans (hb.mono SV.out.size))
      obtain ⟨ga, hga⟩ : ∃ g, y1.heap.size = g := ⟨_, rfl⟩
      rw [hga] at FA LEga NEg9ga
      try rw [hga]
      refine hK _ _ ⟨fun _ => SX, ?_⟩
      clear hK K hb hw SV hga F9
      have SV := SX
      clear SX
      have F9 := F9x
      clear F9x
      try simp only [Act.put, List.setIfInBounds_toArray, List.set_cons_succ, List.set_cons_zero]
      refine AnyL.some (rs := [3, 4]) (by kernel_rfl) (by simp) ?_
      intro ii hii
      obtain rfl | rfl : ii = 3 ∨ ii = 4 := by simpa using hii
      · clear hii
        refine wpOp_step rfl (fun K hK => ?_)
        go_simp
        refine (standing_any rn kn p c y2).mono ?_
        rintro e y3 ⟨rfl, hw, hb⟩
        have FB := Lib.hid hw
        have NEg9gb : Hid (g9 ≠ y2.heap.size) := Lib.hid (by have := F9.out.lt; omega)
        have F9x := Lib.hid (F9.out.below hb F9.out.lt)
        have NEgagb : Hid (ga ≠ y2.heap.size) := Lib.hid (by have := FA.out.lt; omega)
        have FAx := Lib.hid (FA.out.below hb FA.out.lt)
        have LEgb : Hid (w5.heap.size ≤ y2.heap.size) := Lib.hid SV.out.size
        have SX := Lib.hid (SV.out.trans (hb.mono SV.out.size))
        obtain ⟨gb, hgb⟩ : ∃ g, y2.heap.size = g := ⟨_, rfl⟩
        rw [hgb] at FB LEgb NEg9gb NEgagb
        try rw [hgb]
        refine hK _ _ ⟨fun _ => SX, ?_⟩
        clear hK K hb hw SV hgb F9 FA
        have SV := SX
        clear SX
        have F9 := F9x
        clear F9x
        have FA := FAx
        clear FAx
        try simp only [Act.put, List.setIfInBounds_toArray, List.set_cons_succ, List.set_cons_zero]
        refine AnyL.one (i := 4) rfl (by kernel_rfl) ?_
        refine wpOp_step rfl (fun K hK => ?_)
        go_simp
        have F8 := Lib.hid (whole_new y3 zeroCo 70 _ rfl)
        have hb := (Below.refl y3.heap.size y3).alloc (Nat.le_refl _) (.cells zeroCo.toArray 70)
        have NEg9g8 : Hid (g9 ≠ y3.heap.size) := Lib.hid (by have := F9.out.lt; omega)
        have F9x := Lib.hid (F9.out.below hb F9.out.lt)
        have NEgag8 : Hid (ga ≠ y3.heap.size) := Lib.hid (by have := FA.out.lt; omega)
        have FAx := Lib.hid (FA.out.below hb FA.out.lt)
        have NEgbg8 : Hid (gb ≠ y3.heap.size) := Lib.hid (by have := FB.out.lt; omega)
        have FBx := Lib.hid (FB.out.below hb FB.out.lt)
        have LEg8 : Hid (w5.heap.size ≤ y3.heap.size) := Lib.hid SV.out.size
        have SX := Lib.hid (SV.out.trans (hb.mono SV.out.size))
        obtain ⟨g8, hg8⟩ : ∃ g, y3.heap.size = g := ⟨_, rfl⟩
        rw [hg8] at F8 LEg8 NEg9g8 NEgag8 NEgbg8
        try rw [hg8]
        obtain ⟨y4, hy⟩ : ∃ w, y3.alloc (.cells zeroCo.toArray 70) = w := ⟨_, rfl⟩
        rw [hy] at F8 SX F9x FAx FBx
        have hy2 : y3.alloc (.cells #[.bool false, .int .i64 0, .int .i64 0, .int .i64 0, .int .i64 0, .nilFunc, .nilFunc] 70) = y4 := hy
        try rw [hy2]
        refine hK _ _ ⟨fun _ => SX, ?_⟩
        clear hy hy2
        clear hK K hb SV hg8 F9 FA FB
        have SV := SX
        clear SX
        have F9 := F9x
        clear F9x
        have FA := FAx
        clear FAx
        have FB := FBx
        clear FBx
        try simp only [Act.put, List.setIfInBounds_toArray, List.set_cons_succ, List.set_cons_zero]
        refine AnyL.one (i := 6) rfl (by kernel_rfl) ?_
        refine wpOp_step rfl (fun K hK => ?_)
        refine wp_store_rowC rfl 70 (.tmp 8) (.tmp 22) rfl g8 (crs true rn kn ga).toArray rfl rfl 70 zeroCo.toArray F8.out (by rw [Try.infoCourse]; rfl) rfl (by simp [crs, colying, costanding, Value.oneCell']) ?_
        have F8x : Hid (Whole (y4.setRow g8 (crs true rn kn ga).toArray) g8 70 (crs true rn kn ga)) := Lib.hid (whole_rowA F8.out (crs true rn kn ga).toArray)
        have FAx := Lib.hid (whole_rowO FA.out g8 (crs true rn kn ga).toArray NEgag8.out)
        have FBx := Lib.hid (whole_rowO FB.out g8 (crs true rn kn ga).toArray NEgbg8.out)
        have F9x := Lib.hid (whole_rowO F9.out g8 (crs true rn kn ga).toArray NEg9g8.out)
        have SX : Hid (Below w5.heap.size w5 (y4.setRow g8 (crs true rn kn ga).toArray)) := Lib.hid (SV.out.trans (below_setRow (Below.refl _ _) _ _ LEg8.out))
        generalize y4.setRow g8 (crs true rn kn ga).toArray = z1 at F8x FAx FBx F9x SX ⊢
        refine hK _ _ ⟨fun _ => SX, ?_⟩
        clear hK K SV F8 FA FB F9
        try simp only [Act.put, List.setIfInBounds_toArray, List.set_cons_succ, List.set_cons_zero]
        refine AnyL.one (i := 7) rfl (by kernel_rfl) ?_
        refine wpOp_step rfl (fun K hK => ?_)
        refine wp_store_rowC rfl 70 (.tmp 9) (.tmp 24) rfl g9 (crs false rn kn gb).toArray rfl rfl 70 zeroCo.toArray F9x.out (by rw [Try.infoCourse]; rfl) rfl (by simp [crs, colying, costanding, Value.oneCell']) ?_
        have F9y : Hid (Whole (z1.setRow g9 (crs false rn kn gb).toArray) g9 70 (crs false rn kn gb)) := Lib.hid (whole_rowA F9x.out (crs false rn kn gb).toArray)
        have FAy := Lib.hid (whole_rowO FAx.out g9 (crs false rn kn gb).toArray (Ne.symm NEg9ga.out))
        have FBy := Lib.hid (whole_rowO FBx.out g9 (crs false rn kn gb).toArray (Ne.symm NEg9gb.out))
        have F8y := Lib.hid (whole_rowO F8x.out g9 (crs false rn kn gb).toArray (Ne.symm NEg9g8.out))
        have SY : Hid (Below w5.heap.size w5 (z1.setRow g9 (crs false rn kn gb).toArray)) := Lib.hid (SX.out.trans (below_setRow (Below.refl _ _) _ _ LEg9.out))
        generalize z1.setRow g9 (crs false rn kn gb).toArray = z2 at F8y FAy FBy F9y SY ⊢
        refine hK _ _ ⟨fun _ => SY, ?_⟩
        clear hK K
        refine AnyL.done (by kernel_rfl) ?_
        exact HT g8 g9 ga gb z2 ⟨F8y.out, F9y.out, FAy.out, FBy.out, SY.out⟩
      · clear hii
        refine wpOp_step rfl (fun K hK => ?_)
        go_simp
        have F8 := Lib.hid (whole_new y2 zeroCo 70 _ rfl)
        have hb := (Below.refl y2.heap.size y2).alloc (Nat.le_refl _) (.cells zeroCo.toArray 70)
        have NEg9g8 : Hid (g9 ≠ y2.heap.size) := Lib.hid (by have := F9.out.lt; omega)
        have F9x := Lib.hid (F9.out.below hb F9.out.lt)
        have NEgag8 : Hid (ga ≠ y2.heap.size) := Lib.hid (by have := FA.out.lt; omega)
        have FAx := Lib.hid (FA.out.below hb FA.out.lt)
        have LEg8 : Hid (w5.heap.size ≤ y2.heap.size) := Lib.hid SV.out.size
        have SX := Lib.hid (SV.out.trans (hb.mono SV.out.size))
        obtain ⟨g8, hg8⟩ : ∃ g, y2.heap.size = g := ⟨_, rfl⟩
        rw [hg8] at F8 LEg8 NEg9g8 NEgag8
        try rw [hg8]
        obtain ⟨y3, hy⟩ : ∃ w, y2.alloc (.cells zeroCo.toArray 70) = w := ⟨_, rfl⟩
        rw [hy] at F8 SX F9x FAx
        have hy2 : y2.alloc (.cells #[.bool false, .int .i64 0, .int .i64 0, .int .i64 0, .int .i64 0, .nilFunc, .nilFunc] 70) = y3 := hy
        try rw [hy2]
        refine hK _ _ ⟨fun _ => SX, ?_⟩
        clear hy hy2
        clear hK K hb SV hg8 F9 FA
        have SV := SX
        clear SX
        have F9 := F9x
        clear F9x
        have FA := FAx
        clear FAx
        try simp only [Act.put, List.setIfInBounds_toArray, List.set_cons_succ, List.set_cons_zero]
        refine AnyL.one (i := 3) rfl (by kernel_rfl) ?_
        refine wpOp_step rfl (fun K hK => ?_)
        go_simp
        refine (standing_any rn kn p c y3).mono ?_
        rintro e y4 ⟨rfl, hw, hb⟩
        have FB := Lib.hid hw
        have NEg9gb : Hid (g9 ≠ y3.heap.size) := Lib.hid (by have := F9.out.lt; omega)
        have F9x := Lib.hid (F9.out.below hb F9.out.lt)
        have NEgagb : Hid (ga ≠ y3.heap.size) := Lib.hid (by have := FA.out.lt; omega)
        have FAx := Lib.hid (FA.out.below hb FA.out.lt)
        have NEg8gb : Hid (g8 ≠ y3.heap.size) := Lib.hid (by have := F8.out.lt; omega)
        have F8x := Lib.hid (F8.out.below hb F8.out.lt)
        have LEgb : Hid (w5.heap.size ≤ y3.heap.size) := Lib.hid SV.out.size
        have SX := Lib.hid (SV.out.trans (hb.mono SV.out.size))
        obtain ⟨gb, hgb⟩ : ∃ g, y3.heap.size = g := ⟨_, rfl⟩
        rw [hgb] at FB LEgb NEg9gb NEgagb NEg8gb
        try rw [hgb]
        refine hK _ _ ⟨fun _ => SX, ?_⟩
        clear hK K hb hw SV hgb F9 FA F8
        have SV := SX
        clear SX
        have F9 := F9x
        clear F9x
        have FA := FAx
        clear FAx
        have F8 := F8x
        clear F8x
        try simp only [Act.put, List.setIfInBounds_toArray, List.set_cons_succ, List.set_cons_zero]
        refine AnyL.one (i := 6) rfl (by kernel_rfl) ?_
        refine wpOp_step rfl (fun K hK => ?_)
        refine wp_store_rowC rfl 70 (.tmp 8) (.tmp 22) rfl g8 (crs true rn kn ga).toArray rfl rfl 70 zeroCo.toArray F8.out (by rw [Try.infoCourse]; rfl) rfl (by simp [crs, colying, costanding, Value.oneCell']) ?_
        have F8x : Hid (Whole (y4.setRow g8 (crs true rn kn ga).toArray) g8 70 (crs true rn kn ga)) := Lib.hid (whole_rowA F8.out (crs true rn kn ga).toArray)
        have FAx := Lib.hid (whole_rowO FA.out g8 (crs true rn kn ga).toArray NEgag8.out)
        have FBx := Lib.hid (whole_rowO FB.out g8 (crs true rn kn ga).toArray (Ne.symm NEg8gb.out))
        have F9x := Lib.hid (whole_rowO F9.out g8 (crs true rn kn ga).toArray NEg9g8.out)
        have SX : Hid (Below w5.heap.size w5 (y4.setRow g8 (crs true rn kn ga).toArray)) := Lib.hid (SV.out.trans (below_setRow (Below.refl _ _) _ _ LEg8.out))
        generalize y4.setRow g8 (crs true rn kn ga).toArray = z1 at F8x FAx FBx F9x SX ⊢
        refine hK _ _ ⟨fun _ => SX, ?_⟩
        clear hK K SV F8 FA FB F9
        try simp only [Act.put, List.setIfInBounds_toArray, List.set_cons_succ, List.set_cons_zero]
        refine AnyL.one (i := 7) rfl (by kernel_rfl) ?_
        refine wpOp_step rfl (fun K hK => ?_)
        refine wp_store_rowC rfl 70 (.tmp 9) (.tmp 24) rfl g9 (crs false rn kn gb).toArray rfl rfl 70 zeroCo.toArray F9x.out (by rw [Try.infoCourse]; rfl) rfl (by simp [crs, colying, costanding, Value.oneCell']) ?_
        have F9y : Hid (Whole (z1.setRow g9 (crs false rn kn gb).toArray) g9 70 (crs false rn kn gb)) := Lib.hid (whole_rowA F9x.out (crs false rn kn gb).toArray)
        have FAy := Lib.hid (whole_rowO FAx.out g9 (crs false rn kn gb).toArray (Ne.symm NEg9ga.out))
        have FBy := Lib.hid (whole_rowO FBx.out g9 (crs false rn kn gb).toArray (Ne.symm NEg9gb.out))
        have F8y := Lib.hid (whole_rowO F8x.out g9 (crs false rn kn gb).toArray (Ne.symm NEg9g8.out))
        have SY : Hid (Below w5.heap.size w5 (z1.setRow g9 (crs false rn kn gb).toArray)) := Lib.hid (SX.out.trans (below_setRow (Below.refl _ _) _ _ LEg9.out))
        generalize z1.setRow g9 (crs false rn kn gb).toArray = z2 at F8y FAy FBy F9y SY ⊢
        refine hK _ _ ⟨fun _ => SY, ?_⟩
        clear hK K
        refine AnyL.done (by kernel_rfl) ?_
        exact HT g8 g9 ga gb z2 ⟨F8y.out, F9y.out, FAy.out, FBy.out, SY.out⟩
    · clear hii
      refine wpOp_step rfl (fun K hK => ?_)
      go_simp
      have F8 := Lib.hid (whole_new y1 zeroCo 70 _ rfl)
      have hb := (Below.refl y1.heap.size y1).alloc (Nat.le_refl _) (.cells zeroCo.toArray 70)
      have NEg9g8 : Hid (g9 ≠ y1.heap.size) := Lib.hid (by have := F9.out.lt; omega)
      have F9x := Lib.hid (F9.out.below hb F9.out.lt)
      have LEg8 : Hid (w5.heap.size ≤ y1.heap.size) := Lib.hid SV.out.size
      have SX := Lib.hid (SV.out.trans (hb.mono SV.out.size))
      obtain ⟨g8, hg8⟩ : ∃ g, y1.heap.size = g := ⟨_, rfl⟩
      rw [hg8] at F8 LEg8 NEg9g8
      try rw [hg8]
      obtain ⟨y2, hy⟩ : ∃ w, y1.alloc (.cells zeroCo.toArray 70) = w := ⟨_, rfl⟩
      rw [hy] at F8 SX F9x
      have hy2 : y1.alloc (.cells #[.bool false, .int .i64 0, .int .i64 0, .int .i64 0, .int .i64 0, .nilFunc, .nilFunc] 70) = y2 := hy
      try rw [hy2]
      refine hK _ _ ⟨fun _ => SX, ?_⟩
      clear hy hy2
      clear hK K hb SV hg8 F9
      have SV := SX
      clear SX
      have F9 := F9x
      clear F9x
      try simp only [Act.put, List.setIfInBounds_toArray, List.set_cons_succ, List.set_cons_zero]
      refine AnyL.one (i := 1) rfl (by kernel_rfl) ?_
      refine wpOp_step rfl (fun K hK => ?_)
      go_simp
      refine (lying_any rn kn p c y2).mono ?_
      rintro e y3 ⟨rfl, hw, hb⟩
      have FA := Lib.hid hw
      have NEg9ga : Hid (g9 ≠ y2.heap.size) := Lib.hid (by have := F9.out.lt; omega)
      have F9x := Lib.hid (F9.out.below hb F9.out.lt)
      have NEg8ga : Hid (g8 ≠ y2.heap.size) := Lib.hid (by have := F8.out.lt; omega)
      have F8x := Lib.hid (F8.out.below hb F8.out.lt)
      have LEga : Hid (w5.heap.size ≤ y2.heap.size) := Lib.hid SV.out.size
      have SX := Lib.hid (SV.out.trans (hb.mono SV.out.size))
      obtain ⟨ga, hga⟩ : ∃ g, y2.heap.size = g := ⟨_, rfl⟩
      rw [hga] at FA LEga NEg9ga NEg8ga
      try rw [hga]
      refine hK _ _ ⟨fun _ => SX, ?_⟩
      clear hK K hb hw SV hga F9 F8
      have SV := SX
      clear SX
      have F9 := F9x
      clear F9x
      have F8 := F8x
      clear F8x
      try simp only [Act.put, List.setIfInBounds_toArray, List.set_cons_succ, List.set_cons_zero]
      refine AnyL.one (i := 3) rfl (by kernel_rfl) ?_
      refine wpOp_step rfl (fun K hK => ?_)
      go_simp
      refine (standing_any rn kn p c y3).mono ?_
      rintro e y4 ⟨rfl, hw, hb⟩
      have FB := Lib.hid hw
      have NEg9gb : Hid (g9 ≠ y3.heap.size) := Lib.hid (by have := F9.out.lt; omega)
      have F9x := Lib.hid (F9.out.below hb F9.out.lt)
      have NEg8gb : Hid (g8 ≠ y3.heap.size) := Lib.hid (by have := F8.out.lt; omega)
      have F8x := Lib.hid (F8.out.below hb F8.out.lt)
      have NEgagb : Hid (ga ≠ y3.heap.size) := Lib.hid (by have := FA.out.lt; omega)
      have FAx := Lib.hid (FA.out.below hb FA.out.lt)
      have LEgb : Hid (w5.heap.size ≤ y3.heap.size) := Lib.hid SV.out.size
      have SX := Lib.hid (SV.out.trans (hb.mono SV.out.size))
      obtain ⟨gb, hgb⟩ : ∃ g, y3.heap.size = g := ⟨_, rfl⟩
      rw [hgb] at FB LEgb NEg9gb NEg8gb NEgagb
      try rw [hgb]
      refine hK _ _ ⟨fun _ => SX, ?_⟩
      clear hK K hb hw SV hgb F9 F8 FA
      have SV := SX
      clear SX
      have F9 := F9x
      clear F9x
      have F8 := F8x
      clear F8x
      have FA := FAx
      clear FAx
      try simp only [Act.put, List.setIfInBounds_toArray, List.set_cons_succ, List.set_cons_zero]
      refine AnyL.one (i := 6) rfl (by kernel_rfl) ?_
      refine wpOp_step rfl (fun K hK => ?_)
      refine wp_store_rowC rfl 70 (.tmp 8) (.tmp 22) rfl g8 (crs true rn kn ga).toArray rfl rfl 70 zeroCo.toArray F8.out (by rw [Try.infoCourse]; rfl) rfl (by simp [crs, colying, costanding, Value.oneCell']) ?_
      have F8x : Hid (Whole (y4.setRow g8 (crs true rn kn ga).toArray) g8 70 (crs true rn kn ga)) := Lib.hid (whole_rowA F8.out (crs true rn kn ga).toArray)
      have FAx := Lib.hid (whole_rowO FA.out g8 (crs true rn kn ga).toArray (Ne.symm NEg8ga.out))
      have FBx := Lib.hid (whole_rowO FB.out g8 (crs true rn kn ga).toArray (Ne.symm NEg8gb.out))
      have F9x := Lib.hid (whole_rowO F9.out g8 (crs true rn kn ga).toArray NEg9g8.out)
      have SX : Hid (Below w5.heap.size w5 (y4.setRow g8 (crs true rn kn ga).toArray)) := Lib.hid (SV.out.trans (below_setRow (Below.refl _ _) _ _ LEg8.out))
      generalize y4.setRow g8 (crs true rn kn ga).toArray = z1 at F8x FAx FBx F9x SX ⊢
      refine hK _ _ ⟨fun _ => SX, ?_⟩
      clear hK K SV F8 FA FB F9
      try simp only [Act.put, List.setIfInBounds_toArray, List.set_cons_succ, List.set_cons_zero]
      refine AnyL.one (i := 7) rfl (by kernel_rfl) ?_
      refine wpOp_step rfl (fun K hK => ?_)
      refine wp_store_rowC rfl 70 (.tmp 9) (.tmp 24) rfl g9 (crs false rn kn gb).toArray rfl rfl 70 zeroCo.toArray F9x.out (by rw [Try.infoCourse]; rfl) rfl (by simp [crs, colying, costanding, Value.oneCell']) ?_
      have F9y : Hid (Whole (z1.setRow g9 (crs false rn kn gb).toArray) g9 70 (crs false rn kn gb)) := Lib.hid (whole_rowA F9x.out (crs false rn kn gb).toArray)
      have FAy := Lib.hid (whole_rowO FAx.out g9 (crs false rn kn gb).toArray (Ne.symm NEg9ga.out))
      have FBy := Lib.hid (whole_rowO FBx.out g9 (crs false rn kn gb).toArray (Ne.symm NEg9gb.out))
      have F8y := Lib.hid (whole_rowO F8x.out g9 (crs false rn kn gb).toArray (Ne.symm NEg9g8.out))
      have SY : Hid (Below w5.heap.size w5 (z1.setRow g9 (crs false rn kn gb).toArray)) := Lib.hid (SX.out.trans (below_setRow (Below.refl _ _) _ _ LEg9.out))
      generalize z1.setRow g9 (crs false rn kn gb).toArray = z2 at F8y FAy FBy F9y SY ⊢
      refine hK _ _ ⟨fun _ => SY, ?_⟩
      clear hK K
      refine AnyL.done (by kernel_rfl) ?_
      exact HT g8 g9 ga gb z2 ⟨F8y.out, F9y.out, FAy.out, FBy.out, SY.out⟩
end Go.Proofs.Ytceippgkmoijdaa
