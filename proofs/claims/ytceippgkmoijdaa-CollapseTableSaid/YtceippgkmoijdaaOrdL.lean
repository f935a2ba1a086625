/- Contract of collapse.halved. Written by mk_CoHlv.py. -/
/- Orders of a region one of whose operations waits for all others: what is taken first may hang on what that one changes. Nothing of the program. -/
import Derived.Test.YtceippgkmoijdaaCoRw
import Derived.Test.YtceippgkmoijdaaCoWho
namespace Go.Proofs.Ytceippgkmoijdaa
open Go.RowKit Go.Shelf Go.Sort Go.Maps
set_option linter.unusedVariables false
set_option linter.unusedSimpArgs false
attribute [local go_sem] Oper.semAt_some

theorem Try.infoClN : (Try.prog.info? 108).map (·.size) = some 7 := by kernel_rfl
theorem whole_arr {X : World} {g t : Nat} {xs : List Value} {ca : Array Value} (h : Whole X g t xs) (e : xs.toArray = ca) : Whole X g t ca.toList := by rw [← e]; exact h
/-- claims that may be put together: their numbers are small, their sides have colours -/
def OkC (M : Int) (c : Cl) : Prop := (0 ≤ c.n ∧ c.n ≤ M) ∧ (0 < c.n → c.won.hue)
set_option maxRecDepth 100000 in
set_option maxHeartbeats 8000000 in
theorem halved_any (b off n c0 w : Nat) (cs : List Cl) (W : World) (hz : RowsK Cl.cells 7 W (.slice (some ⟨b, off, none⟩) n c0) cs) (hn : n ≤ 20000) (hw1 : 1 ≤ w) (hw : w ≤ 40000) (hb : ∀ i, i < n → 0 < (cs.getD i Cl.zero).n → i + w < n) (M : Int) (hM : M ≤ 1000000000000000000) (hC : ∀ c ∈ cs, OkC M c) :
    Calls Try.prog 74 #[.slice (some ⟨b, off, none⟩) n c0, .int .i64 (w : Int)] W fun e X => ∃ G cap sp, e = .returned (.slice (some ⟨G, 0, none⟩) n cap) ∧ CRow X G (halvP cs w n) sp ∧ W.heap.size ≤ G ∧ n ≤ cap ∧ cap ≤ 9223372036854775807 ∧ Below W.heap.size W X := by
  have hm := hz.len
  have HCL := Lib.hid (clone_cl b off n c0 cs W hz (by omega))
  have HAT : Hid (∀ X, Below W.heap.size W X → ∀ j c, cs[j]? = some c → b < W.heap.size ∧ ∀ q v, c.cells[q]? = some v → X.cell? ⟨b, off + j * 7 + q, none⟩ = some v) := Lib.hid fun X hX j c hj => by
    obtain ⟨g, o, e, hg, hc⟩ := hz.at j c hj
    injection e with e
    injection e with e1 e2 e3
    subst e1; subst e2
    exact ⟨hg, fun q v hv => (hX.cell (p := ⟨b, off + j * 7 + q, none⟩) hg).trans (hc q v hv)⟩
  have HM := Lib.hid hm
  have HBW := Lib.hid hb
  have HC := Lib.hid hC
  have HMM := Lib.hid hM
  clear hz hm hb hC hM
  go_enter Try.func74, Try.ntmps74
  go_wp2_with fail
  refine HCL.out.mono ?_
  rintro e w1 ⟨G, cap, sp, rfl, h1, h2, h3, h4, h5⟩
  have K0 : Hid (CRow w1 G (halvP cs w 0) sp) := Lib.hid (by rw [halvP_zero]; exact h1)
  have B0 := Lib.hid h5
  have HG := Lib.hid (show W.heap.size ≤ G ∧ n ≤ cap ∧ cap ≤ 9223372036854775807 from ⟨h2, h3, h4⟩)
  clear h1 h2 h3 h4 h5 HCL
  go_wp2
  go_loopw [12] (fun s12 X => ∃ i : Nat, i ≤ n ∧ s12 = .int .i64 (i : Int) ∧ Hid (CRow X G (halvP cs w i) sp) ∧ Hid (Below W.heap.size W X)) (fun s12 _ => n - (intOf s12).toNat)
  case atStart => exact ⟨0, Nat.zero_le _, rfl, K0, B0⟩
  case round =>
    clear K0 B0
    obtain ⟨i, hi, rfl, HL, HB⟩ := hrel
    by_cases hlt : i < n
    · have hcs : i < cs.length := by rw [HM.out]; exact hlt
      have hx := getD_get cs i hcs
      have HBI := Lib.hid (HBW.out i hlt)
      have HCX := Lib.hid (HC.out _ (List.mem_of_getElem? hx))
      obtain ⟨lg0, hcx⟩ := HAT.out wr HB.out i _ hx
      have HSK := Lib.hid (halvP_skip cs w i)
      have HST := Lib.hid (halvP_step cs w i hw1)
      obtain ⟨x, hxx⟩ : ∃ x, cs.getD i Cl.zero = x := ⟨_, rfl⟩
      rw [hxx] at hx HBI HCX hcx HSK HST
      have lg : b < wr.heap.size := Nat.lt_of_lt_of_le lg0 HB.out.size
      have LN : Hid (∀ j v, x.cells.toArray[j]? = some v → wr.cell? ((⟨b, off + i * 7, none⟩ : Addr).add j) = some v) := Lib.hid (fun j v hj => by rw [add_plainC]; exact hcx j v (by simpa using hj))
      have iN : Hid ((Try.prog.info? 108).map (·.size) = some x.cells.toArray.size) := Lib.hid (by rw [Try.infoClN]; simp [Cl.cells_len])
      have oN := Lib.hid (Cl.one x)
      have zN : Hid (Cl.zero.cells.toArray.size = x.cells.toArray.size) := Lib.hid (by simp [Cl.cells_len])
      obtain ⟨xn, hxn⟩ : ∃ z, x.n = z := ⟨_, rfl⟩
      have HXC : Hid (x.cells[6]? = some (.int .i64 xn)) := Lib.hid (by rw [← hxn]; rfl)
      have HXN := Lib.hid hxn
      obtain ⟨xs, hxs⟩ : ∃ xs, x.cells = xs := ⟨_, rfl⟩
      rw [hxs] at LN iN oN zN HXC
      have HXS := Lib.hid hxs
      obtain ⟨ca, hca⟩ : ∃ ca, xs.toArray = ca := ⟨_, rfl⟩
      rw [hca] at LN iN oN zN
      have HCE := Lib.hid hca
      have HXX := Lib.hid hx
      have hin : (i : Int) < (n : Int) := by omega
      clear hca hxs hxn hcx hx hxx hcs lg0
      by_cases hp : 0 < xn
      · have hbw := HBI.out (by rw [HXN.out]; exact hp)
        have HS1 := Lib.hid (HST.out (by rw [HXN.out]; exact hp) (by rw [HM.out]; exact hbw))
        obtain ⟨iw, hiw⟩ : ∃ k, k = i + w := ⟨_, rfl⟩
        rw [← hiw] at hbw HS1
        have hwi : IntKind.i64.wrap ((i : Int) + (w : Int)) = (iw : Int) := by rw [IntKind.wrap_i64]; omega
        have hiwn : (iw : Int) < (n : Int) := by omega
        have HCY := Lib.hid (HC.out _ (List.mem_of_getElem? (getD_get cs iw (by rw [HM.out]; exact hbw))))
        obtain ⟨y, hy⟩ : ∃ y, cs.getD iw Cl.zero = y := ⟨_, rfl⟩
        rw [hy] at HS1 HCY
        have HIW := Lib.hid hiw
        have hpd : decide (0 < xn) = true := by simpa using hp
        have LL := Lib.hid (halvP_len cs w i)
        clear hy hiw HST HSK HBI
        go_wp2_with (first
          | (refine wpList_loadC rfl 108 (.tmp 15) rfl _ rfl ca _ LN.out Try.underlying108 rfl iN.out ?_)
          | (refine wpList_store_row rfl 108 (.tmp 7) (.tmp 16) rfl _ ca rfl rfl 108 Cl.zero.cells.toArray (whole_new wr Cl.zero.cells 108 _ rfl) iN.out zN.out oN.out ?_; refine at_worldX (fun X => Whole X wr.heap.size 108 xs ∧ Below wr.heap.size wr X) ⟨by rw [← HCE.out]; exact whole_rowA (whole_new wr Cl.zero.cells 108 _ rfl) _, ((Below.refl _ wr).alloc (Nat.le_refl _) _).trans (below_setRow (Below.refl _ _) _ _ (Nat.le_refl _))⟩ (fun X hX => ?_); obtain ⟨KX, BX⟩ := hX; have KXX := Lib.hid KX; have BXX := Lib.hid BX; clear KX BX LN oN zN; have c6 := KXX.out.cellAt 6; rw [HXC.out] at c6; have l7 := KXX.out.lt)
          | (refine region_held_atC (S := fun X => Hid (Whole X wr.heap.size 108 xs)) (by kernel_rfl) (fun w9 hw9 => ?_)))
        have SV : Hid (Whole w9 wr.heap.size 108 xs) := Lib.hid (by rw [← hw9]; exact KXX.out.below (below_dn _ _ 1) KXX.out.lt)
        have BQ : Hid (Below wr.heap.size wr w9) := Lib.hid (by rw [← hw9]; exact BXX.out.trans (below_dn _ _ 1))
        clear hw9 c6 l7 KXX BXX lg
        try simp only [Act.put, List.setIfInBounds_toArray, List.set_cons_succ, List.set_cons_zero]
        refine wpAnyH_takeC (i := 0) (v := .slice (some ⟨G, 0, none⟩) n cap) (some 20) rfl rfl (by kernel_rfl) (by kernel_rfl) (by kernel_rfl) (fun _ _ _ h => h) (Or.inl ⟨by rfl, ?_⟩) SV ?_
        · intro X hX; go_simp
        try simp only [Act.put, List.setIfInBounds_toArray, List.set_cons_succ, List.set_cons_zero]
        refine wpAnyH_takeC (i := 1) (v := .int .i64 (i : Int)) (some 21) rfl rfl (by kernel_rfl) (by kernel_rfl) (by kernel_rfl) (fun _ _ _ h => h) (Or.inl ⟨by rfl, ?_⟩) SV ?_
        · intro X hX; go_simp
        try simp only [Act.put, List.setIfInBounds_toArray, List.set_cons_succ, List.set_cons_zero]
        refine wpAnyH_takeC (i := 2) (v := .int .i64 (w : Int)) (some 22) rfl rfl (by kernel_rfl) (by kernel_rfl) (by kernel_rfl) (fun _ _ _ h => h) (Or.inl ⟨by rfl, ?_⟩) SV ?_
        · intro X hX; go_simp
        try simp only [Act.put, List.setIfInBounds_toArray, List.set_cons_succ, List.set_cons_zero]
        refine wpAnyH_takeC (i := 3) (v := .int .i64 (iw : Int)) (some 23) rfl rfl (by kernel_rfl) (by kernel_rfl) (by kernel_rfl) (fun _ _ _ h => h) (Or.inl ⟨by rfl, ?_⟩) SV ?_
        · intro X hX; go_simp
        try simp only [Act.put, List.setIfInBounds_toArray, List.set_cons_succ, List.set_cons_zero]
        refine wpAnyH_takeC (i := 4) (v := .slice (some ⟨G, 0, none⟩) n cap) (some 24) rfl rfl (by kernel_rfl) (by kernel_rfl) (by kernel_rfl) (fun _ _ _ h => h) (Or.inl ⟨by rfl, ?_⟩) SV ?_
        · intro X hX; go_simp
        try simp only [Act.put, List.setIfInBounds_toArray, List.set_cons_succ, List.set_cons_zero]
        refine wpAnyH_takeC (i := 5) (v := .int .i64 (i : Int)) (some 25) rfl rfl (by kernel_rfl) (by kernel_rfl) (by kernel_rfl) (fun _ _ _ h => h) (Or.inl ⟨by rfl, ?_⟩) SV ?_
        · intro X hX; go_simp
        try simp only [Act.put, List.setIfInBounds_toArray, List.set_cons_succ, List.set_cons_zero]
        refine wpAnyH_takeC (i := 6) (v := .int .i64 (w : Int)) (some 26) rfl rfl (by kernel_rfl) (by kernel_rfl) (by kernel_rfl) (fun _ _ _ h => h) (Or.inl ⟨by rfl, ?_⟩) SV ?_
        · intro X hX; go_simp
        try simp only [Act.put, List.setIfInBounds_toArray, List.set_cons_succ, List.set_cons_zero]
        refine wpAnyH_takeC (i := 7) (v := .int .i64 (iw : Int)) (some 27) rfl rfl (by kernel_rfl) (by kernel_rfl) (by kernel_rfl) (fun _ _ _ h => h) (Or.inl ⟨by rfl, ?_⟩) SV ?_
        · intro X hX; go_simp
        try simp only [Act.put, List.setIfInBounds_toArray, List.set_cons_succ, List.set_cons_zero]
        refine wpAnyH_takeC (i := 8) (v := .pointer (some ⟨G, iw * 7, none⟩)) (some 28) rfl rfl (by kernel_rfl) (by kernel_rfl) (by kernel_rfl) (fun _ _ _ h => h) (Or.inl ⟨by rfl, ?_⟩) SV ?_
        · intro X hX; go_simp
        try simp only [Act.put, List.setIfInBounds_toArray, List.set_cons_succ, List.set_cons_zero]
        refine wpAnyH_takeC (i := 10) (v := .agg ca) (some 30) rfl rfl (by kernel_rfl) (by kernel_rfl) (by kernel_rfl) (fun _ _ _ h => h) (yields_loadC (by rfl) 108 (.tmp 7) rfl _ rfl ca _ (fun X hX => (whole_arr hX.out HCE.out).loads) Try.underlying108 rfl iN.out) SV ?_
        try simp only [Act.put, List.setIfInBounds_toArray, List.set_cons_succ, List.set_cons_zero]
        have HLY := Lib.hid (LsR.below HL.out BQ.out (Whole.lt HL.out))
        refine wpAnyH_all (rs := [9]) (by kernel_rfl) (by simp) ?_
        intro ii hii; obtain rfl : ii = 9 := by simpa using hii
        clear hii
        refine wpOp_step rfl (fun K hK => ?_)
        refine wp_loadC 108 (.tmp 28) rfl ⟨G, iw * 7, none⟩ rfl y.cells.toArray _ (fun j v hj => ?_) Try.underlying108 rfl (by rw [Try.infoClN]; simp [Cl.cells_len]) ?_
        · have hj7 : j < 7 := by have := (Array.getElem?_eq_some_iff.1 hj).1; simpa [Cl.cells_len] using this
          rw [add_plainC, LsR.cell Cl.cells_len HLY.out iw y HS1.out.1 j hj7]; simpa using hj
        refine hK _ _ ⟨SV, ?_⟩
        clear hK K
        try simp only [Act.put, List.setIfInBounds_toArray, List.set_cons_succ, List.set_cons_zero]
        refine wpAnyH_all (rs := [11]) (by kernel_rfl) (by simp) ?_
        intro ii hii; obtain rfl : ii = 11 := by simpa using hii
        clear hii
        refine wpOp_step rfl (fun K hK => ?_)
        refine wp_build2 87 (.tmp 29) (.tmp 30) rfl y.val x.val _ rfl (show Value.agg ca = x.val by rw [← HCE.out, ← HXS.out]; rfl) (build_cl2 y x w9) ?_
        have W2 := Lib.hid (two_cl (whole_new w9 (y.cells ++ x.cells) 108 _ rfl))
        have B2 := Lib.hid ((Below.refl w9.heap.size w9).alloc (Nat.le_refl _) (.cells (y.cells ++ x.cells).toArray 108))
        have SX := Lib.hid (SV.out.below B2.out SV.out.lt)
        generalize w9.alloc (.cells (y.cells ++ x.cells).toArray 108) = w10 at W2 B2 SX ⊢
        have BX2 := Lib.hid (BQ.out.trans (B2.out.mono BQ.out.size))
        refine hK _ _ ⟨SX, ?_⟩
        clear hK K
        have SV := SX
        have BQ := BX2
        try simp only [Act.put, List.setIfInBounds_toArray, List.set_cons_succ, List.set_cons_zero]
        refine wpAnyH_all (rs := [12]) (by kernel_rfl) (by simp) ?_
        intro ii hii; obtain rfl : ii = 12 := by simpa using hii
        clear hii
        refine wpOp_step rfl (fun K hK => ?_)
        go_simp
        refine (tog_any (some ⟨w9.heap.size, 0, none⟩) 2 2 [y, x] w10 W2.out rfl (by omega) (fun c hc => ?_) (fun c hc => ?_)).mono ?_
        · rcases List.mem_cons.1 hc with rfl | hc
          · exact ⟨HCY.out.1.1, Int.le_trans HCY.out.1.2 HMM.out⟩
          · obtain rfl := List.mem_singleton.1 hc
            exact ⟨HCX.out.1.1, Int.le_trans HCX.out.1.2 HMM.out⟩
        · rcases List.mem_cons.1 hc with rfl | hc
          · exact HCY.out.2
          · obtain rfl := List.mem_singleton.1 hc
            exact HCX.out.2
        rintro e w11 ⟨rfl, hb11⟩
        have SX2 := Lib.hid (SX.out.below hb11 SX.out.lt)
        have BX3 := Lib.hid (BX2.out.trans (hb11.mono BX2.out.size))
        refine hK _ _ ⟨SX2, ?_⟩
        clear hK K hb11 W2 B2
        have SV := SX2
        have BQ := BX3
        try simp only [Act.put, List.setIfInBounds_toArray, List.set_cons_succ, List.set_cons_zero]
        refine wpAnyH_takeC (i := 13) (v := .pointer (some ⟨G, iw * 7, none⟩)) (some 33) rfl rfl (by kernel_rfl) (by kernel_rfl) (by kernel_rfl) (fun _ _ _ h => h) (Or.inl ⟨by rfl, ?_⟩) SV ?_
        · intro X hX; go_simp
        try simp only [Act.put, List.setIfInBounds_toArray, List.set_cons_succ, List.set_cons_zero]
        have HL3 := Lib.hid (LsR.below HL.out BQ.out (Whole.lt HL.out))
        have HB3 := Lib.hid (HB.out.trans (BQ.out.mono HB.out.size))
        have hil : iw < (halvP cs w i).length := by rw [LL.out, HM.out]; exact hbw
        refine wpAnyH_all (rs := [14]) (by kernel_rfl) (by simp) ?_
        intro ii hii; obtain rfl : ii = 14 := by simpa using hii
        clear hii
        refine wpOp_step rfl (fun K hK => ?_)
        refine wp_store_midL rfl 108 (.tmp 33) (.tmp 32) rfl G (iw * 7) (togP [y, x]).cells.toArray rfl rfl (by rw [List.size_toArray, Cl.cells_len]; exact LsR.there Cl.cells_len HL3.out iw hil) (by rw [Try.infoClN]; simp [Cl.cells_len]) (Cl.one _) ?_
        have HP := Lib.hid (LsR.put Cl.cells_len HL3.out iw (togP [y, x]) hil)
        rw [HS1.out.2] at HP
        have HB4 := Lib.hid (below_putL (B := W.heap.size) (G := G) HG.out.1 (togP [y, x]).cells (iw * 7) w11 HB3.out)
        have hwn : wr.heap.size ≠ G := by have := Whole.lt HL.out; omega
        have SX4 := Lib.hid (whole_putLO (G := G) (togP [y, x]).cells (iw * 7) _ w11 SV.out hwn)
        refine hK _ _ ⟨SX4, ?_⟩
        clear hK K
        refine wpAnyH_done (by kernel_rfl) ?_ _
        go_wp2
        go_roundw
        case rel => exact ⟨i + 1, by omega, by go_num, HP, HB4⟩
        case measure => simp [intOf]; omega
      · have hpd : decide (0 < xn) = false := by simpa using hp
        have HS1 := Lib.hid (HSK.out (by rw [HXN.out]; exact hp))
        clear HST HSK HBI
        go_wp2_with (first
          | (refine wpList_loadC rfl 108 (.tmp 15) rfl _ rfl ca _ LN.out Try.underlying108 rfl iN.out ?_)
          | (refine wpList_store_row rfl 108 (.tmp 7) (.tmp 16) rfl _ ca rfl rfl 108 Cl.zero.cells.toArray (whole_new wr Cl.zero.cells 108 _ rfl) iN.out zN.out oN.out ?_; refine at_worldX (fun X => Whole X wr.heap.size 108 xs ∧ Below wr.heap.size wr X) ⟨by rw [← HCE.out]; exact whole_rowA (whole_new wr Cl.zero.cells 108 _ rfl) _, ((Below.refl _ wr).alloc (Nat.le_refl _) _).trans (below_setRow (Below.refl _ _) _ _ (Nat.le_refl _))⟩ (fun X hX => ?_); obtain ⟨KX, BX⟩ := hX; have KXX := Lib.hid KX; have BXX := Lib.hid BX; clear KX BX LN oN zN; have c6 := KXX.out.cellAt 6; rw [HXC.out] at c6; have l7 := KXX.out.lt)
          | fail)
        have H3 : Hid (CRow X G (halvP cs w (i + 1)) sp) := Lib.hid (by rw [HS1.out]; exact Whole.below HL.out BXX.out (Whole.lt HL.out))
        have HB3 := Lib.hid (HB.out.trans (BXX.out.mono HB.out.size))
        go_roundw
        case rel => exact ⟨i + 1, by omega, by go_num, H3, HB3⟩
        case measure => simp [intOf]; omega
    · obtain rfl : n = i := by omega
      go_wp2
      go_ret
      exact ⟨G, cap, sp, rfl, HL.out, HG.out.1, HG.out.2.1, HG.out.2.2, HB.out⟩
end Go.Proofs.Ytceippgkmoijdaa

namespace Go.Proofs.Ytceippgkmoijdaa
open Go.RowKit
set_option linter.unusedVariables false
set_option linter.unusedSimpArgs false

section
variable {P : Program} {ops : Array Oper} {Q : Exit → Act → World → Prop} {md : Region.Mode} {S : World → Prop}
/-- does an operation wait for all others? -/
def lastB (md : Region.Mode) (ops : Array Oper) (j : Nat) : Bool :=
  match ops[j]? with
  | none => false
  | some o => (List.range ops.size).all fun k => k == j || o.after.any fun e => Region.binds md e && e.on == k
theorem lastB_waits {j k : Nat} {o : Oper} (hj : ops[j]? = some o) (h : lastB md ops j = true) (hk : k < ops.size) (hne : k ≠ j) : ∃ e ∈ o.after, Region.binds md e = true ∧ e.on = k := by
  unfold lastB at h
  rw [hj] at h
  have h1 := List.all_eq_true.1 h k (List.mem_range.2 hk)
  rw [Bool.or_eq_true] at h1
  rcases h1 with h1 | h1
  · exact absurd (by simpa using h1) hne
  · obtain ⟨e, he, hb⟩ := Array.any_eq_true'.1 h1
    rw [Bool.and_eq_true] at hb
    exact ⟨e, he, hb.1, by simpa using hb.2⟩
/-- every order, with a condition on the world behind each operation but one that waits for all -/
def AnyL (P : Program) (md : Region.Mode) (ops : Array Oper) (Q : Exit → Act → World → Prop) (S : World → Prop) : Nat → Array Bool → Act → World → Prop
  | 0, l, a, w => Region.ready md ops l = [] ∧ Q .normal a w
  | n + 1, l, a, w => (Region.ready md ops l = [] → Q .normal a w) ∧
      ∀ i, i ∈ Region.ready md ops l → wpOp P ops Q i (fun b v => (lastB md ops i = false → S v) ∧ AnyL P md ops Q S n (l.setIfInBounds i true) b v) a w
theorem AnyL.plain {n : Nat} : ∀ {l : Array Bool} {a : Act} {w : World}, AnyL P md ops Q S n l a w → wpAny P md ops Q n l a w := by
  induction n with
  | zero => intro l a w h; exact h
  | succ n ih => intro l a w h; exact ⟨h.1, fun i hi => wpOp_mono (fun b v hb => ih hb.2) (h.2 i hi)⟩
theorem ready_not_last {i j : Nat} {l : Array Bool} {oi : Oper} (hi : ops[i]? = some oi) (hr : i ∈ Region.ready md ops l) (hj : j ∈ Region.ready md ops l) (hne : j ≠ i) : lastB md ops j = false ∧ ∃ o, ops[j]? = some o ∧ l.getD j true = false ∧ ∀ e ∈ o.after, Region.binds md e = true → e.on ≠ i := by
  obtain ⟨hu, o, ho, hall⟩ := mem_ready.1 hj
  have hiu := (mem_ready.1 hr).1
  have no : ∀ e ∈ o.after, Region.binds md e = true → e.on ≠ i := fun e he hb hon => by
    have h1 := hall e he hb
    rw [hon] at h1
    by_cases hlt : i < l.size
    · simp [hlt] at h1 hiu; rw [hiu] at h1; cases h1
    · simp [Array.getElem?_eq_none (Nat.le_of_not_lt hlt)] at h1
  refine ⟨?_, o, ho, hu, no⟩
  cases hl : lastB md ops j with
  | false => rfl
  | true =>
    obtain ⟨e, he, hb, hon⟩ := lastB_waits ho hl (Array.getElem?_eq_some_iff.1 hi).1 (Ne.symm hne)
    exact absurd hon (no e he hb)
theorem AnyL.ahead {i : Nat} {oi : Oper} {v : Value} (hi : ops[i]? = some oi) (hsel : Region.noSelect ops = true)
    (hQ : ∀ c a w, Q (.panic c) (a.put oi.dst v) w → Q (.panic c) a w) {n : Nat} : ∀ {l : Array Bool} {a : Act} {w : World},
    (∀ (j : Nat) (oj : Oper), ops[j]? = some oj → j ≠ i → l.getD j true = false → (∀ e ∈ oj.after, Region.binds md e = true → e.on ≠ i) → oi.apart ops oj = true) →
    i ∈ Region.ready md ops l → YieldsIf P ops S oi v a → S w → AnyL P md ops Q S n (l.setIfInBounds i true) (a.put oi.dst v) w → AnyL P md ops Q S (n + 1) l a w := by
  induction n with
  | zero =>
    intro l a w hap hr hy hS H
    refine ⟨fun e => absurd (e ▸ hr) (by simp), fun j hj => ?_⟩
    by_cases hji : j = i
    · subst hji; exact hy.wpOp hi hS ⟨fun _ => hS, H⟩
    · exact absurd (H.1 ▸ ready_mono hj hji) (by simp)
  | succ n ih =>
    intro l a w hap hr hy hS H
    refine ⟨fun e => absurd (e ▸ hr) (by simp), fun j hj => ?_⟩
    by_cases hji : j = i
    · subst hji; exact hy.wpOp hi hS ⟨fun _ => hS, H⟩
    · obtain ⟨hl, oj, hoj, hju, hno⟩ := ready_not_last hi hr hj hji
      have step := wpOp_putIf hoj (hap j oj hoj hji hju hno) (fun cs b => Region.noSelect_spec hsel i oi cs b hi) (fun cs b => Region.noSelect_spec hsel j oj cs b hoj) hQ hy (H.2 j (ready_mono hj hji))
      refine wpOp_mono (fun b u hb => ⟨fun _ => hb.2.1 hl, ?_⟩) step
      refine ih (fun k ok hk hki hku hkn => hap k ok hk hki ?_ hkn) (ready_mono hr (Ne.symm hji)) hb.1 (hb.2.1 hl) ?_
      · by_cases hjk : j = k
        · subst hjk; exact hju
        · rwa [getD_set_ne true hjk] at hku
      · rw [Array.setIfInBounds_comm _ _ hji]; exact hb.2.2
/-- an operation is taken first -/
theorem AnyL.take {i : Nat} {oi : Oper} {v : Value} {n : Nat} {l : Array Bool} {a : Act} {w : World} (dst : Option Tmp) (hi : ops[i]? = some oi) (hd : oi.dst = dst)
    (hs : Region.noSelect ops = true) (hf : Region.free md ops l i = true) (hr : (Region.ready md ops l).contains i = true)
    (hQ : ∀ c a w, Q (.panic c) (a.put dst v) w → Q (.panic c) a w) (hS : S w) (hy : YieldsIf P ops S oi v a)
    (h : AnyL P md ops Q S n (l.setIfInBounds i true) (a.put dst v) w) : AnyL P md ops Q S (n + 1) l a w := by
  subst hd
  exact AnyL.ahead hi hs hQ (fun j oj h1 h2 h3 h4 => Region.free_spec hi hf j oj h1 h2 h3 h4) (by simpa using hr) hy hS h
/-- the one that comes up -/
theorem AnyL.one {i : Nat} {oi : Oper} {n : Nat} {l : Array Bool} {a : Act} {w : World} (hi : ops[i]? = some oi) (hr : Region.ready md ops l = [i])
    (h : wpOp P ops Q i (fun b v => (lastB md ops i = false → S v) ∧ AnyL P md ops Q S n (l.setIfInBounds i true) b v) a w) : AnyL P md ops Q S (n + 1) l a w :=
  ⟨fun e => absurd (hr ▸ e) (by simp), fun j hj => by rw [hr] at hj; obtain rfl := List.mem_singleton.1 hj; exact h⟩
/-- some that come up -/
theorem AnyL.some {rs : List Nat} {n : Nat} {l : Array Bool} {a : Act} {w : World} (hr : Region.ready md ops l = rs) (hne : rs ≠ [])
    (h : ∀ i ∈ rs, wpOp P ops Q i (fun b v => (lastB md ops i = false → S v) ∧ AnyL P md ops Q S n (l.setIfInBounds i true) b v) a w) : AnyL P md ops Q S (n + 1) l a w :=
  ⟨fun e => absurd (hr ▸ e) hne, fun j hj => h j (hr ▸ hj)⟩
theorem AnyL.done {n : Nat} {l : Array Bool} {a : Act} {w : World} (hr : Region.ready md ops l = []) (h : Q .normal a w) : AnyL P md ops Q S n l a w := by
  cases n with
  | zero => exact ⟨hr, h⟩
  | succ n => exact ⟨fun _ => h, fun j hj => absurd (hr ▸ hj) (by simp)⟩
/-- a region that draws its order -/
theorem region_L {id : Nat} {a : Act} {w : World} (hm : P.follows .mixedOrders = true)
    (h : ∀ w2 : World, w.drew = w2 → AnyL P .any ops Q S ops.size (Array.replicate ops.size false) a w2) : (Code.region id ops true).wp P Q a w := wp_region_any hm (h _ rfl).plain
end
end Go.Proofs.Ytceippgkmoijdaa
