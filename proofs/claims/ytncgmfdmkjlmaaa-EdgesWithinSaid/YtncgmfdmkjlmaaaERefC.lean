/- Contract of the document's Cells. Written by mk_ERefC.py. -/
import Derived.Test.YtncgmfdmkjlmaaaERefG
namespace Go.Proofs.Ytncgmfdmkjlmaaa
open Go.RowKit Go.Shelf
set_option linter.unusedVariables false
set_option linter.unusedSimpArgs false
attribute [local go_sem] Oper.semAt_some

set_option maxHeartbeats 4000000 in
theorem refWithin_any (c r : Nat) (q : Pz) (w : World) (hq : q.ok) (hc : c ≤ 10000) (hr : r ≤ 10000) :
    Calls Try.prog 36 #[.agg q.cells.toArray, .int .i64 (r : Int), .int .i64 (c : Int)] w fun e w' => e = .returned (.bool (placeN c r q)) ∧ Below w.heap.size w w' := by
  obtain ⟨n, pr, pc, ph, pw⟩ := q
  obtain ⟨_, ⟨r1, r2⟩, ⟨c1, c2⟩, ⟨h1, h2⟩, ⟨w1, w2⟩⟩ := hq
  dsimp only [Pz.cells] at *
  obtain ⟨b, hb⟩ : ∃ b, placeN c r ⟨n, pr, pc, ph, pw⟩ = b := ⟨_, rfl⟩
  have HV : Hid (b = (decide (0 ≤ pr) && (decide (pr ≤ r) && (decide (0 ≤ pc) && (decide (pc ≤ c) && (decide (1 ≤ ph) && (decide (ph ≤ r - pr) && (decide (1 ≤ pw) && decide (pw ≤ c - pc))))))))) := Lib.hid (by
    rw [← hb, Bool.eq_iff_iff]; simp only [placeN, liesB, Bool.and_eq_true, decide_eq_true_eq]; omega)
  rw [hb]
  clear hb
  by_cases k0 : 0 ≤ pr
  · skip
    by_cases k1 : pr ≤ r
    · skip
      by_cases k2 : 0 ≤ pc
      · skip
        by_cases k3 : pc ≤ c
        · skip
          by_cases k4 : 1 ≤ ph
          · skip
            by_cases k5 : ph ≤ r - pr
            · skip
              by_cases k6 : 1 ≤ pw
              · skip
                by_cases k7 : pw ≤ c - pc
                · skip
                  have hv : Hid (b = true) := Lib.hid (by rw [HV.out, Bool.eq_iff_iff]; simp only [Bool.and_eq_true, decide_eq_true_eq, Bool.false_eq_true, iff_true, iff_false]; omega)
                  clear HV
                  go_enter Try.func36, Try.ntmps36
                  go_wp2
                  go_ret
                  exact ⟨by rw [hv.out] <;> rfl, (Below.refl _ _).alloc (Nat.le_refl _) _⟩
                · skip
                  have hv : Hid (b = false) := Lib.hid (by rw [HV.out, Bool.eq_iff_iff]; simp only [Bool.and_eq_true, decide_eq_true_eq, Bool.false_eq_true, iff_true, iff_false]; omega)
                  clear HV
                  go_enter Try.func36, Try.ntmps36
                  go_wp2
                  go_ret
                  exact ⟨by rw [hv.out] <;> rfl, (Below.refl _ _).alloc (Nat.le_refl _) _⟩
              · skip
                have hv : Hid (b = false) := Lib.hid (by rw [HV.out, Bool.eq_iff_iff]; simp only [Bool.and_eq_true, decide_eq_true_eq, Bool.false_eq_true, iff_true, iff_false]; omega)
                clear HV
                go_enter Try.func36, Try.ntmps36
                go_wp2
                go_ret
                exact ⟨by rw [hv.out] <;> rfl, (Below.refl _ _).alloc (Nat.le_refl _) _⟩
            · skip
              have hv : Hid (b = false) := Lib.hid (by rw [HV.out, Bool.eq_iff_iff]; simp only [Bool.and_eq_true, decide_eq_true_eq, Bool.false_eq_true, iff_true, iff_false]; omega)
              clear HV
              go_enter Try.func36, Try.ntmps36
              go_wp2
              go_ret
              exact ⟨by rw [hv.out] <;> rfl, (Below.refl _ _).alloc (Nat.le_refl _) _⟩
          · skip
            have hv : Hid (b = false) := Lib.hid (by rw [HV.out, Bool.eq_iff_iff]; simp only [Bool.and_eq_true, decide_eq_true_eq, Bool.false_eq_true, iff_true, iff_false]; omega)
            clear HV
            go_enter Try.func36, Try.ntmps36
            go_wp2
            go_ret
            exact ⟨by rw [hv.out] <;> rfl, (Below.refl _ _).alloc (Nat.le_refl _) _⟩
        · skip
          have hv : Hid (b = false) := Lib.hid (by rw [HV.out, Bool.eq_iff_iff]; simp only [Bool.and_eq_true, decide_eq_true_eq, Bool.false_eq_true, iff_true, iff_false]; omega)
          clear HV
          go_enter Try.func36, Try.ntmps36
          go_wp2
          go_ret
          exact ⟨by rw [hv.out] <;> rfl, (Below.refl _ _).alloc (Nat.le_refl _) _⟩
      · skip
        have hv : Hid (b = false) := Lib.hid (by rw [HV.out, Bool.eq_iff_iff]; simp only [Bool.and_eq_true, decide_eq_true_eq, Bool.false_eq_true, iff_true, iff_false]; omega)
        clear HV
        go_enter Try.func36, Try.ntmps36
        go_wp2
        go_ret
        exact ⟨by rw [hv.out] <;> rfl, (Below.refl _ _).alloc (Nat.le_refl _) _⟩
    · skip
      have hv : Hid (b = false) := Lib.hid (by rw [HV.out, Bool.eq_iff_iff]; simp only [Bool.and_eq_true, decide_eq_true_eq, Bool.false_eq_true, iff_true, iff_false]; omega)
      clear HV
      go_enter Try.func36, Try.ntmps36
      go_wp2
      go_ret
      exact ⟨by rw [hv.out] <;> rfl, (Below.refl _ _).alloc (Nat.le_refl _) _⟩
  · skip
    have hv : Hid (b = false) := Lib.hid (by rw [HV.out, Bool.eq_iff_iff]; simp only [Bool.and_eq_true, decide_eq_true_eq, Bool.false_eq_true, iff_true, iff_false]; omega)
    clear HV
    go_enter Try.func36, Try.ntmps36
    go_wp2
    go_ret
    exact ⟨by rw [hv.out] <;> rfl, (Below.refl _ _).alloc (Nat.le_refl _) _⟩
set_option maxHeartbeats 2000000 in
theorem refCells_bad (pl p q : Option Addr) (nl cl m c k d : Nat) (L : List Pz) (cs rs : List Int) (g0 g1 : Int) (w : World) (hP : PsAt w (.slice pl nl cl) L) (hn : L.length = nl) (hn2 : nl ≤ 1000000) (hok : ∀ x ∈ L, x.ok)
    (hL : LowI w.heap.size w (.slice p m c) cs) (hm : cs.length = m) (hR : LowI w.heap.size w (.slice q k d) rs) (hk : rs.length = k) (hb : (okB g0 cs && okB g1 rs) = false) :
    Calls Try.prog 22 #[.slice pl nl cl, .slice p m c, .slice q k d, .agg #[.int .i64 g0, .int .i64 g1]] w fun e W' => e = .returned (.tuple #[.slice none 0 0, .int .i64 100]) ∧ Below w.heap.size w W' := by
  obtain ⟨gn, hgn⟩ : ∃ gn, w.heap.size = gn := ⟨_, rfl⟩
  have HGN := Lib.hid hgn
  obtain ⟨W0, hW0⟩ : ∃ W0, w.alloc (.cells #[.int .i64 g0, .int .i64 g1] 38) = W0 := ⟨_, rfl⟩
  have hB0 : Below w.heap.size w W0 := by rw [← hW0]; exact (Below.refl _ w).alloc (Nat.le_refl _) _
  have hA0 : Whole W0 gn 38 [.int .i64 g0, .int .i64 g1] := by rw [← hW0]; exact whole_new w [.int .i64 g0, .int .i64 g1] 38 gn hgn.symm
  have a0 := hA0.cellAt 0
  have a1 := hA0.cellAt 1
  have la := hA0.lt
  simp only [List.getElem?_cons_zero, List.getElem?_cons_succ] at a0 a1
  have HB0 := Lib.hid hB0
  have HA0 := Lib.hid hA0
  have HRA := Lib.hid (fun X (h : Below w.heap.size w X) => refRight_any g0 p m c cs X ((hL.keep (Y := X) (fun k hk => h.block k hk)).mono h.size) hm)
  have HRB := Lib.hid (fun X (h : Below w.heap.size w X) => refRight_any g1 q k d rs X ((hR.keep (Y := X) (fun k hk => h.block k hk)).mono h.size) hk)
  clear hL hR hm hk hA0 hB0 hP hn hok
  have hb2 : (okB g0 cs = false) ∨ (okB g0 cs = true ∧ okB g1 rs = false) := by
    cases h : okB g0 cs <;> rw [h] at hb <;> simp_all
  clear hb
  rcases hb2 with h | ⟨h, h'⟩
  · rw [h] at HRA
    clear h
    go_enter Try.func22, Try.ntmps22
    go_wp2_with fail
    try rw [hW0]
    clear hW0 hgn
    refine (HRA.out _ HB0.out).mono ?_
    rintro e w1 ⟨rfl, n1, hn1⟩
    have hd1 : Below W0.heap.size W0 w1 := hn1 ▸ below_dn _ W0 n1
    have HB1 := Lib.hid (HB0.out.trans (hd1.mono HB0.out.size))
    have HA1 := Lib.hid (HA0.out.below hd1 HA0.out.lt)
    clear hn1 hd1 HRA HA0 HB0 a0 a1 la
    have a0 := HA1.out.cellAt 0
    have a1 := HA1.out.cellAt 1
    have la := HA1.out.lt
    simp only [List.getElem?_cons_zero, List.getElem?_cons_succ] at a0 a1
    go_wp2_with fail
    refine (HRB.out _ HB1.out).mono ?_
    rintro e w2 ⟨rfl, n2, hn2⟩
    have hd2 : Below w1.heap.size w1 w2 := hn2 ▸ below_dn _ w1 n2
    have HB2 := Lib.hid (HB1.out.trans (hd2.mono HB1.out.size))
    have HA2 := Lib.hid (HA1.out.below hd2 HA1.out.lt)
    clear hn2 hd2 HRB HA1 HB1 a0 a1 la
    have a0 := HA2.out.cellAt 0
    have a1 := HA2.out.cellAt 1
    have la := HA2.out.lt
    simp only [List.getElem?_cons_zero, List.getElem?_cons_succ] at a0 a1
    go_wp2
    go_ret2
    exact ⟨rfl, HB2.out⟩
  · rw [h] at HRA
    rw [h'] at HRB
    clear h h'
    go_enter Try.func22, Try.ntmps22
    go_wp2_with fail
    try rw [hW0]
    clear hW0 hgn
    refine (HRA.out _ HB0.out).mono ?_
    rintro e w1 ⟨rfl, n1, hn1⟩
    have hd1 : Below W0.heap.size W0 w1 := hn1 ▸ below_dn _ W0 n1
    have HB1 := Lib.hid (HB0.out.trans (hd1.mono HB0.out.size))
    have HA1 := Lib.hid (HA0.out.below hd1 HA0.out.lt)
    clear hn1 hd1 HRA HA0 HB0 a0 a1 la
    have a0 := HA1.out.cellAt 0
    have a1 := HA1.out.cellAt 1
    have la := HA1.out.lt
    simp only [List.getElem?_cons_zero, List.getElem?_cons_succ] at a0 a1
    go_wp2_with fail
    refine (HRB.out _ HB1.out).mono ?_
    rintro e w2 ⟨rfl, n2, hn2⟩
    have hd2 : Below w1.heap.size w1 w2 := hn2 ▸ below_dn _ w1 n2
    have HB2 := Lib.hid (HB1.out.trans (hd2.mono HB1.out.size))
    have HA2 := Lib.hid (HA1.out.below hd2 HA1.out.lt)
    clear hn2 hd2 HRB HA1 HB1 a0 a1 la
    have a0 := HA2.out.cellAt 0
    have a1 := HA2.out.cellAt 1
    have la := HA2.out.lt
    simp only [List.getElem?_cons_zero, List.getElem?_cons_succ] at a0 a1
    go_wp2
    go_ret2
    exact ⟨rfl, HB2.out⟩
set_option maxRecDepth 100000 in
set_option maxHeartbeats 8000000 in
theorem refCells_main (pl p q : Option Addr) (nl cl m c k d : Nat) (L : List Pz) (cs rs : List Int) (g0 g1 : Int) (w : World) (hP : PsAt w (.slice pl nl cl) L) (hn : L.length = nl) (hn2 : nl ≤ 1000000) (hok : ∀ x ∈ L, x.ok)
    (hL : LowI w.heap.size w (.slice p m c) cs) (hm : cs.length = m) (hR : LowI w.heap.size w (.slice q k d) rs) (hk : rs.length = k) (h0 : okB g0 cs = true) (h1 : okB g1 rs = true) :
    Calls Try.prog 22 #[.slice pl nl cl, .slice p m c, .slice q k d, .agg #[.int .i64 g0, .int .i64 g1]] w (CellsPost (L.all (placeN m k)) w (L.map (cellE g0 g1 cs rs))) := by
  have ok0 := okB_iff.1 h0
  have ok1 := okB_iff.1 h1
  obtain ⟨gn, hgn⟩ : ∃ gn, w.heap.size = gn := ⟨_, rfl⟩
  have HGN := Lib.hid hgn
  obtain ⟨W0, hW0⟩ : ∃ W0, w.alloc (.cells #[.int .i64 g0, .int .i64 g1] 38) = W0 := ⟨_, rfl⟩
  have hB0 : Below w.heap.size w W0 := by rw [← hW0]; exact (Below.refl _ w).alloc (Nat.le_refl _) _
  have hA0 : Whole W0 gn 38 [.int .i64 g0, .int .i64 g1] := by rw [← hW0]; exact whole_new w [.int .i64 g0, .int .i64 g1] 38 gn hgn.symm
  have a0 := hA0.cellAt 0
  have a1 := hA0.cellAt 1
  have la := hA0.lt
  simp only [List.getElem?_cons_zero, List.getElem?_cons_succ] at a0 a1
  have HB0 := Lib.hid hB0
  have HA0 := Lib.hid hA0
  have HRA := Lib.hid (fun X (h : Below w.heap.size w X) => refRight_any g0 p m c cs X ((hL.keep (Y := X) (fun k hk => h.block k hk)).mono h.size) hm)
  have HRB := Lib.hid (fun X (h : Below w.heap.size w X) => refRight_any g1 q k d rs X ((hR.keep (Y := X) (fun k hk => h.block k hk)).mono h.size) hk)
  rw [h0] at HRA
  rw [h1] at HRB
  have HXS := Lib.hid (fun X (h : Below w.heap.size w X) => refBegins_any g0 p m c cs X ((hL.keep (Y := X) (fun k hk => h.block k hk)).mono h.size) hm ok0)
  have HYS := Lib.hid (fun X (h : Below w.heap.size w X) => refBegins_any g1 q k d rs X ((hR.keep (Y := X) (fun k hk => h.block k hk)).mono h.size) hk ok1)
  have HSPX := Lib.hid (fun (fr n : Nat) X (h : Below w.heap.size w X) (h1 : fr + n ≤ m) => refSpan_any g0 p m c fr n cs X ((hL.keep (Y := X) (fun k hk => h.block k hk)).mono h.size) hm ok0 h1)
  have HSPY := Lib.hid (fun (fr n : Nat) X (h : Below w.heap.size w X) (h1 : fr + n ≤ k) => refSpan_any g1 q k d fr n rs X ((hR.keep (Y := X) (fun k hk => h.block k hk)).mono h.size) hk ok1 h1)
  have hmk : m ≤ 10000 := by have := ok0.2.1; omega
  have hkk : k ≤ 10000 := by have := ok1.2.1; omega
  have HM := Lib.hid hm
  have HK := Lib.hid hk
  have HP := Lib.hid hP
  have HN := Lib.hid hn
  have HOK := Lib.hid hok
  obtain ⟨i0, hi0, hz0, hz1, hz2⟩ := infoE Try.infoRE
  have HZ0 := Lib.hid hz0
  have HZ1 := Lib.hid hz1
  have HZ2 := Lib.hid hz2
  have HI0 := Lib.hid hi0
  clear hL hR hm hk hA0 hB0 h0 h1 ok0 ok1 hz0 hz1 hz2 hi0 hP hn hok
  go_enter Try.func22, Try.ntmps22
  go_wp2_with fail
  try rw [hW0]
  clear hW0 hgn
  refine (HRA.out _ HB0.out).mono ?_
  rintro e w1 ⟨rfl, n1, hn1⟩
  have hd1 : Below W0.heap.size W0 w1 := hn1 ▸ below_dn _ W0 n1
  have HB1 := Lib.hid (HB0.out.trans (hd1.mono HB0.out.size))
  have HA1 := Lib.hid (HA0.out.below hd1 HA0.out.lt)
  clear hn1 hd1 HRA HA0 HB0 a0 a1 la
  have a0 := HA1.out.cellAt 0
  have a1 := HA1.out.cellAt 1
  have la := HA1.out.lt
  simp only [List.getElem?_cons_zero, List.getElem?_cons_succ] at a0 a1
  go_wp2_with fail
  refine (HRB.out _ HB1.out).mono ?_
  rintro e w2 ⟨rfl, n2, hn2⟩
  have hd2 : Below w1.heap.size w1 w2 := hn2 ▸ below_dn _ w1 n2
  have HB2 := Lib.hid (HB1.out.trans (hd2.mono HB1.out.size))
  have HA2 := Lib.hid (HA1.out.below hd2 HA1.out.lt)
  clear hn2 hd2 HRB HA1 HB1 a0 a1 la
  have a0 := HA2.out.cellAt 0
  have a1 := HA2.out.cellAt 1
  have la := HA2.out.lt
  simp only [List.getElem?_cons_zero, List.getElem?_cons_succ] at a0 a1
  go_wp2_with fail
  refine (HXS.out _ HB2.out).mono ?_
  rintro e w3 ⟨vx, rfl, hox, hb3⟩
  have HB3 := Lib.hid (HB2.out.trans (hb3.mono HB2.out.size))
  have HA3 := Lib.hid (HA2.out.below hb3 HA2.out.lt)
  have HOX := Lib.hid hox
  clear hb3 hox HXS HA2 a0 a1 la
  have a0 := HA3.out.cellAt 0
  have a1 := HA3.out.cellAt 1
  have la := HA3.out.lt
  simp only [List.getElem?_cons_zero, List.getElem?_cons_succ] at a0 a1
  go_wp2_with fail
  refine (HYS.out _ HB3.out).mono ?_
  rintro e W6 ⟨vy, rfl, hoy, hb6⟩
  have HB6 := Lib.hid (HB3.out.trans (hb6.mono HB3.out.size))
  have HA6 := Lib.hid (HA3.out.below hb6 HA3.out.lt)
  have HOX6 := Lib.hid (own_laterE HOX.out hb6)
  have HOY6 := Lib.hid hoy
  clear hb6 hoy HYS HA3 HOX HB3 a0 a1 la
  have a0 := HA6.out.cellAt 0
  have a1 := HA6.out.cellAt 1
  have lgn := HA6.out.lt
  simp only [List.getElem?_cons_zero, List.getElem?_cons_succ] at a0 a1
  go_wp2
  go_loopw [14, 15] (fun s14 s15 X => ∃ (t : Nat) (lv : Value), t ≤ nl ∧ s15 = .int .i64 (t : Int) ∧ lv = s14 ∧ Hid (X.ownsRow W6.heap.size 51 4 lv t (flatE ((L.map (cellE g0 g1 cs rs)).take t))) ∧ Hid (Below W6.heap.size W6 X) ∧ Hid ((L.take t).all (placeN m k) = true)) (fun _ s15 _ => nl - (intOf s15).toNat)
  case atStart => exact ⟨0, _, Nat.zero_le _, rfl, rfl, Lib.hid (by simpa [flatE] using World.ownsRow_nil _ _ _ _), Lib.hid (Below.refl _ _), Lib.hid (by simp)⟩
  case round =>
    obtain ⟨t, lv, ht, rfl, rfl, HO, HB, HA⟩ := hrel
    by_cases hlt : t < nl
    · obtain ⟨z, hz⟩ : ∃ z, L[t]? = some z := ⟨_, List.getElem?_eq_getElem (by rw [HN.out]; exact hlt)⟩
      have hzok := HOK.out z (List.mem_iff_getElem?.2 ⟨t, hz⟩)
      obtain ⟨b, o, rfl, lb, c0, c1, c2, c3, c4⟩ := psAt_at HP.out t z hz
      replace c0 := (HB6.out.cell (p := ⟨b, o + t * 5, none⟩) lb).trans c0
      replace c1 := (HB6.out.cell (p := ⟨b, o + t * 5 + 1, none⟩) lb).trans c1
      replace c2 := (HB6.out.cell (p := ⟨b, o + t * 5 + 2, none⟩) lb).trans c2
      replace c3 := (HB6.out.cell (p := ⟨b, o + t * 5 + 3, none⟩) lb).trans c3
      replace c4 := (HB6.out.cell (p := ⟨b, o + t * 5 + 4, none⟩) lb).trans c4
      replace lb : b < W6.heap.size := by have := HB6.out.size; omega
      have d0 := (HB.out.cell (p := ⟨b, o + t * 5, none⟩) lb).trans c0
      have d1 := (HB.out.cell (p := ⟨b, o + t * 5 + 1, none⟩) lb).trans c1
      have d2 := (HB.out.cell (p := ⟨b, o + t * 5 + 2, none⟩) lb).trans c2
      have d3 := (HB.out.cell (p := ⟨b, o + t * 5 + 3, none⟩) lb).trans c3
      have d4 := (HB.out.cell (p := ⟨b, o + t * 5 + 4, none⟩) lb).trans c4
      have lbw : b < wr.heap.size := by have := HB.out.size; omega
      have HZ := Lib.hid hz
      obtain ⟨hpl, hplE⟩ : ∃ hpl, placeN m k z = hpl := ⟨_, rfl⟩
      have HH := Lib.hid (fun X => by have := refWithin_any m k z X hzok hmk hkk; rw [hplE] at this; exact this)
      have HPL := Lib.hid hplE
      obtain ⟨pn, pr, pc, ph, pw⟩ := z
      dsimp only [Pz.cells] at HH c0 c1 c2 c3 c4 d0 d1 d2 d3 d4
      clear hz hzok hplE
      cases hpl with
      | false =>
        have HBAD : Hid (L.all (placeN m k) = false) := Lib.hid (all_bad HZ.out HPL.out)
        go_wp2_with fail
        refine (HH.out _).mono ?_
        rintro e w4 ⟨rfl, hb4⟩
        have HB4 := Lib.hid (HB6.out.trans ((HB.out.trans (hb4.mono HB.out.size)).mono HB6.out.size))
        clear hb4 c0 c1 c2 c3 c4 d0 d1 d2 d3 d4 lb lbw HH HO
        go_wp2
        go_ret2
        exact ⟨HB4.out, .inr ⟨HBAD.out, rfl⟩⟩
      | true =>
        obtain ⟨fc, fr, nw, nh, e1, e2, e3, e4, h1, h2, h3, h4⟩ := placeN_nat HPL.out
        dsimp only at e1 e2 e3 e4
        subst e1 e2 e3 e4
        have HA2 := Lib.hid (all_snoc HZ.out HPL.out HA.out)
        have HTK : Hid ((L.map (cellE g0 g1 cs rs)).take (t + 1) = (L.map (cellE g0 g1 cs rs)).take t ++ [⟨begW g0 cs fc, begW g1 rs fr, wideW g0 cs fc (fc + nw), wideW g1 rs fr (fr + nh)⟩]) := Lib.hid (by
          rw [List.take_add_one, List.getElem?_map, HZ.out]; simp [cellE])
        go_wp2_with fail
        refine (HH.out _).mono ?_
        rintro e w4 ⟨rfl, hb4⟩
        have HB4 := Lib.hid (HB.out.trans (hb4.mono HB.out.size))
        have HO4 := Lib.hid (own_laterE HO.out hb4)
        clear hb4 d0 d1 d2 d3 d4 lbw HH HO HB c0
        obtain ⟨gx, cx, rfl, lgx0, _, hcx⟩ := own_atE HOX6.out (show m ≠ 0 by omega)
        obtain ⟨gy, cy, rfl, lgy0, _, hcy⟩ := own_atE HOY6.out (show k ≠ 0 by omega)
        have cxi := hcx fc _ (begsW_get (by omega))
        have cyi := hcy fr _ (begsW_get (by omega))
        have lgx := lgx0
        have lgy := lgy0
        have HSPA := Lib.hid (fun X (h : Below W6.heap.size W6 X) => HSPX.out fc nw X (HB6.out.trans (h.mono HB6.out.size)) h1)
        have HSPB := Lib.hid (fun X (h : Below W6.heap.size W6 X) => HSPY.out fr nh X (HB6.out.trans (h.mono HB6.out.size)) h2)
        clear hcx hcy
        generalize begW g0 cs fc = xx at *
        generalize begW g1 rs fr = yy at *
        generalize wideW g0 cs fc (fc + nw) = uu at *
        generalize wideW g1 rs fr (fr + nh) = vv at *
        have q1 : ¬ (m ≤ fc) := by omega
        have q2 : ¬ (k ≤ fr) := by omega
        obtain ⟨pv, nv, cv, rfl⟩ := own_formE HO4.out
        go_wp2
        refine region_held_atE (S := fun X => Hid (Below W6.heap.size W6 X)) (by kernel_rfl) (fun w9 hw9 => ?_)
        have b9 : Below w4.heap.size w4 w9 := by rw [← hw9]; exact (Below.refl _ _).drew
        have SV : Hid (Below W6.heap.size W6 w9) := Lib.hid (HB4.out.trans (b9.mono HB4.out.size))
        have HO9 := Lib.hid (own_laterE HO4.out b9)
        clear hw9 b9 HO4 HB4
        have hsz := SV.out.size
        obtain ⟨v9, X9, hr9, hown9, hgrow9, _, _⟩ := run_append_own_at (P := Try.prog) (w9.alloc (.cells #[.int .i64 xx, .int .i64 yy, .int .i64 uu, .int .i64 vv] 51)) W6.heap.size 39 39 51 i0 (.agg #[.int .i64 0, .int .i64 0, .int .i64 0, .int .i64 0]) 4 32 Try.underlying39 HI0.out HZ0.out HZ1.out HZ2.out rfl (by decide) (.slice pv nv cv) t _ (HO9.out.alloc _) ⟨w9.heap.size, 0, none⟩ 1 1 [.int .i64 xx, .int .i64 yy, .int .i64 uu, .int .i64 vv] rfl (layE _ [.int .i64 xx, .int .i64 yy, .int .i64 uu, .int .i64 vv] _ _ rfl) (by simp [Value.oneCell']) (by unfold maxLen; omega) (by omega) (by simp <;> omega)
        have SA : Hid (Below W6.heap.size W6 (w9.alloc (.cells #[.int .i64 xx, .int .i64 yy, .int .i64 uu, .int .i64 vv] 51))) := Lib.hid (SV.out.alloc hsz _)
        have S9 : Hid (Below W6.heap.size W6 X9) := Lib.hid (own_below SA.out (HO9.out.alloc _) (Nat.le_refl _) hgrow9 (by simp <;> omega))
        have HX9 := Lib.hid hown9
        clear hown9 hgrow9
        try simp only [Act.put, List.setIfInBounds_toArray, List.set_cons_succ, List.set_cons_zero]
        refine wpAnyH_takeD (i := 0) (v := .slice pv nv cv) (some 56) rfl rfl (by kernel_rfl) (by kernel_rfl) (by kernel_rfl) (fun _ _ _ h => h) (Or.inl ⟨by rfl, ?_⟩) SV ?_
        · intro X hX; go_simp
        try simp only [Act.put, List.setIfInBounds_toArray, List.set_cons_succ, List.set_cons_zero]
        refine wpAnyH_takeD (i := 1) (v := .slice (some ⟨gx, 0, none⟩) m cx) (some 57) rfl rfl (by kernel_rfl) (by kernel_rfl) (by kernel_rfl) (fun _ _ _ h => h) (Or.inl ⟨by rfl, ?_⟩) SV ?_
        · intro X hX; go_simp
        try simp only [Act.put, List.setIfInBounds_toArray, List.set_cons_succ, List.set_cons_zero]
        refine wpAnyH_takeD (i := 2) (v := .slice (some ⟨b, o, none⟩) nl cl) (some 58) rfl rfl (by kernel_rfl) (by kernel_rfl) (by kernel_rfl) (fun _ _ _ h => h) (Or.inl ⟨by rfl, ?_⟩) SV ?_
        · intro X hX; go_simp
        try simp only [Act.put, List.setIfInBounds_toArray, List.set_cons_succ, List.set_cons_zero]
        refine wpAnyH_takeD (i := 3) (v := .int .i64 (t : Int)) (some 59) rfl rfl (by kernel_rfl) (by kernel_rfl) (by kernel_rfl) (fun _ _ _ h => h) (Or.inl ⟨by rfl, ?_⟩) SV ?_
        · intro X hX; go_simp
        try simp only [Act.put, List.setIfInBounds_toArray, List.set_cons_succ, List.set_cons_zero]
        refine wpAnyH_takeD (i := 4) (v := .pointer (some ⟨b, o + t * 5, none⟩)) (some 60) rfl rfl (by kernel_rfl) (by kernel_rfl) (by kernel_rfl) (fun _ _ _ h => h) (Or.inl ⟨by rfl, ?_⟩) SV ?_
        · intro X hX; go_simp
        try simp only [Act.put, List.setIfInBounds_toArray, List.set_cons_succ, List.set_cons_zero]
        refine wpAnyH_takeD (i := 5) (v := .pointer (some ⟨b, o + t * 5 + 2, none⟩)) (some 61) rfl rfl (by kernel_rfl) (by kernel_rfl) (by kernel_rfl) (fun _ _ _ h => h) (Or.inl ⟨by rfl, ?_⟩) SV ?_
        · intro X hX; go_simp
        try simp only [Act.put, List.setIfInBounds_toArray, List.set_cons_succ, List.set_cons_zero]
        refine wpAnyH_takeD (i := 6) (v := .int .i64 (fc : Int)) (some 62) rfl rfl (by kernel_rfl) (by kernel_rfl) (by kernel_rfl) (fun _ _ _ h => h) (Or.inl ⟨by rfl, ?_⟩) SV ?_
        · intro X hX; have o0 := (hX.out.cell (p := ⟨b, o + t * 5 + 2, none⟩) lb).trans c2; have lX := hX.out.size; have lbX : b < X.heap.size := (by omega); go_simp
        try simp only [Act.put, List.setIfInBounds_toArray, List.set_cons_succ, List.set_cons_zero]
        refine wpAnyH_takeD (i := 7) (v := .pointer (some ⟨gx, fc, none⟩)) (some 63) rfl rfl (by kernel_rfl) (by kernel_rfl) (by kernel_rfl) (fun _ _ _ h => h) (Or.inl ⟨by rfl, ?_⟩) SV ?_
        · intro X hX; go_simp
        try simp only [Act.put, List.setIfInBounds_toArray, List.set_cons_succ, List.set_cons_zero]
        refine wpAnyH_takeD (i := 8) (v := .int .i64 xx) (some 64) rfl rfl (by kernel_rfl) (by kernel_rfl) (by kernel_rfl) (fun _ _ _ h => h) (Or.inl ⟨by rfl, ?_⟩) SV ?_
        · intro X hX; have o0 := (hX.out.cell (p := ⟨gx, fc, none⟩) lgx).trans cxi; have lX := hX.out.size; have lbX : gx < X.heap.size := (by omega); go_simp
        try simp only [Act.put, List.setIfInBounds_toArray, List.set_cons_succ, List.set_cons_zero]
        refine wpAnyH_takeD (i := 9) (v := .slice (some ⟨gy, 0, none⟩) k cy) (some 65) rfl rfl (by kernel_rfl) (by kernel_rfl) (by kernel_rfl) (fun _ _ _ h => h) (Or.inl ⟨by rfl, ?_⟩) SV ?_
        · intro X hX; go_simp
        try simp only [Act.put, List.setIfInBounds_toArray, List.set_cons_succ, List.set_cons_zero]
        refine wpAnyH_takeD (i := 10) (v := .slice (some ⟨b, o, none⟩) nl cl) (some 66) rfl rfl (by kernel_rfl) (by kernel_rfl) (by kernel_rfl) (fun _ _ _ h => h) (Or.inl ⟨by rfl, ?_⟩) SV ?_
        · intro X hX; go_simp
        try simp only [Act.put, List.setIfInBounds_toArray, List.set_cons_succ, List.set_cons_zero]
        refine wpAnyH_takeD (i := 11) (v := .int .i64 (t : Int)) (some 67) rfl rfl (by kernel_rfl) (by kernel_rfl) (by kernel_rfl) (fun _ _ _ h => h) (Or.inl ⟨by rfl, ?_⟩) SV ?_
        · intro X hX; go_simp
        try simp only [Act.put, List.setIfInBounds_toArray, List.set_cons_succ, List.set_cons_zero]
        refine wpAnyH_takeD (i := 12) (v := .pointer (some ⟨b, o + t * 5, none⟩)) (some 68) rfl rfl (by kernel_rfl) (by kernel_rfl) (by kernel_rfl) (fun _ _ _ h => h) (Or.inl ⟨by rfl, ?_⟩) SV ?_
        · intro X hX; go_simp
        try simp only [Act.put, List.setIfInBounds_toArray, List.set_cons_succ, List.set_cons_zero]
        refine wpAnyH_takeD (i := 13) (v := .pointer (some ⟨b, o + t * 5 + 1, none⟩)) (some 69) rfl rfl (by kernel_rfl) (by kernel_rfl) (by kernel_rfl) (fun _ _ _ h => h) (Or.inl ⟨by rfl, ?_⟩) SV ?_
        · intro X hX; go_simp
        try simp only [Act.put, List.setIfInBounds_toArray, List.set_cons_succ, List.set_cons_zero]
        refine wpAnyH_takeD (i := 14) (v := .int .i64 (fr : Int)) (some 70) rfl rfl (by kernel_rfl) (by kernel_rfl) (by kernel_rfl) (fun _ _ _ h => h) (Or.inl ⟨by rfl, ?_⟩) SV ?_
        · intro X hX; have o0 := (hX.out.cell (p := ⟨b, o + t * 5 + 1, none⟩) lb).trans c1; have lX := hX.out.size; have lbX : b < X.heap.size := (by omega); go_simp
        try simp only [Act.put, List.setIfInBounds_toArray, List.set_cons_succ, List.set_cons_zero]
        refine wpAnyH_takeD (i := 15) (v := .pointer (some ⟨gy, fr, none⟩)) (some 71) rfl rfl (by kernel_rfl) (by kernel_rfl) (by kernel_rfl) (fun _ _ _ h => h) (Or.inl ⟨by rfl, ?_⟩) SV ?_
        · intro X hX; go_simp
        try simp only [Act.put, List.setIfInBounds_toArray, List.set_cons_succ, List.set_cons_zero]
        refine wpAnyH_takeD (i := 16) (v := .int .i64 yy) (some 72) rfl rfl (by kernel_rfl) (by kernel_rfl) (by kernel_rfl) (fun _ _ _ h => h) (Or.inl ⟨by rfl, ?_⟩) SV ?_
        · intro X hX; have o0 := (hX.out.cell (p := ⟨gy, fr, none⟩) lgy).trans cyi; have lX := hX.out.size; have lbX : gy < X.heap.size := (by omega); go_simp
        try simp only [Act.put, List.setIfInBounds_toArray, List.set_cons_succ, List.set_cons_zero]
        refine wpAnyH_takeD (i := 17) (v := .slice p m c) (some 73) rfl rfl (by kernel_rfl) (by kernel_rfl) (by kernel_rfl) (fun _ _ _ h => h) (Or.inl ⟨by rfl, ?_⟩) SV ?_
        · intro X hX; go_simp
        try simp only [Act.put, List.setIfInBounds_toArray, List.set_cons_succ, List.set_cons_zero]
        refine wpAnyH_takeD (i := 18) (v := .pointer (some ⟨gn, 0, none⟩)) (some 74) rfl rfl (by kernel_rfl) (by kernel_rfl) (by kernel_rfl) (fun _ _ _ h => h) (Or.inl ⟨by rfl, ?_⟩) SV ?_
        · intro X hX; go_simp
        try simp only [Act.put, List.setIfInBounds_toArray, List.set_cons_succ, List.set_cons_zero]
        refine wpAnyH_takeD (i := 19) (v := .int .i64 g0) (some 75) rfl rfl (by kernel_rfl) (by kernel_rfl) (by kernel_rfl) (fun _ _ _ h => h) (Or.inl ⟨by rfl, ?_⟩) SV ?_
        · intro X hX; have o0 := (hX.out.cell (p := ⟨gn, 0, none⟩) lgn).trans a0; have lX := hX.out.size; have lbX : gn < X.heap.size := (by omega); go_simp
        try simp only [Act.put, List.setIfInBounds_toArray, List.set_cons_succ, List.set_cons_zero]
        refine wpAnyH_takeD (i := 20) (v := .slice (some ⟨b, o, none⟩) nl cl) (some 76) rfl rfl (by kernel_rfl) (by kernel_rfl) (by kernel_rfl) (fun _ _ _ h => h) (Or.inl ⟨by rfl, ?_⟩) SV ?_
        · intro X hX; go_simp
        try simp only [Act.put, List.setIfInBounds_toArray, List.set_cons_succ, List.set_cons_zero]
        refine wpAnyH_takeD (i := 21) (v := .int .i64 (t : Int)) (some 77) rfl rfl (by kernel_rfl) (by kernel_rfl) (by kernel_rfl) (fun _ _ _ h => h) (Or.inl ⟨by rfl, ?_⟩) SV ?_
        · intro X hX; go_simp
        try simp only [Act.put, List.setIfInBounds_toArray, List.set_cons_succ, List.set_cons_zero]
        refine wpAnyH_takeD (i := 22) (v := .pointer (some ⟨b, o + t * 5, none⟩)) (some 78) rfl rfl (by kernel_rfl) (by kernel_rfl) (by kernel_rfl) (fun _ _ _ h => h) (Or.inl ⟨by rfl, ?_⟩) SV ?_
        · intro X hX; go_simp
        try simp only [Act.put, List.setIfInBounds_toArray, List.set_cons_succ, List.set_cons_zero]
        refine wpAnyH_takeD (i := 23) (v := .pointer (some ⟨b, o + t * 5 + 2, none⟩)) (some 79) rfl rfl (by kernel_rfl) (by kernel_rfl) (by kernel_rfl) (fun _ _ _ h => h) (Or.inl ⟨by rfl, ?_⟩) SV ?_
        · intro X hX; go_simp
        try simp only [Act.put, List.setIfInBounds_toArray, List.set_cons_succ, List.set_cons_zero]
        refine wpAnyH_takeD (i := 24) (v := .int .i64 (fc : Int)) (some 80) rfl rfl (by kernel_rfl) (by kernel_rfl) (by kernel_rfl) (fun _ _ _ h => h) (Or.inl ⟨by rfl, ?_⟩) SV ?_
        · intro X hX; have o0 := (hX.out.cell (p := ⟨b, o + t * 5 + 2, none⟩) lb).trans c2; have lX := hX.out.size; have lbX : b < X.heap.size := (by omega); go_simp
        try simp only [Act.put, List.setIfInBounds_toArray, List.set_cons_succ, List.set_cons_zero]
        refine wpAnyH_takeD (i := 25) (v := .slice (some ⟨b, o, none⟩) nl cl) (some 81) rfl rfl (by kernel_rfl) (by kernel_rfl) (by kernel_rfl) (fun _ _ _ h => h) (Or.inl ⟨by rfl, ?_⟩) SV ?_
        · intro X hX; go_simp
        try simp only [Act.put, List.setIfInBounds_toArray, List.set_cons_succ, List.set_cons_zero]
        refine wpAnyH_takeD (i := 26) (v := .int .i64 (t : Int)) (some 82) rfl rfl (by kernel_rfl) (by kernel_rfl) (by kernel_rfl) (fun _ _ _ h => h) (Or.inl ⟨by rfl, ?_⟩) SV ?_
        · intro X hX; go_simp
        try simp only [Act.put, List.setIfInBounds_toArray, List.set_cons_succ, List.set_cons_zero]
        refine wpAnyH_takeD (i := 27) (v := .pointer (some ⟨b, o + t * 5, none⟩)) (some 83) rfl rfl (by kernel_rfl) (by kernel_rfl) (by kernel_rfl) (fun _ _ _ h => h) (Or.inl ⟨by rfl, ?_⟩) SV ?_
        · intro X hX; go_simp
        try simp only [Act.put, List.setIfInBounds_toArray, List.set_cons_succ, List.set_cons_zero]
        refine wpAnyH_takeD (i := 28) (v := .pointer (some ⟨b, o + t * 5 + 4, none⟩)) (some 84) rfl rfl (by kernel_rfl) (by kernel_rfl) (by kernel_rfl) (fun _ _ _ h => h) (Or.inl ⟨by rfl, ?_⟩) SV ?_
        · intro X hX; go_simp
        try simp only [Act.put, List.setIfInBounds_toArray, List.set_cons_succ, List.set_cons_zero]
        refine wpAnyH_takeD (i := 29) (v := .int .i64 (nw : Int)) (some 85) rfl rfl (by kernel_rfl) (by kernel_rfl) (by kernel_rfl) (fun _ _ _ h => h) (Or.inl ⟨by rfl, ?_⟩) SV ?_
        · intro X hX; have o0 := (hX.out.cell (p := ⟨b, o + t * 5 + 4, none⟩) lb).trans c4; have lX := hX.out.size; have lbX : b < X.heap.size := (by omega); go_simp
        try simp only [Act.put, List.setIfInBounds_toArray, List.set_cons_succ, List.set_cons_zero]
        refine wpAnyH_takeD (i := 31) (v := .slice q k d) (some 87) rfl rfl (by kernel_rfl) (by kernel_rfl) (by kernel_rfl) (fun _ _ _ h => h) (Or.inl ⟨by rfl, ?_⟩) SV ?_
        · intro X hX; go_simp
        try simp only [Act.put, List.setIfInBounds_toArray, List.set_cons_succ, List.set_cons_zero]
        refine wpAnyH_takeD (i := 32) (v := .pointer (some ⟨gn, 1, none⟩)) (some 88) rfl rfl (by kernel_rfl) (by kernel_rfl) (by kernel_rfl) (fun _ _ _ h => h) (Or.inl ⟨by rfl, ?_⟩) SV ?_
        · intro X hX; go_simp
        try simp only [Act.put, List.setIfInBounds_toArray, List.set_cons_succ, List.set_cons_zero]
        refine wpAnyH_takeD (i := 33) (v := .int .i64 g1) (some 89) rfl rfl (by kernel_rfl) (by kernel_rfl) (by kernel_rfl) (fun _ _ _ h => h) (Or.inl ⟨by rfl, ?_⟩) SV ?_
        · intro X hX; have o0 := (hX.out.cell (p := ⟨gn, 1, none⟩) lgn).trans a1; have lX := hX.out.size; have lbX : gn < X.heap.size := (by omega); go_simp
        try simp only [Act.put, List.setIfInBounds_toArray, List.set_cons_succ, List.set_cons_zero]
        refine wpAnyH_takeD (i := 34) (v := .slice (some ⟨b, o, none⟩) nl cl) (some 90) rfl rfl (by kernel_rfl) (by kernel_rfl) (by kernel_rfl) (fun _ _ _ h => h) (Or.inl ⟨by rfl, ?_⟩) SV ?_
        · intro X hX; go_simp
        try simp only [Act.put, List.setIfInBounds_toArray, List.set_cons_succ, List.set_cons_zero]
        refine wpAnyH_takeD (i := 35) (v := .int .i64 (t : Int)) (some 91) rfl rfl (by kernel_rfl) (by kernel_rfl) (by kernel_rfl) (fun _ _ _ h => h) (Or.inl ⟨by rfl, ?_⟩) SV ?_
        · intro X hX; go_simp
        try simp only [Act.put, List.setIfInBounds_toArray, List.set_cons_succ, List.set_cons_zero]
        refine wpAnyH_takeD (i := 36) (v := .pointer (some ⟨b, o + t * 5, none⟩)) (some 92) rfl rfl (by kernel_rfl) (by kernel_rfl) (by kernel_rfl) (fun _ _ _ h => h) (Or.inl ⟨by rfl, ?_⟩) SV ?_
        · intro X hX; go_simp
        try simp only [Act.put, List.setIfInBounds_toArray, List.set_cons_succ, List.set_cons_zero]
        refine wpAnyH_takeD (i := 37) (v := .pointer (some ⟨b, o + t * 5 + 1, none⟩)) (some 93) rfl rfl (by kernel_rfl) (by kernel_rfl) (by kernel_rfl) (fun _ _ _ h => h) (Or.inl ⟨by rfl, ?_⟩) SV ?_
        · intro X hX; go_simp
        try simp only [Act.put, List.setIfInBounds_toArray, List.set_cons_succ, List.set_cons_zero]
        refine wpAnyH_takeD (i := 38) (v := .int .i64 (fr : Int)) (some 94) rfl rfl (by kernel_rfl) (by kernel_rfl) (by kernel_rfl) (fun _ _ _ h => h) (Or.inl ⟨by rfl, ?_⟩) SV ?_
        · intro X hX; have o0 := (hX.out.cell (p := ⟨b, o + t * 5 + 1, none⟩) lb).trans c1; have lX := hX.out.size; have lbX : b < X.heap.size := (by omega); go_simp
        try simp only [Act.put, List.setIfInBounds_toArray, List.set_cons_succ, List.set_cons_zero]
        refine wpAnyH_takeD (i := 39) (v := .slice (some ⟨b, o, none⟩) nl cl) (some 95) rfl rfl (by kernel_rfl) (by kernel_rfl) (by kernel_rfl) (fun _ _ _ h => h) (Or.inl ⟨by rfl, ?_⟩) SV ?_
        · intro X hX; go_simp
        try simp only [Act.put, List.setIfInBounds_toArray, List.set_cons_succ, List.set_cons_zero]
        refine wpAnyH_takeD (i := 40) (v := .int .i64 (t : Int)) (some 96) rfl rfl (by kernel_rfl) (by kernel_rfl) (by kernel_rfl) (fun _ _ _ h => h) (Or.inl ⟨by rfl, ?_⟩) SV ?_
        · intro X hX; go_simp
        try simp only [Act.put, List.setIfInBounds_toArray, List.set_cons_succ, List.set_cons_zero]
        refine wpAnyH_takeD (i := 41) (v := .pointer (some ⟨b, o + t * 5, none⟩)) (some 97) rfl rfl (by kernel_rfl) (by kernel_rfl) (by kernel_rfl) (fun _ _ _ h => h) (Or.inl ⟨by rfl, ?_⟩) SV ?_
        · intro X hX; go_simp
        try simp only [Act.put, List.setIfInBounds_toArray, List.set_cons_succ, List.set_cons_zero]
        refine wpAnyH_takeD (i := 42) (v := .pointer (some ⟨b, o + t * 5 + 3, none⟩)) (some 98) rfl rfl (by kernel_rfl) (by kernel_rfl) (by kernel_rfl) (fun _ _ _ h => h) (Or.inl ⟨by rfl, ?_⟩) SV ?_
        · intro X hX; go_simp
        try simp only [Act.put, List.setIfInBounds_toArray, List.set_cons_succ, List.set_cons_zero]
        refine wpAnyH_takeD (i := 43) (v := .int .i64 (nh : Int)) (some 99) rfl rfl (by kernel_rfl) (by kernel_rfl) (by kernel_rfl) (fun _ _ _ h => h) (Or.inl ⟨by rfl, ?_⟩) SV ?_
        · intro X hX; have o0 := (hX.out.cell (p := ⟨b, o + t * 5 + 3, none⟩) lb).trans c3; have lX := hX.out.size; have lbX : b < X.heap.size := (by omega); go_simp
        try simp only [Act.put, List.setIfInBounds_toArray, List.set_cons_succ, List.set_cons_zero]
        refine wpAnyH_all (rs := [30]) (by kernel_rfl) (by simp) ?_
        intro ii hii; obtain rfl : ii = 30 := by simpa using hii
        clear hii
        refine wpOp_step rfl (fun K hK => ?_)
        go_simp
        refine (HSPA.out _ SV.out).mono ?_
        rintro e wa ⟨rfl, hwa⟩
        obtain rfl := hwa.symm
        refine hK _ _ ⟨SV, ?_⟩
        clear hK K
        try simp only [Act.put, List.setIfInBounds_toArray, List.set_cons_succ, List.set_cons_zero]
        refine wpAnyH_all (rs := [44]) (by kernel_rfl) (by simp) ?_
        intro ii hii; obtain rfl : ii = 44 := by simpa using hii
        clear hii
        refine wpOp_step rfl (fun K hK => ?_)
        go_simp
        refine (HSPB.out _ SV.out).mono ?_
        rintro e wb ⟨rfl, hwb⟩
        obtain rfl := hwb.symm
        refine hK _ _ ⟨SV, ?_⟩
        clear hK K
        try simp only [Act.put, List.setIfInBounds_toArray, List.set_cons_succ, List.set_cons_zero]
        refine wpAnyH_takeD (i := 45) (v := .agg #[.int .i64 xx, .int .i64 yy, .int .i64 uu, .int .i64 vv]) (some 101) rfl rfl (by kernel_rfl) (by kernel_rfl) (by kernel_rfl) (fun _ _ _ h => h) (Or.inl ⟨by rfl, ?_⟩) SV ?_
        · intro X hX; go_simp
        try simp only [Act.put, List.setIfInBounds_toArray, List.set_cons_succ, List.set_cons_zero]
        refine wpAnyH_all (rs := [46]) (by kernel_rfl) (by simp) ?_
        intro ii hii; obtain rfl : ii = 46 := by simpa using hii
        clear hii
        refine wpOp_step rfl (fun K hK => ?_)
        go_simp
        refine hK _ _ ⟨SA, ?_⟩
        clear hK K
        try simp only [Act.put, List.setIfInBounds_toArray, List.set_cons_succ, List.set_cons_zero]
        refine wpAnyH_all (rs := [47]) (by kernel_rfl) (by simp) ?_
        intro ii hii; obtain rfl : ii = 47 := by simpa using hii
        clear hii
        refine wpOp_step rfl (fun K hK => ?_)
        refine wp_append_runE (some 103) rfl _ _ _ rfl _ _ _ rfl rfl hr9 ?_
        refine hK _ _ ⟨S9, ?_⟩
        clear hK K hr9 SA SV hsz
        try simp only [Act.put, List.setIfInBounds_toArray, List.set_cons_succ, List.set_cons_zero]
        refine wpAnyH_takeD (i := 48) (v := v9) (some 14) rfl rfl (by kernel_rfl) (by kernel_rfl) (by kernel_rfl) (fun _ _ _ h => h) (Or.inl ⟨by rfl, ?_⟩) S9 ?_
        · intro X hX; go_simp
        try simp only [Act.put, List.setIfInBounds_toArray, List.set_cons_succ, List.set_cons_zero]
        refine wpAnyH_done (by kernel_rfl) ?_ _
        go_wp2
        go_roundw
        case rel => exact ⟨t + 1, v9, by omega, by go_num, rfl, Lib.hid (by rw [HTK.out, flatE_snoc]; exact HX9.out), S9, HA2⟩
        case measure => simp [intOf]; omega
    · have HT := Lib.hid (show t = nl by omega)
      have HGOOD : Hid (L.all (placeN m k) = true) := Lib.hid (by have := HA.out; rwa [List.take_of_length_le (by rw [HN.out, HT.out]; exact Nat.le_refl _)] at this)
      have HLEN : Hid ((L.map (cellE g0 g1 cs rs)).take t = L.map (cellE g0 g1 cs rs)) := Lib.hid (List.take_of_length_le (by rw [List.length_map, HN.out, HT.out]; exact Nat.le_refl _))
      go_wp2
      go_ret2
      refine ⟨HB6.out.trans (HB.out.mono HB6.out.size), .inl ⟨HGOOD.out, _, rfl, ?_⟩⟩
      have e := HO.out
      rw [HLEN.out] at e
      rw [show (L.map (cellE g0 g1 cs rs)).length = t by rw [List.length_map, HN.out, HT.out]]
      exact own_mono e HB6.out.size
theorem refCells_any (pl p q : Option Addr) (nl cl m c k d : Nat) (L : List Pz) (cs rs : List Int) (g0 g1 : Int) (w : World) (hP : PsAt w (.slice pl nl cl) L) (hn : L.length = nl) (hn2 : nl ≤ 1000000) (hok : ∀ x ∈ L, x.ok)
    (hL : LowI w.heap.size w (.slice p m c) cs) (hm : cs.length = m) (hR : LowI w.heap.size w (.slice q k d) rs) (hk : rs.length = k) :
    Calls Try.prog 22 #[.slice pl nl cl, .slice p m c, .slice q k d, .agg #[.int .i64 g0, .int .i64 g1]] w (CellsPost (okB g0 cs && (okB g1 rs && L.all (placeN m k))) w (L.map (cellE g0 g1 cs rs))) := by
  cases hb : (okB g0 cs && okB g1 rs) with
  | false =>
    refine (refCells_bad pl p q nl cl m c k d L cs rs g0 g1 w hP hn hn2 hok hL hm hR hk hb).mono fun e W' h => ⟨h.2, .inr ⟨?_, h.1⟩⟩
    rw [← Bool.and_assoc, hb]; rfl
  | true =>
    rw [Bool.and_eq_true] at hb
    have := refCells_main pl p q nl cl m c k d L cs rs g0 g1 w hP hn hn2 hok hL hm hR hk hb.1 hb.2
    rw [hb.1, hb.2]
    simpa using this
end Go.Proofs.Ytncgmfdmkjlmaaa
