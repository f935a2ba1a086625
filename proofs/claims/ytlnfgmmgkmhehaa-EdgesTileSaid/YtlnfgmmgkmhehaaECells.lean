/- Contract of edges.Cells. Written by mk_ECells.py. -/
import Derived.Test.YtlnfgmmgkmhehaaENetOf
import Derived.ScopeJumps
namespace Go.Proofs.Ytlnfgmmgkmhehaa
open Go.RowKit Go.Shelf
set_option linter.unusedVariables false
set_option linter.unusedSimpArgs false
attribute [local go_sem] Oper.semAt_some run_store_complexE

theorem Try.infoRE : (Try.prog.info? 38).map (fun i => (i.zero, i.size, i.bytes)) = some (some (.agg #[.int .i64 0, .int .i64 0, .int .i64 0, .int .i64 0]), 4, 32) := by kernel_rfl
/-- the rectangle of a place -/
def cellE (g0 g1 : Int) (cs rs : List Int) (q : Pz) : RR.R := ⟨begW g0 cs q.c.toNat, begW g1 rs q.r.toNat, wideW g0 cs q.c.toNat (q.c.toNat + q.w.toNat), wideW g1 rs q.r.toNat (q.r.toNat + q.h.toNat)⟩
def flatE (l : List RR.R) : List Value := l.flatMap RR.R.cells
theorem flatE_snoc (l : List RR.R) (q : RR.R) : flatE (l ++ [q]) = flatE l ++ [.int .i64 q.x, .int .i64 q.y, .int .i64 q.w, .int .i64 q.h] := by simp [flatE, RR.R.cells]
theorem own_mono {W : World} {a b e s n : Nat} {v : Value} {xs : List Value} (h : W.ownsRow a e s v n xs) (hab : b ≤ a) : W.ownsRow b e s v n xs := by
  obtain ⟨h1, h2⟩ := h
  refine ⟨h1, h2.imp id ?_⟩
  rintro ⟨g, cap, cur, e1, e2, e3⟩
  exact ⟨g, cap, cur, e1, Nat.le_trans hab e2, e3⟩
/-- a place that lies in the net, in numbers -/
theorem placeN_nat {c r : Nat} {q : Pz} (h : placeN c r q = true) : ∃ fc fr nw nh : Nat, q.c = fc ∧ q.r = fr ∧ q.w = nw ∧ q.h = nh ∧ fc + nw ≤ c ∧ fr + nh ≤ r ∧ 0 < nw ∧ 0 < nh := by
  simp only [placeN, liesB, Bool.and_eq_true, decide_eq_true_eq] at h
  exact ⟨q.c.toNat, q.r.toNat, q.w.toNat, q.h.toNat, by omega, by omega, by omega, by omega, by omega, by omega, by omega, by omega⟩
def CellsPost (ok : Bool) (w : World) (l : List RR.R) (e : Ending) (W' : World) : Prop := Below w.heap.size w W' ∧ ((ok = true ∧ ∃ v, e = .returned (.tuple #[v, .int .i64 0]) ∧ W'.ownsRow w.heap.size 38 4 v l.length (flatE l)) ∨ (ok = false ∧ e = .returned (.tuple #[.slice none 0 0, .int .i64 100])))
/-- at the label -/
def JE (ok : Bool) (w : World) : Act → World → Prop := fun a X => ∃ x0 x1 x2 x3 x4 x5 x6 x7 x8 x9 x10 x11 x12 x13 x14 x15 x16 x17 x18 x19 x20 x21 x22 x23 x24 x25 x26 x27 x28 x29 x30 x31 x32 x33 x34 x35 x36 x37 x38 x39 x40 x41 : Value,
  a = { tmps := #[x0, x1, x2, x3, x4, x5, x6, x7, x8, x9, x10, x11, x12, x13, x14, x15, x16, x17, x18, x19, x20, x21, x22, x23, x24, x25, x26, x27, x28, x29, x30, x31, x32, x33, x34, x35, x36, x37, x38, x39, x40, x41], defers := [] } ∧ Hid (Below w.heap.size w X ∧ ok = false)
theorem own_laterE {W W' : World} {base e size n : Nat} {v : Value} {xs : List Value} (h : W.ownsRow base e size v n xs) (hb : Below W.heap.size W W') : W'.ownsRow base e size v n xs :=
  h.kept (row := none) ⟨hb.os, hb.tape, hb.output, hb.size, fun k hk _ => hb.block k hk⟩ (by cases hv : v.ownBlock <;> simp)
theorem layE (w : World) (xs : List Value) (t g : Nat) (hg : g = w.heap.size) : ∀ j u, xs[j]? = some u → (w.alloc (.cells xs.toArray t)).cell? ((⟨g, 0, none⟩ : Addr).add j) = some u := fun j u hj => by
  rw [add_plainE, Nat.zero_add, (whole_new w xs t g hg).cellAt j]; exact hj
theorem psAt_at {W : World} {p : Option Addr} {n c : Nat} {L : List Pz} (h : PsAt W (.slice p n c) L) (i : Nat) (q : Pz) (hq : L[i]? = some q) : ∃ b o, p = some ⟨b, o, none⟩ ∧ b < W.heap.size ∧ W.cell? ⟨b, o + i * 5, none⟩ = some (.int .i64 q.n) ∧ W.cell? ⟨b, o + i * 5 + 1, none⟩ = some (.int .i64 q.r) ∧ W.cell? ⟨b, o + i * 5 + 2, none⟩ = some (.int .i64 q.c) ∧ W.cell? ⟨b, o + i * 5 + 3, none⟩ = some (.int .i64 q.h) ∧ W.cell? ⟨b, o + i * 5 + 4, none⟩ = some (.int .i64 q.w) := by
  rcases h.2 with ⟨a, c', e, rfl⟩ | ⟨b, off, c', e, hc⟩
  · simp at hq
  · injection e with e1 e2 e3
    have hh := hc i q hq
    exact ⟨b, off, e1, cell_lt hh.1, hh⟩
theorem all_snoc {L : List Pz} {f : Pz → Bool} {k : Nat} {q : Pz} (h : L[k]? = some q) (hq : f q = true) (ht : (L.take k).all f = true) : (L.take (k + 1)).all f = true := by
  rw [List.take_add_one, h, List.all_append, ht]; simp [hq]
theorem all_bad {L : List Pz} {f : Pz → Bool} {k : Nat} {q : Pz} (h : L[k]? = some q) (hq : f q = false) : L.all f = false := by
  rw [List.all_eq_false]; exact ⟨q, List.mem_iff_getElem?.2 ⟨k, h⟩, by simp [hq]⟩
set_option maxRecDepth 100000 in
set_option maxHeartbeats 8000000 in
theorem ecells_any (pl p q : Option Addr) (nl cl m c k d : Nat) (L : List Pz) (cs rs : List Int) (g0 g1 : Int) (w : World) (hP : PsAt w (.slice pl nl cl) L) (hn : L.length = nl) (hn2 : nl ≤ 1000000) (hok : ∀ x ∈ L, x.ok)
    (hL : LowI w.heap.size w (.slice p m c) cs) (hm : cs.length = m) (hR : LowI w.heap.size w (.slice q k d) rs) (hk : rs.length = k) :
    Calls Try.prog 5 #[.slice pl nl cl, .slice p m c, .slice q k d, .agg #[.int .i64 g0, .int .i64 g1]] w (CellsPost (okB g0 cs && (okB g1 rs && L.all (placeN m k))) w (L.map (cellE g0 g1 cs rs))) := by
  obtain ⟨i0, hi0, hz0, hz1, hz2⟩ := infoE Try.infoRE
  have HZ0 := Lib.hid hz0
  have HZ1 := Lib.hid hz1
  have HZ2 := Lib.hid hz2
  have HI0 := Lib.hid hi0
  obtain ⟨ok, hokE⟩ : ∃ ok, (okB g0 cs && (okB g1 rs && L.all (placeN m k))) = ok := ⟨_, rfl⟩
  rw [hokE]
  obtain ⟨gn, hgn⟩ : ∃ gn, w.heap.size = gn := ⟨_, rfl⟩
  have HGN := Lib.hid hgn
  obtain ⟨W0, hW0⟩ : ∃ W0, w.alloc (.cells #[.int .i64 g0, .int .i64 g1] 23) = W0 := ⟨_, rfl⟩
  have hB0 : Below w.heap.size w W0 := by rw [← hW0]; exact (Below.refl _ w).alloc (Nat.le_refl _) _
  have hA0 : Whole W0 gn 23 [.int .i64 g0, .int .i64 g1] := by rw [← hW0]; exact whole_new w [.int .i64 g0, .int .i64 g1] 23 gn hgn.symm
  have hL0 := (hL.keep (Y := W0) (fun k hk => hB0.block k hk)).mono hB0.size
  have hR0 := (hR.keep (Y := W0) (fun k hk => hB0.block k hk)).mono hB0.size
  have a0 := hA0.cellAt 0
  have a1 := hA0.cellAt 1
  have la := hA0.lt
  simp only [List.getElem?_cons_zero, List.getElem?_cons_succ] at a0 a1
  have HB0 := Lib.hid hB0
  have HP := Lib.hid hP
  have HN := Lib.hid hn
  have HOK := Lib.hid hok
  by_cases hb : okB g0 cs = true ∧ okB g1 rs = true
  · have ok0 := okB_iff.1 hb.1
    have ok1 := okB_iff.1 hb.2
    have hm4 : m ≤ 10000 := by have := ok0.2.1; omega
    have hk4 : k ≤ 10000 := by have := ok1.2.1; omega
    have HNE := Lib.hid (netOf_good p q m c k d cs rs g0 g1 W0 hL0 hm hR0 hk ok0 ok1)
    have HHAS := Lib.hid (fun (px py : Nat) (z : Pz) (X : World) (hz : z.ok) => has_any px py m k g0 g1 z X hz hm4 hk4)
    have HCEL := Lib.hid (fun (B px py : Nat) (pn : Int) (fr fc nh nw : Nat) (X : World) (hN : NetAt B X px py cs rs g0 g1) (h1 : fc + nw ≤ m) (h2 : fr + nh ≤ k) (h3 : 0 < nw) (h4 : 0 < nh) => cell_any px py m k cs rs g0 g1 pn fr fc nh nw X hN hm hk h1 h2 h3 h4 hm4 hk4 ok0 ok1)
    unfold netV at HNE HHAS HCEL
    generalize floatOfInt .f64 g0 = fx at HNE HHAS HCEL
    generalize floatOfInt .f64 g1 = fy at HNE HHAS HCEL
    have hokL : L.all (placeN m k) = ok := by rw [hb.1, hb.2] at hokE; simpa using hokE
    have HOL := Lib.hid hokL
    have HO0 := Lib.hid ok0
    have HO1 := Lib.hid ok1
    have HM := Lib.hid hm
    have HK := Lib.hid hk
    clear hL hR hL0 hR0 hP hn hok hm hk hb ok0 ok1 hA0 hB0 hokE hokL hi0 hz0 hz1 hz2
    go_enter Try.func5, Try.ntmps5
    go_wp2
    refine wp_scope_jumps 0 (JE ok w) (fun _ _ => 0) rfl ?first ?pass
    case pass =>
      rintro a X ⟨x0, x1, x2, x3, x4, x5, x6, x7, x8, x9, x10, x11, x12, x13, x14, x15, x16, x17, x18, x19, x20, x21, x22, x23, x24, x25, x26, x27, x28, x29, x30, x31, x32, x33, x34, x35, x36, x37, x38, x39, x40, x41, rfl, HJ⟩
      go_wp2
      simp only [Exit.jump]
      refine bodyPost_ret (results_tmp2 rfl _ _ _) rfl ?_
      exact ⟨HJ.out.1, .inr ⟨HJ.out.2, rfl⟩⟩
    case first =>
      go_wp2_with fail
      try rw [hW0]
      clear hW0 hgn
      refine HNE.out.mono ?_
      clear HNE
      rintro e w1 ⟨⟨px, py, rfl, hnet⟩, hb1⟩
      have HB1 := Lib.hid (HB0.out.trans (hb1.mono HB0.out.size))
      obtain ⟨W3, hW3⟩ : ∃ W3, w1.alloc (.cells #[.slice (some ⟨px, 0, none⟩) (m + 1) (m + 1), .slice (some ⟨py, 0, none⟩) (k + 1) (k + 1), .complex .f64 fx 0, .complex .f64 0 fy] 45) = W3 := ⟨_, rfl⟩
      have hb3 : Below w1.heap.size w1 W3 := by rw [← hW3]; exact (Below.refl _ w1).alloc (Nat.le_refl _) _
      have hNB : Whole W3 w1.heap.size 45 [.slice (some ⟨px, 0, none⟩) (m + 1) (m + 1), .slice (some ⟨py, 0, none⟩) (k + 1) (k + 1), .complex .f64 fx 0, .complex .f64 0 fy] := by rw [← hW3]; exact whole_new w1 [.slice (some ⟨px, 0, none⟩) (m + 1) (m + 1), .slice (some ⟨py, 0, none⟩) (k + 1) (k + 1), .complex .f64 fx 0, .complex .f64 0 fy] 45 _ rfl
      have HNB := Lib.hid hNB
      have HNET := Lib.hid (hnet.below hb3)
      have HB3 := Lib.hid (HB1.out.trans (hb3.mono HB1.out.size))
      clear hb1 hnet a0 a1 la HB0 HB1 hNB hb3
      obtain ⟨nb, hnb⟩ : ∃ nb, w1.heap.size = nb := ⟨_, rfl⟩
      rw [hnb] at HNB
      go_wp2_with fail
      try rw [hW3]
      try simp only [hnb]
      clear hW3 hnb
      go_loopw [10, 26] (fun s10 s26 X => ∃ (t : Nat) (lv : Value), t ≤ nl ∧ s26 = .int .i64 (t : Int) ∧ lv = s10 ∧ Hid (X.ownsRow W3.heap.size 38 4 lv t (flatE ((L.map (cellE g0 g1 cs rs)).take t))) ∧ Hid (Below W3.heap.size W3 X) ∧ Hid ((L.take t).all (placeN m k) = true)) (fun _ s26 _ => nl - (intOf s26).toNat)
      case atStart => exact ⟨0, _, Nat.zero_le _, rfl, rfl, Lib.hid (by simpa [flatE] using World.ownsRow_nil _ _ _ _), Lib.hid (Below.refl _ _), Lib.hid (by simp)⟩
      case round =>
        obtain ⟨t, lv, ht, rfl, rfl, HO, HB, HA⟩ := hrel
        by_cases hlt : t < nl
        · obtain ⟨z, hz⟩ : ∃ z, L[t]? = some z := ⟨_, List.getElem?_eq_getElem (by rw [HN.out]; exact hlt)⟩
          have hzok := HOK.out z (List.mem_iff_getElem?.2 ⟨t, hz⟩)
          obtain ⟨b, o, rfl, lb, c0, c1, c2, c3, c4⟩ := psAt_at HP.out t z hz
          have HBW := Lib.hid (HB3.out.trans (HB.out.mono HB3.out.size))
          replace c0 := (HBW.out.cell (p := ⟨b, o + t * 5, none⟩) lb).trans c0
          replace c1 := (HBW.out.cell (p := ⟨b, o + t * 5 + 1, none⟩) lb).trans c1
          replace c2 := (HBW.out.cell (p := ⟨b, o + t * 5 + 2, none⟩) lb).trans c2
          replace c3 := (HBW.out.cell (p := ⟨b, o + t * 5 + 3, none⟩) lb).trans c3
          replace c4 := (HBW.out.cell (p := ⟨b, o + t * 5 + 4, none⟩) lb).trans c4
          replace lb : b < wr.heap.size := by have := HBW.out.size; omega
          have HNR := Lib.hid (HNB.out.below HB.out HNB.out.lt)
          have n0 := HNR.out.cellAt 0
          have n1 := HNR.out.cellAt 1
          have n2 := HNR.out.cellAt 2
          have n3 := HNR.out.cellAt 3
          have ln := HNR.out.lt
          simp only [List.getElem?_cons_zero, List.getElem?_cons_succ] at n0 n1 n2 n3
          have HZ := Lib.hid hz
          obtain ⟨hpl, hplE⟩ : ∃ hpl, placeN m k z = hpl := ⟨_, rfl⟩
          have HH := Lib.hid (fun X => by have := HHAS.out px py z X hzok; rw [hplE] at this; exact this)
          have HPL := Lib.hid hplE
          obtain ⟨pn, pr, pc, ph, pw⟩ := z
          dsimp only [Pz.cells] at HH c0 c1 c2 c3 c4
          clear hz hzok hplE
          cases hpl with
          | false =>
            have hbad : ok = false := by rw [← HOL.out]; exact all_bad HZ.out HPL.out
            have HBAD := Lib.hid hbad
            clear hbad
            go_wp2_with fail
            refine (HH.out _).mono ?_
            rintro e w4 ⟨rfl, hb4⟩
            have HB4 := Lib.hid (HBW.out.trans (((Below.refl _ wr).alloc (Nat.le_refl _) (.cells #[.int .i64 pn, .int .i64 pr, .int .i64 pc, .int .i64 ph, .int .i64 pw] 27)).mono HBW.out.size |>.trans (hb4.mono (by have := HBW.out.size; simp; omega))))
            clear hb4 c0 c1 c2 c3 c4 n0 n1 n2 n3 ln lb HH HNR HO
            go_wp2_with fail
            apply wp_goto
            exact ⟨rfl, _, _, _, _, _, _, _, _, _, _, _, _, _, _, _, _, _, _, _, _, _, _, _, _, _, _, _, _, _, _, _, _, _, _, _, _, _, _, _, _, _, _, rfl, Lib.hid ⟨HB4.out, HBAD.out⟩⟩
          | true =>
            obtain ⟨fc, fr, nw, nh, e1, e2, e3, e4, h1, h2, h3, h4⟩ := placeN_nat HPL.out
            dsimp only at e1 e2 e3 e4
            subst e1 e2 e3 e4
            have HA2 := Lib.hid (all_snoc HZ.out HPL.out HA.out)
            have HTK : Hid ((L.map (cellE g0 g1 cs rs)).take (t + 1) = (L.map (cellE g0 g1 cs rs)).take t ++ [⟨begW g0 cs fc, begW g1 rs fr, wideW g0 cs fc (fc + nw), wideW g1 rs fr (fr + nh)⟩]) := Lib.hid (by
              rw [List.take_add_one, List.getElem?_map, HZ.out]; simp [cellE])
            go_wp2_with fail
            refine (HH.out _).mono ?_
            rintro e w4 ⟨rfl, hb4⟩
            have hal : Below wr.heap.size wr (wr.alloc (.cells #[.int .i64 pn, .int .i64 (fr : Int), .int .i64 (fc : Int), .int .i64 (nh : Int), .int .i64 (nw : Int)] 27)) := (Below.refl _ wr).alloc (Nat.le_refl _) _
            have hb14 : Below wr.heap.size wr w4 := hal.trans (hb4.mono (by simp))
            have hp4 := (whole_new wr [.int .i64 pn, .int .i64 (fr : Int), .int .i64 (fc : Int), .int .i64 (nh : Int), .int .i64 (nw : Int)] 27 _ rfl).below hb4 (by simp)
            have HN4 := Lib.hid (HNR.out.below hb14 HNR.out.lt)
            have HNT4 := Lib.hid ((HNET.out.below HB.out).below hb14)
            have HB14 := Lib.hid hb14
            clear c0 c1 c2 c3 c4 n0 n1 n2 n3 ln HH HNR hb4 hal hb14
            have n0 := HN4.out.cellAt 0
            have n1 := HN4.out.cellAt 1
            have n2 := HN4.out.cellAt 2
            have n3 := HN4.out.cellAt 3
            have ln := HN4.out.lt
            have p0 := hp4.cellAt 0
            have p1 := hp4.cellAt 1
            have p2 := hp4.cellAt 2
            have p3 := hp4.cellAt 3
            have p4 := hp4.cellAt 4
            have lp := hp4.lt
            simp only [List.getElem?_cons_zero, List.getElem?_cons_succ] at n0 n1 n2 n3 p0 p1 p2 p3 p4
            clear hp4
            go_wp2_with fail
            refine (HCEL.out _ px py pn fr fc nh nw _ HNT4.out h1 h2 h3 h4).mono ?_
            rintro e w5 ⟨rfl, hb5⟩
            have HB15 := Lib.hid (HB14.out.trans (hb5.mono HB14.out.size))
            have HO5 := Lib.hid (own_laterE HO.out HB15.out)
            have HB35 := Lib.hid (HB.out.trans (HB15.out.mono HB.out.size))
            have z35 := HB35.out.size
            clear n0 n1 n2 n3 ln p0 p1 p2 p3 p4 lp hb5 HN4 HNT4 HB14 HO lb
            generalize begW g0 cs fc = xx at *
            generalize begW g1 rs fr = yy at *
            generalize wideW g0 cs fc (fc + nw) = uu at *
            generalize wideW g1 rs fr (fr + nh) = vv at *
            dsimp only [RR.R.val]
            go_wp2_with (at_builtin; refine wpList_append_own_at _ rfl _ _ 28 rfl W3.heap.size 38 i0 (.agg #[.int .i64 0, .int .i64 0, .int .i64 0, .int .i64 0]) 4 32 Try.underlying28 HI0.out HZ0.out HZ1.out HZ2.out rfl (by decide) lv t (flatE ((L.map (cellE g0 g1 cs rs)).take t)) rfl (HO5.out.alloc _) ⟨w5.heap.size, 0, none⟩ 1 1 [.int .i64 xx, .int .i64 yy, .int .i64 uu, .int .i64 vv] rfl rfl (layE _ [.int .i64 xx, .int .i64 yy, .int .i64 uu, .int .i64 vv] _ _ rfl) (by simp [Value.oneCell']) (by unfold maxLen; omega) (by omega) (by simp <;> omega) ?_)
            intro v' w6 hown hgrow _ _
            have hB6 := own_below (HB35.out.alloc z35 _) (HO5.out.alloc _) (Nat.le_refl _) hgrow (by simp <;> omega)
            have HB6 := Lib.hid hB6
            have HO6 := Lib.hid hown
            clear hB6 hown hgrow HO5 HB35 HB15
            go_wp2
            go_roundw
            case rel => exact ⟨t + 1, v', by omega, by go_num, rfl, Lib.hid (by rw [HTK.out, flatE_snoc]; exact HO6.out), HB6, HA2⟩
            case measure => simp [intOf]; omega
        · obtain rfl : t = nl := by omega
          have hgood : ok = true := by rw [← HOL.out]; have := HA.out; rwa [List.take_of_length_le (by rw [HN.out]; omega)] at this
          have HGOOD := Lib.hid hgood
          clear hgood
          have HLEN : Hid ((L.map (cellE g0 g1 cs rs)).take t = L.map (cellE g0 g1 cs rs)) := Lib.hid (List.take_of_length_le (by simp; rw [HN.out]; omega))
          go_wp2
          simp only [Exit.jump]
          refine bodyPost_ret (results_tmp2 rfl _ _ _) rfl ?_
          refine ⟨HB3.out.trans (HB.out.mono HB3.out.size), .inl ⟨HGOOD.out, _, rfl, ?_⟩⟩
          have e := HO.out
          rw [HLEN.out] at e
          rw [show (L.map (cellE g0 g1 cs rs)).length = t by simp; exact HN.out]
          exact own_mono e HB3.out.size
  · have hokf : ok = false := by
      rw [← hokE]
      cases h0 : okB g0 cs with
      | false => rfl
      | true =>
        cases h1 : okB g1 rs with
        | false => rfl
        | true => exact absurd ⟨h0, h1⟩ hb
    have HNE := Lib.hid (netOf_bad p q m c k d cs rs g0 g1 W0 hL0 hm hR0 hk (by
      cases h0 : okB g0 cs with
      | false => exact .inl rfl
      | true =>
        cases h1 : okB g1 rs with
        | false => exact .inr rfl
        | true => exact absurd ⟨h0, h1⟩ hb))
    have HOKF := Lib.hid hokf
    clear hL hR hL0 hR0 hP hn hok hm hk hb hA0 hB0 hokE hi0 hz0 hz1 hz2 hokf HP HN HOK HI0 HZ0 HZ1 HZ2
    go_enter Try.func5, Try.ntmps5
    go_wp2
    refine wp_scope_jumps 0 (JE ok w) (fun _ _ => 0) rfl ?first2 ?pass2
    case pass2 =>
      rintro a X ⟨x0, x1, x2, x3, x4, x5, x6, x7, x8, x9, x10, x11, x12, x13, x14, x15, x16, x17, x18, x19, x20, x21, x22, x23, x24, x25, x26, x27, x28, x29, x30, x31, x32, x33, x34, x35, x36, x37, x38, x39, x40, x41, rfl, HJ⟩
      go_wp2
      simp only [Exit.jump]
      refine bodyPost_ret (results_tmp2 rfl _ _ _) rfl ?_
      exact ⟨HJ.out.1, .inr ⟨HJ.out.2, rfl⟩⟩
    case first2 =>
      go_wp2_with fail
      try rw [hW0]
      clear hW0 hgn
      refine HNE.out.mono ?_
      clear HNE
      rintro e w1 ⟨rfl, hb1⟩
      have HB1 := Lib.hid (HB0.out.trans (hb1.mono HB0.out.size))
      clear hb1 a0 a1 la HB0
      go_wp2_with fail
      apply wp_goto
      exact ⟨rfl, _, _, _, _, _, _, _, _, _, _, _, _, _, _, _, _, _, _, _, _, _, _, _, _, _, _, _, _, _, _, _, _, _, _, _, _, _, _, _, _, _, _, rfl, Lib.hid ⟨HB1.out.alloc HB1.out.size _, HOKF.out⟩⟩
end Go.Proofs.Ytlnfgmmgkmhehaa
