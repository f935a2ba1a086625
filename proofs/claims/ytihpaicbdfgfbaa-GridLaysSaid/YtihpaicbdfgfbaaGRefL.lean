/- Contract of the document's Lay: it answers what grid.Lay answers. Written by program (mk_GRefL.py). -/
import Derived.Test.YtihpaicbdfgfbaaGRefT
namespace Go.Proofs.Ytihpaicbdfgfbaa
open Go.RowKit Go.Shelf
set_option linter.unusedVariables false
attribute [local go_sem] Oper.semAt_some

theorem refLay_bad (p q : Option Addr) (m c m' c' : Nat) (w : World)
    (H : Hid (Calls Try.prog 15 #[.slice p m c, .slice q m' c'] w fun e W' => e = .returned (.bool false) ∧ Below w.heap.size w W')) :
    Calls Try.prog 13 #[.slice p m c, .slice q m' c'] w fun e W' => e = .returned (.tuple #[.slice none 0 0, .int .i64 0, .int .i64 70]) ∧ Below w.heap.size w W' := by
  go_enter Try.func13, Try.ntmps13
  go_wp2_with (go_at_call 15; refine H.out.mono ?_; clear H; rintro e w1 ⟨rfl, hb1⟩; have B1 := Lib.hid hb1; clear hb1)
  refine bodyPost_ret (v := .tuple #[.slice none 0 0, .int .i64 0, .int .i64 70]) (by simp [results, Try.results13, go_sem]) rfl ⟨rfl, B1.out⟩
/-- what holds at every step of the document's way -/
structure Doc (m : Nat) (s : LS) : Prop where
  ok : Okay s
  few : ∀ p ∈ s.ps, Few p
theorem Doc.zero (m : Nat) : Doc m LS.zero := ⟨Okay.zero, fun p h => by simp [LS.zero] at h⟩
theorem from_next {s : LS} {i : Nat} (h : s.last.r ≤ i) : fromP s (i + 1) = 0 := by unfold fromP; rw [if_neg (by omega)]
theorem most_step {ends : List Int} {s : LS} (h : Okay s) (x : Nat × Sp) : (stepP ends s x).t.length = max s.t.length ((placeP ends s x).c + (placeP ends s x).w) :=
  takeN_len s.t (placeP ends s x).c (x.1 + (placeP ends s x).h) (place_col h x) (placeP ends s x).w
set_option maxRecDepth 100000 in
set_option maxHeartbeats 4000000 in
theorem refLay_main (p q : Option Addr) (m c c' : Nat) (hv : Nat → Value) (rows : List (List Sp)) (ends : List Int) (w : World) (hQ : RightQ rows ends) (hl : rows.length = m) (hR : RowsIn w.heap.size w (.slice p m c) hv rows) (hE : Ints w (.slice q m c') ends) (hn : (cellsF 0 rows).length ≤ 1000000)
    (H : Hid (Calls Try.prog 15 #[.slice p m c, .slice q m c'] w fun e W' => e = .returned (.bool true) ∧ Below w.heap.size w W')) :
    Calls Try.prog 13 #[.slice p m c, .slice q m c'] w (LayPost rows ends w) := by
  obtain ⟨i1, hi1, hz0', hz1', hz2'⟩ := info_parts Try.infoPl
  have HZ1 := Lib.hid hz0'
  have HZ2 := Lib.hid hz1'
  have HZ3 := Lib.hid hz2'
  have HR := Lib.hid hR
  have HE := Lib.hid hE
  have HL := Lib.hid hl
  have HQ := Lib.hid hQ
  have HN := Lib.hid hn
  have hmm : m ≤ 65536 := by have := hQ.many; omega
  clear hz0' hz1' hz2' hR hE hl hQ hn
  go_enter Try.func13, Try.ntmps13
  go_wp2_with (go_at_call 15; refine H.out.mono ?_; clear H; rintro e w1 ⟨rfl, hb1⟩; have B1 := Lib.hid hb1; clear hb1)
  go_loopw [8, 9, 10] (fun s8 s9 s10 X => ∃ (i : Nat) (s : LS) (pre : List (Nat × Sp)), i ≤ m ∧ s10 = .int .i64 (i : Int) ∧ s9 = .int .i64 (s.t.length : Int) ∧ Hid (cellsF 0 rows = pre ++ cellsF i (rows.drop i)) ∧ Hid (runP ends pre LS.zero = some s) ∧ Hid (Doc m s) ∧ Hid (Mirror s i) ∧ Hid (s.last.r ≤ i ∧ fromP s i = 0) ∧ Hid (OwnP w.heap.size X s8 s.ps) ∧ Hid (Below w.heap.size w X)) (fun _ _ s10 _ => m - (intOf s10).toNat)
  case atStart => exact ⟨0, LS.zero, [], Nat.zero_le _, rfl, rfl, Lib.hid (by simp), Lib.hid rfl, Lib.hid (Doc.zero m), Lib.hid (Mirror.zero 0), Lib.hid ⟨Nat.le_refl _, rfl⟩, Lib.hid (World.ownsRow_nil _ _ _ _), B1⟩
  case round =>
    obtain ⟨i, s, pre, hi, rfl, rfl, HEQ, HRUN, HDOC, HMIR, HFR, HO, HB⟩ := hrel
    have htl := HDOC.out.ok.few
    by_cases hlt : i < m
    · obtain ⟨ee, hee⟩ : ∃ ee, ends[i]? = some ee := ⟨_, List.getElem?_eq_getElem (by rw [HQ.out.len, HL.out]; exact hlt)⟩
      obtain ⟨row, hrow⟩ : ∃ row, rows[i]? = some row := ⟨_, List.getElem?_eq_getElem (by rw [HL.out]; exact hlt)⟩
      have hoke := (okE_iff _ _ _).1 (HQ.out.ends i ee hee)
      obtain ⟨en, rfl⟩ : ∃ en : Nat, ee = (en : Int) := ⟨ee.toNat, by omega⟩
      have hin : i + 1 ≤ en := by omega
      have hem : en ≤ m := by have := HL.out; omega
      have hend : endP ends i = en := by unfold endP; rw [hee]; rfl
      have hokr := (rightQ_row HQ.out i).2 row hrow
      obtain ⟨_, ⟨_, _, _, hnn⟩ | ⟨eb, eo, c2, h1, hce⟩⟩ := HE.out
      · rw [hnn] at hee; simp at hee
      injection h1 with h1 h2 h3
      subst h1 h3
      have ce := hce i (by rw [← h2]; exact hlt)
      clear h2
      rw [hee] at ce
      simp only [Option.getD_some] at ce
      have leb := cell_lt ce
      dsimp only at leb
      obtain ⟨rb, ro, rfl, hrbB, crow, hrin⟩ := HR.out.at i row hrow
      obtain ⟨qr, cq, hvt⟩ := hrin.form
      rw [hvt] at crow hrin
      obtain ⟨kl, hkl⟩ : ∃ kl, row.length = kl := ⟨_, rfl⟩
      have hk63 := hrin.1
      rw [hkl] at crow hrin hk63
      have HRI := Lib.hid hrin
      have HKL := Lib.hid hkl
      have HOKR := Lib.hid hokr
      have HEND := Lib.hid hend
      have HCE := Lib.hid ce
      have HCROW := Lib.hid crow
      have HROW := Lib.hid hrow
      have HEQ2 := Lib.hid (HEQ.out.trans (by rw [cellsF_drop rows i row hrow]))
      clear crow hvt hrin hkl hrow hce ce hee hokr hend hoke HEQ
      go_wp2
      go_loopw [8, 9, 11, 12] (fun s8 s9 s11 s12 X => ∃ (k cl : Nat) (s : LS) (pre : List (Nat × Sp)), k ≤ kl ∧ s12 = .int .i64 (k : Int) ∧ s9 = .int .i64 (s.t.length : Int) ∧ s11 = .int .i64 (cl : Int) ∧ Hid (cellsF 0 rows = pre ++ ((row.drop k).map (fun x => (i, x)) ++ cellsF (i + 1) (rows.drop (i + 1)))) ∧ Hid (runP ends pre LS.zero = some s) ∧ Hid (Doc m s) ∧ Hid (Mirror s i) ∧ Hid (s.last.r ≤ i ∧ fromP s i = cl) ∧ Hid (OwnP w.heap.size X s8 s.ps) ∧ Hid (Below w.heap.size w X)) (fun _ _ _ s12 _ => kl - (intOf s12).toNat)
      case atStart => exact ⟨0, 0, s, pre, Nat.zero_le _, rfl, rfl, rfl, Lib.hid (by simpa using HEQ2.out), HRUN, HDOC, HMIR, HFR, HO, HB⟩
      case round =>
        clear HEQ2 HRUN HDOC HMIR HFR HO HB htl
        obtain ⟨k, cl, s, pre, hk, rfl, rfl, rfl, HEQ, HRUN, HDOC, HMIR, HFR, HO, HB⟩ := hrel
        have htl := HDOC.out.ok.few
        obtain ⟨tl, htlen⟩ : ∃ tl, s.t.length = tl := ⟨_, rfl⟩
        have HTL := Lib.hid htlen
        rw [htlen] at htl ⊢
        clear htlen
        have hcl : cl ≤ tl := by have := HDOC.out.ok.from _ i; rw [HFR.out.2, HTL.out] at this; exact this
        have crw := (HB.out.cell (p := ⟨rb, ro + i, none⟩) hrbB).trans HCROW.out
        have lbw : rb < wr.heap.size := by have := HB.out.size; omega
        by_cases hkl : k < kl
        · obtain ⟨⟨x1, x2, x3⟩, hx⟩ : ∃ x, row[k]? = some x := ⟨_, List.getElem?_eq_getElem (by rw [HKL.out]; exact hkl)⟩
          have hokc := (okC_iff _).1 (HOKR.out _ (List.mem_iff_getElem?.2 ⟨k, hx⟩))
          dsimp only at hokc
          obtain ⟨⟨hx2, hx2'⟩, hx3, hx3'⟩ := hokc
          obtain ⟨xc, rfl⟩ : ∃ xc : Nat, x2 = (xc : Int) := ⟨x2.toNat, by omega⟩
          obtain ⟨xr, rfl⟩ : ∃ xr : Nat, x3 = (xr : Int) := ⟨x3.toNat, by omega⟩
          obtain ⟨b', off', rfl, hb', d0, d1, d2⟩ := HRI.out.at k _ hx
          dsimp only at d0 d1 d2
          have hE3 := HEQ.out.trans (by rw [map_drop row i k _ hx])
          have hpl : pre.length < 1000000 := by have h1 := congrArg List.length hE3; have h2 := HN.out; simp at h1 h2; omega
          have hpsl := (runP_okay ends pre _ s Okay.zero HRUN.out).2
          have hpsn : s.ps.length ≤ 1000000 := by have : s.ps.length = 0 + pre.length := hpsl; omega
          have HE3 := Lib.hid hE3
          have e0 := (HB.out.cell (p := ⟨b', off' + k * 3, none⟩) hb').trans d0
          have e1 := (HB.out.cell (p := ⟨b', off' + k * 3 + 1, none⟩) hb').trans d1
          have e2 := (HB.out.cell (p := ⟨b', off' + k * 3 + 2, none⟩) hb').trans d2
          have lb3 : b' < wr.heap.size := by have := HB.out.size; omega
          obtain ⟨V, hV⟩ : ∃ V, wr.alloc (.cells #[.int .i64 x1, .int .i64 (xc : Int), .int .i64 (xr : Int)] 54) = V := ⟨_, rfl⟩
          have bV : Below w.heap.size w V := hV ▸ HB.out.alloc HB.out.size _
          have oV : OwnP w.heap.size V u8 s.ps := hV ▸ World.ownsRow.alloc HO.out _
          have kV : Whole V wr.heap.size 54 [.int .i64 x1, .int .i64 (xc : Int), .int .i64 (xr : Int)] := hV ▸ whole_new wr [.int .i64 x1, .int .i64 (xc : Int), .int .i64 (xr : Int)] 54 _ rfl
          have lV := kV.lt
          have HS0 : Hid (OwnP w.heap.size V u8 s.ps ∧ Below w.heap.size w V ∧ Whole V wr.heap.size 54 [.int .i64 x1, .int .i64 (xc : Int), .int .i64 (xr : Int)]) := Lib.hid ⟨oV, bV, kV⟩
          obtain ⟨pp, pn, pc, rfl⟩ := own_slice oV
          obtain ⟨pl, hplen⟩ : ∃ pl, s.ps.length = pl := ⟨_, rfl⟩
          have hpnn : pn = pl := by
            obtain ⟨a1, a2, a3⟩ := (oV.places (by omega)).form
            injection a3 with a3 a4 a5
            rw [List.length_map, hplen] at a4; exact a4
          subst hpnn
          have HPL := Lib.hid hplen
          rw [hplen] at hpsn
          obtain ⟨CB, hCB⟩ : ∃ CB, wr.heap.size = CB := ⟨_, rfl⟩
          rw [hCB] at lV HS0
          clear d0 d1 d2 hx bV oV kV hpl hE3 HEQ HO HB hplen
          have hccle : cl ≤ firstF s.t i cl ∧ firstF s.t i cl ≤ tl := ⟨(firstF_spec _ _ _).1, by rw [← HTL.out]; exact firstF_le _ _ _ (by rw [HTL.out]; exact hcl)⟩
          go_wp2
          try rw [hCB]
          clear hV hCB crw lbw e0 e1 e2 lb3
          -- the first free column
          go_loopw [11] (fun s11 X => ∃ cc : Nat, cl ≤ cc ∧ cc ≤ firstF s.t i cl ∧ s11 = .int .i64 (cc : Int) ∧ Hid (OwnP w.heap.size X (.slice pp pn pc) s.ps ∧ Below w.heap.size w X ∧ Whole X CB 54 [.int .i64 x1, .int .i64 (xc : Int), .int .i64 (xr : Int)])) (fun s11 _ => firstF s.t i cl - (intOf s11).toNat)
          case atStart => exact ⟨cl, Nat.le_refl _, hccle.1, rfl, HS0⟩
          case round =>
            obtain ⟨cc, hc1, hc2, rfl, HX⟩ := hrel
            clear HS0 lV
            have hTK := refTaken_at pp pn pc s.ps i cc wr HPL.out (by omega) (HX.out.1.places (by rw [HPL.out]; omega)) HDOC.out.few
            rw [HMIR.out i (Nat.le_refl _) cc] at hTK
            have hzw := HX.out.2.1.size
            by_cases hcc : cc = firstF s.t i cl
            · have hf : freeB s.t i cc = true := by rw [hcc]; exact (firstF_spec _ _ _).2.2
              rw [hf] at hTK
              have HTK := Lib.hid hTK
              have HCC := Lib.hid hcc
              have HF := Lib.hid hf
              clear hTK hf hcc
              have hTKf : Hid (∀ X, OwnP w.heap.size X (.slice pp pn pc) s.ps → ∀ cj : Nat, Calls Try.prog 30 #[.slice pp pn pc, .int .i64 (i : Int), .int .i64 (cj : Int)] X fun e W' => e = .returned (.bool (!freeB s.t i cj)) ∧ Below X.heap.size X W') := Lib.hid fun X hX cj => by
                have := refTaken_at pp pn pc s.ps i cj X HPL.out (by omega) (hX.places (by rw [HPL.out]; omega)) HDOC.out.few
                rw [HMIR.out i (Nat.le_refl _) cj] at this
                exact this
              go_wp2_with (go_at_call 30; refine HTK.out.mono ?_; clear HTK; rintro e w3 ⟨rfl, hb3⟩; have HX3 : Hid (OwnP w.heap.size w3 (.slice pp pn pc) s.ps ∧ Below w.heap.size w w3 ∧ Whole w3 CB 54 [.int .i64 x1, .int .i64 (xc : Int), .int .i64 (xr : Int)]) := Lib.hid ⟨World.ownsRow.kept HX.out.1 (grown_of_below' hb3) (by cases hq : (Value.slice pp pn pc).ownBlock <;> simp), HX.out.2.1.trans (hb3.mono hzw), HX.out.2.2.below hb3 HX.out.2.2.lt⟩; clear hb3)
              -- how wide
              go_loopw [14] (fun s14 X => ∃ wd : Nat, 1 ≤ wd ∧ wd ≤ xc ∧ s14 = .int .i64 (wd : Int) ∧ Hid (∀ j, j < wd → freeB s.t i (cc + j) = true) ∧ Hid (OwnP w.heap.size X (.slice pp pn pc) s.ps ∧ Below w.heap.size w X ∧ Whole X CB 54 [.int .i64 x1, .int .i64 (xc : Int), .int .i64 (xr : Int)])) (fun s14 _ => xc - (intOf s14).toNat)
              case atStart => exact ⟨1, Nat.le_refl _, by omega, rfl, Lib.hid (fun j hj => by obtain rfl : j = 0 := (by omega); exact HF.out), HX3⟩
              case round =>
                clear HX3 HX hzw
                obtain ⟨wd, hw1, hw2, rfl, HFW, HX⟩ := hrel
                have hzw := HX.out.2.1.size
                have z1 : wr.cell? ⟨CB, 1, none⟩ = some (.int .i64 (xc : Int)) := HX.out.2.2.cellAt 1
                have lz := HX.out.2.2.lt
                by_cases hwx : wd < xc
                · have hT2 := hTKf.out wr HX.out.1 (cc + wd)
                  rw [show ((cc + wd : Nat) : Int) = (cc : Int) + (wd : Int) by omega] at hT2
                  have dw : decide ((wd : Int) < (xc : Int)) = true := by simp; omega
                  cases hfw : freeB s.t i (cc + wd) with
                  | true =>
                    rw [hfw] at hT2
                    have HT2 := Lib.hid hT2
                    have HFW2 : Hid (∀ j, j < wd + 1 → freeB s.t i (cc + j) = true) := Lib.hid fun j hj => by
                      by_cases e : j = wd
                      · subst e; exact hfw
                      · exact HFW.out j (by omega)
                    clear hT2 hfw HFW
                    go_wp2_with (go_at_call 30; refine HT2.out.mono ?_; clear HT2; rintro e w4 ⟨rfl, hb4⟩; have HX4 : Hid (OwnP w.heap.size w4 (.slice pp pn pc) s.ps ∧ Below w.heap.size w w4 ∧ Whole w4 CB 54 [.int .i64 x1, .int .i64 (xc : Int), .int .i64 (xr : Int)]) := Lib.hid ⟨World.ownsRow.kept HX.out.1 (grown_of_below' hb4) (by cases hq : (Value.slice pp pn pc).ownBlock <;> simp), HX.out.2.1.trans (hb4.mono hzw), HX.out.2.2.below hb4 HX.out.2.2.lt⟩; clear hb4)
                    go_roundw
                    case rel => exact ⟨wd + 1, by omega, by omega, by go_num, HFW2, HX4⟩
                    case measure => simp [intOf]; omega
                  | false =>
                    rw [hfw] at hT2
                    have HT2 := Lib.hid hT2
                    have HWD : Hid (wideF s.t i cc xc = wd) := Lib.hid (wideF_eq hw2 HFW.out (.inr hfw))
                    clear hT2 hfw HFW hTKf
                    go_wp2_with fail
                    refine HT2.out.mono ?_
                    clear HT2
                    rintro e w4 ⟨rfl, hb4⟩
                    have HX4 : Hid (OwnP w.heap.size w4 (.slice pp pn pc) s.ps ∧ Below w.heap.size w w4 ∧ Whole w4 CB 54 [.int .i64 x1, .int .i64 (xc : Int), .int .i64 (xr : Int)]) := Lib.hid ⟨World.ownsRow.kept HX.out.1 (grown_of_below' hb4) (by cases hq : (Value.slice pp pn pc).ownBlock <;> simp), HX.out.2.1.trans (hb4.mono hzw), HX.out.2.2.below hb4 HX.out.2.2.lt⟩
                    have z2 : w4.cell? ⟨CB, 2, none⟩ = some (.int .i64 (xr : Int)) := HX4.out.2.2.cellAt 2
                    have lz4 := HX4.out.2.2.lt
                    clear hb4 HX z1 lz hzw
                    have hhl : highF (xr : Int) (en - i) = (if xr = 0 then en - i else min xr (en - i)) := by unfold highF; simp
                    have ce2 := (HX4.out.2.1.cell (p := ⟨eb, eo + i, none⟩) leb).trans HCE.out
                    have lb5 : eb < w4.heap.size := by have := HX4.out.2.1.size; omega
                    have z0 : w4.cell? ⟨CB, 0, none⟩ = some (.int .i64 x1) := HX4.out.2.2.cellAt 0
                    obtain ⟨hh, hhh⟩ : ∃ hh, highF (xr : Int) (en - i) = hh := ⟨_, rfl⟩
                    have hplace : placeP ends s (i, ⟨x1, (xc : Int), (xr : Int)⟩) = ⟨x1, i, cc, hh, wd⟩ := by
                      unfold placeP
                      dsimp only
                      rw [HFR.out.2, ← HCC.out, HEND.out, hhh, Int.toNat_natCast, HWD.out]
                    have hh1 : 1 ≤ hh := by rw [← hhh, hhl]; split <;> omega
                    have hh2 : hh ≤ 65536 := by rw [← hhh, hhl]; split <;> omega
                    have hstl := most_step (ends := ends) HDOC.out.ok (i, ⟨x1, (xc : Int), (xr : Int)⟩)
                    rw [hplace, HTL.out] at hstl
                    dsimp only at hstl
                    have hsps : (stepP ends s (i, ⟨x1, (xc : Int), (xr : Int)⟩)).ps = s.ps ++ [⟨x1, i, cc, hh, wd⟩] := by unfold stepP; rw [hplace]
                    have hslast : (stepP ends s (i, ⟨x1, (xc : Int), (xr : Int)⟩)).last = ⟨x1, i, cc, hh, wd⟩ := by unfold stepP; rw [hplace]
                    have hmir2 := HMIR.out.step (ends := ends) (x := ⟨x1, (xc : Int), (xr : Int)⟩) HDOC.out.ok (by rw [hplace]; exact hh1)
                    have hdoc2 : ∀ h : ¬ 10000 < (stepP ends s (i, ⟨x1, (xc : Int), (xr : Int)⟩)).t.length, Doc m (stepP ends s (i, ⟨x1, (xc : Int), (xr : Int)⟩)) := fun h => ⟨HDOC.out.ok.step _ h, fun y hy => by
                      rw [hsps] at hy
                      rcases List.mem_append.1 hy with hy | hy
                      · exact HDOC.out.few y hy
                      · obtain rfl : y = _ := by simpa using hy
                        exact ⟨by dsimp only; omega, by dsimp only; omega, by dsimp only; omega, by dsimp only; omega⟩⟩
                    have hfr2 : (stepP ends s (i, ⟨x1, (xc : Int), (xr : Int)⟩)).last.r ≤ i ∧ fromP (stepP ends s (i, ⟨x1, (xc : Int), (xr : Int)⟩)) i = cc + wd := by
                      unfold fromP
                      rw [hslast]
                      exact ⟨Nat.le_refl _, by rw [if_pos rfl]⟩
                    have hrun2 := runP_snoc ends pre (i, ⟨x1, (xc : Int), (xr : Int)⟩) LS.zero s HRUN.out
                    obtain ⟨s2, hs2⟩ : ∃ s2, stepP ends s (i, ⟨x1, (xc : Int), (xr : Int)⟩) = s2 := ⟨_, rfl⟩
                    rw [hs2] at hstl hsps hmir2 hdoc2 hfr2 hrun2
                    obtain ⟨tl2, htl2⟩ : ∃ tl2, s2.t.length = tl2 := ⟨_, rfl⟩
                    have HTL2 := Lib.hid htl2
                    rw [htl2] at hstl hdoc2 hrun2
                    have HO := Lib.hid HX4.out.1
                    have hop : w4.ownsRow w.heap.size 52 5 (.slice pp pn pc) pn (s.ps.flatMap Pl.cells) := by have := HO.out; unfold OwnP at this; rw [HPL.out] at this; exact this
                    have HOP := Lib.hid hop
                    have HPUT : Hid (∀ (w9 : World) (v9 : Value), w9.ownsRow w.heap.size 52 5 v9 (pn + 1) (s.ps.flatMap Pl.cells ++ [.int .i64 x1, .int .i64 (i : Int), .int .i64 (cc : Int), .int .i64 (hh : Int), .int .i64 (wd : Int)]) → OwnP w.heap.size w9 v9 s2.ps) := Lib.hid fun w9 v9 h => by
                      unfold OwnP; rw [hsps, flat_snoc, List.length_append, HPL.out]; exact h
                    have HMIR2 := Lib.hid hmir2
                    have HFR2 := Lib.hid hfr2
                    have hmax : max (tl : Int) ((cc : Int) + (wd : Int)) = (tl2 : Int) := by omega
                    have hzw5 := HX4.out.2.1.size
                    have HB5 := Lib.hid HX4.out.2.1
                    have hnone : 10000 < tl2 → layP rows ends = none := fun h => by
                      unfold layP
                      rw [HE3.out, List.cons_append, List.append_cons]
                      refine runP_more _ _ _ _ ?_
                      rw [hrun2, if_pos h]
                    have hrun3 : ¬ 10000 < tl2 → runP ends (pre ++ [(i, (⟨x1, (xc : Int), (xr : Int)⟩ : Sp))]) LS.zero = some s2 := fun h => by rw [hrun2, if_neg h]
                    have HEQ4 : Hid (cellsF 0 rows = (pre ++ [(i, (⟨x1, (xc : Int), (xr : Int)⟩ : Sp))]) ++ ((row.drop (k + 1)).map (fun x => (i, x)) ++ cellsF (i + 1) (rows.drop (i + 1)))) := Lib.hid (by rw [HE3.out]; simp)
                    clear hplace hslast hmir2 hfr2 hs2 htl2 hsps hop HMIR HFR HRUN hrun2 HE3 HDOC HX4 HO HCE HEND HWD HCC
                    have hv3 : (xr = 0 ∨ (xr ≠ 0 ∧ en - i < xr)) ∧ (en : Int) - (i : Int) = (hh : Int) ∨ (xr ≠ 0 ∧ xr ≤ en - i) ∧ (xr : Int) = (hh : Int) := by
                      rw [hhl] at hhh
                      by_cases h0 : xr = 0
                      · rw [if_pos h0] at hhh; exact .inl ⟨.inl h0, by omega⟩
                      · rw [if_neg h0] at hhh
                        by_cases h1 : en - i < xr
                        · exact .inl ⟨.inr ⟨h0, h1⟩, by omega⟩
                        · exact .inr ⟨⟨h0, by omega⟩, by omega⟩
                    clear hhl hhh
                    by_cases hbig : 10000 < tl2
                    · have HNONE := Lib.hid (hnone hbig)
                      clear hnone hrun3 hdoc2 HMIR2 HFR2 HEQ4
                      rcases hv3 with ⟨h0 | ⟨h0, h1⟩, hh3⟩ | ⟨⟨h0, h1⟩, hh3⟩
                      · subst h0
                        have HH3 := Lib.hid hh3
                        clear hh3
                        go_wp2_with (at_builtin; refine wpList_append_own_at _ rfl _ _ 26 rfl w.heap.size 52 i1 (.agg #[.int .i64 0, .int .i64 0, .int .i64 0, .int .i64 0, .int .i64 0]) 5 40 Try.underlying26 hi1 HZ1.out HZ2.out HZ3.out rfl (by decide) (.slice pp pn pc) pn (s.ps.flatMap Pl.cells) rfl (HOP.out.alloc _) ⟨w4.heap.size, 0, none⟩ 1 1 [.int .i64 x1, .int .i64 (i : Int), .int .i64 (cc : Int), .int .i64 ((en : Int) - (i : Int)), .int .i64 (wd : Int)] rfl rfl (lay_newG _ [.int .i64 x1, .int .i64 (i : Int), .int .i64 (cc : Int), .int .i64 ((en : Int) - (i : Int)), .int .i64 (wd : Int)] 52 w4.heap.size rfl) (by simp [Value.oneCell']) (by unfold maxLen; omega) (by omega) (by simp; omega) ?_; intro v9 w9 hown9 hgrow9 _ _; have HO9 : Hid (OwnP w.heap.size w9 v9 s2.ps) := Lib.hid (HPUT.out w9 v9 (by rw [HH3.out] at hown9; exact hown9)); have HB9 : Hid (Below w.heap.size w w9) := Lib.hid ((HB5.out.alloc hzw5 _).grown hgrow9 (by simp; omega) (fun g e => (HOP.out.lt g e).1)); clear hown9 hgrow9 HPUT HOP HB5)
                        refine bodyPost_ret (v := .tuple #[.slice none 0 0, .int .i64 0, .int .i64 43]) (by simp [results, Try.results13, go_sem]) rfl ⟨HB9.out, .inr (.inl ⟨HQ.out, HNONE.out, rfl⟩)⟩
                      · have g0 : ((xr : Int) == 0) = false := by simp; omega
                        have g1 : decide ((xr : Int) > (en : Int) - (i : Int)) = true := by simp; omega
                        have HH3 := Lib.hid hh3
                        clear hh3
                        go_wp2_with (at_builtin; refine wpList_append_own_at _ rfl _ _ 26 rfl w.heap.size 52 i1 (.agg #[.int .i64 0, .int .i64 0, .int .i64 0, .int .i64 0, .int .i64 0]) 5 40 Try.underlying26 hi1 HZ1.out HZ2.out HZ3.out rfl (by decide) (.slice pp pn pc) pn (s.ps.flatMap Pl.cells) rfl (HOP.out.alloc _) ⟨w4.heap.size, 0, none⟩ 1 1 [.int .i64 x1, .int .i64 (i : Int), .int .i64 (cc : Int), .int .i64 ((en : Int) - (i : Int)), .int .i64 (wd : Int)] rfl rfl (lay_newG _ [.int .i64 x1, .int .i64 (i : Int), .int .i64 (cc : Int), .int .i64 ((en : Int) - (i : Int)), .int .i64 (wd : Int)] 52 w4.heap.size rfl) (by simp [Value.oneCell']) (by unfold maxLen; omega) (by omega) (by simp; omega) ?_; intro v9 w9 hown9 hgrow9 _ _; have HO9 : Hid (OwnP w.heap.size w9 v9 s2.ps) := Lib.hid (HPUT.out w9 v9 (by rw [HH3.out] at hown9; exact hown9)); have HB9 : Hid (Below w.heap.size w w9) := Lib.hid ((HB5.out.alloc hzw5 _).grown hgrow9 (by simp; omega) (fun g e => (HOP.out.lt g e).1)); clear hown9 hgrow9 HPUT HOP HB5)
                        refine bodyPost_ret (v := .tuple #[.slice none 0 0, .int .i64 0, .int .i64 43]) (by simp [results, Try.results13, go_sem]) rfl ⟨HB9.out, .inr (.inl ⟨HQ.out, HNONE.out, rfl⟩)⟩
                      · have g0 : ((xr : Int) == 0) = false := by simp; omega
                        have g1 : decide ((xr : Int) > (en : Int) - (i : Int)) = false := by simp; omega
                        have HH3 := Lib.hid hh3
                        clear hh3
                        go_wp2_with (at_builtin; refine wpList_append_own_at _ rfl _ _ 26 rfl w.heap.size 52 i1 (.agg #[.int .i64 0, .int .i64 0, .int .i64 0, .int .i64 0, .int .i64 0]) 5 40 Try.underlying26 hi1 HZ1.out HZ2.out HZ3.out rfl (by decide) (.slice pp pn pc) pn (s.ps.flatMap Pl.cells) rfl (HOP.out.alloc _) ⟨w4.heap.size, 0, none⟩ 1 1 [.int .i64 x1, .int .i64 (i : Int), .int .i64 (cc : Int), .int .i64 (xr : Int), .int .i64 (wd : Int)] rfl rfl (lay_newG _ [.int .i64 x1, .int .i64 (i : Int), .int .i64 (cc : Int), .int .i64 (xr : Int), .int .i64 (wd : Int)] 52 w4.heap.size rfl) (by simp [Value.oneCell']) (by unfold maxLen; omega) (by omega) (by simp; omega) ?_; intro v9 w9 hown9 hgrow9 _ _; have HO9 : Hid (OwnP w.heap.size w9 v9 s2.ps) := Lib.hid (HPUT.out w9 v9 (by rw [HH3.out] at hown9; exact hown9)); have HB9 : Hid (Below w.heap.size w w9) := Lib.hid ((HB5.out.alloc hzw5 _).grown hgrow9 (by simp; omega) (fun g e => (HOP.out.lt g e).1)); clear hown9 hgrow9 HPUT HOP HB5)
                        refine bodyPost_ret (v := .tuple #[.slice none 0 0, .int .i64 0, .int .i64 43]) (by simp [results, Try.results13, go_sem]) rfl ⟨HB9.out, .inr (.inl ⟨HQ.out, HNONE.out, rfl⟩)⟩
                    · have HRUN3 := Lib.hid (hrun3 hbig)
                      have HDOC2 := Lib.hid (hdoc2 hbig)
                      clear hnone hrun3 hdoc2
                      rcases hv3 with ⟨h0 | ⟨h0, h1⟩, hh3⟩ | ⟨⟨h0, h1⟩, hh3⟩
                      · subst h0
                        have HH3 := Lib.hid hh3
                        clear hh3
                        go_wp2_with (at_builtin; refine wpList_append_own_at _ rfl _ _ 26 rfl w.heap.size 52 i1 (.agg #[.int .i64 0, .int .i64 0, .int .i64 0, .int .i64 0, .int .i64 0]) 5 40 Try.underlying26 hi1 HZ1.out HZ2.out HZ3.out rfl (by decide) (.slice pp pn pc) pn (s.ps.flatMap Pl.cells) rfl (HOP.out.alloc _) ⟨w4.heap.size, 0, none⟩ 1 1 [.int .i64 x1, .int .i64 (i : Int), .int .i64 (cc : Int), .int .i64 ((en : Int) - (i : Int)), .int .i64 (wd : Int)] rfl rfl (lay_newG _ [.int .i64 x1, .int .i64 (i : Int), .int .i64 (cc : Int), .int .i64 ((en : Int) - (i : Int)), .int .i64 (wd : Int)] 52 w4.heap.size rfl) (by simp [Value.oneCell']) (by unfold maxLen; omega) (by omega) (by simp; omega) ?_; intro v9 w9 hown9 hgrow9 _ _; have HO9 : Hid (OwnP w.heap.size w9 v9 s2.ps) := Lib.hid (HPUT.out w9 v9 (by rw [HH3.out] at hown9; exact hown9)); have HB9 : Hid (Below w.heap.size w w9) := Lib.hid ((HB5.out.alloc hzw5 _).grown hgrow9 (by simp; omega) (fun g e => (HOP.out.lt g e).1)); clear hown9 hgrow9 HPUT HOP HB5)
                        go_roundw
                        case rel => exact ⟨k + 1, cc + wd, s2, _, by omega, by go_num, (by rw [HTL2.out]; congr 1; first | omega | (split <;> omega)), by go_num, HEQ4, HRUN3, HDOC2, HMIR2, HFR2, HO9, HB9⟩
                        case measure => simp [intOf]; omega
                      · have g0 : ((xr : Int) == 0) = false := by simp; omega
                        have g1 : decide ((xr : Int) > (en : Int) - (i : Int)) = true := by simp; omega
                        have HH3 := Lib.hid hh3
                        clear hh3
                        go_wp2_with (at_builtin; refine wpList_append_own_at _ rfl _ _ 26 rfl w.heap.size 52 i1 (.agg #[.int .i64 0, .int .i64 0, .int .i64 0, .int .i64 0, .int .i64 0]) 5 40 Try.underlying26 hi1 HZ1.out HZ2.out HZ3.out rfl (by decide) (.slice pp pn pc) pn (s.ps.flatMap Pl.cells) rfl (HOP.out.alloc _) ⟨w4.heap.size, 0, none⟩ 1 1 [.int .i64 x1, .int .i64 (i : Int), .int .i64 (cc : Int), .int .i64 ((en : Int) - (i : Int)), .int .i64 (wd : Int)] rfl rfl (lay_newG _ [.int .i64 x1, .int .i64 (i : Int), .int .i64 (cc : Int), .int .i64 ((en : Int) - (i : Int)), .int .i64 (wd : Int)] 52 w4.heap.size rfl) (by simp [Value.oneCell']) (by unfold maxLen; omega) (by omega) (by simp; omega) ?_; intro v9 w9 hown9 hgrow9 _ _; have HO9 : Hid (OwnP w.heap.size w9 v9 s2.ps) := Lib.hid (HPUT.out w9 v9 (by rw [HH3.out] at hown9; exact hown9)); have HB9 : Hid (Below w.heap.size w w9) := Lib.hid ((HB5.out.alloc hzw5 _).grown hgrow9 (by simp; omega) (fun g e => (HOP.out.lt g e).1)); clear hown9 hgrow9 HPUT HOP HB5)
                        go_roundw
                        case rel => exact ⟨k + 1, cc + wd, s2, _, by omega, by go_num, (by rw [HTL2.out]; congr 1; first | omega | (split <;> omega)), by go_num, HEQ4, HRUN3, HDOC2, HMIR2, HFR2, HO9, HB9⟩
                        case measure => simp [intOf]; omega
                      · have g0 : ((xr : Int) == 0) = false := by simp; omega
                        have g1 : decide ((xr : Int) > (en : Int) - (i : Int)) = false := by simp; omega
                        have HH3 := Lib.hid hh3
                        clear hh3
                        go_wp2_with (at_builtin; refine wpList_append_own_at _ rfl _ _ 26 rfl w.heap.size 52 i1 (.agg #[.int .i64 0, .int .i64 0, .int .i64 0, .int .i64 0, .int .i64 0]) 5 40 Try.underlying26 hi1 HZ1.out HZ2.out HZ3.out rfl (by decide) (.slice pp pn pc) pn (s.ps.flatMap Pl.cells) rfl (HOP.out.alloc _) ⟨w4.heap.size, 0, none⟩ 1 1 [.int .i64 x1, .int .i64 (i : Int), .int .i64 (cc : Int), .int .i64 (xr : Int), .int .i64 (wd : Int)] rfl rfl (lay_newG _ [.int .i64 x1, .int .i64 (i : Int), .int .i64 (cc : Int), .int .i64 (xr : Int), .int .i64 (wd : Int)] 52 w4.heap.size rfl) (by simp [Value.oneCell']) (by unfold maxLen; omega) (by omega) (by simp; omega) ?_; intro v9 w9 hown9 hgrow9 _ _; have HO9 : Hid (OwnP w.heap.size w9 v9 s2.ps) := Lib.hid (HPUT.out w9 v9 (by rw [HH3.out] at hown9; exact hown9)); have HB9 : Hid (Below w.heap.size w w9) := Lib.hid ((HB5.out.alloc hzw5 _).grown hgrow9 (by simp; omega) (fun g e => (HOP.out.lt g e).1)); clear hown9 hgrow9 HPUT HOP HB5)
                        go_roundw
                        case rel => exact ⟨k + 1, cc + wd, s2, _, by omega, by go_num, (by rw [HTL2.out]; congr 1; first | omega | (split <;> omega)), by go_num, HEQ4, HRUN3, HDOC2, HMIR2, HFR2, HO9, HB9⟩
                        case measure => simp [intOf]; omega
                · obtain rfl : wd = xc := by omega
                  have HWD : Hid (wideF s.t i cc wd = wd) := Lib.hid (wideF_eq (Nat.le_refl _) HFW.out (.inl rfl))
                  have dw : decide ((wd : Int) < (wd : Int)) = false := by simp
                  have z2 : wr.cell? ⟨CB, 2, none⟩ = some (.int .i64 (xr : Int)) := HX.out.2.2.cellAt 2
                  clear HFW hTKf
                  have hhl : highF (xr : Int) (en - i) = (if xr = 0 then en - i else min xr (en - i)) := by unfold highF; simp
                  have ce2 := (HX.out.2.1.cell (p := ⟨eb, eo + i, none⟩) leb).trans HCE.out
                  have lb5 : eb < wr.heap.size := by have := HX.out.2.1.size; omega
                  have z0 : wr.cell? ⟨CB, 0, none⟩ = some (.int .i64 x1) := HX.out.2.2.cellAt 0
                  obtain ⟨hh, hhh⟩ : ∃ hh, highF (xr : Int) (en - i) = hh := ⟨_, rfl⟩
                  have hplace : placeP ends s (i, ⟨x1, (wd : Int), (xr : Int)⟩) = ⟨x1, i, cc, hh, wd⟩ := by
                    unfold placeP
                    dsimp only
                    rw [HFR.out.2, ← HCC.out, HEND.out, hhh, Int.toNat_natCast, HWD.out]
                  have hh1 : 1 ≤ hh := by rw [← hhh, hhl]; split <;> omega
                  have hh2 : hh ≤ 65536 := by rw [← hhh, hhl]; split <;> omega
                  have hstl := most_step (ends := ends) HDOC.out.ok (i, ⟨x1, (wd : Int), (xr : Int)⟩)
                  rw [hplace, HTL.out] at hstl
                  dsimp only at hstl
                  have hsps : (stepP ends s (i, ⟨x1, (wd : Int), (xr : Int)⟩)).ps = s.ps ++ [⟨x1, i, cc, hh, wd⟩] := by unfold stepP; rw [hplace]
                  have hslast : (stepP ends s (i, ⟨x1, (wd : Int), (xr : Int)⟩)).last = ⟨x1, i, cc, hh, wd⟩ := by unfold stepP; rw [hplace]
                  have hmir2 := HMIR.out.step (ends := ends) (x := ⟨x1, (wd : Int), (xr : Int)⟩) HDOC.out.ok (by rw [hplace]; exact hh1)
                  have hdoc2 : ∀ h : ¬ 10000 < (stepP ends s (i, ⟨x1, (wd : Int), (xr : Int)⟩)).t.length, Doc m (stepP ends s (i, ⟨x1, (wd : Int), (xr : Int)⟩)) := fun h => ⟨HDOC.out.ok.step _ h, fun y hy => by
                    rw [hsps] at hy
                    rcases List.mem_append.1 hy with hy | hy
                    · exact HDOC.out.few y hy
                    · obtain rfl : y = _ := by simpa using hy
                      exact ⟨by dsimp only; omega, by dsimp only; omega, by dsimp only; omega, by dsimp only; omega⟩⟩
                  have hfr2 : (stepP ends s (i, ⟨x1, (wd : Int), (xr : Int)⟩)).last.r ≤ i ∧ fromP (stepP ends s (i, ⟨x1, (wd : Int), (xr : Int)⟩)) i = cc + wd := by
                    unfold fromP
                    rw [hslast]
                    exact ⟨Nat.le_refl _, by rw [if_pos rfl]⟩
                  have hrun2 := runP_snoc ends pre (i, ⟨x1, (wd : Int), (xr : Int)⟩) LS.zero s HRUN.out
                  obtain ⟨s2, hs2⟩ : ∃ s2, stepP ends s (i, ⟨x1, (wd : Int), (xr : Int)⟩) = s2 := ⟨_, rfl⟩
                  rw [hs2] at hstl hsps hmir2 hdoc2 hfr2 hrun2
                  obtain ⟨tl2, htl2⟩ : ∃ tl2, s2.t.length = tl2 := ⟨_, rfl⟩
                  have HTL2 := Lib.hid htl2
                  rw [htl2] at hstl hdoc2 hrun2
                  have HO := Lib.hid HX.out.1
                  have hop : wr.ownsRow w.heap.size 52 5 (.slice pp pn pc) pn (s.ps.flatMap Pl.cells) := by have := HO.out; unfold OwnP at this; rw [HPL.out] at this; exact this
                  have HOP := Lib.hid hop
                  have HPUT : Hid (∀ (w9 : World) (v9 : Value), w9.ownsRow w.heap.size 52 5 v9 (pn + 1) (s.ps.flatMap Pl.cells ++ [.int .i64 x1, .int .i64 (i : Int), .int .i64 (cc : Int), .int .i64 (hh : Int), .int .i64 (wd : Int)]) → OwnP w.heap.size w9 v9 s2.ps) := Lib.hid fun w9 v9 h => by
                    unfold OwnP; rw [hsps, flat_snoc, List.length_append, HPL.out]; exact h
                  have HMIR2 := Lib.hid hmir2
                  have HFR2 := Lib.hid hfr2
                  have hmax : max (tl : Int) ((cc : Int) + (wd : Int)) = (tl2 : Int) := by omega
                  have hzw5 := HX.out.2.1.size
                  have HB5 := Lib.hid HX.out.2.1
                  have hnone : 10000 < tl2 → layP rows ends = none := fun h => by
                    unfold layP
                    rw [HE3.out, List.cons_append, List.append_cons]
                    refine runP_more _ _ _ _ ?_
                    rw [hrun2, if_pos h]
                  have hrun3 : ¬ 10000 < tl2 → runP ends (pre ++ [(i, (⟨x1, (wd : Int), (xr : Int)⟩ : Sp))]) LS.zero = some s2 := fun h => by rw [hrun2, if_neg h]
                  have HEQ4 : Hid (cellsF 0 rows = (pre ++ [(i, (⟨x1, (wd : Int), (xr : Int)⟩ : Sp))]) ++ ((row.drop (k + 1)).map (fun x => (i, x)) ++ cellsF (i + 1) (rows.drop (i + 1)))) := Lib.hid (by rw [HE3.out]; simp)
                  clear hplace hslast hmir2 hfr2 hs2 htl2 hsps hop HMIR HFR HRUN hrun2 HE3 HDOC HX HO HCE HEND HWD HCC
                  have hv3 : (xr = 0 ∨ (xr ≠ 0 ∧ en - i < xr)) ∧ (en : Int) - (i : Int) = (hh : Int) ∨ (xr ≠ 0 ∧ xr ≤ en - i) ∧ (xr : Int) = (hh : Int) := by
                    rw [hhl] at hhh
                    by_cases h0 : xr = 0
                    · rw [if_pos h0] at hhh; exact .inl ⟨.inl h0, by omega⟩
                    · rw [if_neg h0] at hhh
                      by_cases h1 : en - i < xr
                      · exact .inl ⟨.inr ⟨h0, h1⟩, by omega⟩
                      · exact .inr ⟨⟨h0, by omega⟩, by omega⟩
                  clear hhl hhh
                  by_cases hbig : 10000 < tl2
                  · have HNONE := Lib.hid (hnone hbig)
                    clear hnone hrun3 hdoc2 HMIR2 HFR2 HEQ4
                    rcases hv3 with ⟨h0 | ⟨h0, h1⟩, hh3⟩ | ⟨⟨h0, h1⟩, hh3⟩
                    · subst h0
                      have HH3 := Lib.hid hh3
                      clear hh3
                      go_wp2_with (at_builtin; refine wpList_append_own_at _ rfl _ _ 26 rfl w.heap.size 52 i1 (.agg #[.int .i64 0, .int .i64 0, .int .i64 0, .int .i64 0, .int .i64 0]) 5 40 Try.underlying26 hi1 HZ1.out HZ2.out HZ3.out rfl (by decide) (.slice pp pn pc) pn (s.ps.flatMap Pl.cells) rfl (HOP.out.alloc _) ⟨wr.heap.size, 0, none⟩ 1 1 [.int .i64 x1, .int .i64 (i : Int), .int .i64 (cc : Int), .int .i64 ((en : Int) - (i : Int)), .int .i64 (wd : Int)] rfl rfl (lay_newG _ [.int .i64 x1, .int .i64 (i : Int), .int .i64 (cc : Int), .int .i64 ((en : Int) - (i : Int)), .int .i64 (wd : Int)] 52 wr.heap.size rfl) (by simp [Value.oneCell']) (by unfold maxLen; omega) (by omega) (by simp; omega) ?_; intro v9 w9 hown9 hgrow9 _ _; have HO9 : Hid (OwnP w.heap.size w9 v9 s2.ps) := Lib.hid (HPUT.out w9 v9 (by rw [HH3.out] at hown9; exact hown9)); have HB9 : Hid (Below w.heap.size w w9) := Lib.hid ((HB5.out.alloc hzw5 _).grown hgrow9 (by simp; omega) (fun g e => (HOP.out.lt g e).1)); clear hown9 hgrow9 HPUT HOP HB5)
                      refine bodyPost_ret (v := .tuple #[.slice none 0 0, .int .i64 0, .int .i64 43]) (by simp [results, Try.results13, go_sem]) rfl ⟨HB9.out, .inr (.inl ⟨HQ.out, HNONE.out, rfl⟩)⟩
                    · have g0 : ((xr : Int) == 0) = false := by simp; omega
                      have g1 : decide ((xr : Int) > (en : Int) - (i : Int)) = true := by simp; omega
                      have HH3 := Lib.hid hh3
                      clear hh3
                      go_wp2_with (at_builtin; refine wpList_append_own_at _ rfl _ _ 26 rfl w.heap.size 52 i1 (.agg #[.int .i64 0, .int .i64 0, .int .i64 0, .int .i64 0, .int .i64 0]) 5 40 Try.underlying26 hi1 HZ1.out HZ2.out HZ3.out rfl (by decide) (.slice pp pn pc) pn (s.ps.flatMap Pl.cells) rfl (HOP.out.alloc _) ⟨wr.heap.size, 0, none⟩ 1 1 [.int .i64 x1, .int .i64 (i : Int), .int .i64 (cc : Int), .int .i64 ((en : Int) - (i : Int)), .int .i64 (wd : Int)] rfl rfl (lay_newG _ [.int .i64 x1, .int .i64 (i : Int), .int .i64 (cc : Int), .int .i64 ((en : Int) - (i : Int)), .int .i64 (wd : Int)] 52 wr.heap.size rfl) (by simp [Value.oneCell']) (by unfold maxLen; omega) (by omega) (by simp; omega) ?_; intro v9 w9 hown9 hgrow9 _ _; have HO9 : Hid (OwnP w.heap.size w9 v9 s2.ps) := Lib.hid (HPUT.out w9 v9 (by rw [HH3.out] at hown9; exact hown9)); have HB9 : Hid (Below w.heap.size w w9) := Lib.hid ((HB5.out.alloc hzw5 _).grown hgrow9 (by simp; omega) (fun g e => (HOP.out.lt g e).1)); clear hown9 hgrow9 HPUT HOP HB5)
                      refine bodyPost_ret (v := .tuple #[.slice none 0 0, .int .i64 0, .int .i64 43]) (by simp [results, Try.results13, go_sem]) rfl ⟨HB9.out, .inr (.inl ⟨HQ.out, HNONE.out, rfl⟩)⟩
                    · have g0 : ((xr : Int) == 0) = false := by simp; omega
                      have g1 : decide ((xr : Int) > (en : Int) - (i : Int)) = false := by simp; omega
                      have HH3 := Lib.hid hh3
                      clear hh3
                      go_wp2_with (at_builtin; refine wpList_append_own_at _ rfl _ _ 26 rfl w.heap.size 52 i1 (.agg #[.int .i64 0, .int .i64 0, .int .i64 0, .int .i64 0, .int .i64 0]) 5 40 Try.underlying26 hi1 HZ1.out HZ2.out HZ3.out rfl (by decide) (.slice pp pn pc) pn (s.ps.flatMap Pl.cells) rfl (HOP.out.alloc _) ⟨wr.heap.size, 0, none⟩ 1 1 [.int .i64 x1, .int .i64 (i : Int), .int .i64 (cc : Int), .int .i64 (xr : Int), .int .i64 (wd : Int)] rfl rfl (lay_newG _ [.int .i64 x1, .int .i64 (i : Int), .int .i64 (cc : Int), .int .i64 (xr : Int), .int .i64 (wd : Int)] 52 wr.heap.size rfl) (by simp [Value.oneCell']) (by unfold maxLen; omega) (by omega) (by simp; omega) ?_; intro v9 w9 hown9 hgrow9 _ _; have HO9 : Hid (OwnP w.heap.size w9 v9 s2.ps) := Lib.hid (HPUT.out w9 v9 (by rw [HH3.out] at hown9; exact hown9)); have HB9 : Hid (Below w.heap.size w w9) := Lib.hid ((HB5.out.alloc hzw5 _).grown hgrow9 (by simp; omega) (fun g e => (HOP.out.lt g e).1)); clear hown9 hgrow9 HPUT HOP HB5)
                      refine bodyPost_ret (v := .tuple #[.slice none 0 0, .int .i64 0, .int .i64 43]) (by simp [results, Try.results13, go_sem]) rfl ⟨HB9.out, .inr (.inl ⟨HQ.out, HNONE.out, rfl⟩)⟩
                  · have HRUN3 := Lib.hid (hrun3 hbig)
                    have HDOC2 := Lib.hid (hdoc2 hbig)
                    clear hnone hrun3 hdoc2
                    rcases hv3 with ⟨h0 | ⟨h0, h1⟩, hh3⟩ | ⟨⟨h0, h1⟩, hh3⟩
                    · subst h0
                      have HH3 := Lib.hid hh3
                      clear hh3
                      go_wp2_with (at_builtin; refine wpList_append_own_at _ rfl _ _ 26 rfl w.heap.size 52 i1 (.agg #[.int .i64 0, .int .i64 0, .int .i64 0, .int .i64 0, .int .i64 0]) 5 40 Try.underlying26 hi1 HZ1.out HZ2.out HZ3.out rfl (by decide) (.slice pp pn pc) pn (s.ps.flatMap Pl.cells) rfl (HOP.out.alloc _) ⟨wr.heap.size, 0, none⟩ 1 1 [.int .i64 x1, .int .i64 (i : Int), .int .i64 (cc : Int), .int .i64 ((en : Int) - (i : Int)), .int .i64 (wd : Int)] rfl rfl (lay_newG _ [.int .i64 x1, .int .i64 (i : Int), .int .i64 (cc : Int), .int .i64 ((en : Int) - (i : Int)), .int .i64 (wd : Int)] 52 wr.heap.size rfl) (by simp [Value.oneCell']) (by unfold maxLen; omega) (by omega) (by simp; omega) ?_; intro v9 w9 hown9 hgrow9 _ _; have HO9 : Hid (OwnP w.heap.size w9 v9 s2.ps) := Lib.hid (HPUT.out w9 v9 (by rw [HH3.out] at hown9; exact hown9)); have HB9 : Hid (Below w.heap.size w w9) := Lib.hid ((HB5.out.alloc hzw5 _).grown hgrow9 (by simp; omega) (fun g e => (HOP.out.lt g e).1)); clear hown9 hgrow9 HPUT HOP HB5)
                      go_roundw
                      case rel => exact ⟨k + 1, cc + wd, s2, _, by omega, by go_num, (by rw [HTL2.out]; congr 1; first | omega | (split <;> omega)), by go_num, HEQ4, HRUN3, HDOC2, HMIR2, HFR2, HO9, HB9⟩
                      case measure => simp [intOf]; omega
                    · have g0 : ((xr : Int) == 0) = false := by simp; omega
                      have g1 : decide ((xr : Int) > (en : Int) - (i : Int)) = true := by simp; omega
                      have HH3 := Lib.hid hh3
                      clear hh3
                      go_wp2_with (at_builtin; refine wpList_append_own_at _ rfl _ _ 26 rfl w.heap.size 52 i1 (.agg #[.int .i64 0, .int .i64 0, .int .i64 0, .int .i64 0, .int .i64 0]) 5 40 Try.underlying26 hi1 HZ1.out HZ2.out HZ3.out rfl (by decide) (.slice pp pn pc) pn (s.ps.flatMap Pl.cells) rfl (HOP.out.alloc _) ⟨wr.heap.size, 0, none⟩ 1 1 [.int .i64 x1, .int .i64 (i : Int), .int .i64 (cc : Int), .int .i64 ((en : Int) - (i : Int)), .int .i64 (wd : Int)] rfl rfl (lay_newG _ [.int .i64 x1, .int .i64 (i : Int), .int .i64 (cc : Int), .int .i64 ((en : Int) - (i : Int)), .int .i64 (wd : Int)] 52 wr.heap.size rfl) (by simp [Value.oneCell']) (by unfold maxLen; omega) (by omega) (by simp; omega) ?_; intro v9 w9 hown9 hgrow9 _ _; have HO9 : Hid (OwnP w.heap.size w9 v9 s2.ps) := Lib.hid (HPUT.out w9 v9 (by rw [HH3.out] at hown9; exact hown9)); have HB9 : Hid (Below w.heap.size w w9) := Lib.hid ((HB5.out.alloc hzw5 _).grown hgrow9 (by simp; omega) (fun g e => (HOP.out.lt g e).1)); clear hown9 hgrow9 HPUT HOP HB5)
                      go_roundw
                      case rel => exact ⟨k + 1, cc + wd, s2, _, by omega, by go_num, (by rw [HTL2.out]; congr 1; first | omega | (split <;> omega)), by go_num, HEQ4, HRUN3, HDOC2, HMIR2, HFR2, HO9, HB9⟩
                      case measure => simp [intOf]; omega
                    · have g0 : ((xr : Int) == 0) = false := by simp; omega
                      have g1 : decide ((xr : Int) > (en : Int) - (i : Int)) = false := by simp; omega
                      have HH3 := Lib.hid hh3
                      clear hh3
                      go_wp2_with (at_builtin; refine wpList_append_own_at _ rfl _ _ 26 rfl w.heap.size 52 i1 (.agg #[.int .i64 0, .int .i64 0, .int .i64 0, .int .i64 0, .int .i64 0]) 5 40 Try.underlying26 hi1 HZ1.out HZ2.out HZ3.out rfl (by decide) (.slice pp pn pc) pn (s.ps.flatMap Pl.cells) rfl (HOP.out.alloc _) ⟨wr.heap.size, 0, none⟩ 1 1 [.int .i64 x1, .int .i64 (i : Int), .int .i64 (cc : Int), .int .i64 (xr : Int), .int .i64 (wd : Int)] rfl rfl (lay_newG _ [.int .i64 x1, .int .i64 (i : Int), .int .i64 (cc : Int), .int .i64 (xr : Int), .int .i64 (wd : Int)] 52 wr.heap.size rfl) (by simp [Value.oneCell']) (by unfold maxLen; omega) (by omega) (by simp; omega) ?_; intro v9 w9 hown9 hgrow9 _ _; have HO9 : Hid (OwnP w.heap.size w9 v9 s2.ps) := Lib.hid (HPUT.out w9 v9 (by rw [HH3.out] at hown9; exact hown9)); have HB9 : Hid (Below w.heap.size w w9) := Lib.hid ((HB5.out.alloc hzw5 _).grown hgrow9 (by simp; omega) (fun g e => (HOP.out.lt g e).1)); clear hown9 hgrow9 HPUT HOP HB5)
                      go_roundw
                      case rel => exact ⟨k + 1, cc + wd, s2, _, by omega, by go_num, (by rw [HTL2.out]; congr 1; first | omega | (split <;> omega)), by go_num, HEQ4, HRUN3, HDOC2, HMIR2, HFR2, HO9, HB9⟩
                      case measure => simp [intOf]; omega
            · have hf : freeB s.t i cc = false := (firstF_spec _ _ _).2.1 cc hc1 (by omega)
              rw [hf] at hTK
              have HTK := Lib.hid hTK
              clear hTK hf
              go_wp2_with (go_at_call 30; refine HTK.out.mono ?_; clear HTK; rintro e w3 ⟨rfl, hb3⟩; have HX3 : Hid (OwnP w.heap.size w3 (.slice pp pn pc) s.ps ∧ Below w.heap.size w w3 ∧ Whole w3 CB 54 [.int .i64 x1, .int .i64 (xc : Int), .int .i64 (xr : Int)]) := Lib.hid ⟨World.ownsRow.kept HX.out.1 (grown_of_below' hb3) (by cases hq : (Value.slice pp pn pc).ownBlock <;> simp), HX.out.2.1.trans (hb3.mono hzw), HX.out.2.2.below hb3 HX.out.2.2.lt⟩; clear hb3 HX)
              go_roundw
              case rel => exact ⟨cc + 1, by omega, by omega, by go_num, HX3⟩
              case measure => simp [intOf]; omega
        · have HEQ3 : Hid (cellsF 0 rows = pre ++ cellsF (i + 1) (rows.drop (i + 1))) := Lib.hid (by have := HEQ.out; rw [List.drop_of_length_le (by rw [HKL.out]; omega)] at this; simpa using this)
          have HMIR2 := Lib.hid (HMIR.out.mono (Nat.le_succ i))
          have HFR2 : Hid (s.last.r ≤ i + 1 ∧ fromP s (i + 1) = 0) := Lib.hid ⟨by have := HFR.out.1; omega, from_next HFR.out.1⟩
          have dk : decide ((k : Int) < (kl : Int)) = false := by simp; omega
          clear HEQ HMIR HFR
          go_wp2
          go_roundw
          case rel => exact ⟨i + 1, s, pre, by omega, by go_num, by rw [HTL.out], HEQ3, HRUN, HDOC, HMIR2, HFR2, HO, HB⟩
          case measure => simp [intOf]; omega
    · have HEQ3 : Hid (layP rows ends = some s) := Lib.hid (by
        have h1 := HEQ.out
        rw [cellsF_end rows i (by rw [HL.out]; omega), List.append_nil] at h1
        unfold layP; rw [h1]; exact HRUN.out)
      obtain ⟨tl, htlen⟩ : ∃ tl, s.t.length = tl := ⟨_, rfl⟩
      have HTL := Lib.hid htlen
      rw [htlen]
      clear htlen htl HEQ
      go_wp2
      refine bodyPost_ret (v := .tuple #[u8, .int .i64 (tl : Int), .int .i64 0]) (by simp [results, Try.results13, go_sem]) rfl ⟨HB.out, .inr (.inr ⟨HQ.out, s, u8, HEQ3.out, by rw [HTL.out], HO.out⟩)⟩
theorem refLay_any (v ev : Value) (hv : Nat → Value) (rows : List (List Sp)) (ends : List Int) (w : World) (hR : RowsIn w.heap.size w v hv rows) (hE : Ints w ev ends) (hn : (cellsF 0 rows).length ≤ 1000000) :
    Calls Try.prog 13 #[v, ev] w (LayPost rows ends w) := by
  have H := refRight_any v ev hv rows ends w hR hE
  obtain ⟨p, c, rfl⟩ := hR.form
  obtain ⟨q, c', rfl⟩ : ∃ q c', ev = .slice q ends.length c' := by
    obtain ⟨_, ⟨a, c', rfl, rfl⟩ | ⟨b, off, c', rfl, _⟩⟩ := hE
    · exact ⟨_, _, rfl⟩
    · exact ⟨_, _, rfl⟩
  by_cases hq : RightQ rows ends
  · have H2 := Lib.hid (H.mono (R' := fun e W' => e = .returned (.bool true) ∧ Below w.heap.size w W') (by rintro e W' ⟨b, rfl, hb, hbw⟩; exact ⟨by rw [hb.2 hq], hbw⟩))
    have hm := hq.len
    rw [hm] at hE H2 ⊢
    exact refLay_main p q rows.length c c' hv rows ends w hq rfl hR hE hn H2
  · have H2 := Lib.hid (H.mono (R' := fun e W' => e = .returned (.bool false) ∧ Below w.heap.size w W') (by
      rintro e W' ⟨b, rfl, hb, hbw⟩
      cases b with
      | true => exact absurd (hb.1 rfl) hq
      | false => exact ⟨rfl, hbw⟩))
    refine (refLay_bad p q rows.length c ends.length c' w H2).mono ?_
    rintro e W' ⟨rfl, hb⟩
    exact ⟨hb, .inl ⟨hq, rfl⟩⟩
end Go.Proofs.Ytihpaicbdfgfbaa
