/- Contract of heights.Stretch. -/
import Derived.Test.YtpbkboandiigfaaHStP
namespace Go.Proofs.Ytpbkboandiigfaa
open Go.RowKit Go.Shelf Go.Sort Go.Lib Go.Maps
set_option linter.unusedVariables false
set_option linter.unusedSimpArgs false
attribute [local go_sem] Oper.semAt_some

/-- what heights.Stretch answers -/
def StrPost (rows ws : List Int) (total : Int) (W : World) (e : Ending) (X : World) : Prop :=
  Below W.heap.size W X ∧ ((StrOk rows ws total ∧ ∃ G c, e = .returned (.tuple #[.slice (some ⟨G, 0, none⟩) rows.length c, .int .i64 0]) ∧ Nums .i64 X (.slice (some ⟨G, 0, none⟩) rows.length c) (stretchP rows ws total) ∧ W.heap.size ≤ G) ∨
    (¬ StrOk rows ws total ∧ e = .returned (.tuple #[.slice none 0 0, .int .i64 160])))
theorem iarg_nums {W : World} {p : Option Addr} {m c : Nat} {zs : List Int} (h : IArg W p m c zs) : Nums .i64 W (.slice p m c) zs := by
  have hl := h.len
  have h1 := h.mc
  have h2 := h.cm
  refine ⟨by omega, ?_⟩
  rcases h.ints.2 with ⟨a, c', e, he⟩ | ⟨b, off, c', e, hc⟩
  · injection e with e1 e2 e3
    subst e3
    exact .inl ⟨a, c, by rw [e1, e2], h2, he⟩
  · injection e with e1 e2 e3
    subst e3
    exact .inr ⟨b, off, c, by rw [e1, ← e2], by omega, h2, hc⟩
theorem rightH_wants {ws : List Int} (h : rightH ws [] [] 0 = true) : ∀ z ∈ ws, -1 ≤ z ∧ z ≤ 1073741824 := fun z hz => by
  have h4 := (rightH_iff h).2.2.2.1 (if z = -1 then 0 else z) (List.mem_map.2 ⟨z, hz, rfl⟩)
  split at h4 <;> omega
theorem rightH_wants' {ws : List Int} (hl : ws.length ≤ 10000) (h : ∀ z ∈ ws, -1 ≤ z ∧ z ≤ 1073741824) : rightH ws [] [] 0 = true := by
  unfold rightH okB
  have h1 : (reqP ws).any (outB 0 1073741824) = false := by
    rw [List.any_eq_false]
    intro x hx
    obtain ⟨z, hz, rfl⟩ := List.mem_map.1 hx
    have := h z hz
    rw [outB_in (by split <;> omega) (by split <;> omega)]
    simp
  have h2 : ([0] : List Int).any (outB 0 1073741824) = false := by decide
  rw [h1, h2, reqP_len, decide_eq_true hl]
  rfl
set_option maxRecDepth 100000 in
set_option maxHeartbeats 8000000 in
theorem stretch_any (p q : Option Addr) (n c m c' : Nat) (rows ws : List Int) (total : Int) (W : World) (hr : IArg W p n c rows) (hw : IArg W q m c' ws) (hn : n ≤ 1000000) (hm : m ≤ 1000000) :
    Calls Try.prog 17 #[.slice p n c, .slice q m c', .int .i64 total] W (StrPost rows ws total W) := by
  have hnl := hr.len
  have hml := hw.len
  by_cases h1 : n < 1
  · have HB : Hid (¬ StrOk rows ws total) := Lib.hid (fun h => by have := h.r1; omega)
    have HPO : Hid (∀ X, X = W → StrPost rows ws total W (.returned (.tuple #[.slice none 0 0, .int .i64 160])) X) := Lib.hid (fun X e => by rw [e]; exact ⟨Below.refl _ _, .inr ⟨HB.out, rfl⟩⟩)
    generalize StrPost rows ws total W = PO at HPO ⊢
    clear hr hw
    go_enter Try.func17, Try.ntmps17
    go_wp2
    exact HPO.out _ rfl
  by_cases h2 : m = n
  · subst h2
    have HR := Lib.hid (fun X hX => hright_any q none none m c' 0 0 0 0 ws [] [] 0 X (hw.below hX) hm RowsK.none rfl ⟨by simp, .inl ⟨none, 0, rfl, rfl⟩⟩ rfl (by intro z hz; simp [htZ] at hz))
    have HW := Lib.hid (fun X (hX : Below W.heap.size W X) => within_anyH 0 1125899906842623 (.slice p m c) rows X (hr.ints.below hX))
    have HT := Lib.hid (fun sv X hI => within_anyH 0 576460752303423488 sv [total] X hI)
    cases hb : rightH ws [] [] 0 with
    | false =>
      rw [hb] at HR
      have HB : Hid (¬ StrOk rows ws total) := Lib.hid (fun h => by rw [rightH_wants' (by have := h.r2; have := h.wl; omega) h.wk] at hb; cases hb)
      have HPO : Hid (∀ X, Below W.heap.size W X → StrPost rows ws total W (.returned (.tuple #[.slice none 0 0, .int .i64 160])) X) := Lib.hid (fun X e => ⟨e, .inr ⟨HB.out, rfl⟩⟩)
      generalize StrPost rows ws total W = PO at HPO ⊢
      have HR0 := Lib.hid (HR.out W (Below.refl _ _))
      clear hr hw hb HR HW HT HB
      go_enter Try.func17, Try.ntmps17
      go_wp2_with fail
      refine HR0.out.mono ?_
      rintro e w1 ⟨rfl, b1⟩
      have B1 := Lib.hid b1
      clear b1 HR0
      go_wp2
      exact HPO.out _ B1.out
    | true =>
      rw [hb] at HR
      have HR0 := Lib.hid (HR.out W (Below.refl _ _))
      clear HR
      have hwk := rightH_wants hb
      have hlen := (rightH_iff hb).2.1
      have HWi := any_out rows
      have hto := out_one 576460752303423488 total
      obtain ⟨rb, hrb⟩ : ∃ b, (!(rows.any (outB 0 1125899906842623))) = b := ⟨_, rfl⟩
      rw [hrb] at HW HWi
      rw [hto] at HT
      obtain ⟨tb, htb⟩ : ∃ b, (decide (0 ≤ total) && decide (total ≤ 576460752303423488)) = b := ⟨_, rfl⟩
      rw [htb] at HT
      cases rb with
      | false =>
        have HB : Hid (¬ StrOk rows ws total) := Lib.hid (fun h => by have := HWi.2 h.rk; cases this)
        have HPO : Hid (∀ X, Below W.heap.size W X → StrPost rows ws total W (.returned (.tuple #[.slice none 0 0, .int .i64 160])) X) := Lib.hid (fun X e => ⟨e, .inr ⟨HB.out, rfl⟩⟩)
        generalize StrPost rows ws total W = PO at HPO ⊢
        clear hr hw hb HT HB HWi hto hrb htb hwk hlen
        go_enter Try.func17, Try.ntmps17
        go_wp2_with fail
        refine HR0.out.mono ?_
        rintro e w1 ⟨rfl, b1⟩
        have B1 := Lib.hid b1
        clear b1 HR0
        go_wp2_with fail
        refine (HW.out w1 B1.out).mono ?_
        rintro e w2 ⟨rfl, b2⟩
        have B2 := Lib.hid (B1.out.trans (b2.mono B1.out.size))
        clear b2 HW B1
        go_wp2
        exact HPO.out _ B2.out
      | true =>
        have hrk := HWi.1 rfl
        cases tb with
        | false =>
          have HB : Hid (¬ StrOk rows ws total) := Lib.hid (fun h => by rw [decide_eq_true h.t0, decide_eq_true h.t1] at htb; cases htb)
          have HPO : Hid (∀ X, Below W.heap.size W X → StrPost rows ws total W (.returned (.tuple #[.slice none 0 0, .int .i64 160])) X) := Lib.hid (fun X e => ⟨e, .inr ⟨HB.out, rfl⟩⟩)
          generalize StrPost rows ws total W = PO at HPO ⊢
          clear hr hw hb HB HWi hto hrb htb hwk hlen hrk
          go_enter Try.func17, Try.ntmps17
          go_wp2_with fail
          refine HR0.out.mono ?_
          rintro e w1 ⟨rfl, b1⟩
          have B1 := Lib.hid b1
          clear b1 HR0
          go_wp2_with fail
          refine (HW.out w1 B1.out).mono ?_
          rintro e w2 ⟨rfl, b2⟩
          have B2 := Lib.hid (B1.out.trans (b2.mono B1.out.size))
          clear b2 HW B1
          go_wp2_with fail
          refine (HT.out _ _ (Ints.whole (zs := [total]) (n := 1) (whole_new w2 [.int .i64 total] 2 _ rfl) rfl (by omega))).mono ?_
          rintro e w3 ⟨rfl, b3⟩
          have B3 := Lib.hid ((B2.out.alloc B2.out.size _).trans (b3.mono (by have := B2.out.size; simp; omega)))
          clear b3 HT B2
          go_wp2
          exact HPO.out _ B3.out
        | true =>
          have hts : 0 ≤ total ∧ total ≤ 576460752303423488 := by simpa using htb
          have S : StrOk rows ws total := ⟨by omega, by omega, by omega, hwk, hrk, hts.1, hts.2⟩
          obtain ⟨x, rfl⟩ : ∃ x, p = some x := by
            rcases hr.form with ⟨_, h0, _⟩ | ⟨x, e⟩
            · omega
            · exact ⟨x, e⟩
          have HCL := Lib.hid (fun X (hX : Below W.heap.size W X) => clone_ints x m c rows X (hr.below hX |>.cell x rfl) hnl hn)
          have HST := Lib.hid (fun X (hX : Below W.heap.size W X) => stretchable_any q m c' ws X (hw.below hX) (by omega) (by omega) (fun z hz => (hwk z hz).2))
          have HLF := Lib.hid (fun X (hX : Below W.heap.size W X) => left_any total (some x) m c rows X hts.1 hts.2 (iarg_nums (hr.below hX)) hrk)
          have HAT : Hid (∀ X, Below W.heap.size W X → ∀ j, j < m → ∃ b off, x = ⟨b, off, none⟩ ∧ X.cell? ⟨b, off + j, none⟩ = some (.int .i64 (rows[j]?.getD 0))) := Lib.hid (fun X hX j hj => by
            obtain ⟨_, ⟨a, c', e, he⟩ | ⟨b, off, c', e, hc⟩⟩ := (hr.ints.below hX)
            · rw [he] at hnl; simp at hnl; omega
            · injection e with e1
              injection e1 with e1
              exact ⟨b, off, e1, hc j (by omega)⟩)
          obtain ⟨ch, hch⟩ : ∃ ch, choP ws = ch := ⟨_, rfl⟩
          obtain ⟨K, hK⟩ : ∃ K, ch.length = K := ⟨_, rfl⟩
          have hc1 := S.c1
          have hc2 := S.c2
          have hco := S.ch
          rw [hch, hK] at hc1 hc2
          rw [hch, hnl] at hco
          rw [hnl] at hc2
          have hK2 : K ≤ 10000 := by omega
          have HE0 := S.e0
          have he : max 0 (total - sumZ rows) = strE rows total := rfl
          rw [he] at HLF
          have HSH := Lib.hid (fun X a0 cc (hN : Nums .i64 X (.slice a0 K cc) (wtP rows ch)) => sharedH_any (strE rows total) a0 K cc (wtP rows ch) X (by rw [wtP_len, hK]) hc1 hK2 HE0.1 HE0.2 hN (wtP_ok _ _ hrk))
          have hsd : shrW (strE rows total) (wtP rows ch) = strS rows ws total := by unfold strS; rw [hch]
          rw [hsd] at HSH
          have hsb := S.sb
          have hsl := S.sl
          rw [hch, hK] at hsl
          have HPO : Hid (∀ X G c, Below W.heap.size W X → Nums .i64 X (.slice (some ⟨G, 0, none⟩) m c) (addTo rows ch (strS rows ws total) K) → W.heap.size ≤ G → StrPost rows ws total W (.returned (.tuple #[.slice (some ⟨G, 0, none⟩) m c, .int .i64 0])) X) := Lib.hid (fun X G c h1 h2 h3 => ⟨h1, .inl ⟨S, G, c, by rw [hnl], by rw [hnl]; unfold stretchP; rw [hch, hK]; exact h2, h3⟩⟩)
          generalize StrPost rows ws total W = PO at HPO ⊢
          obtain ⟨sh, hsh⟩ : ∃ sh, strS rows ws total = sh := ⟨_, rfl⟩
          rw [hsh] at HSH hsb hsl HPO
          obtain ⟨ex, hex⟩ : ∃ ex, strE rows total = ex := ⟨_, rfl⟩
          rw [hex] at HSH HLF hsb HE0
          have HSB := Lib.hid hsb
          have HSL := Lib.hid hsl
          have HCO := Lib.hid hco
          have HCK := Lib.hid hK
          have HRK := Lib.hid hrk
          have HNL := Lib.hid hnl
          rw [hch] at HST
          clear hr hw hb HWi hto hrb htb hwk hlen hrk hts S hch hK hco he hsd hsb hsl hsh hex hnl
          go_enter Try.func17, Try.ntmps17
          go_wp2_with fail
          refine HR0.out.mono ?_
          rintro e w1 ⟨rfl, b1⟩
          have B1 := Lib.hid b1
          clear b1 HR0
          go_wp2_with fail
          refine (HW.out w1 B1.out).mono ?_
          rintro e w2 ⟨rfl, b2⟩
          have B2 := Lib.hid (B1.out.trans (b2.mono B1.out.size))
          clear b2 HW B1
          go_wp2_with fail
          refine (HT.out _ _ (Ints.whole (zs := [total]) (n := 1) (whole_new w2 [.int .i64 total] 2 _ rfl) rfl (by omega))).mono ?_
          rintro e w3 ⟨rfl, b3⟩
          have B3 := Lib.hid ((B2.out.alloc B2.out.size _).trans (b3.mono (by have := B2.out.size; simp; omega)))
          clear b3 HT B2
          go_wp2_with fail
          refine (HCL.out w3 B3.out).mono ?_
          rintro e w4 ⟨G, cap, sp, rfl, hi4, hG4, hc41, hc42, b4⟩
          have B4 := Lib.hid (B3.out.trans (b4.mono B3.out.size))
          have I4 := Lib.hid hi4
          have S34 : W.heap.size ≤ w3.heap.size := B3.out.size
          clear HCL hi4 b4 B3
          go_wp2_with fail
          refine (HST.out w4 B4.out).mono ?_
          rintro e w5 ⟨v9, rfl, ho9⟩
          obtain ⟨g9, cap9, rfl, hg9, hl9, hcc9⟩ := ho9.cells (by rw [HCK.out]; exact hc1)
          rw [HCK.out]
          have B5 := Lib.hid (B4.out.trans (ho9.lo.mono B4.out.size))
          have I5 := Lib.hid (I4.out.below ho9.lo I4.out.lt)
          have C9 := Lib.hid hcc9
          have HGL : Hid (W.heap.size ≤ G ∧ G < w4.heap.size ∧ w4.heap.size ≤ g9 ∧ g9 < w5.heap.size) := Lib.hid ⟨by omega, I4.out.lt, hg9, hl9⟩
          clear ho9 HST hcc9 I4 B4 hg9 hl9 hG4
          have OW0 : Hid (OwnN 2 w5.heap.size w5 w5 (wtP rows (ch.take 0)) (.slice none 0 0)) := Lib.hid ⟨Below.refl _ _, World.ownsRow_nil _ _ _ _⟩
          go_wp2
          go_loopw [10, 45] (fun s10 s45 X => ∃ (k : Nat) (v : Value), k ≤ K ∧ s45 = .int .i64 (k : Int) ∧ v = s10 ∧ Hid (OwnN 2 w5.heap.size w5 X (wtP rows (ch.take k)) v)) (fun _ s45 _ => K - (intOf s45).toNat)
          case atStart => exact ⟨0, _, Nat.zero_le _, rfl, rfl, OW0⟩
          case round =>
            clear OW0
            obtain ⟨k, v, hk, rfl, rfl, HO⟩ := hrel
            by_cases hlt : k < K
            · have hrg := HCO.out.rng k (by rw [HCK.out]; exact hlt)
              obtain ⟨ci, hci⟩ : ∃ ci, ch[k]? = some ci := ⟨_, List.getElem?_eq_getElem (by rw [HCK.out]; exact hlt)⟩
              have q9 := (HO.out.lo.cell (p := ⟨g9, k, none⟩) HGL.out.2.2.2).trans (C9.out k ci hci)
              rw [hci, Option.getD_some] at hrg
              obtain ⟨i, rfl⟩ : ∃ i : Nat, ci = (i : Int) := ⟨ci.toNat, by omega⟩
              have him : i < m := by omega
              have HSN := Lib.hid (wtP_snoc rows ch k (i : Int) hci)
              rw [Int.toNat_natCast] at HSN
              obtain ⟨b, off, rfl, hcr⟩ := HAT.out wr (B5.out.trans (HO.out.lo.mono B5.out.size)) i him
              have l9 := cell_lt q9
              have lb := cell_lt hcr
              obtain ⟨pv, pk, pc, hv⟩ := own_slice HO.out.own
              generalize rows[i]?.getD 0 = z at *
              have HBX := Lib.hid (whole_new wr [.int .i64 z] 2 _ rfl)
              have HLL : Hid ((wtP rows (ch.take k)).length ≤ 1000000) := Lib.hid (by rw [wtP_len, List.length_take]; omega)
              obtain ⟨LL, hLL⟩ : ∃ L, wtP rows (ch.take k) = L := ⟨_, rfl⟩
              rw [hLL] at HO HLL HSN
              clear hLL hci hrg HAT HLF HCO HSH C9 I5
              go_wp2_with (first
                | (at_builtin; refine wpList_appN (some 55) rfl rfl _ _ 22 2 rfl Try.underlying22 Try.infoI64N w5.heap.size v LL rfl (HO.out.own.alloc _) wr.heap.size z rfl (HBX.out.cellAt 0) HLL.out (by have := HO.out.lo.size; simp; omega) ?_; intro v' w' h1 h2; refine Hid.out ?_)
                | fail)
              have HN : Hid (OwnN 2 w5.heap.size w5 w' (wtP rows (ch.take (k + 1))) v') := Lib.hid (by rw [HSN.out]; exact HO.out.app (Nat.le_refl _) _ h1 h2)
              clear h1 h2 HO HSN HBX HLL q9 hcr
              refine Lib.hid ?_
              go_wp2
              go_roundw
              case rel => exact ⟨k + 1, _, by omega, by go_num, rfl, HN⟩
              case measure => simp [intOf]; omega
            · obtain rfl : K = k := by omega
              have hta : ch.take K = ch := List.take_of_length_le (by rw [HCK.out]; exact Nat.le_refl _)
              rw [hta] at HO
              obtain ⟨g10, cap10, sp10, rfl, hg10, hc101, hc102, hi10⟩ := HO.out.row (by rw [wtP_len, HCK.out]; exact hc1)
              rw [wtP_len, HCK.out] at hc101
              rw [wtP_len, HCK.out]
              have B6 := Lib.hid (B5.out.trans (HO.out.lo.mono B5.out.size))
              have I6 := Lib.hid (I5.out.below HO.out.lo I5.out.lt)
              have C6 := Lib.hid (fun j z (hz : ch[j]? = some z) => (HO.out.lo.cell (p := ⟨g9, j, none⟩) HGL.out.2.2.2).trans (C9.out j z hz))
              have S56 : w5.heap.size ≤ wr.heap.size := HO.out.lo.size
              have HLF6 := Lib.hid (HLF.out wr B6.out)
              have HSH6 := Lib.hid (HSH.out wr (some ⟨g10, 0, none⟩) cap10 (hi10.all K cap10 (by rw [wtP_len, HCK.out]) hc101 hc102))
              clear hta HO hi10 HLF HSH C9 I5 B5 HAT
              go_wp2_with fail
              refine HLF6.out.mono ?_
              rintro e w' ⟨rfl, rfl⟩
              clear HLF6
              go_wp2_with fail
              refine HSH6.out.mono ?_
              rintro e w7 ⟨g6, cap6, sp6, rfl, hi7, hg6, hc61, hc62, b7⟩
              have B7 := Lib.hid (B6.out.trans (b7.mono B6.out.size))
              have I7 : Hid (IRow w7 G (addTo rows ch sh 0) sp) := Lib.hid (I6.out.below b7 I6.out.lt)
              have C7 := Lib.hid (fun j z (hz : ch[j]? = some z) => (b7.cell (p := ⟨g9, j, none⟩) (by have := HGL.out.2.2.2; show g9 < w'.heap.size; omega)).trans (C6.out j z hz))
              have H7 := Lib.hid hi7
              have HNE : Hid (g6 ∉ [G] ∧ g9 ∉ [G]) := Lib.hid (by have := HGL.out; simp; omega)
              clear HSH6 hi7 b7 I6 C6 B6
              go_wp2
              go_loopw [63] (fun s63 X => ∃ k : Nat, k ≤ K ∧ s63 = .int .i64 (k : Int) ∧ Hid (IRow X G (addTo rows ch sh k) sp) ∧ Hid (Upd [G] w7 X)) (fun s63 _ => K - (intOf s63).toNat)
              case atStart => exact ⟨0, Nat.zero_le _, rfl, I7, Lib.hid (Upd.refl _ _)⟩
              case round =>
                clear I7
                obtain ⟨k, hk, rfl, HI, HU⟩ := hrel
                by_cases hlt : k < K
                · have hrg := HCO.out.rng k (by rw [HCK.out]; exact hlt)
                  obtain ⟨ci, hci⟩ : ∃ ci, ch[k]? = some ci := ⟨_, List.getElem?_eq_getElem (by rw [HCK.out]; exact hlt)⟩
                  have q9 := HU.out.cell (C7.out k ci hci) HNE.out.2
                  have hat := addTo_at (L := rows) (sh := sh) HCO.out k (by rw [HCK.out]; exact hlt)
                  have hdef : addTo rows ch sh (k + 1) = (addTo rows ch sh k).set (ch[k]?.getD 0).toNat ((addTo rows ch sh k)[(ch[k]?.getD 0).toNat]?.getD 0 + sh[k]?.getD 0) := rfl
                  rw [hci, Option.getD_some] at hrg hat hdef
                  obtain ⟨i, rfl⟩ : ∃ i : Nat, ci = (i : Int) := ⟨ci.toNat, by omega⟩
                  rw [Int.toNat_natCast] at hat hdef
                  rw [hat] at hdef
                  have him : i < m := by omega
                  have hal : i < (addTo rows ch sh k).length := by rw [addTo_len, HNL.out]; exact him
                  have qG := HI.out.cell i hal
                  rw [hat] at qG
                  have fG := HI.out.free i
                  have lG := HI.out.lt
                  have q6 := HU.out.cell (H7.out.cell k (by rw [HSL.out]; exact hlt)) HNE.out.1
                  have l9 := cell_lt q9
                  have l6 := cell_lt q6
                  have hz1 := okW_get rows HRK.out i
                  have hz2 : 0 ≤ sh[k]?.getD 0 ∧ sh[k]?.getD 0 ≤ ex := by
                    rw [List.getElem?_eq_getElem (by rw [HSL.out]; exact hlt), Option.getD_some]
                    exact HSB.out _ (List.getElem_mem _)
                  have KN : Hid (IRow (wr.setCell ⟨G, i, none⟩ (.int .i64 (rows[i]?.getD 0 + sh[k]?.getD 0))) G (addTo rows ch sh (k + 1)) sp) := Lib.hid (by rw [hdef]; exact HI.out.set i _ hal)
                  have UN := Lib.hid (HU.out.trans (Upd.set wr G i (.int .i64 (rows[i]?.getD 0 + sh[k]?.getD 0)) (by simp)))
                  generalize rows[i]?.getD 0 = z at *
                  generalize sh[k]?.getD 0 = y at *
                  have hwr : IntKind.i64.wrap (y + z) = z + y := by rw [IntKind.wrap_i64]; omega
                  have hwr2 : IntKind.i64.wrap (z + y) = z + y := by rw [IntKind.wrap_i64]; omega
                  clear hci hrg hat hdef HI HU HCO C7 H7
                  go_wp2
                  go_roundw
                  case rel => exact ⟨k + 1, by omega, by go_num, KN, UN⟩
                  case measure => simp [intOf]; omega
                · obtain rfl : K = k := by omega
                  have HF : Hid (Below W.heap.size W wr ∧ Nums .i64 wr (.slice (some ⟨G, 0, none⟩) m cap) (addTo rows ch sh K)) := Lib.hid (by
                    refine ⟨B7.out.trans (HU.out.below B7.out.size (by simpa using HGL.out.1)), ?_⟩
                    have hln : (addTo rows ch sh K).length = m := by rw [addTo_len, HNL.out]
                    refine ⟨by omega, .inr ⟨G, 0, cap, by rw [hln], by rw [hln]; exact hc41, hc42, fun j hj => ?_⟩⟩
                    rw [Nat.zero_add]
                    exact HI.out.cell j hj)
                  have hGW := HGL.out.1
                  clear HI HU C7 H7 HCO
                  go_wp2
                  exact HPO.out _ _ _ HF.out.1 HF.out.2 hGW
  · have HB : Hid (¬ StrOk rows ws total) := Lib.hid (fun h => by have := h.wl; omega)
    have HPO : Hid (∀ X, X = W → StrPost rows ws total W (.returned (.tuple #[.slice none 0 0, .int .i64 160])) X) := Lib.hid (fun X e => by rw [e]; exact ⟨Below.refl _ _, .inr ⟨HB.out, rfl⟩⟩)
    generalize StrPost rows ws total W = PO at HPO ⊢
    have hne : ((m : Int) != (n : Int)) = true := by simp; omega
    clear hr hw
    go_enter Try.func17, Try.ntmps17
    go_wp2
    exact HPO.out _ rfl
end Go.Proofs.Ytpbkboandiigfaa
