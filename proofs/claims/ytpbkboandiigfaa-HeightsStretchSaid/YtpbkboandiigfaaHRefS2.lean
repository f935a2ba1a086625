/- The document's Stretch: its contract. -/
import Derived.Test.YtpbkboandiigfaaHRefS
namespace Go.Proofs.Ytpbkboandiigfaa
open Go.RowKit Go.Shelf Go.Sort Go.Lib Go.Maps
set_option linter.unusedVariables false
set_option linter.unusedSimpArgs false
attribute [local go_sem] Oper.semAt_some

/-- what the document's Stretch answers -/
def RStr (rows ws : List Int) (total : Int) (W : World) (e : Ending) (X : World) : Prop :=
  Below W.heap.size W X ∧ ((StrOk rows ws total ∧ ∃ v, e = .returned (.tuple #[v, .int .i64 0]) ∧ Nums .i64 X v (stretchP rows ws total)) ∨
    (¬ StrOk rows ws total ∧ e = .returned (.tuple #[.slice none 0 0, .int .i64 160])))
theorem iarg_at {W : World} {p : Option Addr} {m c : Nat} {zs : List Int} (h : IArg W p m c zs) (B : Nat) (hB : W.heap.size ≤ B) (X : World) (hX : Below W.heap.size W X) (i : Nat) (hi : i < m) : ∃ b o, p = some ⟨b, o, none⟩ ∧ X.cell? ⟨b, o + i, none⟩ = some (.int .i64 (zs[i]?.getD 0)) := by
  have hl := h.len
  obtain ⟨_, ⟨a, c', e, he⟩ | ⟨b, off, c', e, hc⟩⟩ := (h.ints.below hX)
  · rw [he] at hl; simp at hl; omega
  · injection e with e1
    exact ⟨b, off, e1, hc i (by omega)⟩
set_option maxRecDepth 100000 in
set_option maxHeartbeats 8000000 in
theorem refStretch_any (p q : Option Addr) (n c m c' : Nat) (rows ws : List Int) (total : Int) (W : World) (hr : IArg W p n c rows) (hw : IArg W q m c' ws) (hn : n ≤ 1000000) (hm : m ≤ 1000000) (hrf : ∀ z ∈ rows, I64H z) :
    Calls Try.prog 18 #[.slice p n c, .slice q m c', .int .i64 total] W (RStr rows ws total W) := by
  have hnl := hr.len
  have hml := hw.len
  have HWA := Lib.hid (refWanted_any q m c' ws W hw.ints hml hm)
  have HRC := Lib.hid (fun X hX i hi => iarg_at hr _ (Nat.le_refl _) X hX i hi)
  have HWC := Lib.hid (fun X hX i hi => iarg_at hw _ (Nat.le_refl _) X hX i hi)
  by_cases hA : wantB ws = true ∧ 1 ≤ n ∧ n = m ∧ 0 ≤ total ∧ total ≤ 576460752303423488
  rotate_left
  · have HB : Hid (¬ StrOk rows ws total) := Lib.hid (fun h => hA ⟨wantB_iff.2 ⟨h.wk, by have := h.wl; have := h.r2; omega⟩, by have := h.r1; omega, by have := h.wl; omega, h.t0, h.t1⟩)
    have HPO : Hid (∀ X, Below W.heap.size W X → RStr rows ws total W (.returned (.tuple #[.slice none 0 0, .int .i64 160])) X) := Lib.hid (fun X e => ⟨e, .inr ⟨HB.out, rfl⟩⟩)
    generalize RStr rows ws total W = PO at HPO ⊢
    have hcase : wantB ws = false ∨ (wantB ws = true ∧ (n : Int) < 1) ∨ (wantB ws = true ∧ ¬ (n : Int) < 1 ∧ ((n : Int) != (m : Int)) = true) ∨ (wantB ws = true ∧ ¬ (n : Int) < 1 ∧ ((n : Int) != (m : Int)) = false ∧ total < 0) ∨ (wantB ws = true ∧ ¬ (n : Int) < 1 ∧ ((n : Int) != (m : Int)) = false ∧ ¬ total < 0 ∧ total > 576460752303423488) := by
      cases hb : wantB ws with
      | false => exact .inl rfl
      | true =>
        rw [hb] at hA
        by_cases h1 : (n : Int) < 1
        · exact .inr (.inl ⟨rfl, h1⟩)
        by_cases h2 : n = m
        · subst h2
          by_cases h3 : total < 0
          · exact .inr (.inr (.inr (.inl ⟨rfl, h1, by simp, h3⟩)))
          · exact .inr (.inr (.inr (.inr ⟨rfl, h1, by simp, h3, by
              refine Int.not_le.1 fun h4 => hA ⟨rfl, by omega, rfl, by omega, h4⟩⟩)))
        · exact .inr (.inr (.inl ⟨rfl, h1, by simp; omega⟩))
    clear hr hw hA HB HRC HWC hrf
    rcases hcase with h1 | ⟨h1, h2⟩ | ⟨h1, h2, h3⟩ | ⟨h1, h2, h3, h4⟩ | ⟨h1, h2, h3, h4, h5⟩
    all_goals
      rw [h1] at HWA
      clear h1
      go_enter Try.func18, Try.ntmps18
      go_wp2_with fail
      refine HWA.out.mono ?_
      rintro e w1 ⟨rfl, b1⟩
      have B1 := Lib.hid b1
      clear b1 HWA
      go_wp2
      exact HPO.out _ B1.out
  obtain ⟨hA1, hA2, rfl, hA4, hA5⟩ := hA
  obtain ⟨hwk, hwn⟩ := wantB_iff.1 hA1
  rw [hA1] at HWA
  have hn4 : n ≤ 10000 := by omega
  have HPB : Hid ((∃ i, i < n ∧ (rows[i]?.getD 0 < 0 ∨ rows[i]?.getD 0 > 1125899906842623)) → ∀ X, Below W.heap.size W X → RStr rows ws total W (.returned (.tuple #[.slice none 0 0, .int .i64 160])) X) := Lib.hid (fun ⟨i, hi, hx⟩ X e => ⟨e, .inr ⟨fun h => by have := okW_get rows h.rk i; omega, rfl⟩⟩)
  have HPG : Hid (OkW rows → ∃ S : StrOk rows ws total, ∀ X v, Below W.heap.size W X → Nums .i64 X v (stretchP rows ws total) → RStr rows ws total W (.returned (.tuple #[v, .int .i64 0])) X) := Lib.hid (fun hk => by
    have S : StrOk rows ws total := ⟨by omega, by omega, by omega, hwk, hk, hA4, hA5⟩
    exact ⟨S, fun X v e hN => ⟨e, .inl ⟨S, v, rfl, hN⟩⟩⟩)
  generalize hPO : RStr rows ws total W = PO at HPB HPG ⊢
  clear hPO
  have g1 : ¬ (n : Int) < 1 := by omega
  have g2 : ¬ total < 0 := by omega
  have g3 : ¬ total > 576460752303423488 := by omega
  have HNL := Lib.hid hnl
  have HML := Lib.hid hml
  have HRF := Lib.hid (fun i => show I64H (rows[i]?.getD 0) from by
    by_cases hi : i < rows.length
    · rw [List.getElem?_eq_getElem hi]; exact hrf _ (List.getElem_mem hi)
    · rw [List.getElem?_eq_none (by omega)]; exact ⟨by simp, by simp⟩)
  have HWB := Lib.hid (fun i => show -1 ≤ ws[i]?.getD 0 ∨ n ≤ i from by
    by_cases hi : i < ws.length
    · rw [List.getElem?_eq_getElem hi]; exact .inl (hwk _ (List.getElem_mem hi)).1
    · exact .inr (by omega))
  have HWU := Lib.hid (fun i (hi : i < n) => show ws[i]?.getD 0 ≤ 1073741824 from by
    rw [List.getElem?_eq_getElem (by omega)]; exact (hwk _ (List.getElem_mem (by omega))).2)
  clear hr hw hwk hwn hA1 hrf hnl hml
  go_enter Try.func18, Try.ntmps18
  go_wp2_with fail
  refine HWA.out.mono ?_
  rintro e w1 ⟨rfl, b1⟩
  have B1 := Lib.hid b1
  clear b1 HWA
  go_wp2
  go_loopw [9, 10, 11] (fun s9 s10 s11 X => ∃ i : Nat, i ≤ n ∧ s9 = .int .i64 (addS (rows.take i)) ∧ s10 = .int .i64 (((leI ws (-1) i).length : Nat) : Int) ∧ s11 = .int .i64 (i : Int) ∧ Hid (∀ j, j < i → 0 ≤ rows[j]?.getD 0 ∧ rows[j]?.getD 0 ≤ 1125899906842623) ∧ Hid (Below w1.heap.size w1 X)) (fun _ _ s11 _ => n - (intOf s11).toNat)
  case atStart => exact ⟨0, Nat.zero_le _, rfl, rfl, rfl, Lib.hid (fun j hj => by omega), Lib.hid (Below.refl _ _)⟩
  case round =>
    obtain ⟨i, hi, rfl, rfl, rfl, HA, HX⟩ := hrel
    have BW := B1.out.trans (HX.out.mono B1.out.size)
    by_cases hlt : i < n
    · obtain ⟨rb, ro, rfl, rc⟩ := HRC.out wr BW i hlt
      obtain ⟨qb, qo, rfl, qc⟩ := HWC.out wr BW i hlt
      have lr := cell_lt rc
      have lq := cell_lt qc
      have hnx : (0 ≤ rows[i]?.getD 0 ∧ rows[i]?.getD 0 ≤ 1125899906842623) → ∀ j, j < i + 1 → 0 ≤ rows[j]?.getD 0 ∧ rows[j]?.getD 0 ≤ 1125899906842623 := fun h j hj => by
        rcases Nat.lt_or_ge j i with h1 | h1
        · exact HA.out j h1
        · obtain rfl : j = i := by omega
          exact h
      have hpb : (rows[i]?.getD 0 < 0 ∨ rows[i]?.getD 0 > 1125899906842623) → PO (.returned (.tuple #[.slice none 0 0, .int .i64 160])) wr := fun h => HPB.out ⟨i, hlt, h⟩ wr BW
      have hsa := addS_takeH rows i (by rw [HNL.out]; exact hlt)
      have hsb := addS_i64 (rows.take i)
      have hrf := HRF.out i
      have hwb := HWB.out i
      have hly := leI_yes ws (-1) i
      have hln := leI_no ws (-1) i
      have hll := leI_len ws (-1) i
      generalize rows[i]?.getD 0 = z at *
      generalize ws[i]?.getD 0 = x at *
      obtain ⟨sa, hsa0⟩ : ∃ s, addS (rows.take i) = s := ⟨_, rfl⟩
      rw [hsa0] at hsa hsb ⊢
      obtain ⟨L0, hL0⟩ : ∃ L, leI ws (-1) i = L := ⟨_, rfl⟩
      rw [hL0] at hly hln hll ⊢
      have BX := Lib.hid BW
      have hx1 : -1 ≤ x := by omega
      by_cases h1 : z < 0
      · have HF := Lib.hid (hpb (.inl h1))
        clear hnx hpb hsa hly hln HRC HWC HPB HPG HA HRF HWB HWU BW hsa0 hL0
        go_wp2
        exact HF.out
      by_cases h2 : z > 1125899906842623
      · have HF := Lib.hid (hpb (.inr h2))
        clear hnx hpb hsa hly hln HRC HWC HPB HPG HA HRF HWB HWU BW hsa0 hL0
        go_wp2
        exact HF.out
      have HN := Lib.hid (hnx ⟨by omega, by omega⟩)
      have HSA := Lib.hid hsa
      have C1 := Lib.hid (refSum_any sa z wr hsb.1 hsb.2 (by omega) (by omega))
      obtain ⟨sa2, hsa2⟩ : ∃ s, sat (sa + z) = s := ⟨_, rfl⟩
      rw [hsa2] at C1 HSA
      by_cases hx : x = -1
      · have HL := Lib.hid (hly (by omega))
        subst hx
        have hwr : IntKind.i64.wrap ((L0.length : Int) + 1) = ((L0.length + 1 : Nat) : Int) := by rw [IntKind.wrap_i64]; omega
        clear hnx hpb hsa hly hln HRC HWC HPB HPG HA HRF HWB HWU BW hsa0 hL0 hsa2
        go_wp2_with fail
        refine C1.out.mono ?_
        rintro e w' ⟨rfl, rfl⟩
        clear C1
        go_wp2
        go_roundw
        case rel => exact ⟨i + 1, by omega, by rw [HSA.out], by rw [HL.out]; simp, by go_num, HN, HX⟩
        case measure => simp [intOf]; omega
      · have HL := Lib.hid (hln (by omega))
        have hxb : (x == -1) = false := by simpa using hx
        clear hnx hpb hsa hly hln HRC HWC HPB HPG HA HRF HWB HWU BW hsa0 hL0 hsa2 hx
        go_wp2_with fail
        refine C1.out.mono ?_
        rintro e w' ⟨rfl, rfl⟩
        clear C1
        go_wp2
        go_roundw
        case rel => exact ⟨i + 1, by omega, by rw [HSA.out], by rw [HL.out], by go_num, HN, HX⟩
        case measure => simp [intOf]; omega
    · obtain rfl : n = i := by omega
      have hta : rows.take n = rows := List.take_of_length_le (by rw [HNL.out]; exact Nat.le_refl _)
      rw [hta]
      have hok : OkW rows := fun z hz => by
        obtain ⟨j, hj⟩ := List.mem_iff_getElem?.1 hz
        have := HA.out j (by have := (List.getElem?_eq_some_iff.1 hj).1; have := HNL.out; omega)
        rw [hj, Option.getD_some] at this
        exact this
      obtain ⟨S, hpg⟩ := HPG.out hok
      have HOK := Lib.hid hok
      have HS := Lib.hid S
      have HPO := Lib.hid hpg
      have BX := Lib.hid BW
      have HE := Lib.hid (excess_eqH total rows hA4 hA5 hok)
      have hsab := addS_i64 rows
      have HQ0 : Hid (((leI ws (-1) n).length : Int) = 0 → qH ws = 1073741824) := Lib.hid (fun h => qH_zero (by rw [HML.out]; omega))
      have HQ1 : Hid (((leI ws (-1) n).length : Int) ≠ 0 → qH ws = -1) := Lib.hid (fun h => qH_pos (by rw [HML.out]; omega))
      obtain ⟨fr, hfr⟩ : ∃ f : Int, ((leI ws (-1) n).length : Int) = f := ⟨_, rfl⟩
      rw [hfr] at HQ0 HQ1 ⊢
      obtain ⟨sa, hsa⟩ : ∃ s, addS rows = s := ⟨_, rfl⟩
      rw [hsa] at HE hsab ⊢
      have HCH : Hid (leI ws (qH ws) n = choP ws) := Lib.hid (by rw [choP_q, HML.out])
      have OW0 : Hid (OwnN 2 wr.heap.size wr wr (wtP rows (leI ws (qH ws) 0)) (.slice none 0 0)) := Lib.hid ⟨Below.refl _ _, World.ownsRow_nil _ _ _ _⟩
      clear hta hok S hpg BW hfr hsa HA HPB HPG HX
      obtain ⟨w2, hw2⟩ : ∃ w2, wr = w2 := ⟨_, rfl⟩
      rw [hw2] at BX OW0 ⊢
      clear hw2
      go_wp2
      go_loopw [12, 13] (fun s12 s13 X => ∃ (i : Nat) (v : Value), i ≤ n ∧ v = s12 ∧ s13 = .int .i64 (i : Int) ∧ Hid (OwnN 2 w2.heap.size w2 X (wtP rows (leI ws (qH ws) i)) v)) (fun _ s13 _ => n - (intOf s13).toNat)
      case atStart => exact ⟨0, _, Nat.zero_le _, rfl, rfl, OW0⟩
      case round =>
        clear OW0
        obtain ⟨i, v, hi, rfl, rfl, HO⟩ := hrel
        have BW := BX.out.trans (HO.out.lo.mono BX.out.size)
        by_cases hlt : i < n
        · obtain ⟨rb, ro, rfl, rc⟩ := HRC.out wr BW i hlt
          obtain ⟨qb, qo, rfl, qc⟩ := HWC.out wr BW i hlt
          have lr := cell_lt rc
          have lq := cell_lt qc
          have hqb : qH ws = 1073741824 ∨ qH ws = -1 := by unfold qH; split <;> omega
          by_cases hx : ws[i]?.getD 0 = -1
          · have hq : ws[i]?.getD 0 ≤ qH ws := by omega
            have hxb : (ws[i]?.getD 0 == -1) = true := by simpa using hx
            clear hqb
            have HL : Hid (wtP rows (leI ws (qH ws) (i + 1)) = wtP rows (leI ws (qH ws) i) ++ [rows[i]?.getD 0]) := Lib.hid (by rw [leI_yes ws (qH ws) i hq, wtP_app])
            have hle : (wtP rows (leI ws (qH ws) i)).length ≤ 1000000 := by rw [wtP_len]; have := leI_len ws (qH ws) i; omega
            generalize rows[i]?.getD 0 = z at rc HL
            generalize ws[i]?.getD 0 = x at qc hxb hq
            obtain ⟨LL, hLL⟩ : ∃ L, wtP rows (leI ws (qH ws) i) = L := ⟨_, rfl⟩
            rw [hLL] at HO HL hle
            have HBX := Lib.hid (whole_new wr [.int .i64 z] 2 _ rfl)
            have HBY := Lib.hid BW
            clear hq hLL HRC HWC HWB HWU HPO HQ0 HQ1 BW HE
            go_wp2_with (first
              | (at_builtin; refine wpList_appN (some 96) rfl rfl _ _ 22 2 rfl Try.underlying22 Try.infoI64N w2.heap.size v LL rfl (HO.out.own.alloc _) wr.heap.size z rfl (HBX.out.cellAt 0) hle (by have := HO.out.lo.size; simp; omega) ?_; intro v' w' h1 h2; refine Hid.out ?_)
              | fail)
            have HN : Hid (OwnN 2 w2.heap.size w2 w' (wtP rows (leI ws (qH ws) (i + 1))) v') := Lib.hid (by rw [HL.out]; exact HO.out.app (Nat.le_refl _) _ h1 h2)
            clear h1 h2 HO HL HBX rc qc
            refine Lib.hid ?_
            go_wp2
            go_roundw
            case rel => exact ⟨i + 1, _, by omega, rfl, by go_num, HN⟩
            case measure => simp [intOf]; omega
          · have hxb : (ws[i]?.getD 0 == -1) = false := by simpa using hx
            have hwb := HWB.out i
            have hwu := HWU.out i hlt
            by_cases hf : fr = 0
            · have hq : ws[i]?.getD 0 ≤ qH ws := by rw [HQ0.out hf]; exact hwu
              subst hf
              clear hqb hwb hwu hx
              have HL : Hid (wtP rows (leI ws (qH ws) (i + 1)) = wtP rows (leI ws (qH ws) i) ++ [rows[i]?.getD 0]) := Lib.hid (by rw [leI_yes ws (qH ws) i hq, wtP_app])
              have hle : (wtP rows (leI ws (qH ws) i)).length ≤ 1000000 := by rw [wtP_len]; have := leI_len ws (qH ws) i; omega
              generalize rows[i]?.getD 0 = z at rc HL
              generalize ws[i]?.getD 0 = x at qc hxb hq
              obtain ⟨LL, hLL⟩ : ∃ L, wtP rows (leI ws (qH ws) i) = L := ⟨_, rfl⟩
              rw [hLL] at HO HL hle
              have HBX := Lib.hid (whole_new wr [.int .i64 z] 2 _ rfl)
              have HBY := Lib.hid BW
              clear hq hLL HRC HWC HWB HWU HPO HQ0 HQ1 BW HE
              go_wp2_with (first
                | (at_builtin; refine wpList_appN (some 96) rfl rfl _ _ 22 2 rfl Try.underlying22 Try.infoI64N w2.heap.size v LL rfl (HO.out.own.alloc _) wr.heap.size z rfl (HBX.out.cellAt 0) hle (by have := HO.out.lo.size; simp; omega) ?_; intro v' w' h1 h2; refine Hid.out ?_)
                | fail)
              have HN : Hid (OwnN 2 w2.heap.size w2 w' (wtP rows (leI ws (qH ws) (i + 1))) v') := Lib.hid (by rw [HL.out]; exact HO.out.app (Nat.le_refl _) _ h1 h2)
              clear h1 h2 HO HL HBX rc qc
              refine Lib.hid ?_
              go_wp2
              go_roundw
              case rel => exact ⟨i + 1, _, by omega, rfl, by go_num, HN⟩
              case measure => simp [intOf]; omega
            · have hq : ¬ ws[i]?.getD 0 ≤ qH ws := by rw [HQ1.out hf]; omega
              have hfb : (fr == 0) = false := by simpa using hf
              clear hqb hwb hwu hx
              have HL : Hid (wtP rows (leI ws (qH ws) (i + 1)) = wtP rows (leI ws (qH ws) i)) := Lib.hid (by rw [leI_no ws (qH ws) i hq])
              generalize ws[i]?.getD 0 = x at qc hxb hq
              have HN : Hid (OwnN 2 w2.heap.size w2 wr (wtP rows (leI ws (qH ws) (i + 1))) v) := Lib.hid (by rw [HL.out]; exact HO.out)
              clear hq HRC HWC HWB HWU HPO HQ0 HQ1 BW HE HO HL
              go_wp2
              go_roundw
              case rel => exact ⟨i + 1, _, by omega, rfl, by go_num, HN⟩
              case measure => simp [intOf]; omega
        · obtain rfl : n = i := by omega
          rw [HCH.out] at HO
          have hc1 := HS.out.c1
          have hc2 := HS.out.c2
          have he0 := HS.out.e0
          obtain ⟨g10, cap10, sp10, rfl, hg10, hc101, hc102, hi10⟩ := HO.out.row (by rw [wtP_len]; exact hc1)
          obtain ⟨K, hK⟩ : ∃ K, (choP ws).length = K := ⟨_, rfl⟩
          have hsl := HS.out.sl
          have hsb := HS.out.sb
          rw [wtP_len] at hc101 ⊢
          rw [hK] at hc101 hc1 hc2 hsl ⊢
          rw [HNL.out] at hc2
          have C1 := Lib.hid (refSub_any total sa wr (by omega) (by omega) hsab.1 hsab.2)
          have HSH := Lib.hid (refShareH_any g10 0 cap10 K (strE rows total) (wtP rows (choP ws)) wr (by rw [wtP_len, hK]) (fun j hj => by rw [Nat.zero_add]; exact hi10.cell j (by rw [wtP_len, hK]; exact hj)) (by simp [mayB]; omega) (wtP_ok _ _ HOK.out) hc1 he0.1)
          have hss : shrW (strE rows total) (wtP rows (choP ws)) = strS rows ws total := rfl
          rw [hss] at HSH
          have hE : max 0 (sat (total - sa)) = strE rows total := HE.out
          have HB3 := Lib.hid BW
          have HYS := Lib.hid (fun i (hi : i < n) hq => str_yes HS.out i (by rw [HNL.out]; exact hi) hq)
          have HNS := Lib.hid (fun i hq => str_no HS.out i hq)
          have HPO2 := Lib.hid (fun X v hX hN => HPO.out X v hX hN)
          have HSL := Lib.hid HS.out.len
          rw [HNL.out] at HSL
          obtain ⟨d, hd⟩ : ∃ d, sat (total - sa) = d := ⟨_, rfl⟩
          rw [hd] at C1 hE
          obtain ⟨ex, hex⟩ : ∃ e, strE rows total = e := ⟨_, rfl⟩
          rw [hex] at HSH hE he0 hsb
          rw [← hE] at HSH
          obtain ⟨sS, hsS⟩ : ∃ s, strS rows ws total = s := ⟨_, rfl⟩
          rw [hsS] at HSH HYS hsl hsb
          obtain ⟨st, hst⟩ : ∃ s, stretchP rows ws total = s := ⟨_, rfl⟩
          rw [hst] at HYS HNS HPO2 HSL
          have HSB := Lib.hid (fun (j : Nat) => show 0 ≤ sS[j]?.getD 0 ∧ sS[j]?.getD 0 ≤ 576460752303423488 from by
            by_cases hj : j < sS.length
            · have e : sS[j]? = some sS[j] := List.getElem?_eq_getElem hj
              have h9 := hsb _ (List.getElem_mem hj)
              have e2 : sS[j]?.getD 0 = sS[j] := by rw [e]; rfl
              rw [e2]; omega
            · have e : sS[j]? = none := List.getElem?_eq_none (by omega)
              have e2 : sS[j]?.getD 0 = 0 := by rw [e]; rfl
              rw [e2]; omega)
          have HKL : Hid ((∀ i, ws[i]?.getD 0 ≤ qH ws → (leI ws (qH ws) (i + 1)).length = (leI ws (qH ws) i).length + 1) ∧ (∀ i, ¬ ws[i]?.getD 0 ≤ qH ws → (leI ws (qH ws) (i + 1)).length = (leI ws (qH ws) i).length) ∧ ∀ i, (leI ws (qH ws) i).length ≤ i) := Lib.hid ⟨fun i h => by rw [leI_yes ws _ i h]; simp, fun i h => by rw [leI_no ws _ i h], fun i => leI_len ws _ i⟩
          have HTK := Lib.hid (fun i (hi : i < n) => show st.take (i + 1) = st.take i ++ [st[i]?.getD 0] from by rw [List.take_add_one, List.getElem?_eq_getElem (by rw [HSL.out]; exact hi)]; rfl)
          have HSSL := Lib.hid hsl
          clear HO hi10 HE BW hE hss hd hsS hst HS HPO HCH hsb he0 hex hK hg10 hsl hsab
          go_wp2_with fail
          refine C1.out.mono ?_
          rintro e w' ⟨rfl, rfl⟩
          clear C1
          go_wp2_with fail
          refine HSH.out.mono ?_
          rintro e w3 ⟨⟨v3, rfl, hn3⟩, b3⟩
          have BX3 := Lib.hid (HB3.out.trans (b3.mono HB3.out.size))
          obtain ⟨b9, o9, c9, rfl, hc9⟩ : ∃ b o c, v3 = .slice (some ⟨b, o, none⟩) K c ∧ ∀ j, j < K → w3.cell? ⟨b, o + j, none⟩ = some (.int .i64 (sS[j]?.getD 0)) := by
            obtain ⟨_, ⟨a', c', e, _, e2⟩ | ⟨b, off, c', e, _, _, hc⟩⟩ := hn3
            · have := HSSL.out; rw [e2] at this; simp at this; omega
            · rw [HSSL.out] at e hc
              exact ⟨b, off, c', e, hc⟩
          have HC3 := Lib.hid (fun X (hX : Below w3.heap.size w3 X) j (hj : j < sS.length) => show X.cell? ⟨b9, o9 + j, none⟩ = some (.int .i64 (sS[j]?.getD 0)) from by
            have h := hc9 j (by rw [HSSL.out] at hj; exact hj)
            exact (hX.cell (p := ⟨b9, o9 + j, none⟩) (cell_lt h)).trans h)
          have OW3 : Hid (OwnN 2 w3.heap.size w3 w3 (st.take 0) (.slice none 0 0)) := Lib.hid ⟨Below.refl _ _, by rw [List.take_zero]; exact World.ownsRow_nil _ _ _ _⟩
          clear HSH hn3 b3 HB3 hc9
          go_wp2
          go_loopw [16, 17, 18] (fun s16 s17 s18 X => ∃ (i : Nat) (v : Value), i ≤ n ∧ v = s16 ∧ s17 = .int .i64 (((leI ws (qH ws) i).length : Nat) : Int) ∧ s18 = .int .i64 (i : Int) ∧ Hid (OwnN 2 w3.heap.size w3 X (st.take i) v)) (fun _ _ s18 _ => n - (intOf s18).toNat)
          case atStart => exact ⟨0, _, Nat.zero_le _, rfl, rfl, rfl, OW3⟩
          case round =>
            clear OW3
            obtain ⟨i, v, hi, rfl, rfl, rfl, HO⟩ := hrel
            have BW := BX3.out.trans (HO.out.lo.mono BX3.out.size)
            by_cases hlt : i < n
            · obtain ⟨rb, ro, rfl, rc⟩ := HRC.out wr BW i hlt
              obtain ⟨qb, qo, rfl, qc⟩ := HWC.out wr BW i hlt
              have lr := cell_lt rc
              have lq := cell_lt qc
              have hqb : qH ws = 1073741824 ∨ qH ws = -1 := by unfold qH; split <;> omega
              by_cases hx : ws[i]?.getD 0 = -1
              · have hq : ws[i]?.getD 0 ≤ qH ws := by omega
                have hxb : (ws[i]?.getD 0 == -1) = true := by simpa using hx
                clear hqb
                obtain ⟨hy1, hy2⟩ := HYS.out i hlt hq
                have sc := HC3.out wr HO.out.lo _ hy2
                have ls := cell_lt sc
                have hyb := HSB.out (leI ws (qH ws) i).length
                have HKN := Lib.hid (HKL.out.1 i hq)
                have HL := Lib.hid (HTK.out i hlt)
                rw [hy1] at HL
                have hz := okW_get rows HOK.out i
                have hkl := HKL.out.2.2 i
                generalize (leI ws (qH ws) i).length = kk at *
                generalize sS[kk]?.getD 0 = y at *
                generalize rows[i]?.getD 0 = z at *
                have hwr : IntKind.i64.wrap (z + y) = z + y := by rw [IntKind.wrap_i64]; omega
                have hwk : IntKind.i64.wrap ((kk : Int) + 1) = ((kk + 1 : Nat) : Int) := by rw [IntKind.wrap_i64]; omega
                have hkk : (kk : Int) < (K : Int) := by have := HSSL.out; omega
                obtain ⟨LL, hLL⟩ : ∃ L, st.take i = L := ⟨_, rfl⟩
                have hle : LL.length ≤ 1000000 := by rw [← hLL, List.length_take]; omega
                rw [hLL] at HO HL
                clear hLL hyb hz hy1
                have HBX := Lib.hid (whole_new wr [.int .i64 (z + y)] 2 _ rfl)
                clear HRC HWC HWB HWU HPO2 HQ0 HQ1 BW hq HYS HNS HC3 HTK HKL HSB
                go_wp2_with (first
                  | (at_builtin; refine wpList_appN (some 136) rfl rfl _ _ 22 2 rfl Try.underlying22 Try.infoI64N w3.heap.size v LL rfl (HO.out.own.alloc _) wr.heap.size (z + y) rfl (HBX.out.cellAt 0) hle (by have := HO.out.lo.size; simp; omega) ?_; intro v' w' h1 h2; refine Hid.out ?_)
                  | fail)
                have HN : Hid (OwnN 2 w3.heap.size w3 w' (st.take (i + 1)) v') := Lib.hid (by rw [HL.out]; exact HO.out.app (Nat.le_refl _) _ h1 h2)
                clear h1 h2 HO HL HBX rc qc
                refine Lib.hid ?_
                go_wp2
                go_roundw
                case rel => exact ⟨i + 1, _, by omega, rfl, by first | (rw [HKN.out]; done) | (rw [HKN.out]; rfl) | (rw [HKN.out]; simp; done), by go_num, HN⟩
                case measure => simp [intOf]; omega
              · have hxb : (ws[i]?.getD 0 == -1) = false := by simpa using hx
                have hwb := HWB.out i
                have hwu := HWU.out i hlt
                by_cases hf : fr = 0
                · have hq : ws[i]?.getD 0 ≤ qH ws := by rw [HQ0.out hf]; exact hwu
                  subst hf
                  clear hqb hwb hwu hx
                  obtain ⟨hy1, hy2⟩ := HYS.out i hlt hq
                  have sc := HC3.out wr HO.out.lo _ hy2
                  have ls := cell_lt sc
                  have hyb := HSB.out (leI ws (qH ws) i).length
                  have HKN := Lib.hid (HKL.out.1 i hq)
                  have HL := Lib.hid (HTK.out i hlt)
                  rw [hy1] at HL
                  have hz := okW_get rows HOK.out i
                  have hkl := HKL.out.2.2 i
                  generalize (leI ws (qH ws) i).length = kk at *
                  generalize sS[kk]?.getD 0 = y at *
                  generalize rows[i]?.getD 0 = z at *
                  have hwr : IntKind.i64.wrap (z + y) = z + y := by rw [IntKind.wrap_i64]; omega
                  have hwk : IntKind.i64.wrap ((kk : Int) + 1) = ((kk + 1 : Nat) : Int) := by rw [IntKind.wrap_i64]; omega
                  have hkk : (kk : Int) < (K : Int) := by have := HSSL.out; omega
                  obtain ⟨LL, hLL⟩ : ∃ L, st.take i = L := ⟨_, rfl⟩
                  have hle : LL.length ≤ 1000000 := by rw [← hLL, List.length_take]; omega
                  rw [hLL] at HO HL
                  clear hLL hyb hz hy1
                  have HBX := Lib.hid (whole_new wr [.int .i64 (z + y)] 2 _ rfl)
                  clear HRC HWC HWB HWU HPO2 HQ0 HQ1 BW hq HYS HNS HC3 HTK HKL HSB
                  go_wp2_with (first
                    | (at_builtin; refine wpList_appN (some 136) rfl rfl _ _ 22 2 rfl Try.underlying22 Try.infoI64N w3.heap.size v LL rfl (HO.out.own.alloc _) wr.heap.size (z + y) rfl (HBX.out.cellAt 0) hle (by have := HO.out.lo.size; simp; omega) ?_; intro v' w' h1 h2; refine Hid.out ?_)
                    | fail)
                  have HN : Hid (OwnN 2 w3.heap.size w3 w' (st.take (i + 1)) v') := Lib.hid (by rw [HL.out]; exact HO.out.app (Nat.le_refl _) _ h1 h2)
                  clear h1 h2 HO HL HBX rc qc
                  refine Lib.hid ?_
                  go_wp2
                  go_roundw
                  case rel => exact ⟨i + 1, _, by omega, rfl, by first | (rw [HKN.out]; done) | (rw [HKN.out]; rfl) | (rw [HKN.out]; simp; done), by go_num, HN⟩
                  case measure => simp [intOf]; omega
                · have hq : ¬ ws[i]?.getD 0 ≤ qH ws := by rw [HQ1.out hf]; omega
                  have hfb : (fr == 0) = false := by simpa using hf
                  clear hqb hwb hwu hx
                  have hy1 := HNS.out i (by omega)
                  have HKN := Lib.hid (HKL.out.2.1 i (by omega))
                  have HL := Lib.hid (HTK.out i hlt)
                  rw [hy1] at HL
                  generalize (leI ws (qH ws) i).length = kk at *
                  generalize rows[i]?.getD 0 = z at *
                  obtain ⟨LL, hLL⟩ : ∃ L, st.take i = L := ⟨_, rfl⟩
                  have hle : LL.length ≤ 1000000 := by rw [← hLL, List.length_take]; omega
                  rw [hLL] at HO HL
                  clear hLL hy1
                  have HBX := Lib.hid (whole_new wr [.int .i64 (z)] 2 _ rfl)
                  clear HRC HWC HWB HWU HPO2 HQ0 HQ1 BW hq HYS HNS HC3 HTK HKL HSB
                  go_wp2_with (first
                    | (at_builtin; refine wpList_appN (some 136) rfl rfl _ _ 22 2 rfl Try.underlying22 Try.infoI64N w3.heap.size v LL rfl (HO.out.own.alloc _) wr.heap.size (z) rfl (HBX.out.cellAt 0) hle (by have := HO.out.lo.size; simp; omega) ?_; intro v' w' h1 h2; refine Hid.out ?_)
                    | fail)
                  have HN : Hid (OwnN 2 w3.heap.size w3 w' (st.take (i + 1)) v') := Lib.hid (by rw [HL.out]; exact HO.out.app (Nat.le_refl _) _ h1 h2)
                  clear h1 h2 HO HL HBX rc qc
                  refine Lib.hid ?_
                  go_wp2
                  go_roundw
                  case rel => exact ⟨i + 1, _, by omega, rfl, by first | (rw [HKN.out]; done) | (rw [HKN.out]; rfl) | (rw [HKN.out]; simp; done), by go_num, HN⟩
                  case measure => simp [intOf]; omega
            · obtain rfl : n = i := by omega
              have hta : st.take n = st := List.take_of_length_le (by rw [HSL.out]; exact Nat.le_refl _)
              rw [hta] at HO
              obtain ⟨g11, cap11, sp11, rfl, hg11, hc111, hc112, hi11⟩ := HO.out.row (by rw [HSL.out]; omega)
              rw [HSL.out] at hc111 ⊢
              have HF := Lib.hid (HPO2.out wr _ BW (hi11.all n cap11 HSL.out hc111 hc112))
              clear HO hi11 HPO2 HRC HWC HWB HWU BW hta
              go_wp2
              exact HF.out
end Go.Proofs.Ytpbkboandiigfaa
