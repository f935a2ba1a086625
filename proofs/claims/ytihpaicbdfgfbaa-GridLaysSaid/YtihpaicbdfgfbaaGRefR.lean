/- Contract of the document's Right of rows of cells. -/
import Derived.Test.YtihpaicbdfgfbaaGSame
namespace Go.Proofs.Ytihpaicbdfgfbaa
open Go.RowKit Go.Shelf
set_option linter.unusedVariables false
attribute [local go_sem] Oper.semAt_some

theorem cellsF_all (P : Sp → Prop) : ∀ (k : Nat) (rows : List (List Sp)), (∀ x ∈ cellsF k rows, P x.2) ↔ ∀ row ∈ rows, ∀ x ∈ row, P x
  | _, [] => by simp [cellsF]
  | k, row :: r => by
    have ih := cellsF_all P (k + 1) r
    simp only [cellsF, List.mem_append, List.mem_map, List.mem_cons, forall_eq_or_imp]
    rw [← ih]
    constructor
    · intro h
      exact ⟨fun x hx => h (k, x) (.inl ⟨x, hx, rfl⟩), fun x hx => h x (.inr hx)⟩
    · rintro ⟨h1, h2⟩ x (⟨y, hy, rfl⟩ | hx)
      · exact h1 y hy
      · exact h2 x hx
def okRow (rows : List (List Sp)) (ends : List Int) (i : Nat) : Prop := (∀ e, ends[i]? = some e → okE rows.length i e = true) ∧ ∀ row, rows[i]? = some row → ∀ x ∈ row, okC x = true
theorem rightQ_of {rows : List (List Sp)} {ends : List Int} (h1 : rows.length ≤ 65536) (h2 : ends.length = rows.length) (h : ∀ i, i < rows.length → okRow rows ends i) : RightQ rows ends :=
  ⟨h1, h2, fun i e he => (h i (by have := (List.getElem?_eq_some_iff.1 he).1; omega)).1 e he, (cellsF_all (fun x => okC x = true) 0 rows).2 fun row hr x hx => by
    obtain ⟨i, hi⟩ := List.mem_iff_getElem?.1 hr
    exact (h i (List.getElem?_eq_some_iff.1 hi).1).2 row hi x hx⟩
theorem rightQ_row {rows : List (List Sp)} {ends : List Int} (h : RightQ rows ends) (i : Nat) : okRow rows ends i :=
  ⟨fun e he => h.ends i e he, fun row hr x hx => (cellsF_all (fun x => okC x = true) 0 rows).1 h.cells row (List.mem_iff_getElem?.2 ⟨i, hr⟩) x hx⟩
theorem okC_iff (x : Sp) : okC x = true ↔ (1 ≤ x.c ∧ x.c ≤ 1000) ∧ 0 ≤ x.r ∧ x.r ≤ 1000 := by
  unfold okC; rw [within_one, within_one]; simp
theorem okE_iff (m t : Nat) (e : Int) : okE m t e = true ↔ (t : Int) + 1 ≤ e ∧ e ≤ m := by
  unfold okE; rw [within_one]; simp
set_option maxHeartbeats 1000000 in
theorem refRight_bad (p q : Option Addr) (m c m' c' : Nat) (w : World) (h : 65536 < m ∨ m' ≠ m) :
    Calls Try.prog 15 #[.slice p m c, .slice q m' c'] w fun e W' => e = .returned (.bool false) ∧ Below w.heap.size w W' := by
  go_enter Try.func15, Try.ntmps15
  by_cases hm : m' = m
  · have h1 : 65536 < m := by omega
    have hne : ((m : Int) != (m' : Int)) = false := by simp; omega
    have d1 : decide ((m : Int) > 65536) = true := by simp; omega
    clear h hm
    go_wp2
    go_ret
    exact ⟨rfl, Below.refl _ _⟩
  · have hne : ((m : Int) != (m' : Int)) = true := by simp; omega
    clear h hm
    go_wp2
    go_ret
    exact ⟨rfl, Below.refl _ _⟩
set_option maxRecDepth 100000 in
set_option maxHeartbeats 2000000 in
theorem refRight_main (p q : Option Addr) (m c c' : Nat) (hv : Nat → Value) (rows : List (List Sp)) (ends : List Int) (w : World) (hm : m ≤ 65536) (hl : rows.length = m) (he : ends.length = m) (hR : RowsIn w.heap.size w (.slice p m c) hv rows) (hE : Ints w (.slice q m c') ends) :
    Calls Try.prog 15 #[.slice p m c, .slice q m c'] w fun e W' => ∃ b, e = .returned (.bool b) ∧ (b = true ↔ RightQ rows ends) ∧ Below w.heap.size w W' := by
  have HR := Lib.hid hR
  have HE := Lib.hid hE
  have HL := Lib.hid hl
  have HL2 := Lib.hid he
  have hne : ((m : Int) != (m : Int)) = false := by simp
  have d1 : decide ((m : Int) > 65536) = false := by simp; omega
  clear hR hE hl he
  go_enter Try.func15, Try.ntmps15
  go_wp2
  go_loopw [5] (fun s5 X => ∃ i : Nat, i ≤ m ∧ s5 = .int .i64 (i : Int) ∧ Hid (∀ j, j < i → okRow rows ends j) ∧ Hid (Below w.heap.size w X)) (fun s5 _ => m - (intOf s5).toNat)
  case atStart => exact ⟨0, Nat.zero_le _, rfl, Lib.hid (fun j h => by omega), Lib.hid (Below.refl _ _)⟩
  case round =>
    obtain ⟨i, hi, rfl, HA, HB⟩ := hrel
    by_cases hlt : i < m
    · obtain ⟨e, hee⟩ : ∃ e, ends[i]? = some e := ⟨_, List.getElem?_eq_getElem (by rw [HL2.out]; exact hlt)⟩
      obtain ⟨row, hrow⟩ : ∃ row, rows[i]? = some row := ⟨_, List.getElem?_eq_getElem (by rw [HL.out]; exact hlt)⟩
      obtain ⟨_, ⟨_, _, _, hn⟩ | ⟨b, off, c2, h1, hce⟩⟩ := HE.out
      · rw [hn] at hee; simp at hee
      injection h1 with h1 h2 h3
      subst h1 h3
      clear h2
      have ce := hce i (by rw [HL2.out]; exact hlt)
      rw [hee] at ce
      simp only [Option.getD_some] at ce
      have lb := cell_lt ce
      dsimp only at lb
      have ce2 := (HB.out.cell (p := ⟨b, off + i, none⟩) lb).trans ce
      have lb2 : b < wr.heap.size := by have := HB.out.size; omega
      obtain ⟨rb, ro, rfl, hrbB, crow, hrin⟩ := HR.out.at i row hrow
      have crow2 := (HB.out.cell (p := ⟨rb, ro + i, none⟩) hrbB).trans crow
      have lrb : rb < wr.heap.size := by have := HB.out.size; omega
      obtain ⟨qr, cq, hvt⟩ := hrin.form
      rw [hvt] at crow2 hrin
      obtain ⟨kl, hkl⟩ : ∃ kl, row.length = kl := ⟨_, rfl⟩
      have hk63 := hrin.1
      rw [hkl] at crow2 hrin hk63
      have HRI := Lib.hid hrin
      have HKL := Lib.hid hkl
      have HROW := Lib.hid hrow
      have HEE := Lib.hid hee
      have hzw := HB.out.size
      clear crow hvt hrin hkl hrow hce ce hee
      by_cases hok : (i : Int) + 1 ≤ e ∧ e ≤ m
      · have HOKE : Hid (okE m i e = true) := Lib.hid ((okE_iff _ _ _).2 hok)
        obtain ⟨hok1, hok2⟩ := hok
        have g1 : decide (e ≤ (i : Int)) = false := by simp; omega
        have g2 : decide (e > (m : Int)) = false := by simp; omega
        obtain ⟨W0, hW0⟩ : ∃ W0, W0 = wr := ⟨_, rfl⟩
        subst hW0
        go_wp2
        go_loopw [6] (fun s6 X => ∃ k : Nat, k ≤ kl ∧ s6 = .int .i64 (k : Int) ∧ Hid (∀ x ∈ row.take k, okC x = true) ∧ Hid (Below W0.heap.size W0 X)) (fun s6 _ => kl - (intOf s6).toNat)
        case atStart => exact ⟨0, Nat.zero_le _, rfl, Lib.hid (by simp), Lib.hid (Below.refl _ _)⟩
        case round =>
          obtain ⟨k, hk, rfl, HC, HBR⟩ := hrel
          have crw := (HBR.out.cell (p := ⟨rb, ro + i, none⟩) lrb).trans crow2
          have lbw : rb < wr.heap.size := by have := HBR.out.size; omega
          by_cases hkl : k < kl
          · obtain ⟨⟨x1, x2, x3⟩, hx⟩ : ∃ x, row[k]? = some x := ⟨_, List.getElem?_eq_getElem (by rw [HKL.out]; exact hkl)⟩
            obtain ⟨b', off', rfl, hb', d0, d1', d2⟩ := HRI.out.at k _ hx
            dsimp only at d0 d1' d2
            have B0 := HB.out.trans (HBR.out.mono hzw)
            have e0 := (B0.cell (p := ⟨b', off' + k * 3, none⟩) hb').trans d0
            have e1 := (B0.cell (p := ⟨b', off' + k * 3 + 1, none⟩) hb').trans d1'
            have e2 := (B0.cell (p := ⟨b', off' + k * 3 + 2, none⟩) hb').trans d2
            have lb3 : b' < wr.heap.size := by have := B0.size; omega
            have HX := Lib.hid hx
            obtain ⟨V, hV⟩ : ∃ V, wr.alloc (.cells #[.int .i64 x1, .int .i64 x2, .int .i64 x3] 54) = V := ⟨_, rfl⟩
            have bV : Below W0.heap.size W0 V := hV ▸ HBR.out.alloc HBR.out.size _
            have kV : Whole V wr.heap.size 54 [.int .i64 x1, .int .i64 x2, .int .i64 x3] := hV ▸ whole_new wr [.int .i64 x1, .int .i64 x2, .int .i64 x3] 54 _ rfl
            have lV := kV.lt
            have q1 := kV.cellAt 1
            have q2 := kV.cellAt 2
            have HBV := Lib.hid bV
            clear d0 d1' d2 B0 hx bV kV
            have HBAD : Hid (okC ⟨x1, x2, x3⟩ = false → ¬ RightQ rows ends) := Lib.hid fun hf hq => by
              have := (rightQ_row hq i).2 row HROW.out _ (List.mem_iff_getElem?.2 ⟨k, HX.out⟩)
              rw [hf] at this; cases this
            by_cases hc : (1 ≤ x2 ∧ x2 ≤ 1000) ∧ 0 ≤ x3 ∧ x3 ≤ 1000
            · have HC2 : Hid (∀ x ∈ row.take (k + 1), okC x = true) := Lib.hid fun x hx => by
                rw [List.take_add_one, HX.out] at hx
                rcases List.mem_append.1 hx with hx | hx
                · exact HC.out x hx
                · obtain rfl : x = _ := by simpa using hx
                  exact (okC_iff _).2 hc
              obtain ⟨⟨c1, c2⟩, c3, c4⟩ := hc
              clear HBAD HC
              go_wp2
              go_roundw
              case rel => exact ⟨k + 1, by omega, by go_num, HC2, HBV⟩
              case measure => simp [intOf]; omega
            · have HB2 := Lib.hid (HBAD.out (by
                cases hq : okC ⟨x1, x2, x3⟩ with
                | false => rfl
                | true => exact absurd ((okC_iff _).1 hq) hc))
              have hw : x2 < 1 ∨ (1 ≤ x2 ∧ 1000 < x2) ∨ (1 ≤ x2 ∧ x2 ≤ 1000 ∧ x3 < 0) ∨ (1 ≤ x2 ∧ x2 ≤ 1000 ∧ 0 ≤ x3 ∧ 1000 < x3) := by omega
              clear HBAD HC hc
              rcases hw with h | ⟨h1, h2⟩ | ⟨h1, h2, h3⟩ | ⟨h1, h2, h3, h4⟩
              all_goals
                go_wp2
                go_ret
                exact ⟨false, rfl, by simp [HB2.out], HB.out.trans (HBV.out.mono hzw)⟩
          · have HA2 : Hid (∀ j, j < i + 1 → okRow rows ends j) := Lib.hid fun j hj => by
              by_cases hji : j < i
              · exact HA.out j hji
              · obtain rfl : j = i := by omega
                refine ⟨fun e' h => ?_, fun row' h x hx => ?_⟩
                · rw [HEE.out] at h; cases h; rw [HL.out]; exact HOKE.out
                · rw [HROW.out] at h; cases h
                  refine HC.out x ?_
                  rw [List.take_of_length_le (by rw [HKL.out]; omega)]; exact hx
            have HB3 := Lib.hid (HB.out.trans (HBR.out.mono hzw))
            have dk : decide ((k : Int) < (kl : Int)) = false := by simp; omega
            clear HA HC
            go_wp2
            go_roundw
            case rel => exact ⟨i + 1, by omega, by go_num, HA2, HB3⟩
            case measure => simp [intOf]; omega
      · have HB2 : Hid (¬ RightQ rows ends) := Lib.hid fun hq => hok ((okE_iff _ _ _).1 (by have := (rightQ_row hq i).1 e HEE.out; rw [HL.out] at this; exact this))
        have hw : e ≤ (i : Int) ∨ ((i : Int) < e ∧ (m : Int) < e) := by omega
        clear hok
        rcases hw with h | ⟨h1, h2⟩
        · have g1 : decide (e ≤ (i : Int)) = true := by simp; omega
          go_wp2
          go_ret
          exact ⟨false, rfl, by simp [HB2.out], HB.out⟩
        · have g1 : decide (e ≤ (i : Int)) = false := by simp; omega
          have g2 : decide (e > (m : Int)) = true := by simp; omega
          go_wp2
          go_ret
          exact ⟨false, rfl, by simp [HB2.out], HB.out⟩
    · have HQ : Hid (RightQ rows ends) := Lib.hid (rightQ_of (by rw [HL.out]; exact hm) (by rw [HL.out, HL2.out]) (fun j hj => HA.out j (by have := HL.out; omega)))
      clear HA
      go_wp2
      go_ret
      exact ⟨true, rfl, by simp [HQ.out], HB.out⟩
theorem refRight_any (v ev : Value) (hv : Nat → Value) (rows : List (List Sp)) (ends : List Int) (w : World) (hR : RowsIn w.heap.size w v hv rows) (hE : Ints w ev ends) :
    Calls Try.prog 15 #[v, ev] w fun e W' => ∃ b, e = .returned (.bool b) ∧ (b = true ↔ RightQ rows ends) ∧ Below w.heap.size w W' := by
  obtain ⟨p, c, rfl⟩ := hR.form
  obtain ⟨q, c', rfl⟩ : ∃ q c', ev = .slice q ends.length c' := by
    obtain ⟨_, ⟨a, c', rfl, rfl⟩ | ⟨b, off, c', rfl, _⟩⟩ := hE
    · exact ⟨_, _, rfl⟩
    · exact ⟨_, _, rfl⟩
  by_cases h : 65536 < rows.length ∨ ends.length ≠ rows.length
  · refine (refRight_bad p q _ c _ c' w h).mono ?_
    rintro e W' ⟨rfl, hb⟩
    refine ⟨false, rfl, ⟨(fun h => by cases h), fun hq => ?_⟩, hb⟩
    have := hq.many; have := hq.len; omega
  · have hm : ends.length = rows.length := by omega
    rw [hm] at hE ⊢
    exact refRight_main p q rows.length c c' hv rows ends w (by omega) rfl hm hR hE
end Go.Proofs.Ytihpaicbdfgfbaa
