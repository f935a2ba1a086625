/- The law's own cut of rows of cells, walked. -/
import Derived.Test.YtgmgkkljoeahhaaGCut
namespace Go.Proofs.Ytgmgkkljoeahhaa
open Go.RowKit Go.Shelf
set_option linter.unusedVariables false
attribute [local go_sem] Oper.semAt_some

theorem cutG_len (rows : List (List Sp)) : (cutG rows).length = min 20 rows.length := by unfold cutG; simp
theorem cutG_get (rows : List (List Sp)) (i : Nat) (row : List Sp) (h : rows[i]? = some row) (hi : i < 20) : (cutG rows)[i]? = some ((row.take 10).map trimC) := by
  unfold cutG
  rw [List.getElem?_map, List.getElem?_take_of_lt hi, h]; rfl
theorem trim_take (row : List Sp) (k : Nat) (x : Sp) (h : row[k]? = some x) : (row.take (k + 1)).map trimC = (row.take k).map trimC ++ [trimC x] := by
  rw [List.take_add_one, h]; simp
theorem flat3_snoc (L : List Sp) (x : Sp) : flat3 (L ++ [x]) = flat3 L ++ x.cells := by unfold flat3; simp
theorem own_rows {N B : Nat} {X : World} {v : Value} {hs : List Value} {rows : List (List Sp)} (h : X.ownsRow N 48 1 v rows.length hs) (hl : rows.length ≤ 9223372036854775807) (hB : X.heap.size ≤ B) (hr : ∀ (i : Nat) (row : List Sp) (u : Value), rows[i]? = some row → hs[i]? = some u → RowIn B X u row) :
    RowsIn B X v (fun i => hs[i]?.getD (.slice none 0 0)) rows := by
  have hlen : hs.length = rows.length := by have := h.1; omega
  rcases h.2 with ⟨rfl, h0⟩ | ⟨g, cap, cur, rfl, hb, hg, _, _, hcs, htk⟩
  · exact ⟨hl, .inl ⟨none, 0, rfl, List.length_eq_zero_iff.1 h0⟩⟩
  · refine ⟨hl, .inr ⟨g, 0, cap, rfl, Nat.lt_of_lt_of_le (Array.getElem?_eq_some_iff.1 hg).1 hB, fun i row hrow => ?_⟩⟩
    have hi := (List.getElem?_eq_some_iff.1 hrow).1
    obtain ⟨u, hu⟩ : ∃ u, hs[i]? = some u := ⟨_, List.getElem?_eq_getElem (by omega)⟩
    have e : (fun i => hs[i]?.getD (Value.slice none 0 0)) i = u := by simp [hu]
    rw [e]
    refine ⟨?_, hr i row _ hrow hu⟩
    rw [← htk] at hu
    have hj := (List.getElem?_eq_some_iff.1 hu).1
    rw [List.length_take] at hj
    rw [List.getElem?_take_of_lt (by omega)] at hu
    simp only [World.cell?, hg, Nat.zero_add]
    rw [← Array.getElem?_toList, hu]
    rfl
/-- the rows that are done lie in memory of their own -/
def DoneR (N : Nat) (X : World) (hs : List Value) (rows : List (List Sp)) : Prop := ∀ (j : Nat) (r : List Sp) (u : Value), rows[j]? = some r → hs[j]? = some u → X.ownsRow N 52 3 u r.length (flat3 r)
theorem DoneR.grown {N : Nat} {X Y : World} {hs : List Value} {rows : List (List Sp)} {row : Option Nat} (h : DoneR N X hs rows) (hg : X.grownBy Y row) (hr : ∀ (j : Nat) (r : List Sp) (u : Value), rows[j]? = some r → hs[j]? = some u → u.ownBlock = none ∨ u.ownBlock ≠ row) : DoneR N Y hs rows :=
  fun j r u h1 h2 => (h j r u h1 h2).kept hg (hr j r u h1 h2)
theorem DoneR.below {N : Nat} {X Y : World} {hs : List Value} {rows : List (List Sp)} (h : DoneR N X hs rows) (hb : Below X.heap.size X Y) : DoneR N Y hs rows :=
  h.grown (grown_of_below' hb) (fun j r u h1 h2 => by cases hu : u.ownBlock <;> simp)
theorem DoneR.snoc {N : Nat} {X Y : World} {hs : List Value} {rows : List (List Sp)} {i : Nat} {r : List Sp} {u : Value} (h : DoneR N X hs rows) (hl : hs.length = i) (hr : rows[i]? = some r) (hu : Y.ownsRow N 52 3 u r.length (flat3 r))
    (ha : ∀ (r : List Sp) (u : Value), X.ownsRow N 52 3 u r.length (flat3 r) → Y.ownsRow N 52 3 u r.length (flat3 r)) : DoneR N Y (hs ++ [u]) rows := by
  intro j r' u' hj hu'
  by_cases hji : j < i
  · rw [List.getElem?_append_left (by rw [hl]; exact hji)] at hu'
    exact ha _ _ (h j r' u' hj hu')
  · rw [List.getElem?_append_right (by rw [hl]; omega), hl] at hu'
    have hji : j = i := by
      cases hq : j - i with
      | zero => omega
      | succ n => rw [hq] at hu'; simp at hu'
    subst hji
    rw [hr] at hj
    rw [Nat.sub_self] at hu'
    cases hj
    cases hu'
    exact hu
set_option maxRecDepth 100000 in
set_option maxHeartbeats 2000000 in
theorem cut_main (p : Option Addr) (m c : Nat) (hv : Nat → Value) (rows : List (List Sp)) (w : World) (hR : RowsIn w.heap.size w (.slice p m c) hv rows) (hm : rows.length = m) :
    Calls Try.prog 17 #[.slice p m c] w fun e W' => ∃ v' hv', e = .returned v' ∧ RowsIn W'.heap.size W' v' hv' (cutG rows) ∧ Below w.heap.size w W' := by
  obtain ⟨i0, hi0, hz0', hz1', hz2'⟩ := info_parts Try.infoSp
  obtain ⟨i1, hi1, hy0', hy1', hy2'⟩ := info_parts Try.infoSps
  have HZ1 := Lib.hid hz0'
  have HZ2 := Lib.hid hz1'
  have HZ3 := Lib.hid hz2'
  have HY1 := Lib.hid hy0'
  have HY2 := Lib.hid hy1'
  have HY3 := Lib.hid hy2'
  have HR := Lib.hid hR
  have HM := Lib.hid hm
  have hmm : m ≤ 9223372036854775807 := by have := hR.1; omega
  clear hz0' hz1' hz2' hy0' hy1' hy2' hR hm
  go_enter Try.func17, Try.ntmps17
  go_wp2
  go_loopw [3, 4] (fun s3 s4 X => ∃ (i : Nat) (hs : List Value), i ≤ 20 ∧ i ≤ m ∧ s4 = .int .i64 (i : Int) ∧ hs.length = i ∧ Hid (X.ownsRow w.heap.size 48 1 s3 i hs) ∧ Hid (DoneR w.heap.size X hs (cutG rows)) ∧ Hid (Below w.heap.size w X)) (fun _ s4 _ => 20 - (intOf s4).toNat)
  case atStart => exact ⟨0, [], by omega, by omega, rfl, rfl, Lib.hid (World.ownsRow_nil _ _ _ _), Lib.hid (fun j r u _ h => by simp at h), Lib.hid (Below.refl _ _)⟩
  case round =>
    obtain ⟨i, hs, hi, him, rfl, hhs, HO, HD, HB⟩ := hrel
    obtain ⟨po, no, co, rfl⟩ := own_slice HO.out
    by_cases hlt : i < m ∧ i < 20
    · obtain ⟨hlm, hl20⟩ := hlt
      obtain ⟨row, hrow⟩ : ∃ row, rows[i]? = some row := ⟨_, List.getElem?_eq_getElem (by rw [HM.out]; exact hlm)⟩
      obtain ⟨b, off, rfl, hbB, crow, hrin⟩ := HR.out.at i row hrow
      have crow2 := (HB.out.cell (p := ⟨b, off + i, none⟩) hbB).trans crow
      have lb : b < wr.heap.size := by have := HB.out.size; omega
      obtain ⟨q, cq, hvt⟩ := hrin.form
      rw [hvt] at crow2 hrin
      obtain ⟨kl, hkl⟩ : ∃ kl, row.length = kl := ⟨_, rfl⟩
      have hk63 := hrin.1
      rw [hkl] at crow2 hrin hk63
      have HRI := Lib.hid hrin
      have HKL := Lib.hid hkl
      have HROW := Lib.hid hrow
      have HHS := Lib.hid hhs
      have hzw := HB.out.size
      clear crow hvt hrin hkl hrow hhs
      obtain ⟨W0, hW0⟩ : ∃ W0, W0 = wr := ⟨_, rfl⟩
      subst hW0
      have di : decide ((i : Int) < (m : Int)) = true := by simp; omega
      have di2 : decide ((i : Int) < 20) = true := by simp; omega
      go_wp2
      go_loopw [5, 6] (fun s5 s6 X => ∃ k : Nat, k ≤ 10 ∧ k ≤ kl ∧ s6 = .int .i64 (k : Int) ∧ Hid (X.ownsRow W0.heap.size 52 3 s5 k (flat3 ((row.take k).map trimC))) ∧ Hid (Below W0.heap.size W0 X)) (fun _ s6 _ => 10 - (intOf s6).toNat)
      case atStart => exact ⟨0, by omega, by omega, rfl, Lib.hid (World.ownsRow_nil _ _ _ _), Lib.hid (Below.refl _ _)⟩
      case round =>
        obtain ⟨k, hk, hkk, rfl, HOR, HBR⟩ := hrel
        obtain ⟨pr, nr, cr, rfl⟩ := own_slice HOR.out
        have crw := (HBR.out.cell (p := ⟨b, off + i, none⟩) lb).trans crow2
        have lbw : b < wr.heap.size := by have := HBR.out.size; omega
        by_cases hkl : k < kl ∧ k < 10
        · obtain ⟨hkl1, hkl2⟩ := hkl
          obtain ⟨⟨x1, x2, x3⟩, hx⟩ : ∃ x, row[k]? = some x := ⟨_, List.getElem?_eq_getElem (by rw [HKL.out]; exact hkl1)⟩
          obtain ⟨b', off', rfl, hb', d0, d1, d2⟩ := HRI.out.at k _ hx
          dsimp only at d0 d1 d2
          have lbw' : b' < w.heap.size := hb'
          have B0 := HB.out.trans (HBR.out.mono hzw)
          have e0 := (B0.cell (p := ⟨b', off' + k * 3, none⟩) hb').trans d0
          have e1 := (B0.cell (p := ⟨b', off' + k * 3 + 1, none⟩) hb').trans d1
          have e2 := (B0.cell (p := ⟨b', off' + k * 3 + 2, none⟩) hb').trans d2
          have lb2 : b' < wr.heap.size := by have := B0.size; omega
          have HX := Lib.hid hx
          have dk : decide ((k : Int) < (kl : Int)) = true := by simp; omega
          have dk2 : decide ((k : Int) < 10) = true := by simp; omega
          clear d0 d1 d2 B0 hx
          by_cases h30 : x2 ≤ 30
          · have htr : trimC ⟨x1, x2, x3⟩ = ⟨x1, x2, x3⟩ := by unfold trimC; dsimp only; rw [if_neg (by omega)]
            have hrow2 := trim_take row k _ HX.out
            rw [htr] at hrow2
            have HROW2 := Lib.hid hrow2
            clear htr hrow2
            obtain ⟨V, hV⟩ : ∃ V, wr.alloc (.cells #[.int .i64 x1, .int .i64 x2, .int .i64 x3] 52) = V := ⟨_, rfl⟩
            have hOV : V.ownsRow W0.heap.size 52 3 (.slice pr nr cr) k (flat3 ((row.take k).map trimC)) := hV ▸ HOR.out.alloc _
            have bV : Below W0.heap.size W0 V := hV ▸ HBR.out.alloc HBR.out.size _
            have sV : V.heap.size = wr.heap.size + 1 := by rw [← hV]; simp
            have kV : Whole V wr.heap.size 52 [.int .i64 x1, .int .i64 x2, .int .i64 x3] := hV ▸ whole_new wr [.int .i64 x1, .int .i64 x2, .int .i64 x3] 52 _ rfl
            have lV := kV.lt
            have q0 := kV.cellAt 0
            have q1 := kV.cellAt 1
            have q2 := kV.cellAt 2
            have HOV := Lib.hid hOV
            have HBV := Lib.hid bV
            have hzv : W0.heap.size ≤ V.heap.size := bV.size
            clear hOV bV sV kV
            have d30 : decide (x2 > 30) = false := by simp; omega
            go_wp2_with (at_builtin; refine wpList_append_own_at _ rfl _ _ 48 rfl W0.heap.size 52 i0 (.agg #[.int .i64 0, .int .i64 0, .int .i64 0]) 3 24 Try.underlying48 hi0 HZ1.out HZ2.out HZ3.out rfl (by decide) (.slice pr nr cr) k _ rfl (HOV.out.alloc _) ⟨V.heap.size, 0, none⟩ 1 1 [.int .i64 x1, .int .i64 x2, .int .i64 x3] rfl rfl (lay_newG _ [.int .i64 x1, .int .i64 x2, .int .i64 x3] 52 V.heap.size rfl) (by simp [Value.oneCell']) (by unfold maxLen; omega) (by omega) (by simp; omega) ?_; intro v9 w9 hown9 hgrow9 _ _; have HO9 : Hid (w9.ownsRow W0.heap.size 52 3 v9 (k + 1) (flat3 ((row.take (k + 1)).map trimC))) := Lib.hid (by rw [HROW2.out, flat3_snoc]; exact hown9); have HB9 := Lib.hid ((HBV.out.alloc hzv (.cells #[.int .i64 x1, .int .i64 x2, .int .i64 x3] 52)).grown hgrow9 (by simp; omega) (fun g e => (HOV.out.lt g e).1)); clear hown9 hgrow9 HOV HBV)
            go_roundw
            case rel => exact ⟨k + 1, by omega, by omega, by go_num, HO9, HB9⟩
            case measure => simp [intOf]; omega
          · by_cases h1000 : x2 ≤ 1000
            · have htr : trimC ⟨x1, x2, x3⟩ = ⟨x1, 30, x3⟩ := by unfold trimC; dsimp only; rw [if_pos (by omega)]
              have hrow2 := trim_take row k _ HX.out
              rw [htr] at hrow2
              have HROW2 := Lib.hid hrow2
              clear htr hrow2
              obtain ⟨V, hV⟩ : ∃ V, wr.alloc (.cells #[.int .i64 x1, .int .i64 30, .int .i64 x3] 52) = V := ⟨_, rfl⟩
              have hOV : V.ownsRow W0.heap.size 52 3 (.slice pr nr cr) k (flat3 ((row.take k).map trimC)) := hV ▸ HOR.out.alloc _
              have bV : Below W0.heap.size W0 V := hV ▸ HBR.out.alloc HBR.out.size _
              have sV : V.heap.size = wr.heap.size + 1 := by rw [← hV]; simp
              have kV : Whole V wr.heap.size 52 [.int .i64 x1, .int .i64 30, .int .i64 x3] := hV ▸ whole_new wr [.int .i64 x1, .int .i64 30, .int .i64 x3] 52 _ rfl
              have lV := kV.lt
              have q0 := kV.cellAt 0
              have q1 := kV.cellAt 1
              have q2 := kV.cellAt 2
              have HOV := Lib.hid hOV
              have HBV := Lib.hid bV
              have hzv : W0.heap.size ≤ V.heap.size := bV.size
              clear hOV bV sV kV
              skip
              go_wp2_with (at_builtin; refine wpList_append_own_at _ rfl _ _ 48 rfl W0.heap.size 52 i0 (.agg #[.int .i64 0, .int .i64 0, .int .i64 0]) 3 24 Try.underlying48 hi0 HZ1.out HZ2.out HZ3.out rfl (by decide) (.slice pr nr cr) k _ rfl (HOV.out.alloc _) ⟨V.heap.size, 0, none⟩ 1 1 [.int .i64 x1, .int .i64 30, .int .i64 x3] rfl rfl (lay_newG _ [.int .i64 x1, .int .i64 30, .int .i64 x3] 52 V.heap.size rfl) (by simp [Value.oneCell']) (by unfold maxLen; omega) (by omega) (by simp; omega) ?_; intro v9 w9 hown9 hgrow9 _ _; have HO9 : Hid (w9.ownsRow W0.heap.size 52 3 v9 (k + 1) (flat3 ((row.take (k + 1)).map trimC))) := Lib.hid (by rw [HROW2.out, flat3_snoc]; exact hown9); have HB9 := Lib.hid ((HBV.out.alloc hzv (.cells #[.int .i64 x1, .int .i64 30, .int .i64 x3] 52)).grown hgrow9 (by simp; omega) (fun g e => (HOV.out.lt g e).1)); clear hown9 hgrow9 HOV HBV)
              go_roundw
              case rel => exact ⟨k + 1, by omega, by omega, by go_num, HO9, HB9⟩
              case measure => simp [intOf]; omega
            · have htr : trimC ⟨x1, x2, x3⟩ = ⟨x1, x2, x3⟩ := by unfold trimC; dsimp only; rw [if_neg (by omega)]
              have hrow2 := trim_take row k _ HX.out
              rw [htr] at hrow2
              have HROW2 := Lib.hid hrow2
              clear htr hrow2
              obtain ⟨V, hV⟩ : ∃ V, wr.alloc (.cells #[.int .i64 x1, .int .i64 x2, .int .i64 x3] 52) = V := ⟨_, rfl⟩
              have hOV : V.ownsRow W0.heap.size 52 3 (.slice pr nr cr) k (flat3 ((row.take k).map trimC)) := hV ▸ HOR.out.alloc _
              have bV : Below W0.heap.size W0 V := hV ▸ HBR.out.alloc HBR.out.size _
              have sV : V.heap.size = wr.heap.size + 1 := by rw [← hV]; simp
              have kV : Whole V wr.heap.size 52 [.int .i64 x1, .int .i64 x2, .int .i64 x3] := hV ▸ whole_new wr [.int .i64 x1, .int .i64 x2, .int .i64 x3] 52 _ rfl
              have lV := kV.lt
              have q0 := kV.cellAt 0
              have q1 := kV.cellAt 1
              have q2 := kV.cellAt 2
              have HOV := Lib.hid hOV
              have HBV := Lib.hid bV
              have hzv : W0.heap.size ≤ V.heap.size := bV.size
              clear hOV bV sV kV
              skip
              go_wp2_with (at_builtin; refine wpList_append_own_at _ rfl _ _ 48 rfl W0.heap.size 52 i0 (.agg #[.int .i64 0, .int .i64 0, .int .i64 0]) 3 24 Try.underlying48 hi0 HZ1.out HZ2.out HZ3.out rfl (by decide) (.slice pr nr cr) k _ rfl (HOV.out.alloc _) ⟨V.heap.size, 0, none⟩ 1 1 [.int .i64 x1, .int .i64 x2, .int .i64 x3] rfl rfl (lay_newG _ [.int .i64 x1, .int .i64 x2, .int .i64 x3] 52 V.heap.size rfl) (by simp [Value.oneCell']) (by unfold maxLen; omega) (by omega) (by simp; omega) ?_; intro v9 w9 hown9 hgrow9 _ _; have HO9 : Hid (w9.ownsRow W0.heap.size 52 3 v9 (k + 1) (flat3 ((row.take (k + 1)).map trimC))) := Lib.hid (by rw [HROW2.out, flat3_snoc]; exact hown9); have HB9 := Lib.hid ((HBV.out.alloc hzv (.cells #[.int .i64 x1, .int .i64 x2, .int .i64 x3] 52)).grown hgrow9 (by simp; omega) (fun g e => (HOV.out.lt g e).1)); clear hown9 hgrow9 HOV HBV)
              go_roundw
              case rel => exact ⟨k + 1, by omega, by omega, by go_num, HO9, HB9⟩
              case measure => simp [intOf]; omega
        · have hrow3 : (cutG rows)[i]? = some ((row.take k).map trimC) := by
            rw [cutG_get rows i row HROW.out hl20]
            congr 2
            have := HKL.out
            by_cases h10 : k = 10
            · rw [h10]
            · have : k = kl := by omega
              rw [List.take_of_length_le (by omega), List.take_of_length_le (by omega)]
          have hD2 : DoneR w.heap.size wr hs (cutG rows) := HD.out.below HBR.out
          have hO2 : wr.ownsRow w.heap.size 48 1 (.slice po no co) i hs := HO.out.kept (grown_of_below' HBR.out) (by cases hq : (Value.slice po no co).ownBlock <;> simp)
          have hR2 : wr.ownsRow w.heap.size 52 3 (.slice pr nr cr) ((row.take k).map trimC).length (flat3 ((row.take k).map trimC)) := by
            have hk2 : ((row.take k).map trimC).length = k := by rw [List.length_map, List.length_take, HKL.out]; omega
            rw [hk2]
            exact own_kept_cells HOR.out (fun _ _ h _ => h) hzw
          have HF : Hid (∀ (w9 : World) (v9 : Value), w9.ownsRow w.heap.size 48 1 v9 (i + 1) (hs ++ [.slice pr nr cr]) → (wr.alloc (.cells #[.slice pr nr cr] 48)).grownBy w9 (Value.slice po no co).ownBlock →
              Hid (w9.ownsRow w.heap.size 48 1 v9 (i + 1) (hs ++ [.slice pr nr cr])) ∧ Hid (DoneR w.heap.size w9 (hs ++ [.slice pr nr cr]) (cutG rows)) ∧ Hid (Below w.heap.size w w9)) := Lib.hid fun w9 v9 hown hgrow => by
            refine ⟨Lib.hid hown, Lib.hid ?_, Lib.hid (((HB.out.trans (HBR.out.mono hzw)).alloc (by have := HBR.out.size; omega) _).grown hgrow (by have := HBR.out.size; simp; omega) (fun g e => ((hO2.alloc (.cells #[.slice pr nr cr] 48)).lt g e).1))⟩
            have hap : ∀ (r : List Sp) (u : Value), wr.ownsRow w.heap.size 52 3 u r.length (flat3 r) → w9.ownsRow w.heap.size 52 3 u r.length (flat3 r) := fun r u h => (h.alloc (.cells #[.slice pr nr cr] 48)).kept hgrow (own_apart h hO2 (by decide))
            exact hD2.snoc HHS.out hrow3 (hap _ _ hR2) hap
          have HO2 := Lib.hid hO2
          have hhl : (hs ++ [Value.slice pr nr cr]).length = i + 1 := by rw [List.length_append, HHS.out]; rfl
          have HHL := Lib.hid hhl
          have hzr : w.heap.size ≤ wr.heap.size := by have := HBR.out.size; omega
          clear hrow3 hD2 hO2 hR2 HD HO HOR hhl HRI HROW
          have hkn : ¬ (k < kl) ∨ ¬ (k < 10) := by omega
          rcases hkn with hkn | hkn
          · have dk : decide ((k : Int) < (kl : Int)) = false := by simp; omega
            go_wp2_with (at_builtin; refine wpList_append_own_at _ rfl _ _ 25 rfl w.heap.size 48 i1 (.slice none 0 0) 1 24 Try.underlying25 hi1 HY1.out HY2.out HY3.out rfl (by decide) (.slice po no co) i hs rfl (HO2.out.alloc _) ⟨wr.heap.size, 0, none⟩ 1 1 [.slice pr nr cr] rfl rfl (lay_newG _ [.slice pr nr cr] 48 wr.heap.size rfl) (by simp [Value.oneCell']) (by unfold maxLen; omega) (by omega) (by simp; omega) ?_; intro v9 w9 hown9 hgrow9 _ _; obtain ⟨G1, G2, G3⟩ := HF.out w9 v9 hown9 hgrow9; clear hown9 hgrow9 HF HO2)
            go_roundw
            case rel => exact ⟨i + 1, _, by omega, by omega, by go_num, HHL.out, G1, G2, G3⟩
            case measure => simp [intOf]; omega
          · by_cases hkl3 : k < kl
            · have dk : decide ((k : Int) < (kl : Int)) = true := by simp; omega
              have dk2 : decide ((k : Int) < 10) = false := by simp; omega
              go_wp2_with (at_builtin; refine wpList_append_own_at _ rfl _ _ 25 rfl w.heap.size 48 i1 (.slice none 0 0) 1 24 Try.underlying25 hi1 HY1.out HY2.out HY3.out rfl (by decide) (.slice po no co) i hs rfl (HO2.out.alloc _) ⟨wr.heap.size, 0, none⟩ 1 1 [.slice pr nr cr] rfl rfl (lay_newG _ [.slice pr nr cr] 48 wr.heap.size rfl) (by simp [Value.oneCell']) (by unfold maxLen; omega) (by omega) (by simp; omega) ?_; intro v9 w9 hown9 hgrow9 _ _; obtain ⟨G1, G2, G3⟩ := HF.out w9 v9 hown9 hgrow9; clear hown9 hgrow9 HF HO2)
              go_roundw
              case rel => exact ⟨i + 1, _, by omega, by omega, by go_num, HHL.out, G1, G2, G3⟩
              case measure => simp [intOf]; omega
            · have dk : decide ((k : Int) < (kl : Int)) = false := by simp; omega
              go_wp2_with (at_builtin; refine wpList_append_own_at _ rfl _ _ 25 rfl w.heap.size 48 i1 (.slice none 0 0) 1 24 Try.underlying25 hi1 HY1.out HY2.out HY3.out rfl (by decide) (.slice po no co) i hs rfl (HO2.out.alloc _) ⟨wr.heap.size, 0, none⟩ 1 1 [.slice pr nr cr] rfl rfl (lay_newG _ [.slice pr nr cr] 48 wr.heap.size rfl) (by simp [Value.oneCell']) (by unfold maxLen; omega) (by omega) (by simp; omega) ?_; intro v9 w9 hown9 hgrow9 _ _; obtain ⟨G1, G2, G3⟩ := HF.out w9 v9 hown9 hgrow9; clear hown9 hgrow9 HF HO2)
              go_roundw
              case rel => exact ⟨i + 1, _, by omega, by omega, by go_num, HHL.out, G1, G2, G3⟩
              case measure => simp [intOf]; omega
    · have hcl : (cutG rows).length = i := by rw [cutG_len, HM.out]; omega
      have hfin : RowsIn wr.heap.size wr (.slice po no co) (fun j => hs[j]?.getD (.slice none 0 0)) (cutG rows) := by
        refine own_rows (N := w.heap.size) (by rw [hcl]; exact HO.out) (by omega) (Nat.le_refl _) (fun j r u h1 h2 => own_row (HD.out j r u h1 h2) ?_ (Nat.le_refl _))
        have : r ∈ cutG rows := List.mem_iff_getElem?.2 ⟨j, h1⟩
        unfold cutG at this
        obtain ⟨r0, _, rfl⟩ := List.mem_map.1 this
        rw [List.length_map, List.length_take]; omega
      have HFIN := Lib.hid hfin
      clear hcl hfin HD HO hhs
      have hkn : ¬ (i < m) ∨ ¬ (i < 20) := by omega
      rcases hkn with hkn | hkn
      · clear hlt
        have dk : decide ((i : Int) < (m : Int)) = false := by simp; omega
        go_wp2
        go_ret
        exact ⟨_, _, rfl, HFIN.out, HB.out⟩
      · clear hlt
        by_cases him3 : i < m
        · have dk : decide ((i : Int) < (m : Int)) = true := by simp; omega
          have dk2 : decide ((i : Int) < 20) = false := by simp; omega
          go_wp2
          go_ret
          exact ⟨_, _, rfl, HFIN.out, HB.out⟩
        · have dk : decide ((i : Int) < (m : Int)) = false := by simp; omega
          go_wp2
          go_ret
          exact ⟨_, _, rfl, HFIN.out, HB.out⟩
theorem cutG_any (v : Value) (hv : Nat → Value) (rows : List (List Sp)) (w : World) (hR : RowsIn w.heap.size w v hv rows) :
    Calls Try.prog 17 #[v] w fun e W' => ∃ v' hv', e = .returned v' ∧ RowsIn W'.heap.size W' v' hv' (cutG rows) ∧ Below w.heap.size w W' := by
  obtain ⟨p, c, rfl⟩ := hR.form
  exact cut_main p rows.length c hv rows w hR rfl
end Go.Proofs.Ytgmgkkljoeahhaa
