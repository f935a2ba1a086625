/- Which rows of cells are right, and the places of their cells: the program's answers are the document's, for every rows and ends. -/
import Derived.Test.YtihpaicbdfgfbaaRows
import Derived.WalkKit
import Derived.ProofKit
import Derived.OpenShut
import Derived.Below
import Derived.Test.YtihpaicbdfgfbaaGRefL
import Derived.Test.YtihpaicbdfgfbaaGCutW
import Derived.ShutString
namespace Go.Proofs.Ytihpaicbdfgfbaa.gridLays
open Go.ChangeShapes Go.WideShapes Go.ChangeAt Go.RowKit
set_option linter.unusedVariables false

theorem own : ownKnob Try.prog.godebug = none := by kernel_rfl
theorem laidOut : laidOutB Try.prog = true := by kernel_rfl

theorem cut_small (rows : List (List Sp)) : (cellsF 0 (cutG rows)).length ≤ 1000000 := by
  have key : ∀ (k : Nat) (l : List (List Sp)), (∀ r ∈ l, r.length ≤ 10) → (cellsF k l).length ≤ 10 * l.length := by
    intro k l
    induction l generalizing k with
    | nil => intro _; simp [cellsF]
    | cons r l ih =>
      intro h
      have h1 := h r (by simp)
      have h2 := ih (k + 1) (fun x hx => h x (by simp [hx]))
      simp only [cellsF, List.length_append, List.length_map, List.length_cons]
      omega
  have := key 0 (cutG rows) (fun r hr => by
    unfold cutG at hr
    obtain ⟨r0, _, rfl⟩ := List.mem_map.1 hr
    rw [List.length_map, List.length_take]; omega)
  have := cutG_len rows
  omega
theorem right_is (v ev : Value) (hv : Nat → Value) (rows : List (List Sp)) (ends : List Int) (w : World) (hR : RowsIn w.heap.size w v hv rows) (hE : Ints w ev ends) (b : Bool) (hb : b = true ↔ RightQ rows ends) :
    Calls Try.prog 14 #[v, ev] w fun e W' => e = .returned (.bool b) ∧ Below w.heap.size w W' :=
  (gright_any v ev hv rows ends w hR hE).mono fun e W' ⟨b', he, hb', hbw⟩ => ⟨by rw [he]; congr 2; rw [Bool.eq_iff_iff, hb', hb], hbw⟩
theorem refright_is (v ev : Value) (hv : Nat → Value) (rows : List (List Sp)) (ends : List Int) (w : World) (hR : RowsIn w.heap.size w v hv rows) (hE : Ints w ev ends) (b : Bool) (hb : b = true ↔ RightQ rows ends) :
    Calls Try.prog 15 #[v, ev] w fun e W' => e = .returned (.bool b) ∧ Below w.heap.size w W' :=
  (refRight_any v ev hv rows ends w hR hE).mono fun e W' ⟨b', he, hb', hbw⟩ => ⟨by rw [he]; congr 2; rw [Bool.eq_iff_iff, hb', hb], hbw⟩
theorem ref_lay_good (v ev : Value) (hv : Nat → Value) (rows : List (List Sp)) (ends : List Int) (w : World) (hR : RowsIn w.heap.size w v hv rows) (hE : Ints w ev ends) (hn : (cellsF 0 rows).length ≤ 1000000) (hQ : RightQ rows ends) (s : LS) (hs : layP rows ends = some s) :
    Calls Try.prog 13 #[v, ev] w fun e W' => ∃ v', e = .returned (.tuple #[v', .int .i64 (s.t.length : Int), .int .i64 0]) ∧ OwnP w.heap.size W' v' s.ps ∧ Below w.heap.size w W' := by
  refine (refLay_any v ev hv rows ends w hR hE hn).mono ?_
  rintro e W' ⟨hb, ⟨h1, _⟩ | ⟨_, h2, _⟩ | ⟨_, s', v', h3, rfl, h4⟩⟩
  · exact absurd hQ h1
  · rw [hs] at h2; cases h2
  · rw [hs] at h3; cases h3; exact ⟨v', rfl, h4, hb⟩
theorem ref_lay_full (v ev : Value) (hv : Nat → Value) (rows : List (List Sp)) (ends : List Int) (w : World) (hR : RowsIn w.heap.size w v hv rows) (hE : Ints w ev ends) (hn : (cellsF 0 rows).length ≤ 1000000) (hQ : RightQ rows ends) (hs : layP rows ends = none) :
    Calls Try.prog 13 #[v, ev] w fun e W' => e = .returned (.tuple #[.slice none 0 0, .int .i64 0, .int .i64 43]) ∧ Below w.heap.size w W' := by
  refine (refLay_any v ev hv rows ends w hR hE hn).mono ?_
  rintro e W' ⟨hb, ⟨h1, _⟩ | ⟨_, h2, rfl⟩ | ⟨_, s', v', h3, rfl, h4⟩⟩
  · exact absurd hQ h1
  · exact ⟨rfl, hb⟩
  · rw [hs] at h3; cases h3
theorem ref_lay_wrong (v ev : Value) (hv : Nat → Value) (rows : List (List Sp)) (ends : List Int) (w : World) (hR : RowsIn w.heap.size w v hv rows) (hE : Ints w ev ends) (hn : (cellsF 0 rows).length ≤ 1000000) (hQ : ¬ RightQ rows ends) :
    Calls Try.prog 13 #[v, ev] w fun e W' => e = .returned (.tuple #[.slice none 0 0, .int .i64 0, .int .i64 70]) ∧ Below w.heap.size w W' := by
  refine (refLay_any v ev hv rows ends w hR hE hn).mono ?_
  rintro e W' ⟨hb, ⟨h1, rfl⟩ | ⟨h2, _⟩ | ⟨h2, _⟩⟩
  · exact ⟨rfl, hb⟩
  · exact absurd h2 hQ
  · exact absurd h2 hQ
set_option maxRecDepth 100000 in
set_option maxHeartbeats 4000000 in
theorem lays_lt (a0 : Option Addr) (len0 cap0 : Nat) (hv : Nat → Value) (rows : List (List Sp)) (a1 : Option Addr) (len1 : Nat) (cap1 : Nat) (zs : List Int) (w : World) (hR : RowsIn w.heap.size w (.slice a0 len0 cap0) hv rows) (hE : Ints w (.slice a1 len1 cap1) zs) (hz : zs.length = len1) (hlc : len1 ≤ cap1) (hcm : cap1 ≤ 9223372036854775807) (hl : len1 < 21) :
    Calls Try.prog 3 #[.slice a0 len0 cap0, .slice a1 len1 cap1] w fun e w' => e = .returned (.bool true) ∧ Below w.heap.size w w' := by
  have HR := Lib.hid hR
  have HE := Lib.hid (ints_take hE hz len1 (by omega))
  have HSM := Lib.hid (cut_small rows)
  clear hR hE hz
  go_enter Try.func3, Try.ntmps3
  go_wp2_with (first
    | (go_at_call 10; refine (shown7_any _).mono ?_; rintro e w1 ⟨rfl, hb1⟩; have HB1 := Lib.hid hb1; have HR1 := Lib.hid ((HR.out.below hb1).mono hb1.size); clear hb1 HR)
    | (go_at_call 11; refine (cutG_any _ hv rows _ HR1.out).mono ?_; rintro e w2 ⟨v2, hv2, rfl, hr2, hb2⟩; have HB2 := Lib.hid (HB1.out.trans (hb2.mono HB1.out.size)); have HR2 := Lib.hid hr2; have HE2 := Lib.hid (HE.out.below HB2.out); clear hb2 hr2 HB1 HR1 HE))
  obtain ⟨zk, hzk⟩ : ∃ zk, zs.take len1 = zk := ⟨_, rfl⟩
  rw [hzk] at HE2
  by_cases hq : RightQ (cutG rows) zk
  · obtain ⟨st, hst⟩ : ∃ st, layP (cutG rows) zk = st := ⟨_, rfl⟩
    cases st with
    | none =>
      have HL1 := Lib.hid (fun X (hb : Below w2.heap.size w2 X) => lay_full v2 _ hv2 _ _ X ((HR2.out.below hb).mono hb.size) (HE2.out.below hb) HSM.out hq hst)
      have HL2 := Lib.hid (fun X (hb : Below w2.heap.size w2 X) => ref_lay_full v2 _ hv2 _ _ X ((HR2.out.below hb).mono hb.size) (HE2.out.below hb) HSM.out hq hst)
      have HG1 := Lib.hid (fun X (hb : Below w2.heap.size w2 X) => right_is v2 _ hv2 _ _ X ((HR2.out.below hb).mono hb.size) (HE2.out.below hb) true (by simp [hq]))
      have HG2 := Lib.hid (fun X (hb : Below w2.heap.size w2 X) => refright_is v2 _ hv2 _ _ X ((HR2.out.below hb).mono hb.size) (HE2.out.below hb) true (by simp [hq]))
      clear HR2 HE2 HSM
      go_wp2_with (first
        | (go_at_call 12; refine (HL1.out _ (Below.refl _ _)).mono ?_; rintro e w3 ⟨rfl, hb3⟩; have B3 := Lib.hid hb3; clear hb3 HL1)
        | (go_at_call 13; refine (HL2.out _ B3.out).mono ?_; rintro e w4 ⟨rfl, hb4⟩; have B4 := Lib.hid (B3.out.trans (hb4.mono B3.out.size)); clear hb4 HL2 B3)
        | (go_at_call 14; refine (HG1.out _ B4.out).mono ?_; rintro e w5 ⟨rfl, hb5⟩; have B5 := Lib.hid (B4.out.trans (hb5.mono B4.out.size)); clear hb5 HG1 B4)
        | (go_at_call 15; refine (HG2.out _ B5.out).mono ?_; rintro e w6 ⟨rfl, hb6⟩; have B6 := Lib.hid (B5.out.trans (hb6.mono B5.out.size)); clear hb6 HG2 B5)
        | (go_at_call 16; refine (gsame_any _ _ [] [] _ ⟨by simp, .inl ⟨none, 0, rfl, rfl⟩⟩ ⟨by simp, .inl ⟨none, 0, rfl, rfl⟩⟩).mono ?_; rintro e w7 ⟨rfl, hb7⟩; have B7 := Lib.hid (HB2.out.trans ((B6.out.trans (hb7.mono B6.out.size)).mono HB2.out.size)); clear hb7 B6))
      go_ret
      exact ⟨by simp, B7.out⟩
    | some s =>
      obtain ⟨pl, hpl⟩ : ∃ pl, (s.ps.map Pl.z).length = pl := ⟨_, rfl⟩
      have HPN := Lib.hid hpl
      clear hpl
      have HPL : Hid (s.ps.length ≤ 9223372036854775807) := Lib.hid (by
        have h1 := (runP_okay zk _ LS.zero s Okay.zero hst).2
        have h2 := HSM.out
        have : s.ps.length = 0 + (cellsF 0 (cutG rows)).length := h1
        omega)
      have HL1 := Lib.hid (fun X (hb : Below w2.heap.size w2 X) => lay_good v2 _ hv2 _ _ X ((HR2.out.below hb).mono hb.size) (HE2.out.below hb) HSM.out hq s hst)
      have HL2 := Lib.hid (fun X (hb : Below w2.heap.size w2 X) => ref_lay_good v2 _ hv2 _ _ X ((HR2.out.below hb).mono hb.size) (HE2.out.below hb) HSM.out hq s hst)
      have HG1 := Lib.hid (fun X (hb : Below w2.heap.size w2 X) => right_is v2 _ hv2 _ _ X ((HR2.out.below hb).mono hb.size) (HE2.out.below hb) true (by simp [hq]))
      have HG2 := Lib.hid (fun X (hb : Below w2.heap.size w2 X) => refright_is v2 _ hv2 _ _ X ((HR2.out.below hb).mono hb.size) (HE2.out.below hb) true (by simp [hq]))
      clear HR2 HE2 HSM
      go_wp2_with (first
        | (go_at_call 12; refine (HL1.out _ (Below.refl _ _)).mono ?_; rintro e w3 ⟨v3, rfl, ho3, hb3⟩; have B3 := Lib.hid hb3; have P3 := Lib.hid (ho3.places HPL.out); obtain ⟨q3, c3, hv3⟩ := P3.out.form; rw [HPN.out] at hv3; subst hv3; clear hb3 HL1 ho3)
        | (go_at_call 13; refine (HL2.out _ B3.out).mono ?_; rintro e w4 ⟨v4, rfl, ho4, hb4⟩; have B4 := Lib.hid (B3.out.trans (hb4.mono B3.out.size)); have P4 := Lib.hid (ho4.places HPL.out); have P3' := Lib.hid (P3.out.below hb4); obtain ⟨q4, c4, hv4⟩ := P4.out.form; rw [HPN.out] at hv4; subst hv4; clear hb4 HL2 B3 P3 ho4)
        | (go_at_call 14; refine (HG1.out _ B4.out).mono ?_; rintro e w5 ⟨rfl, hb5⟩; have B5 := Lib.hid (B4.out.trans (hb5.mono B4.out.size)); have P35 := Lib.hid (P3'.out.below hb5); have P45 := Lib.hid (P4.out.below hb5); clear hb5 HG1 B4 P3' P4)
        | (go_at_call 15; refine (HG2.out _ B5.out).mono ?_; rintro e w6 ⟨rfl, hb6⟩; have B6 := Lib.hid (B5.out.trans (hb6.mono B5.out.size)); have P36 := Lib.hid (P35.out.below hb6); have P46 := Lib.hid (P45.out.below hb6); clear hb6 HG2 B5 P35 P45)
        | (go_at_call 16; refine (gsame_any _ _ _ _ _ P36.out P46.out).mono ?_; rintro e w7 ⟨rfl, hb7⟩; have B7 := Lib.hid (HB2.out.trans ((B6.out.trans (hb7.mono B6.out.size)).mono HB2.out.size)); clear hb7 B6 P36 P46))
      go_ret
      exact ⟨by simp, B7.out⟩
  · skip
    have HL1 := Lib.hid (fun X (hb : Below w2.heap.size w2 X) => lay_wrong v2 _ hv2 _ _ X ((HR2.out.below hb).mono hb.size) (HE2.out.below hb) HSM.out hq)
    have HL2 := Lib.hid (fun X (hb : Below w2.heap.size w2 X) => ref_lay_wrong v2 _ hv2 _ _ X ((HR2.out.below hb).mono hb.size) (HE2.out.below hb) HSM.out hq)
    have HG1 := Lib.hid (fun X (hb : Below w2.heap.size w2 X) => right_is v2 _ hv2 _ _ X ((HR2.out.below hb).mono hb.size) (HE2.out.below hb) false (by simp [hq]))
    have HG2 := Lib.hid (fun X (hb : Below w2.heap.size w2 X) => refright_is v2 _ hv2 _ _ X ((HR2.out.below hb).mono hb.size) (HE2.out.below hb) false (by simp [hq]))
    clear HR2 HE2 HSM
    go_wp2_with (first
      | (go_at_call 12; refine (HL1.out _ (Below.refl _ _)).mono ?_; rintro e w3 ⟨rfl, hb3⟩; have B3 := Lib.hid hb3; clear hb3 HL1)
      | (go_at_call 13; refine (HL2.out _ B3.out).mono ?_; rintro e w4 ⟨rfl, hb4⟩; have B4 := Lib.hid (B3.out.trans (hb4.mono B3.out.size)); clear hb4 HL2 B3)
      | (go_at_call 14; refine (HG1.out _ B4.out).mono ?_; rintro e w5 ⟨rfl, hb5⟩; have B5 := Lib.hid (B4.out.trans (hb5.mono B4.out.size)); clear hb5 HG1 B4)
      | (go_at_call 15; refine (HG2.out _ B5.out).mono ?_; rintro e w6 ⟨rfl, hb6⟩; have B6 := Lib.hid (B5.out.trans (hb6.mono B5.out.size)); clear hb6 HG2 B5)
      | (go_at_call 16; refine (gsame_any _ _ [] [] _ ⟨by simp, .inl ⟨none, 0, rfl, rfl⟩⟩ ⟨by simp, .inl ⟨none, 0, rfl, rfl⟩⟩).mono ?_; rintro e w7 ⟨rfl, hb7⟩; have B7 := Lib.hid (HB2.out.trans ((B6.out.trans (hb7.mono B6.out.size)).mono HB2.out.size)); clear hb7 B6))
    go_ret
    exact ⟨by simp, B7.out⟩
set_option maxRecDepth 100000 in
set_option maxHeartbeats 4000000 in
theorem lays_eq (a0 : Option Addr) (len0 cap0 : Nat) (hv : Nat → Value) (rows : List (List Sp)) (a1 : Option Addr) (cap1 : Nat) (zs : List Int) (w : World) (hR : RowsIn w.heap.size w (.slice a0 len0 cap0) hv rows) (hE : Ints w (.slice a1 21 cap1) zs) (hz : zs.length = 21) (hlc : 21 ≤ cap1) (hcm : cap1 ≤ 9223372036854775807) :
    Calls Try.prog 3 #[.slice a0 len0 cap0, .slice a1 21 cap1] w fun e w' => e = .returned (.bool true) ∧ Below w.heap.size w w' := by
  have HR := Lib.hid hR
  have HE := Lib.hid (ints_take hE hz 21 (by omega))
  have HSM := Lib.hid (cut_small rows)
  clear hR hE hz
  go_enter Try.func3, Try.ntmps3
  go_wp2_with (first
    | (go_at_call 10; refine (shown7_any _).mono ?_; rintro e w1 ⟨rfl, hb1⟩; have HB1 := Lib.hid hb1; have HR1 := Lib.hid ((HR.out.below hb1).mono hb1.size); clear hb1 HR)
    | (go_at_call 11; refine (cutG_any _ hv rows _ HR1.out).mono ?_; rintro e w2 ⟨v2, hv2, rfl, hr2, hb2⟩; have HB2 := Lib.hid (HB1.out.trans (hb2.mono HB1.out.size)); have HR2 := Lib.hid hr2; have HE2 := Lib.hid (HE.out.below HB2.out); clear hb2 hr2 HB1 HR1 HE))
  obtain ⟨zk, hzk⟩ : ∃ zk, zs.take 21 = zk := ⟨_, rfl⟩
  rw [hzk] at HE2
  by_cases hq : RightQ (cutG rows) zk
  · obtain ⟨st, hst⟩ : ∃ st, layP (cutG rows) zk = st := ⟨_, rfl⟩
    cases st with
    | none =>
      have HL1 := Lib.hid (fun X (hb : Below w2.heap.size w2 X) => lay_full v2 _ hv2 _ _ X ((HR2.out.below hb).mono hb.size) (HE2.out.below hb) HSM.out hq hst)
      have HL2 := Lib.hid (fun X (hb : Below w2.heap.size w2 X) => ref_lay_full v2 _ hv2 _ _ X ((HR2.out.below hb).mono hb.size) (HE2.out.below hb) HSM.out hq hst)
      have HG1 := Lib.hid (fun X (hb : Below w2.heap.size w2 X) => right_is v2 _ hv2 _ _ X ((HR2.out.below hb).mono hb.size) (HE2.out.below hb) true (by simp [hq]))
      have HG2 := Lib.hid (fun X (hb : Below w2.heap.size w2 X) => refright_is v2 _ hv2 _ _ X ((HR2.out.below hb).mono hb.size) (HE2.out.below hb) true (by simp [hq]))
      clear HR2 HE2 HSM
      go_wp2_with (first
        | (go_at_call 12; refine (HL1.out _ (Below.refl _ _)).mono ?_; rintro e w3 ⟨rfl, hb3⟩; have B3 := Lib.hid hb3; clear hb3 HL1)
        | (go_at_call 13; refine (HL2.out _ B3.out).mono ?_; rintro e w4 ⟨rfl, hb4⟩; have B4 := Lib.hid (B3.out.trans (hb4.mono B3.out.size)); clear hb4 HL2 B3)
        | (go_at_call 14; refine (HG1.out _ B4.out).mono ?_; rintro e w5 ⟨rfl, hb5⟩; have B5 := Lib.hid (B4.out.trans (hb5.mono B4.out.size)); clear hb5 HG1 B4)
        | (go_at_call 15; refine (HG2.out _ B5.out).mono ?_; rintro e w6 ⟨rfl, hb6⟩; have B6 := Lib.hid (B5.out.trans (hb6.mono B5.out.size)); clear hb6 HG2 B5)
        | (go_at_call 16; refine (gsame_any _ _ [] [] _ ⟨by simp, .inl ⟨none, 0, rfl, rfl⟩⟩ ⟨by simp, .inl ⟨none, 0, rfl, rfl⟩⟩).mono ?_; rintro e w7 ⟨rfl, hb7⟩; have B7 := Lib.hid (HB2.out.trans ((B6.out.trans (hb7.mono B6.out.size)).mono HB2.out.size)); clear hb7 B6))
      go_ret
      exact ⟨by simp, B7.out⟩
    | some s =>
      obtain ⟨pl, hpl⟩ : ∃ pl, (s.ps.map Pl.z).length = pl := ⟨_, rfl⟩
      have HPN := Lib.hid hpl
      clear hpl
      have HPL : Hid (s.ps.length ≤ 9223372036854775807) := Lib.hid (by
        have h1 := (runP_okay zk _ LS.zero s Okay.zero hst).2
        have h2 := HSM.out
        have : s.ps.length = 0 + (cellsF 0 (cutG rows)).length := h1
        omega)
      have HL1 := Lib.hid (fun X (hb : Below w2.heap.size w2 X) => lay_good v2 _ hv2 _ _ X ((HR2.out.below hb).mono hb.size) (HE2.out.below hb) HSM.out hq s hst)
      have HL2 := Lib.hid (fun X (hb : Below w2.heap.size w2 X) => ref_lay_good v2 _ hv2 _ _ X ((HR2.out.below hb).mono hb.size) (HE2.out.below hb) HSM.out hq s hst)
      have HG1 := Lib.hid (fun X (hb : Below w2.heap.size w2 X) => right_is v2 _ hv2 _ _ X ((HR2.out.below hb).mono hb.size) (HE2.out.below hb) true (by simp [hq]))
      have HG2 := Lib.hid (fun X (hb : Below w2.heap.size w2 X) => refright_is v2 _ hv2 _ _ X ((HR2.out.below hb).mono hb.size) (HE2.out.below hb) true (by simp [hq]))
      clear HR2 HE2 HSM
      go_wp2_with (first
        | (go_at_call 12; refine (HL1.out _ (Below.refl _ _)).mono ?_; rintro e w3 ⟨v3, rfl, ho3, hb3⟩; have B3 := Lib.hid hb3; have P3 := Lib.hid (ho3.places HPL.out); obtain ⟨q3, c3, hv3⟩ := P3.out.form; rw [HPN.out] at hv3; subst hv3; clear hb3 HL1 ho3)
        | (go_at_call 13; refine (HL2.out _ B3.out).mono ?_; rintro e w4 ⟨v4, rfl, ho4, hb4⟩; have B4 := Lib.hid (B3.out.trans (hb4.mono B3.out.size)); have P4 := Lib.hid (ho4.places HPL.out); have P3' := Lib.hid (P3.out.below hb4); obtain ⟨q4, c4, hv4⟩ := P4.out.form; rw [HPN.out] at hv4; subst hv4; clear hb4 HL2 B3 P3 ho4)
        | (go_at_call 14; refine (HG1.out _ B4.out).mono ?_; rintro e w5 ⟨rfl, hb5⟩; have B5 := Lib.hid (B4.out.trans (hb5.mono B4.out.size)); have P35 := Lib.hid (P3'.out.below hb5); have P45 := Lib.hid (P4.out.below hb5); clear hb5 HG1 B4 P3' P4)
        | (go_at_call 15; refine (HG2.out _ B5.out).mono ?_; rintro e w6 ⟨rfl, hb6⟩; have B6 := Lib.hid (B5.out.trans (hb6.mono B5.out.size)); have P36 := Lib.hid (P35.out.below hb6); have P46 := Lib.hid (P45.out.below hb6); clear hb6 HG2 B5 P35 P45)
        | (go_at_call 16; refine (gsame_any _ _ _ _ _ P36.out P46.out).mono ?_; rintro e w7 ⟨rfl, hb7⟩; have B7 := Lib.hid (HB2.out.trans ((B6.out.trans (hb7.mono B6.out.size)).mono HB2.out.size)); clear hb7 B6 P36 P46))
      go_ret
      exact ⟨by simp, B7.out⟩
  · skip
    have HL1 := Lib.hid (fun X (hb : Below w2.heap.size w2 X) => lay_wrong v2 _ hv2 _ _ X ((HR2.out.below hb).mono hb.size) (HE2.out.below hb) HSM.out hq)
    have HL2 := Lib.hid (fun X (hb : Below w2.heap.size w2 X) => ref_lay_wrong v2 _ hv2 _ _ X ((HR2.out.below hb).mono hb.size) (HE2.out.below hb) HSM.out hq)
    have HG1 := Lib.hid (fun X (hb : Below w2.heap.size w2 X) => right_is v2 _ hv2 _ _ X ((HR2.out.below hb).mono hb.size) (HE2.out.below hb) false (by simp [hq]))
    have HG2 := Lib.hid (fun X (hb : Below w2.heap.size w2 X) => refright_is v2 _ hv2 _ _ X ((HR2.out.below hb).mono hb.size) (HE2.out.below hb) false (by simp [hq]))
    clear HR2 HE2 HSM
    go_wp2_with (first
      | (go_at_call 12; refine (HL1.out _ (Below.refl _ _)).mono ?_; rintro e w3 ⟨rfl, hb3⟩; have B3 := Lib.hid hb3; clear hb3 HL1)
      | (go_at_call 13; refine (HL2.out _ B3.out).mono ?_; rintro e w4 ⟨rfl, hb4⟩; have B4 := Lib.hid (B3.out.trans (hb4.mono B3.out.size)); clear hb4 HL2 B3)
      | (go_at_call 14; refine (HG1.out _ B4.out).mono ?_; rintro e w5 ⟨rfl, hb5⟩; have B5 := Lib.hid (B4.out.trans (hb5.mono B4.out.size)); clear hb5 HG1 B4)
      | (go_at_call 15; refine (HG2.out _ B5.out).mono ?_; rintro e w6 ⟨rfl, hb6⟩; have B6 := Lib.hid (B5.out.trans (hb6.mono B5.out.size)); clear hb6 HG2 B5)
      | (go_at_call 16; refine (gsame_any _ _ [] [] _ ⟨by simp, .inl ⟨none, 0, rfl, rfl⟩⟩ ⟨by simp, .inl ⟨none, 0, rfl, rfl⟩⟩).mono ?_; rintro e w7 ⟨rfl, hb7⟩; have B7 := Lib.hid (HB2.out.trans ((B6.out.trans (hb7.mono B6.out.size)).mono HB2.out.size)); clear hb7 B6))
    go_ret
    exact ⟨by simp, B7.out⟩
set_option maxRecDepth 100000 in
set_option maxHeartbeats 4000000 in
theorem lays_gt (a0 : Option Addr) (len0 cap0 : Nat) (hv : Nat → Value) (rows : List (List Sp)) (a1 : Option Addr) (len1 : Nat) (cap1 : Nat) (zs : List Int) (w : World) (hR : RowsIn w.heap.size w (.slice a0 len0 cap0) hv rows) (hE : Ints w (.slice a1 len1 cap1) zs) (hz : zs.length = len1) (hlc : len1 ≤ cap1) (hcm : cap1 ≤ 9223372036854775807) (hl : 21 < len1) :
    Calls Try.prog 3 #[.slice a0 len0 cap0, .slice a1 len1 cap1] w fun e w' => e = .returned (.bool true) ∧ Below w.heap.size w w' := by
  have HR := Lib.hid hR
  have HE := Lib.hid (ints_take hE hz 21 (by omega))
  have HSM := Lib.hid (cut_small rows)
  clear hR hE hz
  go_enter Try.func3, Try.ntmps3
  go_wp2_with (first
    | (go_at_call 10; refine (shown7_any _).mono ?_; rintro e w1 ⟨rfl, hb1⟩; have HB1 := Lib.hid hb1; have HR1 := Lib.hid ((HR.out.below hb1).mono hb1.size); clear hb1 HR)
    | (go_at_call 11; refine (cutG_any _ hv rows _ HR1.out).mono ?_; rintro e w2 ⟨v2, hv2, rfl, hr2, hb2⟩; have HB2 := Lib.hid (HB1.out.trans (hb2.mono HB1.out.size)); have HR2 := Lib.hid hr2; have HE2 := Lib.hid (HE.out.below HB2.out); clear hb2 hr2 HB1 HR1 HE))
  obtain ⟨zk, hzk⟩ : ∃ zk, zs.take 21 = zk := ⟨_, rfl⟩
  rw [hzk] at HE2
  by_cases hq : RightQ (cutG rows) zk
  · obtain ⟨st, hst⟩ : ∃ st, layP (cutG rows) zk = st := ⟨_, rfl⟩
    cases st with
    | none =>
      have HL1 := Lib.hid (fun X (hb : Below w2.heap.size w2 X) => lay_full v2 _ hv2 _ _ X ((HR2.out.below hb).mono hb.size) (HE2.out.below hb) HSM.out hq hst)
      have HL2 := Lib.hid (fun X (hb : Below w2.heap.size w2 X) => ref_lay_full v2 _ hv2 _ _ X ((HR2.out.below hb).mono hb.size) (HE2.out.below hb) HSM.out hq hst)
      have HG1 := Lib.hid (fun X (hb : Below w2.heap.size w2 X) => right_is v2 _ hv2 _ _ X ((HR2.out.below hb).mono hb.size) (HE2.out.below hb) true (by simp [hq]))
      have HG2 := Lib.hid (fun X (hb : Below w2.heap.size w2 X) => refright_is v2 _ hv2 _ _ X ((HR2.out.below hb).mono hb.size) (HE2.out.below hb) true (by simp [hq]))
      clear HR2 HE2 HSM
      go_wp2_with (first
        | (go_at_call 12; refine (HL1.out _ (Below.refl _ _)).mono ?_; rintro e w3 ⟨rfl, hb3⟩; have B3 := Lib.hid hb3; clear hb3 HL1)
        | (go_at_call 13; refine (HL2.out _ B3.out).mono ?_; rintro e w4 ⟨rfl, hb4⟩; have B4 := Lib.hid (B3.out.trans (hb4.mono B3.out.size)); clear hb4 HL2 B3)
        | (go_at_call 14; refine (HG1.out _ B4.out).mono ?_; rintro e w5 ⟨rfl, hb5⟩; have B5 := Lib.hid (B4.out.trans (hb5.mono B4.out.size)); clear hb5 HG1 B4)
        | (go_at_call 15; refine (HG2.out _ B5.out).mono ?_; rintro e w6 ⟨rfl, hb6⟩; have B6 := Lib.hid (B5.out.trans (hb6.mono B5.out.size)); clear hb6 HG2 B5)
        | (go_at_call 16; refine (gsame_any _ _ [] [] _ ⟨by simp, .inl ⟨none, 0, rfl, rfl⟩⟩ ⟨by simp, .inl ⟨none, 0, rfl, rfl⟩⟩).mono ?_; rintro e w7 ⟨rfl, hb7⟩; have B7 := Lib.hid (HB2.out.trans ((B6.out.trans (hb7.mono B6.out.size)).mono HB2.out.size)); clear hb7 B6))
      go_ret
      exact ⟨by simp, B7.out⟩
    | some s =>
      obtain ⟨pl, hpl⟩ : ∃ pl, (s.ps.map Pl.z).length = pl := ⟨_, rfl⟩
      have HPN := Lib.hid hpl
      clear hpl
      have HPL : Hid (s.ps.length ≤ 9223372036854775807) := Lib.hid (by
        have h1 := (runP_okay zk _ LS.zero s Okay.zero hst).2
        have h2 := HSM.out
        have : s.ps.length = 0 + (cellsF 0 (cutG rows)).length := h1
        omega)
      have HL1 := Lib.hid (fun X (hb : Below w2.heap.size w2 X) => lay_good v2 _ hv2 _ _ X ((HR2.out.below hb).mono hb.size) (HE2.out.below hb) HSM.out hq s hst)
      have HL2 := Lib.hid (fun X (hb : Below w2.heap.size w2 X) => ref_lay_good v2 _ hv2 _ _ X ((HR2.out.below hb).mono hb.size) (HE2.out.below hb) HSM.out hq s hst)
      have HG1 := Lib.hid (fun X (hb : Below w2.heap.size w2 X) => right_is v2 _ hv2 _ _ X ((HR2.out.below hb).mono hb.size) (HE2.out.below hb) true (by simp [hq]))
      have HG2 := Lib.hid (fun X (hb : Below w2.heap.size w2 X) => refright_is v2 _ hv2 _ _ X ((HR2.out.below hb).mono hb.size) (HE2.out.below hb) true (by simp [hq]))
      clear HR2 HE2 HSM
      go_wp2_with (first
        | (go_at_call 12; refine (HL1.out _ (Below.refl _ _)).mono ?_; rintro e w3 ⟨v3, rfl, ho3, hb3⟩; have B3 := Lib.hid hb3; have P3 := Lib.hid (ho3.places HPL.out); obtain ⟨q3, c3, hv3⟩ := P3.out.form; rw [HPN.out] at hv3; subst hv3; clear hb3 HL1 ho3)
        | (go_at_call 13; refine (HL2.out _ B3.out).mono ?_; rintro e w4 ⟨v4, rfl, ho4, hb4⟩; have B4 := Lib.hid (B3.out.trans (hb4.mono B3.out.size)); have P4 := Lib.hid (ho4.places HPL.out); have P3' := Lib.hid (P3.out.below hb4); obtain ⟨q4, c4, hv4⟩ := P4.out.form; rw [HPN.out] at hv4; subst hv4; clear hb4 HL2 B3 P3 ho4)
        | (go_at_call 14; refine (HG1.out _ B4.out).mono ?_; rintro e w5 ⟨rfl, hb5⟩; have B5 := Lib.hid (B4.out.trans (hb5.mono B4.out.size)); have P35 := Lib.hid (P3'.out.below hb5); have P45 := Lib.hid (P4.out.below hb5); clear hb5 HG1 B4 P3' P4)
        | (go_at_call 15; refine (HG2.out _ B5.out).mono ?_; rintro e w6 ⟨rfl, hb6⟩; have B6 := Lib.hid (B5.out.trans (hb6.mono B5.out.size)); have P36 := Lib.hid (P35.out.below hb6); have P46 := Lib.hid (P45.out.below hb6); clear hb6 HG2 B5 P35 P45)
        | (go_at_call 16; refine (gsame_any _ _ _ _ _ P36.out P46.out).mono ?_; rintro e w7 ⟨rfl, hb7⟩; have B7 := Lib.hid (HB2.out.trans ((B6.out.trans (hb7.mono B6.out.size)).mono HB2.out.size)); clear hb7 B6 P36 P46))
      go_ret
      exact ⟨by simp, B7.out⟩
  · skip
    have HL1 := Lib.hid (fun X (hb : Below w2.heap.size w2 X) => lay_wrong v2 _ hv2 _ _ X ((HR2.out.below hb).mono hb.size) (HE2.out.below hb) HSM.out hq)
    have HL2 := Lib.hid (fun X (hb : Below w2.heap.size w2 X) => ref_lay_wrong v2 _ hv2 _ _ X ((HR2.out.below hb).mono hb.size) (HE2.out.below hb) HSM.out hq)
    have HG1 := Lib.hid (fun X (hb : Below w2.heap.size w2 X) => right_is v2 _ hv2 _ _ X ((HR2.out.below hb).mono hb.size) (HE2.out.below hb) false (by simp [hq]))
    have HG2 := Lib.hid (fun X (hb : Below w2.heap.size w2 X) => refright_is v2 _ hv2 _ _ X ((HR2.out.below hb).mono hb.size) (HE2.out.below hb) false (by simp [hq]))
    clear HR2 HE2 HSM
    go_wp2_with (first
      | (go_at_call 12; refine (HL1.out _ (Below.refl _ _)).mono ?_; rintro e w3 ⟨rfl, hb3⟩; have B3 := Lib.hid hb3; clear hb3 HL1)
      | (go_at_call 13; refine (HL2.out _ B3.out).mono ?_; rintro e w4 ⟨rfl, hb4⟩; have B4 := Lib.hid (B3.out.trans (hb4.mono B3.out.size)); clear hb4 HL2 B3)
      | (go_at_call 14; refine (HG1.out _ B4.out).mono ?_; rintro e w5 ⟨rfl, hb5⟩; have B5 := Lib.hid (B4.out.trans (hb5.mono B4.out.size)); clear hb5 HG1 B4)
      | (go_at_call 15; refine (HG2.out _ B5.out).mono ?_; rintro e w6 ⟨rfl, hb6⟩; have B6 := Lib.hid (B5.out.trans (hb6.mono B5.out.size)); clear hb6 HG2 B5)
      | (go_at_call 16; refine (gsame_any _ _ [] [] _ ⟨by simp, .inl ⟨none, 0, rfl, rfl⟩⟩ ⟨by simp, .inl ⟨none, 0, rfl, rfl⟩⟩).mono ?_; rintro e w7 ⟨rfl, hb7⟩; have B7 := Lib.hid (HB2.out.trans ((B6.out.trans (hb7.mono B6.out.size)).mono HB2.out.size)); clear hb7 B6))
    go_ret
    exact ⟨by simp, B7.out⟩
theorem walk (w : World) (a0 : Option Addr) (len0 cap0 : Nat) (z0 : (Nat → Value) × List (List Sp)) (h0 : RowsIn w.heap.size w (.slice a0 len0 cap0) z0.1 z0.2 ∧ z0.2.length = len0) (a1 : Option Addr) (len1 cap1 : Nat) (z1 : List Int) (h1 : Ints w (.slice a1 len1 cap1) z1 ∧ z1.length = len1 ∧ len1 ≤ cap1 ∧ cap1 ≤ maxLen) :
    Calls Try.prog 3 #[.slice a0 len0 cap0, .slice a1 len1 cap1] w fun e w' => e = .returned (.bool true) ∧ Below w.heap.size w w' := by
  obtain ⟨h2, h3, h4, h5⟩ := h1
  unfold maxLen at h5
  rcases Nat.lt_trichotomy len1 21 with hl | rfl | hl
  · exact lays_lt a0 len0 cap0 z0.1 z0.2 a1 len1 cap1 z1 w h0.1 h2 h3 h4 h5 hl
  · exact lays_eq a0 len0 cap0 z0.1 z0.2 a1 cap1 z1 w h0.1 h2 h3 h4 h5
  · exact lays_gt a0 len0 cap0 z0.1 z0.2 a1 len1 cap1 z1 w h0.1 h2 h3 h4 h5 hl

set_option maxRecDepth 100000 in
theorem lifted (os : Os) (started : os.Started) (H : Type) (enc : TypeId × Value → H) :
    ReturnsInHanded {} Try.checked os 3 .any (Rows.gridLaysSpec.pre6 enc Try.prog Try.f3 Rows.gridLaysRow.domain false) (Rows.gridLaysSpec.post enc Try.prog Try.f3 false true false false) := by
  refine returnsInHanded_of_change (C := Try.checked) own started (by kernel_rfl) Try.func3
    (ChangeSpec.witness6 (enc := enc) (C := Try.checked) false ⟨#[], #[.slice none 0 0, .slice none 0 0], []⟩ 8 (by kernel_rfl) (by kernel_rfl) (by kernel_rfl) (by kernel_rfl)) ?_
  intro W base args ds gs before hval0 hW hcnd _
  have hval : ∀ (j : Nat) t v, Try.f3.params[j]? = some t → args[j]? = some v → Value.okWide Try.prog W .any base t v := hval0
  have hW' := hW
  obtain ⟨p, q, hA0, hV, rfl, hfz, hnd⟩ := hW
  have hA : DataW.TrodAll enc Try.prog W 0 (fun _ => true) true Try.f3.params.toList args.toList ds p := hA0
  rw [Try.params3] at hA hval
  obtain ⟨v0, vs0, d0, ds0, p0, q0, hargs, rfl, rfl, h0, r0⟩ := trodAll_cons hA
  obtain ⟨v1, vs1, d1, ds1, p1, q1, rfl, rfl, rfl, h1, r1⟩ := trodAll_cons r0
  obtain ⟨rfl, rfl, rfl⟩ := trodAll_nil r1
  obtain rfl : args = #[v0, v1] := by cases args; simp_all
  obtain ⟨rfl, rfl⟩ := trodVars_none hV
  obtain ⟨a0, len0, cap0, rfl⟩ := okWide_slice Try.underlying22 (hval 0 22 v0 rfl rfl)
  have k0 := h0
  have lt0 : ∀ x ∈ p0, x.block < W.heap.size := by obtain ⟨m, hm⟩ := k0; exact DataW.trod_lt m _ _ _ hm
  obtain ⟨z0, w0⟩ : ∃ z : (Nat → Value) × List (List Sp), RowsIn W.heap.size W (.slice a0 len0 cap0) z.1 z.2 ∧ z.2.length = len0 := by
    obtain ⟨fuel, hf⟩ := h0
    exact open_rows (by simpa [Value.cells] using hf)
  obtain ⟨a1, len1, cap1, rfl⟩ := okWide_slice Try.underlying23 (hval 1 23 v1 rfl rfl)
  have k1 := h1
  have lt1 : ∀ x ∈ p1, x.block < W.heap.size := by obtain ⟨m, hm⟩ := k1; exact DataW.trod_lt m _ _ _ hm
  obtain ⟨z1, w1⟩ : ∃ zs, Ints W (.slice a1 len1 cap1) zs ∧ zs.length = len1 ∧ len1 ≤ cap1 ∧ cap1 ≤ maxLen := by
    obtain ⟨fuel, hf⟩ := h1
    exact open_intsG (by simpa [Value.cells] using hf)
  clear hA0 hval0
  simp only [List.append_nil] at hW'
  refine (walk W a0 len0 cap0 z0 w0 a1 len1 cap1 z1 w1).mono fun e W' ⟨he, hg⟩ => ?_
  subst he
  exact ⟨_, rfl, _, _, _, [], _, [], hW', (trodAll_cons_mk (shut_bool Try.underlying4 _) trodAll_mk0), (trodAll_cons_mk (Below.trod laidOut (by kernel_rfl) (of_decide_eq_true (by kernel_rfl)) k0 hg lt0) (trodAll_cons_mk (Below.trod laidOut (by kernel_rfl) (of_decide_eq_true (by kernel_rfl)) k1 hg lt1) trodAll_mk0)), rfl, hg.frame _, fun h => by cases h⟩

theorem over : Rows.gridLaysRow.holds Try.pinned (OpenSpec.ofChange Rows.gridLaysSpec) :=
  OpenClaim.holds_of_wide 3 Try.f3 rfl rfl rfl rfl rfl rfl rfl ⟨rfl, rfl, rfl, rfl, rfl⟩ rfl rfl rfl rfl rfl (by kernel_rfl) Try.func3 (by kernel_rfl)
    (of_decide_eq_true (by kernel_rfl)) (by unfold Func.isWrapper; first | (rw [if_pos (by decide +kernel)]; kernel_rfl) | (rw [if_neg (by decide +kernel)]; exact ⟨rfl, rfl⟩))
    (fun os started H enc _ => lifted os started H enc)

/-- the statement -/
theorem proved : Rows.GridLaysSaid :=
  over
#print axioms proved
end Go.Proofs.Ytihpaicbdfgfbaa.gridLays
