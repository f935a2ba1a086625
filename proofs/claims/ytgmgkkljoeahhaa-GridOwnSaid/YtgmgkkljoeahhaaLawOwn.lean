/- Each cell's place is of its cell, and no slot belongs to two. -/
import Derived.Test.YtgmgkkljoeahhaaRows
import Derived.WalkKit
import Derived.ProofKit
import Derived.OpenShut
import Derived.Below
import Derived.Test.YtgmgkkljoeahhaaGOwnAt
import Derived.ShutString
namespace Go.Proofs.Ytgmgkkljoeahhaa.gridOwn
open Go.ChangeShapes Go.WideShapes Go.ChangeAt Go.RowKit
set_option linter.unusedVariables false

theorem own : ownKnob Try.prog.godebug = none := by kernel_rfl
theorem laidOut : laidOutB Try.prog = true := by kernel_rfl

theorem cut_small (rows : List (List Sp)) : (cellsF 0 (cutG rows)).length ≤ 1000000 := by
  have key : ∀ (k : Nat) (l : List (List Sp)), (∀ r ∈ l, r.length ≤ 10) → (cellsF k l).length ≤ 10 * l.length := by
    intro k l
    induction l generalizing k with
    | nil => intro _; simp [cellsF]
    | cons r l ih =>
      intro h
      have h1 := h r (by simp)
      have h2 := ih (k + 1) (fun x hx => h x (by simp [hx]))
      simp only [cellsF, List.length_append, List.length_map, List.length_cons]
      omega
  have := key 0 (cutG rows) (fun r hr => by
    unfold cutG at hr
    obtain ⟨r0, _, rfl⟩ := List.mem_map.1 hr
    rw [List.length_map, List.length_take]; omega)
  have := cutG_len rows
  omega

theorem slots_go (q : Option Addr) (pl c m n : Nat) (L : List Pz) (X : World) (hl : L.length = pl) (hP : PsAt X (.slice q pl c) L) (hS : SizeQ m n) (hO : OwnQ m n L) :
    Calls Try.prog 14 #[.slice q pl c, .int .i64 (m : Int), .int .i64 (n : Int)] X fun e W' => ∃ q' l' c', e = .returned (.tuple #[.slice q' l' c', .int .i64 0]) ∧ Below X.heap.size X W' := by
  have hO1 := owners_ok q pl c m n L X hl hP hS (fun p hp => by
    have hpb := hO.1 p hp
    have h1 := hS.1
    have h2 := hS.2.1
    unfold placeB liesB at hpb
    simp at hpb
    unfold I64
    omega)
  refine (slots_ok (.slice q pl c) m n L X hS ⟨_, _, _, rfl⟩ (Lib.hid (hO1.mono ?_))).mono ?_
  · rintro e W' ⟨hb, ⟨h1, _⟩ | ⟨_, mb, _, rfl, h2⟩⟩
    · exact absurd hO h1
    · exact ⟨mb, rfl, h2, hb⟩
  · rintro e W' ⟨g, hs, rfl, _, _, _, _, hb⟩
    exact ⟨_, _, _, rfl, hb⟩
set_option maxRecDepth 100000 in
set_option maxHeartbeats 4000000 in
theorem own_lt (a0 : Option Addr) (len0 cap0 : Nat) (hv : Nat → Value) (rows : List (List Sp)) (a1 : Option Addr) (len1 : Nat) (cap1 : Nat) (zs : List Int) (w : World) (hR : RowsIn w.heap.size w (.slice a0 len0 cap0) hv rows) (hE : Ints w (.slice a1 len1 cap1) zs) (hz : zs.length = len1) (hlc : len1 ≤ cap1) (hcm : cap1 ≤ 9223372036854775807) (hl : len1 < 21) :
    Calls Try.prog 5 #[.slice a0 len0 cap0, .slice a1 len1 cap1] w fun e w' => e = .returned (.bool true) ∧ Below w.heap.size w w' := by
  have HR := Lib.hid hR
  have HE := Lib.hid (ints_take hE hz len1 (by omega))
  have HSM := Lib.hid (cut_small rows)
  clear hR hE hz
  go_enter Try.func5, Try.ntmps5
  go_wp2_with (first
    | (go_at_call 7; refine (shown7_any _).mono ?_; rintro e w1 ⟨rfl, hb1⟩; have HB1 := Lib.hid hb1; have HR1 := Lib.hid ((HR.out.below hb1).mono hb1.size); clear hb1 HR)
    | (go_at_call 17; refine (cutG_any _ hv rows _ HR1.out).mono ?_; rintro e w2 ⟨v2, hv2, rfl, hr2, hb2⟩; have HB2 := Lib.hid (HB1.out.trans (hb2.mono HB1.out.size)); have HR2 := Lib.hid hr2; have HE2 := Lib.hid (HE.out.below HB2.out); clear hb2 hr2 HB1 HR1 HE))
  obtain ⟨zk, hzk⟩ : ∃ zk, zs.take len1 = zk := ⟨_, rfl⟩
  rw [hzk] at HE2
  by_cases hq : RightQ (cutG rows) zk
  · obtain ⟨st, hst⟩ : ∃ st, layP (cutG rows) zk = st := ⟨_, rfl⟩
    cases st with
    | none =>
      have HL1 := Lib.hid (fun X (hb : Below w2.heap.size w2 X) => lay_full v2 _ hv2 _ _ X ((HR2.out.below hb).mono hb.size) (HE2.out.below hb) HSM.out hq hst)
      clear HR2 HE2 HSM
      go_wp2_with (go_at_call 18; refine (HL1.out _ (Below.refl _ _)).mono ?_; rintro e w3 ⟨rfl, hb3⟩; have B3 := Lib.hid (HB2.out.trans (hb3.mono HB2.out.size)); clear hb3 HL1)
      go_ret
      exact ⟨rfl, B3.out⟩
    | some s =>
      obtain ⟨rc, hrc⟩ : ∃ rc, cutG rows = rc := ⟨_, rfl⟩
      have hm20 : rc.length ≤ 20 := by rw [← hrc, cutG_len]; omega
      rw [hrc] at HR2 HSM hq hst
      clear hrc
      have hOQ := own_all hq hst
      have hfew := (runP_okay zk _ LS.zero s Okay.zero hst).1.few
      have hlen := (runP_okay zk _ LS.zero s Okay.zero hst).2
      have hz0 : LS.zero.ps.length = 0 := rfl
      have hsm := HSM.out
      obtain ⟨m, hm⟩ : ∃ m, rc.length = m := ⟨_, rfl⟩
      obtain ⟨q2, c2, hv2e⟩ := HR2.out.form
      rw [hm] at hv2e
      subst hv2e
      obtain ⟨pl, hpl⟩ : ∃ pl, s.ps.length = pl := ⟨_, rfl⟩
      obtain ⟨n, hn⟩ : ∃ n, s.t.length = n := ⟨_, rfl⟩
      have hpl2 : pl ≤ 1000000 := by omega
      have hSQ : SizeQ m n := ⟨by omega, by omega, by
        have h3 : ((m : Int) * (n : Int)) = ((m * n : Nat) : Int) := by simp
        have h4 : m * n ≤ 20 * 10000 := Nat.mul_le_mul (by omega) (by omega)
        omega⟩
      rw [hm, hn] at hOQ
      have HL1 := Lib.hid (lay_good _ _ hv2 _ _ w2 HR2.out HE2.out HSM.out hq s hst)
      rw [hn] at HL1
      rw [hm] at hm20
      have HSL := Lib.hid (fun X q3 c3 hP => slots_go q3 pl c3 m n (s.ps.map Pl.z) X (by rw [List.length_map]; exact hpl) hP hSQ hOQ)
      have HAT := Lib.hid (fun (i j : Nat) (row : List Sp) (x : Sp) hi hj => own_at (i := i) (j := j) (row := row) (x := x) hq hst hi hj)
      have HEN := Lib.hid (fun (i : Nat) (hi : i < m) => end_ok hq (show i < rc.length by rw [hm]; exact hi))
      have HWI : Hid (∀ p ∈ s.ps, p.c + p.w ≤ 10000) := Lib.hid fun p hp => by have := (run_fit _ _ _ Okay.zero (Fit7.zero zk) hst).wide p hp; omega
      have HALL : Hid ((cellsF 0 rc).length = pl) := Lib.hid (by omega)
      have HM := Lib.hid hm
      have HPN := Lib.hid hpl
      clear hm hpl hn hSQ hOQ hsm hlen hfew hz0 HSM hq hst
      go_wp2_with (first
        | (go_at_call 18; refine HL1.out.mono ?_; clear HL1; rintro e w3 ⟨v3, rfl, ho3, hb3⟩; have P3 := Lib.hid (ho3.places (by rw [HPN.out]; omega)); obtain ⟨q3, c3, hv3⟩ := P3.out.form; rw [List.length_map, HPN.out] at hv3; subst hv3; have B3 := Lib.hid hb3; clear hb3 ho3)
        | (go_at_call 14; refine (HSL.out _ _ _ P3.out).mono ?_; clear HSL; rintro e w4 ⟨q4, l4, c4, rfl, hb4⟩; have P4 := Lib.hid (P3.out.below hb4); have R4 := Lib.hid ((((HR2.out.below B3.out).mono B3.out.size).below hb4).mono hb4.size); have E4 := Lib.hid ((HE2.out.below B3.out).below hb4); have B4 := Lib.hid (HB2.out.trans ((B3.out.trans (hb4.mono B3.out.size)).mono HB2.out.size)); have s34 := hb4.size; clear hb4 P3 B3 HR2 HE2))
      go_loopw [12, 11] (fun s12 s11 x => ∃ i k : Nat, i ≤ m ∧ s12 = .int .i64 (i : Int) ∧ s11 = .int .i64 (k : Int) ∧ Hid (k = (cellsF 0 (rc.take i)).length) ∧ Hid (Below w4.heap.size w4 x)) (fun s12 _ _ => m - (intOf s12).toNat)
      case atStart => exact ⟨0, 0, Nat.zero_le _, rfl, rfl, Lib.hid (by simp [cellsF]), Lib.hid (Below.refl _ _)⟩
      case round =>
        obtain ⟨i, k, hi, rfl, rfl, HK, HX⟩ := hrel
        by_cases hlt : i < m
        · obtain ⟨row, hrow⟩ : ∃ row, rc[i]? = some row := ⟨_, List.getElem?_eq_getElem (by rw [HM.out]; exact hlt)⟩
          obtain ⟨rb, ro, rfl, rlt, rcell, hrowin⟩ := R4.out.at i row hrow
          have HRW := Lib.hid hrow
          have HRI := Lib.hid hrowin
          obtain ⟨rq, rcap, hvr⟩ := hrowin.form
          obtain ⟨rl, hrl⟩ : ∃ rl, row.length = rl := ⟨_, rfl⟩
          rw [hrl] at hvr
          have HVR := Lib.hid hvr
          have HRL := Lib.hid hrl
          have hrlm : rl ≤ 1000000 := by have := HALL.out; have h2 := cellsF_at rc 0 i row hrow; rw [h2] at this; simp at this; omega
          have HNX := Lib.hid (cells_next rc i row hrow)
          clear hrow hrowin hvr hrl
          go_wp2
          go_loopw [13, 11] (fun s13 s11 x => ∃ j k : Nat, j ≤ rl ∧ s13 = .int .i64 (j : Int) ∧ s11 = .int .i64 (k : Int) ∧ Hid (k = (cellsF 0 (rc.take i)).length + j) ∧ Hid (Below w4.heap.size w4 x)) (fun s13 _ _ => rl - (intOf s13).toNat)
          case atStart => exact ⟨0, k, Nat.zero_le _, rfl, rfl, Lib.hid (by rw [HK.out]; rfl), HX⟩
          case round =>
            clear HK HX
            obtain ⟨j, k, hj, rfl, rfl, HK, HX⟩ := hrel
            have rc1 : wr.cell? ⟨rb, ro + i, none⟩ = some (.slice rq rl rcap) := by rw [← HVR.out]; exact (HX.out.cell (p := ⟨rb, ro + i, none⟩) rlt).trans rcell
            have rlt1 : rb < wr.heap.size := Nat.lt_of_lt_of_le rlt HX.out.size
            by_cases hlj : j < rl
            · obtain ⟨x, hx⟩ : ∃ x, row[j]? = some x := ⟨_, List.getElem?_eq_getElem (by rw [HRL.out]; exact hlj)⟩
              have hri := HRI.out
              rw [HVR.out] at hri
              obtain ⟨xb, xo, hxq, xlt, xn, xc, xr⟩ := hri.at j x hx
              subst hxq
              obtain ⟨p, hp, hof, hprev⟩ := HAT.out i j row x HRW.out hx
              rw [← HK.out] at hp hprev
              have hkl : k < pl := by have := (List.getElem?_eq_some_iff.1 hp).1; rw [HPN.out] at this; exact this
              obtain ⟨pb, po, hq3, plt, p0, p1, p2, p3, p4⟩ := P4.out.at k p.z (by rw [List.getElem?_map, hp]; rfl)
              obtain ⟨e1, e2, e3⟩ := HEN.out i hlt
              obtain ⟨en, hen⟩ : ∃ en, endP zk i = en := ⟨_, rfl⟩
              rw [hen] at e1 e2 e3
              have hoe := hof.end_
              rw [hen] at hoe
              have HE5 := E4.out
              obtain ⟨_, ⟨_, _, _, hnil⟩ | ⟨eb, eo, ec, he1, hce⟩⟩ := HE5
              · rw [hnil] at e3; simp at e3
              injection he1 with he1 he2 he3
              have hil : i < zk.length := (List.getElem?_eq_some_iff.1 e3).1
              have ecell := hce i (List.getElem?_eq_some_iff.1 e3).1
              rw [e3] at ecell
              simp only [Option.getD_some] at ecell
              have elt := cell_lt ecell
              dsimp only at elt
              obtain ⟨xn0, xc0, xr0⟩ := x
              obtain ⟨pn, pr, pc, ph, pw⟩ := p
              obtain ⟨h1, h2, h3, h4, h5, _⟩ := hof
              have h1a : pn = xn0 := h1
              have h2a : i = pr := h2.symm
              clear h1 h2
              dsimp only [Pl.z] at *
              subst h1a h2a
              have hrm := HM.out
              have hb1 : ph ≤ 20 := by omega
              have hb2 : en ≤ 20 := by omega
              clear hrm
              have hb3 := HWI.out _ (List.mem_iff_getElem?.2 ⟨k, hp⟩)
              dsimp only at hb3
              subst hq3 he1
              have lb := HX.out.size
              have plt1 : pb < wr.heap.size := by omega
              have elt1 : eb < wr.heap.size := by omega
              have xlt1 : xb < wr.heap.size := by omega
              have y0 := (HX.out.cell (p := ⟨pb, po + k * 5, none⟩) plt).trans p0
              have y1 := (HX.out.cell (p := ⟨pb, po + k * 5 + 1, none⟩) plt).trans p1
              have y2 := (HX.out.cell (p := ⟨pb, po + k * 5 + 2, none⟩) plt).trans p2
              have y3 := (HX.out.cell (p := ⟨pb, po + k * 5 + 3, none⟩) plt).trans p3
              have y4 := (HX.out.cell (p := ⟨pb, po + k * 5 + 4, none⟩) plt).trans p4
              have z0 := (HX.out.cell (p := ⟨xb, xo + j * 3, none⟩) xlt).trans xn
              have z1 := (HX.out.cell (p := ⟨xb, xo + j * 3 + 1, none⟩) xlt).trans xc
              have z2 := (HX.out.cell (p := ⟨eb, eo + i, none⟩) elt).trans ecell
              have g3 : decide ((ph : Int) < 1) = false := by simp; omega
              have g4 : decide ((pw : Int) < 1) = false := by simp; omega
              have g5 : decide (xc0 < (pw : Int)) = false := by simp; omega
              have g6 : decide ((en : Int) < (i : Int) + (ph : Int)) = false := by simp; omega
              have g6' : decide (en < i + ph) = false := by simp; omega
              have g3' : decide (ph = 0) = false := by simp; omega
              have g4' : decide (pw = 0) = false := by simp; omega
              have HPR := Lib.hid hprev
              have HKJ : Hid (j ≤ k) := Lib.hid (by have := HK.out; omega)
              clear p0 p1 p2 p3 p4 xn xc xr ecell hp hx hprev hce e3 h3 h4 h5 hoe
              (try rw [← he2] at hil)
              clear he2
              subst he3
              by_cases hj0 : j = 0
              · have g7 : decide (0 < (j : Int)) = false := by simp; omega
                have g7n : decide (0 < j) = false := by simp; omega
                have g7' : decide ((j : Int) > 0) = false := by simp; omega
                have HJ0 := Lib.hid hj0
                clear hj0 HPR
                go_wp2
                try simp only [List.append_eq, List.cons_append, List.nil_append]
                go_quiet (fail)
                go_wp2
                go_roundw
                case rel => exact ⟨j + 1, k + 1, by omega, by go_num, by go_num, Lib.hid (by have := HK.out; omega), Lib.hid ((HX.out.alloc HX.out.size _).trans (below_dn _ _ _))⟩
                case measure => simp [intOf]; omega
              · obtain ⟨kk, rfl⟩ : ∃ kk, k = kk + 1 := ⟨k - 1, by have := HKJ.out; omega⟩
                obtain ⟨q, hq, hle⟩ := HPR.out (by omega)
                obtain ⟨pb2, po2, hpe, _, _, _, x2, _, x4⟩ := P4.out.at kk q.z (by rw [List.getElem?_map]; rw [show kk + 1 - 1 = kk by omega] at hq; rw [hq]; rfl)
                injection hpe with hpe
                injection hpe with hpe1 hpe2
                subst hpe1 hpe2
                obtain ⟨qn, qr, qc, qh, qw⟩ := q
                dsimp only [Pl.z] at *
                have u2 := (HX.out.cell (p := ⟨pb, po + kk * 5 + 2, none⟩) plt).trans x2
                have u4 := (HX.out.cell (p := ⟨pb, po + kk * 5 + 4, none⟩) plt).trans x4
                have g7 : decide (0 < (j : Int)) = true := by simp; omega
                have g8 : decide ((pc : Int) < (qc : Int) + (qw : Int)) = false := by simp; omega
                have g8' : decide (pc < qc + qw) = false := by simp; omega
                have g7' : decide (0 < j) = true := by simp; omega
                have hb4 : qc + qw ≤ 10000 := by omega
                clear hj0 HPR x2 x4 hq
                go_wp2
                try simp only [List.append_eq, List.cons_append, List.nil_append]
                go_quiet (fail)
                go_wp2
                go_roundw
                case rel => exact ⟨j + 1, kk + 1 + 1, by omega, by go_num, by go_num, Lib.hid (by have := HK.out; omega), Lib.hid ((HX.out.alloc HX.out.size _).trans (below_dn _ _ _))⟩
                case measure => simp [intOf]; omega
            · have hjr : j = rl := by omega
              have HK2 : Hid (k = (cellsF 0 (rc.take (i + 1))).length) := Lib.hid (by rw [HNX.out, HRL.out, HK.out, hjr])
              clear hjr HK
              go_wp2
              go_roundw
              case rel => exact ⟨i + 1, k, by omega, by go_num, rfl, HK2, HX⟩
              case measure => simp [intOf]; omega
        · have hkp : k = pl := by
            rw [HK.out, List.take_of_length_le (by rw [HM.out]; omega)]
            exact HALL.out
          have HF := Lib.hid (B4.out.trans (HX.out.mono B4.out.size))
          clear HK HX
          subst hkp
          go_wp2
          go_ret
          exact ⟨by simp, HF.out⟩
  · have HL1 := Lib.hid (fun X (hb : Below w2.heap.size w2 X) => lay_wrong v2 _ hv2 _ _ X ((HR2.out.below hb).mono hb.size) (HE2.out.below hb) HSM.out hq)
    clear HR2 HE2 HSM
    go_wp2_with (go_at_call 18; refine (HL1.out _ (Below.refl _ _)).mono ?_; rintro e w3 ⟨rfl, hb3⟩; have B3 := Lib.hid (HB2.out.trans (hb3.mono HB2.out.size)); clear hb3 HL1)
    go_ret
    exact ⟨rfl, B3.out⟩
set_option maxRecDepth 100000 in
set_option maxHeartbeats 4000000 in
theorem own_eq (a0 : Option Addr) (len0 cap0 : Nat) (hv : Nat → Value) (rows : List (List Sp)) (a1 : Option Addr) (cap1 : Nat) (zs : List Int) (w : World) (hR : RowsIn w.heap.size w (.slice a0 len0 cap0) hv rows) (hE : Ints w (.slice a1 21 cap1) zs) (hz : zs.length = 21) (hlc : 21 ≤ cap1) (hcm : cap1 ≤ 9223372036854775807) :
    Calls Try.prog 5 #[.slice a0 len0 cap0, .slice a1 21 cap1] w fun e w' => e = .returned (.bool true) ∧ Below w.heap.size w w' := by
  have HR := Lib.hid hR
  have HE := Lib.hid (ints_take hE hz 21 (by omega))
  have HSM := Lib.hid (cut_small rows)
  clear hR hE hz
  go_enter Try.func5, Try.ntmps5
  go_wp2_with (first
    | (go_at_call 7; refine (shown7_any _).mono ?_; rintro e w1 ⟨rfl, hb1⟩; have HB1 := Lib.hid hb1; have HR1 := Lib.hid ((HR.out.below hb1).mono hb1.size); clear hb1 HR)
    | (go_at_call 17; refine (cutG_any _ hv rows _ HR1.out).mono ?_; rintro e w2 ⟨v2, hv2, rfl, hr2, hb2⟩; have HB2 := Lib.hid (HB1.out.trans (hb2.mono HB1.out.size)); have HR2 := Lib.hid hr2; have HE2 := Lib.hid (HE.out.below HB2.out); clear hb2 hr2 HB1 HR1 HE))
  obtain ⟨zk, hzk⟩ : ∃ zk, zs.take 21 = zk := ⟨_, rfl⟩
  rw [hzk] at HE2
  by_cases hq : RightQ (cutG rows) zk
  · obtain ⟨st, hst⟩ : ∃ st, layP (cutG rows) zk = st := ⟨_, rfl⟩
    cases st with
    | none =>
      have HL1 := Lib.hid (fun X (hb : Below w2.heap.size w2 X) => lay_full v2 _ hv2 _ _ X ((HR2.out.below hb).mono hb.size) (HE2.out.below hb) HSM.out hq hst)
      clear HR2 HE2 HSM
      go_wp2_with (go_at_call 18; refine (HL1.out _ (Below.refl _ _)).mono ?_; rintro e w3 ⟨rfl, hb3⟩; have B3 := Lib.hid (HB2.out.trans (hb3.mono HB2.out.size)); clear hb3 HL1)
      go_ret
      exact ⟨rfl, B3.out⟩
    | some s =>
      obtain ⟨rc, hrc⟩ : ∃ rc, cutG rows = rc := ⟨_, rfl⟩
      have hm20 : rc.length ≤ 20 := by rw [← hrc, cutG_len]; omega
      rw [hrc] at HR2 HSM hq hst
      clear hrc
      have hOQ := own_all hq hst
      have hfew := (runP_okay zk _ LS.zero s Okay.zero hst).1.few
      have hlen := (runP_okay zk _ LS.zero s Okay.zero hst).2
      have hz0 : LS.zero.ps.length = 0 := rfl
      have hsm := HSM.out
      obtain ⟨m, hm⟩ : ∃ m, rc.length = m := ⟨_, rfl⟩
      obtain ⟨q2, c2, hv2e⟩ := HR2.out.form
      rw [hm] at hv2e
      subst hv2e
      obtain ⟨pl, hpl⟩ : ∃ pl, s.ps.length = pl := ⟨_, rfl⟩
      obtain ⟨n, hn⟩ : ∃ n, s.t.length = n := ⟨_, rfl⟩
      have hpl2 : pl ≤ 1000000 := by omega
      have hSQ : SizeQ m n := ⟨by omega, by omega, by
        have h3 : ((m : Int) * (n : Int)) = ((m * n : Nat) : Int) := by simp
        have h4 : m * n ≤ 20 * 10000 := Nat.mul_le_mul (by omega) (by omega)
        omega⟩
      rw [hm, hn] at hOQ
      have HL1 := Lib.hid (lay_good _ _ hv2 _ _ w2 HR2.out HE2.out HSM.out hq s hst)
      rw [hn] at HL1
      rw [hm] at hm20
      have HSL := Lib.hid (fun X q3 c3 hP => slots_go q3 pl c3 m n (s.ps.map Pl.z) X (by rw [List.length_map]; exact hpl) hP hSQ hOQ)
      have HAT := Lib.hid (fun (i j : Nat) (row : List Sp) (x : Sp) hi hj => own_at (i := i) (j := j) (row := row) (x := x) hq hst hi hj)
      have HEN := Lib.hid (fun (i : Nat) (hi : i < m) => end_ok hq (show i < rc.length by rw [hm]; exact hi))
      have HWI : Hid (∀ p ∈ s.ps, p.c + p.w ≤ 10000) := Lib.hid fun p hp => by have := (run_fit _ _ _ Okay.zero (Fit7.zero zk) hst).wide p hp; omega
      have HALL : Hid ((cellsF 0 rc).length = pl) := Lib.hid (by omega)
      have HM := Lib.hid hm
      have HPN := Lib.hid hpl
      clear hm hpl hn hSQ hOQ hsm hlen hfew hz0 HSM hq hst
      go_wp2_with (first
        | (go_at_call 18; refine HL1.out.mono ?_; clear HL1; rintro e w3 ⟨v3, rfl, ho3, hb3⟩; have P3 := Lib.hid (ho3.places (by rw [HPN.out]; omega)); obtain ⟨q3, c3, hv3⟩ := P3.out.form; rw [List.length_map, HPN.out] at hv3; subst hv3; have B3 := Lib.hid hb3; clear hb3 ho3)
        | (go_at_call 14; refine (HSL.out _ _ _ P3.out).mono ?_; clear HSL; rintro e w4 ⟨q4, l4, c4, rfl, hb4⟩; have P4 := Lib.hid (P3.out.below hb4); have R4 := Lib.hid ((((HR2.out.below B3.out).mono B3.out.size).below hb4).mono hb4.size); have E4 := Lib.hid ((HE2.out.below B3.out).below hb4); have B4 := Lib.hid (HB2.out.trans ((B3.out.trans (hb4.mono B3.out.size)).mono HB2.out.size)); have s34 := hb4.size; clear hb4 P3 B3 HR2 HE2))
      go_loopw [12, 11] (fun s12 s11 x => ∃ i k : Nat, i ≤ m ∧ s12 = .int .i64 (i : Int) ∧ s11 = .int .i64 (k : Int) ∧ Hid (k = (cellsF 0 (rc.take i)).length) ∧ Hid (Below w4.heap.size w4 x)) (fun s12 _ _ => m - (intOf s12).toNat)
      case atStart => exact ⟨0, 0, Nat.zero_le _, rfl, rfl, Lib.hid (by simp [cellsF]), Lib.hid (Below.refl _ _)⟩
      case round =>
        obtain ⟨i, k, hi, rfl, rfl, HK, HX⟩ := hrel
        by_cases hlt : i < m
        · obtain ⟨row, hrow⟩ : ∃ row, rc[i]? = some row := ⟨_, List.getElem?_eq_getElem (by rw [HM.out]; exact hlt)⟩
          obtain ⟨rb, ro, rfl, rlt, rcell, hrowin⟩ := R4.out.at i row hrow
          have HRW := Lib.hid hrow
          have HRI := Lib.hid hrowin
          obtain ⟨rq, rcap, hvr⟩ := hrowin.form
          obtain ⟨rl, hrl⟩ : ∃ rl, row.length = rl := ⟨_, rfl⟩
          rw [hrl] at hvr
          have HVR := Lib.hid hvr
          have HRL := Lib.hid hrl
          have hrlm : rl ≤ 1000000 := by have := HALL.out; have h2 := cellsF_at rc 0 i row hrow; rw [h2] at this; simp at this; omega
          have HNX := Lib.hid (cells_next rc i row hrow)
          clear hrow hrowin hvr hrl
          go_wp2
          go_loopw [13, 11] (fun s13 s11 x => ∃ j k : Nat, j ≤ rl ∧ s13 = .int .i64 (j : Int) ∧ s11 = .int .i64 (k : Int) ∧ Hid (k = (cellsF 0 (rc.take i)).length + j) ∧ Hid (Below w4.heap.size w4 x)) (fun s13 _ _ => rl - (intOf s13).toNat)
          case atStart => exact ⟨0, k, Nat.zero_le _, rfl, rfl, Lib.hid (by rw [HK.out]; rfl), HX⟩
          case round =>
            clear HK HX
            obtain ⟨j, k, hj, rfl, rfl, HK, HX⟩ := hrel
            have rc1 : wr.cell? ⟨rb, ro + i, none⟩ = some (.slice rq rl rcap) := by rw [← HVR.out]; exact (HX.out.cell (p := ⟨rb, ro + i, none⟩) rlt).trans rcell
            have rlt1 : rb < wr.heap.size := Nat.lt_of_lt_of_le rlt HX.out.size
            by_cases hlj : j < rl
            · obtain ⟨x, hx⟩ : ∃ x, row[j]? = some x := ⟨_, List.getElem?_eq_getElem (by rw [HRL.out]; exact hlj)⟩
              have hri := HRI.out
              rw [HVR.out] at hri
              obtain ⟨xb, xo, hxq, xlt, xn, xc, xr⟩ := hri.at j x hx
              subst hxq
              obtain ⟨p, hp, hof, hprev⟩ := HAT.out i j row x HRW.out hx
              rw [← HK.out] at hp hprev
              have hkl : k < pl := by have := (List.getElem?_eq_some_iff.1 hp).1; rw [HPN.out] at this; exact this
              obtain ⟨pb, po, hq3, plt, p0, p1, p2, p3, p4⟩ := P4.out.at k p.z (by rw [List.getElem?_map, hp]; rfl)
              obtain ⟨e1, e2, e3⟩ := HEN.out i hlt
              obtain ⟨en, hen⟩ : ∃ en, endP zk i = en := ⟨_, rfl⟩
              rw [hen] at e1 e2 e3
              have hoe := hof.end_
              rw [hen] at hoe
              have HE5 := E4.out
              obtain ⟨_, ⟨_, _, _, hnil⟩ | ⟨eb, eo, ec, he1, hce⟩⟩ := HE5
              · rw [hnil] at e3; simp at e3
              injection he1 with he1 he2 he3
              have hil : i < zk.length := (List.getElem?_eq_some_iff.1 e3).1
              have ecell := hce i (List.getElem?_eq_some_iff.1 e3).1
              rw [e3] at ecell
              simp only [Option.getD_some] at ecell
              have elt := cell_lt ecell
              dsimp only at elt
              obtain ⟨xn0, xc0, xr0⟩ := x
              obtain ⟨pn, pr, pc, ph, pw⟩ := p
              obtain ⟨h1, h2, h3, h4, h5, _⟩ := hof
              have h1a : pn = xn0 := h1
              have h2a : i = pr := h2.symm
              clear h1 h2
              dsimp only [Pl.z] at *
              subst h1a h2a
              have hrm := HM.out
              have hb1 : ph ≤ 20 := by omega
              have hb2 : en ≤ 20 := by omega
              clear hrm
              have hb3 := HWI.out _ (List.mem_iff_getElem?.2 ⟨k, hp⟩)
              dsimp only at hb3
              subst hq3 he1
              have lb := HX.out.size
              have plt1 : pb < wr.heap.size := by omega
              have elt1 : eb < wr.heap.size := by omega
              have xlt1 : xb < wr.heap.size := by omega
              have y0 := (HX.out.cell (p := ⟨pb, po + k * 5, none⟩) plt).trans p0
              have y1 := (HX.out.cell (p := ⟨pb, po + k * 5 + 1, none⟩) plt).trans p1
              have y2 := (HX.out.cell (p := ⟨pb, po + k * 5 + 2, none⟩) plt).trans p2
              have y3 := (HX.out.cell (p := ⟨pb, po + k * 5 + 3, none⟩) plt).trans p3
              have y4 := (HX.out.cell (p := ⟨pb, po + k * 5 + 4, none⟩) plt).trans p4
              have z0 := (HX.out.cell (p := ⟨xb, xo + j * 3, none⟩) xlt).trans xn
              have z1 := (HX.out.cell (p := ⟨xb, xo + j * 3 + 1, none⟩) xlt).trans xc
              have z2 := (HX.out.cell (p := ⟨eb, eo + i, none⟩) elt).trans ecell
              have g3 : decide ((ph : Int) < 1) = false := by simp; omega
              have g4 : decide ((pw : Int) < 1) = false := by simp; omega
              have g5 : decide (xc0 < (pw : Int)) = false := by simp; omega
              have g6 : decide ((en : Int) < (i : Int) + (ph : Int)) = false := by simp; omega
              have g6' : decide (en < i + ph) = false := by simp; omega
              have g3' : decide (ph = 0) = false := by simp; omega
              have g4' : decide (pw = 0) = false := by simp; omega
              have HPR := Lib.hid hprev
              have HKJ : Hid (j ≤ k) := Lib.hid (by have := HK.out; omega)
              clear p0 p1 p2 p3 p4 xn xc xr ecell hp hx hprev hce e3 h3 h4 h5 hoe
              (try rw [← he2] at hil)
              clear he2
              subst he3
              by_cases hj0 : j = 0
              · have g7 : decide (0 < (j : Int)) = false := by simp; omega
                have g7n : decide (0 < j) = false := by simp; omega
                have g7' : decide ((j : Int) > 0) = false := by simp; omega
                have HJ0 := Lib.hid hj0
                clear hj0 HPR
                go_wp2
                try simp only [List.append_eq, List.cons_append, List.nil_append]
                go_quiet (fail)
                go_wp2
                go_roundw
                case rel => exact ⟨j + 1, k + 1, by omega, by go_num, by go_num, Lib.hid (by have := HK.out; omega), Lib.hid ((HX.out.alloc HX.out.size _).trans (below_dn _ _ _))⟩
                case measure => simp [intOf]; omega
              · obtain ⟨kk, rfl⟩ : ∃ kk, k = kk + 1 := ⟨k - 1, by have := HKJ.out; omega⟩
                obtain ⟨q, hq, hle⟩ := HPR.out (by omega)
                obtain ⟨pb2, po2, hpe, _, _, _, x2, _, x4⟩ := P4.out.at kk q.z (by rw [List.getElem?_map]; rw [show kk + 1 - 1 = kk by omega] at hq; rw [hq]; rfl)
                injection hpe with hpe
                injection hpe with hpe1 hpe2
                subst hpe1 hpe2
                obtain ⟨qn, qr, qc, qh, qw⟩ := q
                dsimp only [Pl.z] at *
                have u2 := (HX.out.cell (p := ⟨pb, po + kk * 5 + 2, none⟩) plt).trans x2
                have u4 := (HX.out.cell (p := ⟨pb, po + kk * 5 + 4, none⟩) plt).trans x4
                have g7 : decide (0 < (j : Int)) = true := by simp; omega
                have g8 : decide ((pc : Int) < (qc : Int) + (qw : Int)) = false := by simp; omega
                have g8' : decide (pc < qc + qw) = false := by simp; omega
                have g7' : decide (0 < j) = true := by simp; omega
                have hb4 : qc + qw ≤ 10000 := by omega
                clear hj0 HPR x2 x4 hq
                go_wp2
                try simp only [List.append_eq, List.cons_append, List.nil_append]
                go_quiet (fail)
                go_wp2
                go_roundw
                case rel => exact ⟨j + 1, kk + 1 + 1, by omega, by go_num, by go_num, Lib.hid (by have := HK.out; omega), Lib.hid ((HX.out.alloc HX.out.size _).trans (below_dn _ _ _))⟩
                case measure => simp [intOf]; omega
            · have hjr : j = rl := by omega
              have HK2 : Hid (k = (cellsF 0 (rc.take (i + 1))).length) := Lib.hid (by rw [HNX.out, HRL.out, HK.out, hjr])
              clear hjr HK
              go_wp2
              go_roundw
              case rel => exact ⟨i + 1, k, by omega, by go_num, rfl, HK2, HX⟩
              case measure => simp [intOf]; omega
        · have hkp : k = pl := by
            rw [HK.out, List.take_of_length_le (by rw [HM.out]; omega)]
            exact HALL.out
          have HF := Lib.hid (B4.out.trans (HX.out.mono B4.out.size))
          clear HK HX
          subst hkp
          go_wp2
          go_ret
          exact ⟨by simp, HF.out⟩
  · have HL1 := Lib.hid (fun X (hb : Below w2.heap.size w2 X) => lay_wrong v2 _ hv2 _ _ X ((HR2.out.below hb).mono hb.size) (HE2.out.below hb) HSM.out hq)
    clear HR2 HE2 HSM
    go_wp2_with (go_at_call 18; refine (HL1.out _ (Below.refl _ _)).mono ?_; rintro e w3 ⟨rfl, hb3⟩; have B3 := Lib.hid (HB2.out.trans (hb3.mono HB2.out.size)); clear hb3 HL1)
    go_ret
    exact ⟨rfl, B3.out⟩
set_option maxRecDepth 100000 in
set_option maxHeartbeats 4000000 in
theorem own_gt (a0 : Option Addr) (len0 cap0 : Nat) (hv : Nat → Value) (rows : List (List Sp)) (a1 : Option Addr) (len1 : Nat) (cap1 : Nat) (zs : List Int) (w : World) (hR : RowsIn w.heap.size w (.slice a0 len0 cap0) hv rows) (hE : Ints w (.slice a1 len1 cap1) zs) (hz : zs.length = len1) (hlc : len1 ≤ cap1) (hcm : cap1 ≤ 9223372036854775807) (hl : 21 < len1) :
    Calls Try.prog 5 #[.slice a0 len0 cap0, .slice a1 len1 cap1] w fun e w' => e = .returned (.bool true) ∧ Below w.heap.size w w' := by
  have HR := Lib.hid hR
  have HE := Lib.hid (ints_take hE hz 21 (by omega))
  have HSM := Lib.hid (cut_small rows)
  clear hR hE hz
  go_enter Try.func5, Try.ntmps5
  go_wp2_with (first
    | (go_at_call 7; refine (shown7_any _).mono ?_; rintro e w1 ⟨rfl, hb1⟩; have HB1 := Lib.hid hb1; have HR1 := Lib.hid ((HR.out.below hb1).mono hb1.size); clear hb1 HR)
    | (go_at_call 17; refine (cutG_any _ hv rows _ HR1.out).mono ?_; rintro e w2 ⟨v2, hv2, rfl, hr2, hb2⟩; have HB2 := Lib.hid (HB1.out.trans (hb2.mono HB1.out.size)); have HR2 := Lib.hid hr2; have HE2 := Lib.hid (HE.out.below HB2.out); clear hb2 hr2 HB1 HR1 HE))
  obtain ⟨zk, hzk⟩ : ∃ zk, zs.take 21 = zk := ⟨_, rfl⟩
  rw [hzk] at HE2
  by_cases hq : RightQ (cutG rows) zk
  · obtain ⟨st, hst⟩ : ∃ st, layP (cutG rows) zk = st := ⟨_, rfl⟩
    cases st with
    | none =>
      have HL1 := Lib.hid (fun X (hb : Below w2.heap.size w2 X) => lay_full v2 _ hv2 _ _ X ((HR2.out.below hb).mono hb.size) (HE2.out.below hb) HSM.out hq hst)
      clear HR2 HE2 HSM
      go_wp2_with (go_at_call 18; refine (HL1.out _ (Below.refl _ _)).mono ?_; rintro e w3 ⟨rfl, hb3⟩; have B3 := Lib.hid (HB2.out.trans (hb3.mono HB2.out.size)); clear hb3 HL1)
      go_ret
      exact ⟨rfl, B3.out⟩
    | some s =>
      obtain ⟨rc, hrc⟩ : ∃ rc, cutG rows = rc := ⟨_, rfl⟩
      have hm20 : rc.length ≤ 20 := by rw [← hrc, cutG_len]; omega
      rw [hrc] at HR2 HSM hq hst
      clear hrc
      have hOQ := own_all hq hst
      have hfew := (runP_okay zk _ LS.zero s Okay.zero hst).1.few
      have hlen := (runP_okay zk _ LS.zero s Okay.zero hst).2
      have hz0 : LS.zero.ps.length = 0 := rfl
      have hsm := HSM.out
      obtain ⟨m, hm⟩ : ∃ m, rc.length = m := ⟨_, rfl⟩
      obtain ⟨q2, c2, hv2e⟩ := HR2.out.form
      rw [hm] at hv2e
      subst hv2e
      obtain ⟨pl, hpl⟩ : ∃ pl, s.ps.length = pl := ⟨_, rfl⟩
      obtain ⟨n, hn⟩ : ∃ n, s.t.length = n := ⟨_, rfl⟩
      have hpl2 : pl ≤ 1000000 := by omega
      have hSQ : SizeQ m n := ⟨by omega, by omega, by
        have h3 : ((m : Int) * (n : Int)) = ((m * n : Nat) : Int) := by simp
        have h4 : m * n ≤ 20 * 10000 := Nat.mul_le_mul (by omega) (by omega)
        omega⟩
      rw [hm, hn] at hOQ
      have HL1 := Lib.hid (lay_good _ _ hv2 _ _ w2 HR2.out HE2.out HSM.out hq s hst)
      rw [hn] at HL1
      rw [hm] at hm20
      have HSL := Lib.hid (fun X q3 c3 hP => slots_go q3 pl c3 m n (s.ps.map Pl.z) X (by rw [List.length_map]; exact hpl) hP hSQ hOQ)
      have HAT := Lib.hid (fun (i j : Nat) (row : List Sp) (x : Sp) hi hj => own_at (i := i) (j := j) (row := row) (x := x) hq hst hi hj)
      have HEN := Lib.hid (fun (i : Nat) (hi : i < m) => end_ok hq (show i < rc.length by rw [hm]; exact hi))
      have HWI : Hid (∀ p ∈ s.ps, p.c + p.w ≤ 10000) := Lib.hid fun p hp => by have := (run_fit _ _ _ Okay.zero (Fit7.zero zk) hst).wide p hp; omega
      have HALL : Hid ((cellsF 0 rc).length = pl) := Lib.hid (by omega)
      have HM := Lib.hid hm
      have HPN := Lib.hid hpl
      clear hm hpl hn hSQ hOQ hsm hlen hfew hz0 HSM hq hst
      go_wp2_with (first
        | (go_at_call 18; refine HL1.out.mono ?_; clear HL1; rintro e w3 ⟨v3, rfl, ho3, hb3⟩; have P3 := Lib.hid (ho3.places (by rw [HPN.out]; omega)); obtain ⟨q3, c3, hv3⟩ := P3.out.form; rw [List.length_map, HPN.out] at hv3; subst hv3; have B3 := Lib.hid hb3; clear hb3 ho3)
        | (go_at_call 14; refine (HSL.out _ _ _ P3.out).mono ?_; clear HSL; rintro e w4 ⟨q4, l4, c4, rfl, hb4⟩; have P4 := Lib.hid (P3.out.below hb4); have R4 := Lib.hid ((((HR2.out.below B3.out).mono B3.out.size).below hb4).mono hb4.size); have E4 := Lib.hid ((HE2.out.below B3.out).below hb4); have B4 := Lib.hid (HB2.out.trans ((B3.out.trans (hb4.mono B3.out.size)).mono HB2.out.size)); have s34 := hb4.size; clear hb4 P3 B3 HR2 HE2))
      go_loopw [12, 11] (fun s12 s11 x => ∃ i k : Nat, i ≤ m ∧ s12 = .int .i64 (i : Int) ∧ s11 = .int .i64 (k : Int) ∧ Hid (k = (cellsF 0 (rc.take i)).length) ∧ Hid (Below w4.heap.size w4 x)) (fun s12 _ _ => m - (intOf s12).toNat)
      case atStart => exact ⟨0, 0, Nat.zero_le _, rfl, rfl, Lib.hid (by simp [cellsF]), Lib.hid (Below.refl _ _)⟩
      case round =>
        obtain ⟨i, k, hi, rfl, rfl, HK, HX⟩ := hrel
        by_cases hlt : i < m
        · obtain ⟨row, hrow⟩ : ∃ row, rc[i]? = some row := ⟨_, List.getElem?_eq_getElem (by rw [HM.out]; exact hlt)⟩
          obtain ⟨rb, ro, rfl, rlt, rcell, hrowin⟩ := R4.out.at i row hrow
          have HRW := Lib.hid hrow
          have HRI := Lib.hid hrowin
          obtain ⟨rq, rcap, hvr⟩ := hrowin.form
          obtain ⟨rl, hrl⟩ : ∃ rl, row.length = rl := ⟨_, rfl⟩
          rw [hrl] at hvr
          have HVR := Lib.hid hvr
          have HRL := Lib.hid hrl
          have hrlm : rl ≤ 1000000 := by have := HALL.out; have h2 := cellsF_at rc 0 i row hrow; rw [h2] at this; simp at this; omega
          have HNX := Lib.hid (cells_next rc i row hrow)
          clear hrow hrowin hvr hrl
          go_wp2
          go_loopw [13, 11] (fun s13 s11 x => ∃ j k : Nat, j ≤ rl ∧ s13 = .int .i64 (j : Int) ∧ s11 = .int .i64 (k : Int) ∧ Hid (k = (cellsF 0 (rc.take i)).length + j) ∧ Hid (Below w4.heap.size w4 x)) (fun s13 _ _ => rl - (intOf s13).toNat)
          case atStart => exact ⟨0, k, Nat.zero_le _, rfl, rfl, Lib.hid (by rw [HK.out]; rfl), HX⟩
          case round =>
            clear HK HX
            obtain ⟨j, k, hj, rfl, rfl, HK, HX⟩ := hrel
            have rc1 : wr.cell? ⟨rb, ro + i, none⟩ = some (.slice rq rl rcap) := by rw [← HVR.out]; exact (HX.out.cell (p := ⟨rb, ro + i, none⟩) rlt).trans rcell
            have rlt1 : rb < wr.heap.size := Nat.lt_of_lt_of_le rlt HX.out.size
            by_cases hlj : j < rl
            · obtain ⟨x, hx⟩ : ∃ x, row[j]? = some x := ⟨_, List.getElem?_eq_getElem (by rw [HRL.out]; exact hlj)⟩
              have hri := HRI.out
              rw [HVR.out] at hri
              obtain ⟨xb, xo, hxq, xlt, xn, xc, xr⟩ := hri.at j x hx
              subst hxq
              obtain ⟨p, hp, hof, hprev⟩ := HAT.out i j row x HRW.out hx
              rw [← HK.out] at hp hprev
              have hkl : k < pl := by have := (List.getElem?_eq_some_iff.1 hp).1; rw [HPN.out] at this; exact this
              obtain ⟨pb, po, hq3, plt, p0, p1, p2, p3, p4⟩ := P4.out.at k p.z (by rw [List.getElem?_map, hp]; rfl)
              obtain ⟨e1, e2, e3⟩ := HEN.out i hlt
              obtain ⟨en, hen⟩ : ∃ en, endP zk i = en := ⟨_, rfl⟩
              rw [hen] at e1 e2 e3
              have hoe := hof.end_
              rw [hen] at hoe
              have HE5 := E4.out
              obtain ⟨_, ⟨_, _, _, hnil⟩ | ⟨eb, eo, ec, he1, hce⟩⟩ := HE5
              · rw [hnil] at e3; simp at e3
              injection he1 with he1 he2 he3
              have hil : i < zk.length := (List.getElem?_eq_some_iff.1 e3).1
              have ecell := hce i (List.getElem?_eq_some_iff.1 e3).1
              rw [e3] at ecell
              simp only [Option.getD_some] at ecell
              have elt := cell_lt ecell
              dsimp only at elt
              obtain ⟨xn0, xc0, xr0⟩ := x
              obtain ⟨pn, pr, pc, ph, pw⟩ := p
              obtain ⟨h1, h2, h3, h4, h5, _⟩ := hof
              have h1a : pn = xn0 := h1
              have h2a : i = pr := h2.symm
              clear h1 h2
              dsimp only [Pl.z] at *
              subst h1a h2a
              have hrm := HM.out
              have hb1 : ph ≤ 20 := by omega
              have hb2 : en ≤ 20 := by omega
              clear hrm
              have hb3 := HWI.out _ (List.mem_iff_getElem?.2 ⟨k, hp⟩)
              dsimp only at hb3
              subst hq3 he1
              have lb := HX.out.size
              have plt1 : pb < wr.heap.size := by omega
              have elt1 : eb < wr.heap.size := by omega
              have xlt1 : xb < wr.heap.size := by omega
              have y0 := (HX.out.cell (p := ⟨pb, po + k * 5, none⟩) plt).trans p0
              have y1 := (HX.out.cell (p := ⟨pb, po + k * 5 + 1, none⟩) plt).trans p1
              have y2 := (HX.out.cell (p := ⟨pb, po + k * 5 + 2, none⟩) plt).trans p2
              have y3 := (HX.out.cell (p := ⟨pb, po + k * 5 + 3, none⟩) plt).trans p3
              have y4 := (HX.out.cell (p := ⟨pb, po + k * 5 + 4, none⟩) plt).trans p4
              have z0 := (HX.out.cell (p := ⟨xb, xo + j * 3, none⟩) xlt).trans xn
              have z1 := (HX.out.cell (p := ⟨xb, xo + j * 3 + 1, none⟩) xlt).trans xc
              have z2 := (HX.out.cell (p := ⟨eb, eo + i, none⟩) elt).trans ecell
              have g3 : decide ((ph : Int) < 1) = false := by simp; omega
              have g4 : decide ((pw : Int) < 1) = false := by simp; omega
              have g5 : decide (xc0 < (pw : Int)) = false := by simp; omega
              have g6 : decide ((en : Int) < (i : Int) + (ph : Int)) = false := by simp; omega
              have g6' : decide (en < i + ph) = false := by simp; omega
              have g3' : decide (ph = 0) = false := by simp; omega
              have g4' : decide (pw = 0) = false := by simp; omega
              have HPR := Lib.hid hprev
              have HKJ : Hid (j ≤ k) := Lib.hid (by have := HK.out; omega)
              clear p0 p1 p2 p3 p4 xn xc xr ecell hp hx hprev hce e3 h3 h4 h5 hoe
              (try rw [← he2] at hil)
              clear he2
              subst he3
              by_cases hj0 : j = 0
              · have g7 : decide (0 < (j : Int)) = false := by simp; omega
                have g7n : decide (0 < j) = false := by simp; omega
                have g7' : decide ((j : Int) > 0) = false := by simp; omega
                have HJ0 := Lib.hid hj0
                clear hj0 HPR
                go_wp2
                try simp only [List.append_eq, List.cons_append, List.nil_append]
                go_quiet (fail)
                go_wp2
                go_roundw
                case rel => exact ⟨j + 1, k + 1, by omega, by go_num, by go_num, Lib.hid (by have := HK.out; omega), Lib.hid ((HX.out.alloc HX.out.size _).trans (below_dn _ _ _))⟩
                case measure => simp [intOf]; omega
              · obtain ⟨kk, rfl⟩ : ∃ kk, k = kk + 1 := ⟨k - 1, by have := HKJ.out; omega⟩
                obtain ⟨q, hq, hle⟩ := HPR.out (by omega)
                obtain ⟨pb2, po2, hpe, _, _, _, x2, _, x4⟩ := P4.out.at kk q.z (by rw [List.getElem?_map]; rw [show kk + 1 - 1 = kk by omega] at hq; rw [hq]; rfl)
                injection hpe with hpe
                injection hpe with hpe1 hpe2
                subst hpe1 hpe2
                obtain ⟨qn, qr, qc, qh, qw⟩ := q
                dsimp only [Pl.z] at *
                have u2 := (HX.out.cell (p := ⟨pb, po + kk * 5 + 2, none⟩) plt).trans x2
                have u4 := (HX.out.cell (p := ⟨pb, po + kk * 5 + 4, none⟩) plt).trans x4
                have g7 : decide (0 < (j : Int)) = true := by simp; omega
                have g8 : decide ((pc : Int) < (qc : Int) + (qw : Int)) = false := by simp; omega
                have g8' : decide (pc < qc + qw) = false := by simp; omega
                have g7' : decide (0 < j) = true := by simp; omega
                have hb4 : qc + qw ≤ 10000 := by omega
                clear hj0 HPR x2 x4 hq
                go_wp2
                try simp only [List.append_eq, List.cons_append, List.nil_append]
                go_quiet (fail)
                go_wp2
                go_roundw
                case rel => exact ⟨j + 1, kk + 1 + 1, by omega, by go_num, by go_num, Lib.hid (by have := HK.out; omega), Lib.hid ((HX.out.alloc HX.out.size _).trans (below_dn _ _ _))⟩
                case measure => simp [intOf]; omega
            · have hjr : j = rl := by omega
              have HK2 : Hid (k = (cellsF 0 (rc.take (i + 1))).length) := Lib.hid (by rw [HNX.out, HRL.out, HK.out, hjr])
              clear hjr HK
              go_wp2
              go_roundw
              case rel => exact ⟨i + 1, k, by omega, by go_num, rfl, HK2, HX⟩
              case measure => simp [intOf]; omega
        · have hkp : k = pl := by
            rw [HK.out, List.take_of_length_le (by rw [HM.out]; omega)]
            exact HALL.out
          have HF := Lib.hid (B4.out.trans (HX.out.mono B4.out.size))
          clear HK HX
          subst hkp
          go_wp2
          go_ret
          exact ⟨by simp, HF.out⟩
  · have HL1 := Lib.hid (fun X (hb : Below w2.heap.size w2 X) => lay_wrong v2 _ hv2 _ _ X ((HR2.out.below hb).mono hb.size) (HE2.out.below hb) HSM.out hq)
    clear HR2 HE2 HSM
    go_wp2_with (go_at_call 18; refine (HL1.out _ (Below.refl _ _)).mono ?_; rintro e w3 ⟨rfl, hb3⟩; have B3 := Lib.hid (HB2.out.trans (hb3.mono HB2.out.size)); clear hb3 HL1)
    go_ret
    exact ⟨rfl, B3.out⟩
theorem walk (w : World) (a0 : Option Addr) (len0 cap0 : Nat) (z0 : (Nat → Value) × List (List Sp)) (h0 : RowsIn w.heap.size w (.slice a0 len0 cap0) z0.1 z0.2 ∧ z0.2.length = len0) (a1 : Option Addr) (len1 cap1 : Nat) (z1 : List Int) (h1 : Ints w (.slice a1 len1 cap1) z1 ∧ z1.length = len1 ∧ len1 ≤ cap1 ∧ cap1 ≤ maxLen) :
    Calls Try.prog 5 #[.slice a0 len0 cap0, .slice a1 len1 cap1] w fun e w' => e = .returned (.bool true) ∧ Below w.heap.size w w' := by
  obtain ⟨h2, h3, h4, h5⟩ := h1
  unfold maxLen at h5
  rcases Nat.lt_trichotomy len1 21 with hl | rfl | hl
  · exact own_lt a0 len0 cap0 z0.1 z0.2 a1 len1 cap1 z1 w h0.1 h2 h3 h4 h5 hl
  · exact own_eq a0 len0 cap0 z0.1 z0.2 a1 cap1 z1 w h0.1 h2 h3 h4 h5
  · exact own_gt a0 len0 cap0 z0.1 z0.2 a1 len1 cap1 z1 w h0.1 h2 h3 h4 h5 hl

set_option maxRecDepth 100000 in
theorem lifted (os : Os) (started : os.Started) (H : Type) (enc : TypeId × Value → H) :
    ReturnsInHanded {} Try.checked os 5 .any (Rows.gridOwnSpec.pre6 enc Try.prog Try.f5 Rows.gridOwnRow.domain false) (Rows.gridOwnSpec.post enc Try.prog Try.f5 false true false false) := by
  refine returnsInHanded_of_change (C := Try.checked) own started (by kernel_rfl) Try.func5
    (ChangeSpec.witness6 (enc := enc) (C := Try.checked) false ⟨#[], #[.slice none 0 0, .slice none 0 0], []⟩ 8 (by kernel_rfl) (by kernel_rfl) (by kernel_rfl) (by kernel_rfl)) ?_
  intro W base args ds gs before hval0 hW hcnd _
  have hval : ∀ (j : Nat) t v, Try.f5.params[j]? = some t → args[j]? = some v → Value.okWide Try.prog W .any base t v := hval0
  have hW' := hW
  obtain ⟨p, q, hA0, hV, rfl, hfz, hnd⟩ := hW
  have hA : DataW.TrodAll enc Try.prog W 0 (fun _ => true) true Try.f5.params.toList args.toList ds p := hA0
  rw [Try.params5] at hA hval
  obtain ⟨v0, vs0, d0, ds0, p0, q0, hargs, rfl, rfl, h0, r0⟩ := trodAll_cons hA
  obtain ⟨v1, vs1, d1, ds1, p1, q1, rfl, rfl, rfl, h1, r1⟩ := trodAll_cons r0
  obtain ⟨rfl, rfl, rfl⟩ := trodAll_nil r1
  obtain rfl : args = #[v0, v1] := by cases args; simp_all
  obtain ⟨rfl, rfl⟩ := trodVars_none hV
  obtain ⟨a0, len0, cap0, rfl⟩ := okWide_slice Try.underlying25 (hval 0 25 v0 rfl rfl)
  have k0 := h0
  have lt0 : ∀ x ∈ p0, x.block < W.heap.size := by obtain ⟨m, hm⟩ := k0; exact DataW.trod_lt m _ _ _ hm
  obtain ⟨z0, w0⟩ : ∃ z : (Nat → Value) × List (List Sp), RowsIn W.heap.size W (.slice a0 len0 cap0) z.1 z.2 ∧ z.2.length = len0 := by
    obtain ⟨fuel, hf⟩ := h0
    exact open_rows (by simpa [Value.cells] using hf)
  obtain ⟨a1, len1, cap1, rfl⟩ := okWide_slice Try.underlying26 (hval 1 26 v1 rfl rfl)
  have k1 := h1
  have lt1 : ∀ x ∈ p1, x.block < W.heap.size := by obtain ⟨m, hm⟩ := k1; exact DataW.trod_lt m _ _ _ hm
  obtain ⟨z1, w1⟩ : ∃ zs, Ints W (.slice a1 len1 cap1) zs ∧ zs.length = len1 ∧ len1 ≤ cap1 ∧ cap1 ≤ maxLen := by
    obtain ⟨fuel, hf⟩ := h1
    exact open_intsG (by simpa [Value.cells] using hf)
  clear hA0 hval0
  simp only [List.append_nil] at hW'
  refine (walk W a0 len0 cap0 z0 w0 a1 len1 cap1 z1 w1).mono fun e W' ⟨he, hg⟩ => ?_
  subst he
  exact ⟨_, rfl, _, _, _, [], _, [], hW', (trodAll_cons_mk (shut_bool Try.underlying4 _) trodAll_mk0), (trodAll_cons_mk (Below.trod laidOut (by kernel_rfl) (of_decide_eq_true (by kernel_rfl)) k0 hg lt0) (trodAll_cons_mk (Below.trod laidOut (by kernel_rfl) (of_decide_eq_true (by kernel_rfl)) k1 hg lt1) trodAll_mk0)), rfl, hg.frame _, fun h => by cases h⟩

theorem over : Rows.gridOwnRow.holds Try.pinned (OpenSpec.ofChange Rows.gridOwnSpec) :=
  OpenClaim.holds_of_wide 5 Try.f5 rfl rfl rfl rfl rfl rfl rfl ⟨rfl, rfl, rfl, rfl, rfl⟩ rfl rfl rfl rfl rfl (by kernel_rfl) Try.func5 (by kernel_rfl)
    (of_decide_eq_true (by kernel_rfl)) (by unfold Func.isWrapper; first | (rw [if_pos (by decide +kernel)]; kernel_rfl) | (rw [if_neg (by decide +kernel)]; exact ⟨rfl, rfl⟩))
    (fun os started H enc _ => lifted os started H enc)

/-- the statement -/
theorem proved : Rows.GridOwnSaid :=
  over
#print axioms proved
end Go.Proofs.Ytgmgkkljoeahhaa.gridOwn
