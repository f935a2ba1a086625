/- A cell's first slot is the first free one behind the cell ahead of it. -/
import Derived.Test.YtgmgkkljoeahhaaRows
import Derived.WalkKit
import Derived.ProofKit
import Derived.OpenShut
import Derived.Below
import Derived.Test.YtgmgkkljoeahhaaGFirst
import Derived.ShutString
namespace Go.Proofs.Ytgmgkkljoeahhaa.gridFirst
open Go.ChangeShapes Go.WideShapes Go.ChangeAt Go.RowKit
set_option linter.unusedVariables false

theorem own : ownKnob Try.prog.godebug = none := by kernel_rfl
theorem laidOut : laidOutB Try.prog = true := by kernel_rfl

theorem cut_small (rows : List (List Sp)) : (cellsF 0 (cutG rows)).length ≤ 1000000 := by
  have key : ∀ (k : Nat) (l : List (List Sp)), (∀ r ∈ l, r.length ≤ 10) → (cellsF k l).length ≤ 10 * l.length := by
    intro k l
    induction l generalizing k with
    | nil => intro _; simp [cellsF]
    | cons r l ih =>
      intro h
      have h1 := h r (by simp)
      have h2 := ih (k + 1) (fun x hx => h x (by simp [hx]))
      simp only [cellsF, List.length_append, List.length_map, List.length_cons]
      omega
  have := key 0 (cutG rows) (fun r hr => by
    unfold cutG at hr
    obtain ⟨r0, _, rfl⟩ := List.mem_map.1 hr
    rw [List.length_map, List.length_take]; omega)
  have := cutG_len rows
  omega

theorem slots_go2 (q : Option Addr) (pl c m n : Nat) (L : List Pz) (X : World) (hl : L.length = pl) (hP : PsAt X (.slice q pl c) L) (hS : SizeQ m n) (hO : OwnQ m n L) :
    Calls Try.prog 14 #[.slice q pl c, .int .i64 (m : Int), .int .i64 (n : Int)] X fun e W' => ∃ g hs, e = .returned (.tuple #[.slice (some ⟨g, 0, none⟩) m m, .int .i64 0]) ∧ Whole W' g 26 hs ∧ hs.length = m ∧
      (∀ (r : Nat) (u : Value), hs[r]? = some u → W'.ownsRow X.heap.size 3 1 u (rowOf (entL 0 L).reverse (slotsL ⟨0, 0, 0, m, n⟩) r).length ((rowOf (entL 0 L).reverse (slotsL ⟨0, 0, 0, m, n⟩) r).map (Value.int .i64))) ∧ Below X.heap.size X W' := by
  have hO1 := owners_ok q pl c m n L X hl hP hS (fun p hp => by
    have hpb := hO.1 p hp
    have h1 := hS.1
    have h2 := hS.2.1
    unfold placeB liesB at hpb
    simp at hpb
    unfold I64
    omega)
  refine (slots_ok (.slice q pl c) m n L X hS ⟨_, _, _, rfl⟩ (Lib.hid (hO1.mono ?_))).mono ?_
  · rintro e W' ⟨hb, ⟨h1, _⟩ | ⟨_, mb, _, rfl, h2⟩⟩
    · exact absurd hO h1
    · exact ⟨mb, rfl, h2, hb⟩
  · rintro e W' ⟨g, hs, rfl, h1, h2, _, h3, hb⟩
    exact ⟨g + 1, hs, rfl, h1, h2, h3, hb⟩
theorem owns_cell {X : World} {base k : Nat} {u : Value} {l : List Int} {c : Nat} {z : Int} (h : X.ownsRow base 3 1 u l.length (l.map (Value.int .i64))) (hz : l[c]? = some z) : ∃ gb cap, u = .slice (some ⟨gb, 0, none⟩) l.length cap ∧ X.cell? ⟨gb, c, none⟩ = some (.int .i64 z) ∧ gb < X.heap.size := by
  have hc := (List.getElem?_eq_some_iff.1 hz).1
  rcases h.2 with ⟨_, h0⟩ | ⟨gb, cap, cur, rfl, hb, hg, hnc, hcm, hcs, htk⟩
  · omega
  · refine ⟨gb, cap, rfl, ?_, (Array.getElem?_eq_some_iff.1 hg).1⟩
    have h1 : (l.map (Value.int .i64))[c]? = some (.int .i64 z) := by rw [List.getElem?_map, hz]; rfl
    rw [← htk, List.getElem?_take_of_lt (by omega)] at h1
    simp only [World.cell?, hg]
    rw [← Array.getElem?_toList]
    exact h1
theorem placed {m n : Nat} {L : List Pl} (h : OwnQ m n (L.map Pl.z)) : ∀ p ∈ L, p.r < m ∧ p.c + p.w ≤ n ∧ p.c < n := fun p hp => by
  have hpb := h.1 p.z (List.mem_map.2 ⟨p, hp, rfl⟩)
  unfold placeB liesB at hpb
  simp only [Bool.and_eq_true, decide_eq_true_eq] at hpb
  obtain ⟨⟨⟨h1, h2⟩, h3⟩, ⟨h4, h5⟩, h6⟩ := hpb
  have e1 : p.z.r = (p.r : Int) := rfl
  have e2 : p.z.h = (p.h : Int) := rfl
  have e3 : p.z.c = (p.c : Int) := rfl
  have e4 : p.z.w = (p.w : Int) := rfl
  rw [e1, e2] at h3
  rw [e2] at h2
  rw [e4] at h5
  rw [e3, e4] at h6
  refine ⟨?_, ?_, ?_⟩ <;> omega
set_option maxRecDepth 100000 in
set_option maxHeartbeats 4000000 in
theorem own_lt (a0 : Option Addr) (len0 cap0 : Nat) (hv : Nat → Value) (rows : List (List Sp)) (a1 : Option Addr) (len1 : Nat) (cap1 : Nat) (zs : List Int) (w : World) (hR : RowsIn w.heap.size w (.slice a0 len0 cap0) hv rows) (hE : Ints w (.slice a1 len1 cap1) zs) (hz : zs.length = len1) (hlc : len1 ≤ cap1) (hcm : cap1 ≤ 9223372036854775807) (hl : len1 < 21) :
    Calls Try.prog 6 #[.slice a0 len0 cap0, .slice a1 len1 cap1] w fun e w' => e = .returned (.bool true) ∧ Below w.heap.size w w' := by
  have HR := Lib.hid hR
  have HE := Lib.hid (ints_take hE hz len1 (by omega))
  have HSM := Lib.hid (cut_small rows)
  clear hR hE hz
  go_enter Try.func6, Try.ntmps6
  go_wp2_with (first
    | (go_at_call 7; refine (shown7_any _).mono ?_; rintro e w1 ⟨rfl, hb1⟩; have HB1 := Lib.hid hb1; have HR1 := Lib.hid ((HR.out.below hb1).mono hb1.size); clear hb1 HR)
    | (go_at_call 17; refine (cutG_any _ hv rows _ HR1.out).mono ?_; rintro e w2 ⟨v2, hv2, rfl, hr2, hb2⟩; have HB2 := Lib.hid (HB1.out.trans (hb2.mono HB1.out.size)); have HR2 := Lib.hid hr2; have HE2 := Lib.hid (HE.out.below HB2.out); clear hb2 hr2 HB1 HR1 HE))
  obtain ⟨zk, hzk⟩ : ∃ zk, zs.take len1 = zk := ⟨_, rfl⟩
  rw [hzk] at HE2
  by_cases hq : RightQ (cutG rows) zk
  · obtain ⟨st, hst⟩ : ∃ st, layP (cutG rows) zk = st := ⟨_, rfl⟩
    cases st with
    | none =>
      have HL1 := Lib.hid (fun X (hb : Below w2.heap.size w2 X) => lay_full v2 _ hv2 _ _ X ((HR2.out.below hb).mono hb.size) (HE2.out.below hb) HSM.out hq hst)
      clear HR2 HE2 HSM
      go_wp2_with (go_at_call 18; refine (HL1.out _ (Below.refl _ _)).mono ?_; rintro e w3 ⟨rfl, hb3⟩; have B3 := Lib.hid (HB2.out.trans (hb3.mono HB2.out.size)); clear hb3 HL1)
      go_ret
      exact ⟨rfl, B3.out⟩
    | some s =>
      obtain ⟨rc, hrc⟩ : ∃ rc, cutG rows = rc := ⟨_, rfl⟩
      have hm20 : rc.length ≤ 20 := by rw [← hrc, cutG_len]; omega
      rw [hrc] at HR2 HSM hq hst
      clear hrc
      have hOQ := own_all hq hst
      have hfew := (runP_okay zk _ LS.zero s Okay.zero hst).1.few
      have hlen := (runP_okay zk _ LS.zero s Okay.zero hst).2
      have hz0 : LS.zero.ps.length = 0 := rfl
      have hsm := HSM.out
      obtain ⟨m, hm⟩ : ∃ m, rc.length = m := ⟨_, rfl⟩
      obtain ⟨q2, c2, hv2e⟩ := HR2.out.form
      rw [hm] at hv2e
      subst hv2e
      obtain ⟨pl, hpl⟩ : ∃ pl, s.ps.length = pl := ⟨_, rfl⟩
      obtain ⟨n, hn⟩ : ∃ n, s.t.length = n := ⟨_, rfl⟩
      have hpl2 : pl ≤ 1000000 := by omega
      have hSQ : SizeQ m n := ⟨by omega, by omega, by
        have h3 : ((m : Int) * (n : Int)) = ((m * n : Nat) : Int) := by simp
        have h4 : m * n ≤ 20 * 10000 := Nat.mul_le_mul (by omega) (by omega)
        omega⟩
      rw [hm, hn] at hOQ
      have HL1 := Lib.hid (lay_good _ _ hv2 _ _ w2 HR2.out HE2.out HSM.out hq s hst)
      rw [hn] at HL1
      rw [hm] at hm20
      have HSL := Lib.hid (fun X q3 c3 hP => slots_go2 q3 pl c3 m n (s.ps.map Pl.z) X (by rw [List.length_map]; exact hpl) hP hSQ hOQ)
      have HFI := Lib.hid (lay_first hst)
      have HFT := Lib.hid (run_fit _ _ _ Okay.zero (Fit7.zero zk) hst)
      have HPB := Lib.hid (placed hOQ)
      have hn10 : n ≤ 10000 := by omega
      have HM := Lib.hid hm
      have HPN := Lib.hid hpl
      clear hm hpl hn hSQ hOQ hsm hlen hfew hz0 HSM hq hst
      go_wp2_with (first
        | (go_at_call 18; refine HL1.out.mono ?_; clear HL1; rintro e w3 ⟨v3, rfl, ho3, hb3⟩; have P3 := Lib.hid (ho3.places (by rw [HPN.out]; omega)); obtain ⟨q3, c3, hv3⟩ := P3.out.form; rw [List.length_map, HPN.out] at hv3; subst hv3; have B3 := Lib.hid hb3; clear hb3 ho3)
        | (go_at_call 14; refine (HSL.out _ _ _ P3.out).mono ?_; clear HSL; rintro e w4 ⟨g, hs, rfl, hgw, hhl, hown, hb4⟩; have P4 := Lib.hid (P3.out.below hb4); have HGW := Lib.hid hgw; have HHL := Lib.hid hhl; have HOWN := Lib.hid hown; have B4 := Lib.hid (HB2.out.trans ((B3.out.trans (hb4.mono B3.out.size)).mono HB2.out.size)); clear hgw hhl hown hb4))
      have HCELL : Hid (∀ (i : Nat) (p : Pl) (c : Nat), s.ps[i]? = some p → fromI s.ps i p.r ≤ c → c < p.c → ∃ (k : Nat) (q : Pl) (gb rl cap : Nat), k < i ∧ s.ps[k]? = some q ∧ q.r < p.r ∧ w4.cell? ⟨g, p.r, none⟩ = some (.slice (some ⟨gb, 0, none⟩) rl cap) ∧ w4.cell? ⟨gb, c, none⟩ = some (.int .i64 (k : Int)) ∧ gb < w4.heap.size ∧ c < rl) := Lib.hid fun i p c hp h1 h2 => by
        obtain ⟨k, q, hk, hq, hqr, how⟩ := above_own HFT.out (HFI.out.all i p hp c h1 h2)
        obtain ⟨hr, hcw, hcn⟩ := HPB.out p (List.mem_iff_getElem?.2 ⟨i, hp⟩)
        have hrow := rowOf_get (entL 0 (s.ps.map Pl.z)).reverse m n p.r c hr (by omega)
        rw [how] at hrow
        obtain ⟨u, hu⟩ : ∃ u, hs[p.r]? = some u := ⟨_, List.getElem?_eq_getElem (by rw [HHL.out]; exact hr)⟩
        obtain ⟨gb, cap, hue, hcc, hgl⟩ := owns_cell (k := 0) (HOWN.out p.r u hu) hrow
        exact ⟨k, q, gb, _, cap, hk, hq, hqr, by rw [HGW.out.cellAt, hu, hue], hcc, hgl, (List.getElem?_eq_some_iff.1 hrow).1⟩
      have lgw := HGW.out.lt
      clear HOWN HFI HFT
      go_loopw [11] (fun s11 x => ∃ i : Nat, i ≤ pl ∧ s11 = .int .i64 (i : Int) ∧ Hid (Below w4.heap.size w4 x)) (fun s11 _ => pl - (intOf s11).toNat)
      case atStart => exact ⟨0, Nat.zero_le _, rfl, Lib.hid (Below.refl _ _)⟩
      case round =>
        obtain ⟨i, hi, rfl, HX⟩ := hrel
        by_cases hlt : i < pl
        · obtain ⟨p, hp⟩ : ∃ p, s.ps[i]? = some p := ⟨_, List.getElem?_eq_getElem (by rw [HPN.out]; exact hlt)⟩
          obtain ⟨pb, po, hq3, plt, p0, p1, p2, p3, p4⟩ := P4.out.at i p.z (by rw [List.getElem?_map, hp]; rfl)
          subst hq3
          obtain ⟨hpm, hpw, hpn⟩ := HPB.out p (List.mem_iff_getElem?.2 ⟨i, hp⟩)
          have HCI := Lib.hid (fun c => HCELL.out i p c hp)
          obtain ⟨pn, pr, pc, ph, pw⟩ := p
          dsimp only [Pl.z] at p0 p1 p2 p3 p4 hpm hpw hpn HCI
          have plt1 : pb < wr.heap.size := by have := HX.out.size; omega
          have y1 := (HX.out.cell (p := ⟨pb, po + i * 5 + 1, none⟩) plt).trans p1
          have y2 := (HX.out.cell (p := ⟨pb, po + i * 5 + 2, none⟩) plt).trans p2
          have HY1 := Lib.hid p1
          have HY2 := Lib.hid p2
          obtain ⟨fr, hfr⟩ : ∃ fr, fromI s.ps i pr = fr := ⟨_, rfl⟩
          rw [hfr] at HCI
          clear p0 p1 p2 p3 p4 hp
          by_cases hi0 : i = 0
          · have hfr0 : fr = 0 := by rw [← hfr, hi0]; rfl
            have HFR := Lib.hid hfr0
            have g0 : decide ((0 : Int) < (i : Int)) = false := by simp; omega
            have g0n : decide (0 < i) = false := by simp; omega
            have HI0 := Lib.hid hi0
            clear hfr hfr0 hi0
            go_wp2
            go_quiet (fail)
            go_wp2
            have HXD := Lib.hid (HX.out.trans ((below_dn w4.heap.size wr nq)))
            have y1d : (wr.drewN nq).cell? ⟨pb, po + i * 5 + 1, none⟩ = some (.int .i64 (pr : Int)) := y1
            have y2d : (wr.drewN nq).cell? ⟨pb, po + i * 5 + 2, none⟩ = some (.int .i64 (pc : Int)) := y2
            have pltd : pb < (wr.drewN nq).heap.size := plt1
            generalize wr.drewN nq = wd at HXD y1d y2d pltd ⊢
            go_loopw [13] (fun s13 x => ∃ c : Nat, s13 = .int .i64 (c : Int) ∧ Hid (fr ≤ c) ∧ c ≤ 20000 ∧ Hid (Below w4.heap.size w4 x)) (fun s13 _ => pc - (intOf s13).toNat)
            case atStart => exact ⟨0, rfl, Lib.hid (by rw [HFR.out]; exact Nat.zero_le _), by omega, HXD⟩
            case round =>
              clear HXD y1d y2d pltd
              obtain ⟨c, rfl, HFC, hc20, HXC⟩ := hrel
              have pltc : pb < wr.heap.size := by have := HXC.out.size; omega
              have v1 := (HXC.out.cell (p := ⟨pb, po + i * 5 + 1, none⟩) plt).trans HY1.out
              have v2 := (HXC.out.cell (p := ⟨pb, po + i * 5 + 2, none⟩) plt).trans HY2.out
              by_cases hcl : c < pc
              · obtain ⟨k, q, gb, rl, cap, hk, hq, hqr, k1, k2, k3, k4⟩ := HCI.out c HFC.out hcl
                obtain ⟨pb2, po2, hpe, _, _, x1, _, _, _⟩ := P4.out.at k q.z (by rw [List.getElem?_map, hq]; rfl)
                injection hpe with hpe
                injection hpe with hpe1 hpe2
                subst hpe1 hpe2
                obtain ⟨qn', qr', qc', qh', qw'⟩ := q
                dsimp only [Pl.z] at x1 hqr
                have a1 := (HXC.out.cell (p := ⟨g, pr, none⟩) lgw).trans k1
                have a2 := (HXC.out.cell (p := ⟨gb, c, none⟩) k3).trans k2
                have a3 := (HXC.out.cell (p := ⟨pb, po + k * 5 + 1, none⟩) plt).trans x1
                have l1 : g < wr.heap.size := by have := HXC.out.size; omega
                have l2 : gb < wr.heap.size := by have := HXC.out.size; omega
                have hkpl : k < pl := by omega
                have e0 : decide ((c : Int) < (pc : Int)) = true := by simp; omega
                have e0n : decide (c < pc) = true := by simp; omega
                have e1 : decide ((rl : Int) ≤ (c : Int)) = false := by simp; omega
                have e1n : decide (rl ≤ c) = false := by simp; omega
                have e2 : decide ((k : Int) < 0) = false := by simp
                have e3 : decide (((i : Nat) : Int) ≤ (k : Int)) = false := by simp; omega
                have e3n : decide (i ≤ k) = false := by simp; omega
                have e4 : decide ((pr : Int) ≤ (qr' : Int)) = false := by simp; omega
                have e4n : decide (pr ≤ qr') = false := by simp; omega
                clear k1 k2 x1 hq
                go_wp2
                try simp only [List.append_eq, List.cons_append, List.nil_append]
                go_quiet (fail)
                go_wp2
                go_roundw
                case rel => exact ⟨c + 1, by go_num, Lib.hid (by have := HFC.out; omega), by omega, Lib.hid (HXC.out.trans (below_dn _ _ _))⟩
                case measure => simp [intOf]; omega
              · have e0 : decide ((c : Int) < (pc : Int)) = false := by simp; omega
                have e0n : decide (c < pc) = false := by simp; omega
                go_wp2
                go_roundw
                case rel => exact ⟨i + 1, by omega, by go_num, HXC⟩
                case measure => simp [intOf]; omega
          · obtain ⟨ii, rfl⟩ : ∃ ii, i = ii + 1 := ⟨i - 1, by omega⟩
            obtain ⟨q, hq⟩ : ∃ q, s.ps[ii]? = some q := ⟨_, List.getElem?_eq_getElem (by rw [HPN.out]; omega)⟩
            obtain ⟨pb2, po2, hpe, _, _, x1, x2, _, x4⟩ := P4.out.at ii q.z (by rw [List.getElem?_map, hq]; rfl)
            injection hpe with hpe
            injection hpe with hpe1 hpe2
            subst hpe1 hpe2
            obtain ⟨_, hqw, _⟩ := HPB.out q (List.mem_iff_getElem?.2 ⟨ii, hq⟩)
            have hfr2 : (if q.r = pr then q.c + q.w else 0) = fr := by rw [← hfr, fromI_succ, hq]
            obtain ⟨qn, qr, qc, qh, qw⟩ := q
            dsimp only [Pl.z] at x1 x2 x4 hqw hfr2
            have u1 := (HX.out.cell (p := ⟨pb, po + ii * 5 + 1, none⟩) plt).trans x1
            have u2 := (HX.out.cell (p := ⟨pb, po + ii * 5 + 2, none⟩) plt).trans x2
            have u4 := (HX.out.cell (p := ⟨pb, po + ii * 5 + 4, none⟩) plt).trans x4
            have g0 : decide ((0 : Int) < ((ii + 1 : Nat) : Int)) = true := by first | (simp; done) | (simp; omega)
            have g0n : decide (0 < ii + 1) = true := by simp
            clear hi0 x1 x2 x4 hq hfr
            by_cases hqr : qr = pr
            · rw [if_pos hqr] at hfr2
              have HFR := Lib.hid hfr2
              obtain rfl : pr = qr := hqr.symm
              clear hfr2
              go_wp2
              go_quiet (fail)
              go_wp2
              go_quiet (fail)
              go_wp2
              rename_i nq0
              have HXD := Lib.hid (HX.out.trans ((below_dn w4.heap.size wr nq0).trans (below_dn w4.heap.size _ nq)))
              have y1d : ((wr.drewN nq0).drewN nq).cell? ⟨pb, po + (ii + 1) * 5 + 1, none⟩ = some (.int .i64 (pr : Int)) := y1
              have y2d : ((wr.drewN nq0).drewN nq).cell? ⟨pb, po + (ii + 1) * 5 + 2, none⟩ = some (.int .i64 (pc : Int)) := y2
              have pltd : pb < ((wr.drewN nq0).drewN nq).heap.size := plt1
              generalize (wr.drewN nq0).drewN nq = wd at HXD y1d y2d pltd ⊢
              clear u1 u2 u4 y1 y2 plt1
              go_loopw [13] (fun s13 x => ∃ c : Nat, s13 = .int .i64 (c : Int) ∧ Hid (fr ≤ c) ∧ c ≤ 20000 ∧ Hid (Below w4.heap.size w4 x)) (fun s13 _ => pc - (intOf s13).toNat)
              case atStart => exact ⟨qc + qw, by go_num, Lib.hid (by rw [← HFR.out]; exact Nat.le_refl _), by omega, HXD⟩
              case round =>
                clear HXD y1d y2d pltd
                obtain ⟨c, rfl, HFC, hc20, HXC⟩ := hrel
                have pltc : pb < wr.heap.size := by have := HXC.out.size; omega
                have v1 := (HXC.out.cell (p := ⟨pb, po + (ii + 1) * 5 + 1, none⟩) plt).trans HY1.out
                have v2 := (HXC.out.cell (p := ⟨pb, po + (ii + 1) * 5 + 2, none⟩) plt).trans HY2.out
                by_cases hcl : c < pc
                · obtain ⟨k, q, gb, rl, cap, hk, hq, hqr, k1, k2, k3, k4⟩ := HCI.out c HFC.out hcl
                  obtain ⟨pb2, po2, hpe, _, _, x1, _, _, _⟩ := P4.out.at k q.z (by rw [List.getElem?_map, hq]; rfl)
                  injection hpe with hpe
                  injection hpe with hpe1 hpe2
                  subst hpe1 hpe2
                  obtain ⟨qn', qr', qc', qh', qw'⟩ := q
                  dsimp only [Pl.z] at x1 hqr
                  have a1 := (HXC.out.cell (p := ⟨g, pr, none⟩) lgw).trans k1
                  have a2 := (HXC.out.cell (p := ⟨gb, c, none⟩) k3).trans k2
                  have a3 := (HXC.out.cell (p := ⟨pb, po + k * 5 + 1, none⟩) plt).trans x1
                  have l1 : g < wr.heap.size := by have := HXC.out.size; omega
                  have l2 : gb < wr.heap.size := by have := HXC.out.size; omega
                  have hkpl : k < pl := by omega
                  have e0 : decide ((c : Int) < (pc : Int)) = true := by simp; omega
                  have e0n : decide (c < pc) = true := by simp; omega
                  have e1 : decide ((rl : Int) ≤ (c : Int)) = false := by simp; omega
                  have e1n : decide (rl ≤ c) = false := by simp; omega
                  have e2 : decide ((k : Int) < 0) = false := by simp
                  have e3 : decide ((((ii + 1) : Nat) : Int) ≤ (k : Int)) = false := by simp; omega
                  have e3n : decide ((ii + 1) ≤ k) = false := by simp; omega
                  have e3b : decide ((ii : Int) + 1 ≤ (k : Int)) = false := by simp; omega
                  have e3c : decide (ii < k) = false := by simp; omega
                  have e4 : decide ((pr : Int) ≤ (qr' : Int)) = false := by simp; omega
                  have e4n : decide (pr ≤ qr') = false := by simp; omega
                  clear k1 k2 x1 hq
                  go_wp2
                  try simp only [List.append_eq, List.cons_append, List.nil_append]
                  go_quiet (fail)
                  go_wp2
                  go_roundw
                  case rel => exact ⟨c + 1, by go_num, Lib.hid (by have := HFC.out; omega), by omega, Lib.hid (HXC.out.trans (below_dn _ _ _))⟩
                  case measure => simp [intOf]; omega
                · have e0 : decide ((c : Int) < (pc : Int)) = false := by simp; omega
                  have e0n : decide (c < pc) = false := by simp; omega
                  go_wp2
                  go_roundw
                  case rel => exact ⟨(ii + 1) + 1, by omega, by go_num, HXC⟩
                  case measure => simp [intOf]; omega
            · rw [if_neg hqr] at hfr2
              have HFR := Lib.hid hfr2
              have g1 : ((qr : Int) == (pr : Int)) = false := by simp; omega
              have g1n : (qr == pr) = false := by simpa using hqr
              clear hfr2
              go_wp2
              go_quiet (fail)
              go_wp2
              have HXD := Lib.hid (HX.out.trans (below_dn w4.heap.size wr nq))
              have y1d : (wr.drewN nq).cell? ⟨pb, po + (ii + 1) * 5 + 1, none⟩ = some (.int .i64 (pr : Int)) := y1
              have y2d : (wr.drewN nq).cell? ⟨pb, po + (ii + 1) * 5 + 2, none⟩ = some (.int .i64 (pc : Int)) := y2
              have pltd : pb < (wr.drewN nq).heap.size := plt1
              generalize wr.drewN nq = wd at HXD y1d y2d pltd ⊢
              clear u1 u2 u4 y1 y2 plt1
              go_loopw [13] (fun s13 x => ∃ c : Nat, s13 = .int .i64 (c : Int) ∧ Hid (fr ≤ c) ∧ c ≤ 20000 ∧ Hid (Below w4.heap.size w4 x)) (fun s13 _ => pc - (intOf s13).toNat)
              case atStart => exact ⟨0, rfl, Lib.hid (by rw [← HFR.out]; exact Nat.le_refl _), by omega, HXD⟩
              case round =>
                clear HXD y1d y2d pltd
                obtain ⟨c, rfl, HFC, hc20, HXC⟩ := hrel
                have pltc : pb < wr.heap.size := by have := HXC.out.size; omega
                have v1 := (HXC.out.cell (p := ⟨pb, po + (ii + 1) * 5 + 1, none⟩) plt).trans HY1.out
                have v2 := (HXC.out.cell (p := ⟨pb, po + (ii + 1) * 5 + 2, none⟩) plt).trans HY2.out
                by_cases hcl : c < pc
                · obtain ⟨k, q, gb, rl, cap, hk, hq, hqr, k1, k2, k3, k4⟩ := HCI.out c HFC.out hcl
                  obtain ⟨pb2, po2, hpe, _, _, x1, _, _, _⟩ := P4.out.at k q.z (by rw [List.getElem?_map, hq]; rfl)
                  injection hpe with hpe
                  injection hpe with hpe1 hpe2
                  subst hpe1 hpe2
                  obtain ⟨qn', qr', qc', qh', qw'⟩ := q
                  dsimp only [Pl.z] at x1 hqr
                  have a1 := (HXC.out.cell (p := ⟨g, pr, none⟩) lgw).trans k1
                  have a2 := (HXC.out.cell (p := ⟨gb, c, none⟩) k3).trans k2
                  have a3 := (HXC.out.cell (p := ⟨pb, po + k * 5 + 1, none⟩) plt).trans x1
                  have l1 : g < wr.heap.size := by have := HXC.out.size; omega
                  have l2 : gb < wr.heap.size := by have := HXC.out.size; omega
                  have hkpl : k < pl := by omega
                  have e0 : decide ((c : Int) < (pc : Int)) = true := by simp; omega
                  have e0n : decide (c < pc) = true := by simp; omega
                  have e1 : decide ((rl : Int) ≤ (c : Int)) = false := by simp; omega
                  have e1n : decide (rl ≤ c) = false := by simp; omega
                  have e2 : decide ((k : Int) < 0) = false := by simp
                  have e3 : decide ((((ii + 1) : Nat) : Int) ≤ (k : Int)) = false := by simp; omega
                  have e3n : decide ((ii + 1) ≤ k) = false := by simp; omega
                  have e3b : decide ((ii : Int) + 1 ≤ (k : Int)) = false := by simp; omega
                  have e3c : decide (ii < k) = false := by simp; omega
                  have e4 : decide ((pr : Int) ≤ (qr' : Int)) = false := by simp; omega
                  have e4n : decide (pr ≤ qr') = false := by simp; omega
                  clear k1 k2 x1 hq
                  go_wp2
                  try simp only [List.append_eq, List.cons_append, List.nil_append]
                  go_quiet (fail)
                  go_wp2
                  go_roundw
                  case rel => exact ⟨c + 1, by go_num, Lib.hid (by have := HFC.out; omega), by omega, Lib.hid (HXC.out.trans (below_dn _ _ _))⟩
                  case measure => simp [intOf]; omega
                · have e0 : decide ((c : Int) < (pc : Int)) = false := by simp; omega
                  have e0n : decide (c < pc) = false := by simp; omega
                  go_wp2
                  go_roundw
                  case rel => exact ⟨(ii + 1) + 1, by omega, by go_num, HXC⟩
                  case measure => simp [intOf]; omega
        · have HF := Lib.hid (B4.out.trans (HX.out.mono B4.out.size))
          clear HX
          go_wp2
          go_ret
          exact ⟨rfl, HF.out⟩
  · have HL1 := Lib.hid (fun X (hb : Below w2.heap.size w2 X) => lay_wrong v2 _ hv2 _ _ X ((HR2.out.below hb).mono hb.size) (HE2.out.below hb) HSM.out hq)
    clear HR2 HE2 HSM
    go_wp2_with (go_at_call 18; refine (HL1.out _ (Below.refl _ _)).mono ?_; rintro e w3 ⟨rfl, hb3⟩; have B3 := Lib.hid (HB2.out.trans (hb3.mono HB2.out.size)); clear hb3 HL1)
    go_ret
    exact ⟨rfl, B3.out⟩
set_option maxRecDepth 100000 in
set_option maxHeartbeats 4000000 in
theorem own_eq (a0 : Option Addr) (len0 cap0 : Nat) (hv : Nat → Value) (rows : List (List Sp)) (a1 : Option Addr) (cap1 : Nat) (zs : List Int) (w : World) (hR : RowsIn w.heap.size w (.slice a0 len0 cap0) hv rows) (hE : Ints w (.slice a1 21 cap1) zs) (hz : zs.length = 21) (hlc : 21 ≤ cap1) (hcm : cap1 ≤ 9223372036854775807) :
    Calls Try.prog 6 #[.slice a0 len0 cap0, .slice a1 21 cap1] w fun e w' => e = .returned (.bool true) ∧ Below w.heap.size w w' := by
  have HR := Lib.hid hR
  have HE := Lib.hid (ints_take hE hz 21 (by omega))
  have HSM := Lib.hid (cut_small rows)
  clear hR hE hz
  go_enter Try.func6, Try.ntmps6
  go_wp2_with (first
    | (go_at_call 7; refine (shown7_any _).mono ?_; rintro e w1 ⟨rfl, hb1⟩; have HB1 := Lib.hid hb1; have HR1 := Lib.hid ((HR.out.below hb1).mono hb1.size); clear hb1 HR)
    | (go_at_call 17; refine (cutG_any _ hv rows _ HR1.out).mono ?_; rintro e w2 ⟨v2, hv2, rfl, hr2, hb2⟩; have HB2 := Lib.hid (HB1.out.trans (hb2.mono HB1.out.size)); have HR2 := Lib.hid hr2; have HE2 := Lib.hid (HE.out.below HB2.out); clear hb2 hr2 HB1 HR1 HE))
  obtain ⟨zk, hzk⟩ : ∃ zk, zs.take 21 = zk := ⟨_, rfl⟩
  rw [hzk] at HE2
  by_cases hq : RightQ (cutG rows) zk
  · obtain ⟨st, hst⟩ : ∃ st, layP (cutG rows) zk = st := ⟨_, rfl⟩
    cases st with
    | none =>
      have HL1 := Lib.hid (fun X (hb : Below w2.heap.size w2 X) => lay_full v2 _ hv2 _ _ X ((HR2.out.below hb).mono hb.size) (HE2.out.below hb) HSM.out hq hst)
      clear HR2 HE2 HSM
      go_wp2_with (go_at_call 18; refine (HL1.out _ (Below.refl _ _)).mono ?_; rintro e w3 ⟨rfl, hb3⟩; have B3 := Lib.hid (HB2.out.trans (hb3.mono HB2.out.size)); clear hb3 HL1)
      go_ret
      exact ⟨rfl, B3.out⟩
    | some s =>
      obtain ⟨rc, hrc⟩ : ∃ rc, cutG rows = rc := ⟨_, rfl⟩
      have hm20 : rc.length ≤ 20 := by rw [← hrc, cutG_len]; omega
      rw [hrc] at HR2 HSM hq hst
      clear hrc
      have hOQ := own_all hq hst
      have hfew := (runP_okay zk _ LS.zero s Okay.zero hst).1.few
      have hlen := (runP_okay zk _ LS.zero s Okay.zero hst).2
      have hz0 : LS.zero.ps.length = 0 := rfl
      have hsm := HSM.out
      obtain ⟨m, hm⟩ : ∃ m, rc.length = m := ⟨_, rfl⟩
      obtain ⟨q2, c2, hv2e⟩ := HR2.out.form
      rw [hm] at hv2e
      subst hv2e
      obtain ⟨pl, hpl⟩ : ∃ pl, s.ps.length = pl := ⟨_, rfl⟩
      obtain ⟨n, hn⟩ : ∃ n, s.t.length = n := ⟨_, rfl⟩
      have hpl2 : pl ≤ 1000000 := by omega
      have hSQ : SizeQ m n := ⟨by omega, by omega, by
        have h3 : ((m : Int) * (n : Int)) = ((m * n : Nat) : Int) := by simp
        have h4 : m * n ≤ 20 * 10000 := Nat.mul_le_mul (by omega) (by omega)
        omega⟩
      rw [hm, hn] at hOQ
      have HL1 := Lib.hid (lay_good _ _ hv2 _ _ w2 HR2.out HE2.out HSM.out hq s hst)
      rw [hn] at HL1
      rw [hm] at hm20
      have HSL := Lib.hid (fun X q3 c3 hP => slots_go2 q3 pl c3 m n (s.ps.map Pl.z) X (by rw [List.length_map]; exact hpl) hP hSQ hOQ)
      have HFI := Lib.hid (lay_first hst)
      have HFT := Lib.hid (run_fit _ _ _ Okay.zero (Fit7.zero zk) hst)
      have HPB := Lib.hid (placed hOQ)
      have hn10 : n ≤ 10000 := by omega
      have HM := Lib.hid hm
      have HPN := Lib.hid hpl
      clear hm hpl hn hSQ hOQ hsm hlen hfew hz0 HSM hq hst
      go_wp2_with (first
        | (go_at_call 18; refine HL1.out.mono ?_; clear HL1; rintro e w3 ⟨v3, rfl, ho3, hb3⟩; have P3 := Lib.hid (ho3.places (by rw [HPN.out]; omega)); obtain ⟨q3, c3, hv3⟩ := P3.out.form; rw [List.length_map, HPN.out] at hv3; subst hv3; have B3 := Lib.hid hb3; clear hb3 ho3)
        | (go_at_call 14; refine (HSL.out _ _ _ P3.out).mono ?_; clear HSL; rintro e w4 ⟨g, hs, rfl, hgw, hhl, hown, hb4⟩; have P4 := Lib.hid (P3.out.below hb4); have HGW := Lib.hid hgw; have HHL := Lib.hid hhl; have HOWN := Lib.hid hown; have B4 := Lib.hid (HB2.out.trans ((B3.out.trans (hb4.mono B3.out.size)).mono HB2.out.size)); clear hgw hhl hown hb4))
      have HCELL : Hid (∀ (i : Nat) (p : Pl) (c : Nat), s.ps[i]? = some p → fromI s.ps i p.r ≤ c → c < p.c → ∃ (k : Nat) (q : Pl) (gb rl cap : Nat), k < i ∧ s.ps[k]? = some q ∧ q.r < p.r ∧ w4.cell? ⟨g, p.r, none⟩ = some (.slice (some ⟨gb, 0, none⟩) rl cap) ∧ w4.cell? ⟨gb, c, none⟩ = some (.int .i64 (k : Int)) ∧ gb < w4.heap.size ∧ c < rl) := Lib.hid fun i p c hp h1 h2 => by
        obtain ⟨k, q, hk, hq, hqr, how⟩ := above_own HFT.out (HFI.out.all i p hp c h1 h2)
        obtain ⟨hr, hcw, hcn⟩ := HPB.out p (List.mem_iff_getElem?.2 ⟨i, hp⟩)
        have hrow := rowOf_get (entL 0 (s.ps.map Pl.z)).reverse m n p.r c hr (by omega)
        rw [how] at hrow
        obtain ⟨u, hu⟩ : ∃ u, hs[p.r]? = some u := ⟨_, List.getElem?_eq_getElem (by rw [HHL.out]; exact hr)⟩
        obtain ⟨gb, cap, hue, hcc, hgl⟩ := owns_cell (k := 0) (HOWN.out p.r u hu) hrow
        exact ⟨k, q, gb, _, cap, hk, hq, hqr, by rw [HGW.out.cellAt, hu, hue], hcc, hgl, (List.getElem?_eq_some_iff.1 hrow).1⟩
      have lgw := HGW.out.lt
      clear HOWN HFI HFT
      go_loopw [11] (fun s11 x => ∃ i : Nat, i ≤ pl ∧ s11 = .int .i64 (i : Int) ∧ Hid (Below w4.heap.size w4 x)) (fun s11 _ => pl - (intOf s11).toNat)
      case atStart => exact ⟨0, Nat.zero_le _, rfl, Lib.hid (Below.refl _ _)⟩
      case round =>
        obtain ⟨i, hi, rfl, HX⟩ := hrel
        by_cases hlt : i < pl
        · obtain ⟨p, hp⟩ : ∃ p, s.ps[i]? = some p := ⟨_, List.getElem?_eq_getElem (by rw [HPN.out]; exact hlt)⟩
          obtain ⟨pb, po, hq3, plt, p0, p1, p2, p3, p4⟩ := P4.out.at i p.z (by rw [List.getElem?_map, hp]; rfl)
          subst hq3
          obtain ⟨hpm, hpw, hpn⟩ := HPB.out p (List.mem_iff_getElem?.2 ⟨i, hp⟩)
          have HCI := Lib.hid (fun c => HCELL.out i p c hp)
          obtain ⟨pn, pr, pc, ph, pw⟩ := p
          dsimp only [Pl.z] at p0 p1 p2 p3 p4 hpm hpw hpn HCI
          have plt1 : pb < wr.heap.size := by have := HX.out.size; omega
          have y1 := (HX.out.cell (p := ⟨pb, po + i * 5 + 1, none⟩) plt).trans p1
          have y2 := (HX.out.cell (p := ⟨pb, po + i * 5 + 2, none⟩) plt).trans p2
          have HY1 := Lib.hid p1
          have HY2 := Lib.hid p2
          obtain ⟨fr, hfr⟩ : ∃ fr, fromI s.ps i pr = fr := ⟨_, rfl⟩
          rw [hfr] at HCI
          clear p0 p1 p2 p3 p4 hp
          by_cases hi0 : i = 0
          · have hfr0 : fr = 0 := by rw [← hfr, hi0]; rfl
            have HFR := Lib.hid hfr0
            have g0 : decide ((0 : Int) < (i : Int)) = false := by simp; omega
            have g0n : decide (0 < i) = false := by simp; omega
            have HI0 := Lib.hid hi0
            clear hfr hfr0 hi0
            go_wp2
            go_quiet (fail)
            go_wp2
            have HXD := Lib.hid (HX.out.trans ((below_dn w4.heap.size wr nq)))
            have y1d : (wr.drewN nq).cell? ⟨pb, po + i * 5 + 1, none⟩ = some (.int .i64 (pr : Int)) := y1
            have y2d : (wr.drewN nq).cell? ⟨pb, po + i * 5 + 2, none⟩ = some (.int .i64 (pc : Int)) := y2
            have pltd : pb < (wr.drewN nq).heap.size := plt1
            generalize wr.drewN nq = wd at HXD y1d y2d pltd ⊢
            go_loopw [13] (fun s13 x => ∃ c : Nat, s13 = .int .i64 (c : Int) ∧ Hid (fr ≤ c) ∧ c ≤ 20000 ∧ Hid (Below w4.heap.size w4 x)) (fun s13 _ => pc - (intOf s13).toNat)
            case atStart => exact ⟨0, rfl, Lib.hid (by rw [HFR.out]; exact Nat.zero_le _), by omega, HXD⟩
            case round =>
              clear HXD y1d y2d pltd
              obtain ⟨c, rfl, HFC, hc20, HXC⟩ := hrel
              have pltc : pb < wr.heap.size := by have := HXC.out.size; omega
              have v1 := (HXC.out.cell (p := ⟨pb, po + i * 5 + 1, none⟩) plt).trans HY1.out
              have v2 := (HXC.out.cell (p := ⟨pb, po + i * 5 + 2, none⟩) plt).trans HY2.out
              by_cases hcl : c < pc
              · obtain ⟨k, q, gb, rl, cap, hk, hq, hqr, k1, k2, k3, k4⟩ := HCI.out c HFC.out hcl
                obtain ⟨pb2, po2, hpe, _, _, x1, _, _, _⟩ := P4.out.at k q.z (by rw [List.getElem?_map, hq]; rfl)
                injection hpe with hpe
                injection hpe with hpe1 hpe2
                subst hpe1 hpe2
                obtain ⟨qn', qr', qc', qh', qw'⟩ := q
                dsimp only [Pl.z] at x1 hqr
                have a1 := (HXC.out.cell (p := ⟨g, pr, none⟩) lgw).trans k1
                have a2 := (HXC.out.cell (p := ⟨gb, c, none⟩) k3).trans k2
                have a3 := (HXC.out.cell (p := ⟨pb, po + k * 5 + 1, none⟩) plt).trans x1
                have l1 : g < wr.heap.size := by have := HXC.out.size; omega
                have l2 : gb < wr.heap.size := by have := HXC.out.size; omega
                have hkpl : k < pl := by omega
                have e0 : decide ((c : Int) < (pc : Int)) = true := by simp; omega
                have e0n : decide (c < pc) = true := by simp; omega
                have e1 : decide ((rl : Int) ≤ (c : Int)) = false := by simp; omega
                have e1n : decide (rl ≤ c) = false := by simp; omega
                have e2 : decide ((k : Int) < 0) = false := by simp
                have e3 : decide (((i : Nat) : Int) ≤ (k : Int)) = false := by simp; omega
                have e3n : decide (i ≤ k) = false := by simp; omega
                have e4 : decide ((pr : Int) ≤ (qr' : Int)) = false := by simp; omega
                have e4n : decide (pr ≤ qr') = false := by simp; omega
                clear k1 k2 x1 hq
                go_wp2
                try simp only [List.append_eq, List.cons_append, List.nil_append]
                go_quiet (fail)
                go_wp2
                go_roundw
                case rel => exact ⟨c + 1, by go_num, Lib.hid (by have := HFC.out; omega), by omega, Lib.hid (HXC.out.trans (below_dn _ _ _))⟩
                case measure => simp [intOf]; omega
              · have e0 : decide ((c : Int) < (pc : Int)) = false := by simp; omega
                have e0n : decide (c < pc) = false := by simp; omega
                go_wp2
                go_roundw
                case rel => exact ⟨i + 1, by omega, by go_num, HXC⟩
                case measure => simp [intOf]; omega
          · obtain ⟨ii, rfl⟩ : ∃ ii, i = ii + 1 := ⟨i - 1, by omega⟩
            obtain ⟨q, hq⟩ : ∃ q, s.ps[ii]? = some q := ⟨_, List.getElem?_eq_getElem (by rw [HPN.out]; omega)⟩
            obtain ⟨pb2, po2, hpe, _, _, x1, x2, _, x4⟩ := P4.out.at ii q.z (by rw [List.getElem?_map, hq]; rfl)
            injection hpe with hpe
            injection hpe with hpe1 hpe2
            subst hpe1 hpe2
            obtain ⟨_, hqw, _⟩ := HPB.out q (List.mem_iff_getElem?.2 ⟨ii, hq⟩)
            have hfr2 : (if q.r = pr then q.c + q.w else 0) = fr := by rw [← hfr, fromI_succ, hq]
            obtain ⟨qn, qr, qc, qh, qw⟩ := q
            dsimp only [Pl.z] at x1 x2 x4 hqw hfr2
            have u1 := (HX.out.cell (p := ⟨pb, po + ii * 5 + 1, none⟩) plt).trans x1
            have u2 := (HX.out.cell (p := ⟨pb, po + ii * 5 + 2, none⟩) plt).trans x2
            have u4 := (HX.out.cell (p := ⟨pb, po + ii * 5 + 4, none⟩) plt).trans x4
            have g0 : decide ((0 : Int) < ((ii + 1 : Nat) : Int)) = true := by first | (simp; done) | (simp; omega)
            have g0n : decide (0 < ii + 1) = true := by simp
            clear hi0 x1 x2 x4 hq hfr
            by_cases hqr : qr = pr
            · rw [if_pos hqr] at hfr2
              have HFR := Lib.hid hfr2
              obtain rfl : pr = qr := hqr.symm
              clear hfr2
              go_wp2
              go_quiet (fail)
              go_wp2
              go_quiet (fail)
              go_wp2
              rename_i nq0
              have HXD := Lib.hid (HX.out.trans ((below_dn w4.heap.size wr nq0).trans (below_dn w4.heap.size _ nq)))
              have y1d : ((wr.drewN nq0).drewN nq).cell? ⟨pb, po + (ii + 1) * 5 + 1, none⟩ = some (.int .i64 (pr : Int)) := y1
              have y2d : ((wr.drewN nq0).drewN nq).cell? ⟨pb, po + (ii + 1) * 5 + 2, none⟩ = some (.int .i64 (pc : Int)) := y2
              have pltd : pb < ((wr.drewN nq0).drewN nq).heap.size := plt1
              generalize (wr.drewN nq0).drewN nq = wd at HXD y1d y2d pltd ⊢
              clear u1 u2 u4 y1 y2 plt1
              go_loopw [13] (fun s13 x => ∃ c : Nat, s13 = .int .i64 (c : Int) ∧ Hid (fr ≤ c) ∧ c ≤ 20000 ∧ Hid (Below w4.heap.size w4 x)) (fun s13 _ => pc - (intOf s13).toNat)
              case atStart => exact ⟨qc + qw, by go_num, Lib.hid (by rw [← HFR.out]; exact Nat.le_refl _), by omega, HXD⟩
              case round =>
                clear HXD y1d y2d pltd
                obtain ⟨c, rfl, HFC, hc20, HXC⟩ := hrel
                have pltc : pb < wr.heap.size := by have := HXC.out.size; omega
                have v1 := (HXC.out.cell (p := ⟨pb, po + (ii + 1) * 5 + 1, none⟩) plt).trans HY1.out
                have v2 := (HXC.out.cell (p := ⟨pb, po + (ii + 1) * 5 + 2, none⟩) plt).trans HY2.out
                by_cases hcl : c < pc
                · obtain ⟨k, q, gb, rl, cap, hk, hq, hqr, k1, k2, k3, k4⟩ := HCI.out c HFC.out hcl
                  obtain ⟨pb2, po2, hpe, _, _, x1, _, _, _⟩ := P4.out.at k q.z (by rw [List.getElem?_map, hq]; rfl)
                  injection hpe with hpe
                  injection hpe with hpe1 hpe2
                  subst hpe1 hpe2
                  obtain ⟨qn', qr', qc', qh', qw'⟩ := q
                  dsimp only [Pl.z] at x1 hqr
                  have a1 := (HXC.out.cell (p := ⟨g, pr, none⟩) lgw).trans k1
                  have a2 := (HXC.out.cell (p := ⟨gb, c, none⟩) k3).trans k2
                  have a3 := (HXC.out.cell (p := ⟨pb, po + k * 5 + 1, none⟩) plt).trans x1
                  have l1 : g < wr.heap.size := by have := HXC.out.size; omega
                  have l2 : gb < wr.heap.size := by have := HXC.out.size; omega
                  have hkpl : k < pl := by omega
                  have e0 : decide ((c : Int) < (pc : Int)) = true := by simp; omega
                  have e0n : decide (c < pc) = true := by simp; omega
                  have e1 : decide ((rl : Int) ≤ (c : Int)) = false := by simp; omega
                  have e1n : decide (rl ≤ c) = false := by simp; omega
                  have e2 : decide ((k : Int) < 0) = false := by simp
                  have e3 : decide ((((ii + 1) : Nat) : Int) ≤ (k : Int)) = false := by simp; omega
                  have e3n : decide ((ii + 1) ≤ k) = false := by simp; omega
                  have e3b : decide ((ii : Int) + 1 ≤ (k : Int)) = false := by simp; omega
                  have e3c : decide (ii < k) = false := by simp; omega
                  have e4 : decide ((pr : Int) ≤ (qr' : Int)) = false := by simp; omega
                  have e4n : decide (pr ≤ qr') = false := by simp; omega
                  clear k1 k2 x1 hq
                  go_wp2
                  try simp only [List.append_eq, List.cons_append, List.nil_append]
                  go_quiet (fail)
                  go_wp2
                  go_roundw
                  case rel => exact ⟨c + 1, by go_num, Lib.hid (by have := HFC.out; omega), by omega, Lib.hid (HXC.out.trans (below_dn _ _ _))⟩
                  case measure => simp [intOf]; omega
                · have e0 : decide ((c : Int) < (pc : Int)) = false := by simp; omega
                  have e0n : decide (c < pc) = false := by simp; omega
                  go_wp2
                  go_roundw
                  case rel => exact ⟨(ii + 1) + 1, by omega, by go_num, HXC⟩
                  case measure => simp [intOf]; omega
            · rw [if_neg hqr] at hfr2
              have HFR := Lib.hid hfr2
              have g1 : ((qr : Int) == (pr : Int)) = false := by simp; omega
              have g1n : (qr == pr) = false := by simpa using hqr
              clear hfr2
              go_wp2
              go_quiet (fail)
              go_wp2
              have HXD := Lib.hid (HX.out.trans (below_dn w4.heap.size wr nq))
              have y1d : (wr.drewN nq).cell? ⟨pb, po + (ii + 1) * 5 + 1, none⟩ = some (.int .i64 (pr : Int)) := y1
              have y2d : (wr.drewN nq).cell? ⟨pb, po + (ii + 1) * 5 + 2, none⟩ = some (.int .i64 (pc : Int)) := y2
              have pltd : pb < (wr.drewN nq).heap.size := plt1
              generalize wr.drewN nq = wd at HXD y1d y2d pltd ⊢
              clear u1 u2 u4 y1 y2 plt1
              go_loopw [13] (fun s13 x => ∃ c : Nat, s13 = .int .i64 (c : Int) ∧ Hid (fr ≤ c) ∧ c ≤ 20000 ∧ Hid (Below w4.heap.size w4 x)) (fun s13 _ => pc - (intOf s13).toNat)
              case atStart => exact ⟨0, rfl, Lib.hid (by rw [← HFR.out]; exact Nat.le_refl _), by omega, HXD⟩
              case round =>
                clear HXD y1d y2d pltd
                obtain ⟨c, rfl, HFC, hc20, HXC⟩ := hrel
                have pltc : pb < wr.heap.size := by have := HXC.out.size; omega
                have v1 := (HXC.out.cell (p := ⟨pb, po + (ii + 1) * 5 + 1, none⟩) plt).trans HY1.out
                have v2 := (HXC.out.cell (p := ⟨pb, po + (ii + 1) * 5 + 2, none⟩) plt).trans HY2.out
                by_cases hcl : c < pc
                · obtain ⟨k, q, gb, rl, cap, hk, hq, hqr, k1, k2, k3, k4⟩ := HCI.out c HFC.out hcl
                  obtain ⟨pb2, po2, hpe, _, _, x1, _, _, _⟩ := P4.out.at k q.z (by rw [List.getElem?_map, hq]; rfl)
                  injection hpe with hpe
                  injection hpe with hpe1 hpe2
                  subst hpe1 hpe2
                  obtain ⟨qn', qr', qc', qh', qw'⟩ := q
                  dsimp only [Pl.z] at x1 hqr
                  have a1 := (HXC.out.cell (p := ⟨g, pr, none⟩) lgw).trans k1
                  have a2 := (HXC.out.cell (p := ⟨gb, c, none⟩) k3).trans k2
                  have a3 := (HXC.out.cell (p := ⟨pb, po + k * 5 + 1, none⟩) plt).trans x1
                  have l1 : g < wr.heap.size := by have := HXC.out.size; omega
                  have l2 : gb < wr.heap.size := by have := HXC.out.size; omega
                  have hkpl : k < pl := by omega
                  have e0 : decide ((c : Int) < (pc : Int)) = true := by simp; omega
                  have e0n : decide (c < pc) = true := by simp; omega
                  have e1 : decide ((rl : Int) ≤ (c : Int)) = false := by simp; omega
                  have e1n : decide (rl ≤ c) = false := by simp; omega
                  have e2 : decide ((k : Int) < 0) = false := by simp
                  have e3 : decide ((((ii + 1) : Nat) : Int) ≤ (k : Int)) = false := by simp; omega
                  have e3n : decide ((ii + 1) ≤ k) = false := by simp; omega
                  have e3b : decide ((ii : Int) + 1 ≤ (k : Int)) = false := by simp; omega
                  have e3c : decide (ii < k) = false := by simp; omega
                  have e4 : decide ((pr : Int) ≤ (qr' : Int)) = false := by simp; omega
                  have e4n : decide (pr ≤ qr') = false := by simp; omega
                  clear k1 k2 x1 hq
                  go_wp2
                  try simp only [List.append_eq, List.cons_append, List.nil_append]
                  go_quiet (fail)
                  go_wp2
                  go_roundw
                  case rel => exact ⟨c + 1, by go_num, Lib.hid (by have := HFC.out; omega), by omega, Lib.hid (HXC.out.trans (below_dn _ _ _))⟩
                  case measure => simp [intOf]; omega
                · have e0 : decide ((c : Int) < (pc : Int)) = false := by simp; omega
                  have e0n : decide (c < pc) = false := by simp; omega
                  go_wp2
                  go_roundw
                  case rel => exact ⟨(ii + 1) + 1, by omega, by go_num, HXC⟩
                  case measure => simp [intOf]; omega
        · have HF := Lib.hid (B4.out.trans (HX.out.mono B4.out.size))
          clear HX
          go_wp2
          go_ret
          exact ⟨rfl, HF.out⟩
  · have HL1 := Lib.hid (fun X (hb : Below w2.heap.size w2 X) => lay_wrong v2 _ hv2 _ _ X ((HR2.out.below hb).mono hb.size) (HE2.out.below hb) HSM.out hq)
    clear HR2 HE2 HSM
    go_wp2_with (go_at_call 18; refine (HL1.out _ (Below.refl _ _)).mono ?_; rintro e w3 ⟨rfl, hb3⟩; have B3 := Lib.hid (HB2.out.trans (hb3.mono HB2.out.size)); clear hb3 HL1)
    go_ret
    exact ⟨rfl, B3.out⟩
set_option maxRecDepth 100000 in
set_option maxHeartbeats 4000000 in
theorem own_gt (a0 : Option Addr) (len0 cap0 : Nat) (hv : Nat → Value) (rows : List (List Sp)) (a1 : Option Addr) (len1 : Nat) (cap1 : Nat) (zs : List Int) (w : World) (hR : RowsIn w.heap.size w (.slice a0 len0 cap0) hv rows) (hE : Ints w (.slice a1 len1 cap1) zs) (hz : zs.length = len1) (hlc : len1 ≤ cap1) (hcm : cap1 ≤ 9223372036854775807) (hl : 21 < len1) :
    Calls Try.prog 6 #[.slice a0 len0 cap0, .slice a1 len1 cap1] w fun e w' => e = .returned (.bool true) ∧ Below w.heap.size w w' := by
  have HR := Lib.hid hR
  have HE := Lib.hid (ints_take hE hz 21 (by omega))
  have HSM := Lib.hid (cut_small rows)
  clear hR hE hz
  go_enter Try.func6, Try.ntmps6
  go_wp2_with (first
    | (go_at_call 7; refine (shown7_any _).mono ?_; rintro e w1 ⟨rfl, hb1⟩; have HB1 := Lib.hid hb1; have HR1 := Lib.hid ((HR.out.below hb1).mono hb1.size); clear hb1 HR)
    | (go_at_call 17; refine (cutG_any _ hv rows _ HR1.out).mono ?_; rintro e w2 ⟨v2, hv2, rfl, hr2, hb2⟩; have HB2 := Lib.hid (HB1.out.trans (hb2.mono HB1.out.size)); have HR2 := Lib.hid hr2; have HE2 := Lib.hid (HE.out.below HB2.out); clear hb2 hr2 HB1 HR1 HE))
  obtain ⟨zk, hzk⟩ : ∃ zk, zs.take 21 = zk := ⟨_, rfl⟩
  rw [hzk] at HE2
  by_cases hq : RightQ (cutG rows) zk
  · obtain ⟨st, hst⟩ : ∃ st, layP (cutG rows) zk = st := ⟨_, rfl⟩
    cases st with
    | none =>
      have HL1 := Lib.hid (fun X (hb : Below w2.heap.size w2 X) => lay_full v2 _ hv2 _ _ X ((HR2.out.below hb).mono hb.size) (HE2.out.below hb) HSM.out hq hst)
      clear HR2 HE2 HSM
      go_wp2_with (go_at_call 18; refine (HL1.out _ (Below.refl _ _)).mono ?_; rintro e w3 ⟨rfl, hb3⟩; have B3 := Lib.hid (HB2.out.trans (hb3.mono HB2.out.size)); clear hb3 HL1)
      go_ret
      exact ⟨rfl, B3.out⟩
    | some s =>
      obtain ⟨rc, hrc⟩ : ∃ rc, cutG rows = rc := ⟨_, rfl⟩
      have hm20 : rc.length ≤ 20 := by rw [← hrc, cutG_len]; omega
      rw [hrc] at HR2 HSM hq hst
      clear hrc
      have hOQ := own_all hq hst
      have hfew := (runP_okay zk _ LS.zero s Okay.zero hst).1.few
      have hlen := (runP_okay zk _ LS.zero s Okay.zero hst).2
      have hz0 : LS.zero.ps.length = 0 := rfl
      have hsm := HSM.out
      obtain ⟨m, hm⟩ : ∃ m, rc.length = m := ⟨_, rfl⟩
      obtain ⟨q2, c2, hv2e⟩ := HR2.out.form
      rw [hm] at hv2e
      subst hv2e
      obtain ⟨pl, hpl⟩ : ∃ pl, s.ps.length = pl := ⟨_, rfl⟩
      obtain ⟨n, hn⟩ : ∃ n, s.t.length = n := ⟨_, rfl⟩
      have hpl2 : pl ≤ 1000000 := by omega
      have hSQ : SizeQ m n := ⟨by omega, by omega, by
        have h3 : ((m : Int) * (n : Int)) = ((m * n : Nat) : Int) := by simp
        have h4 : m * n ≤ 20 * 10000 := Nat.mul_le_mul (by omega) (by omega)
        omega⟩
      rw [hm, hn] at hOQ
      have HL1 := Lib.hid (lay_good _ _ hv2 _ _ w2 HR2.out HE2.out HSM.out hq s hst)
      rw [hn] at HL1
      rw [hm] at hm20
      have HSL := Lib.hid (fun X q3 c3 hP => slots_go2 q3 pl c3 m n (s.ps.map Pl.z) X (by rw [List.length_map]; exact hpl) hP hSQ hOQ)
      have HFI := Lib.hid (lay_first hst)
      have HFT := Lib.hid (run_fit _ _ _ Okay.zero (Fit7.zero zk) hst)
      have HPB := Lib.hid (placed hOQ)
      have hn10 : n ≤ 10000 := by omega
      have HM := Lib.hid hm
      have HPN := Lib.hid hpl
      clear hm hpl hn hSQ hOQ hsm hlen hfew hz0 HSM hq hst
      go_wp2_with (first
        | (go_at_call 18; refine HL1.out.mono ?_; clear HL1; rintro e w3 ⟨v3, rfl, ho3, hb3⟩; have P3 := Lib.hid (ho3.places (by rw [HPN.out]; omega)); obtain ⟨q3, c3, hv3⟩ := P3.out.form; rw [List.length_map, HPN.out] at hv3; subst hv3; have B3 := Lib.hid hb3; clear hb3 ho3)
        | (go_at_call 14; refine (HSL.out _ _ _ P3.out).mono ?_; clear HSL; rintro e w4 ⟨g, hs, rfl, hgw, hhl, hown, hb4⟩; have P4 := Lib.hid (P3.out.below hb4); have HGW := Lib.hid hgw; have HHL := Lib.hid hhl; have HOWN := Lib.hid hown; have B4 := Lib.hid (HB2.out.trans ((B3.out.trans (hb4.mono B3.out.size)).mono HB2.out.size)); clear hgw hhl hown hb4))
      have HCELL : Hid (∀ (i : Nat) (p : Pl) (c : Nat), s.ps[i]? = some p → fromI s.ps i p.r ≤ c → c < p.c → ∃ (k : Nat) (q : Pl) (gb rl cap : Nat), k < i ∧ s.ps[k]? = some q ∧ q.r < p.r ∧ w4.cell? ⟨g, p.r, none⟩ = some (.slice (some ⟨gb, 0, none⟩) rl cap) ∧ w4.cell? ⟨gb, c, none⟩ = some (.int .i64 (k : Int)) ∧ gb < w4.heap.size ∧ c < rl) := Lib.hid fun i p c hp h1 h2 => by
        obtain ⟨k, q, hk, hq, hqr, how⟩ := above_own HFT.out (HFI.out.all i p hp c h1 h2)
        obtain ⟨hr, hcw, hcn⟩ := HPB.out p (List.mem_iff_getElem?.2 ⟨i, hp⟩)
        have hrow := rowOf_get (entL 0 (s.ps.map Pl.z)).reverse m n p.r c hr (by omega)
        rw [how] at hrow
        obtain ⟨u, hu⟩ : ∃ u, hs[p.r]? = some u := ⟨_, List.getElem?_eq_getElem (by rw [HHL.out]; exact hr)⟩
        obtain ⟨gb, cap, hue, hcc, hgl⟩ := owns_cell (k := 0) (HOWN.out p.r u hu) hrow
        exact ⟨k, q, gb, _, cap, hk, hq, hqr, by rw [HGW.out.cellAt, hu, hue], hcc, hgl, (List.getElem?_eq_some_iff.1 hrow).1⟩
      have lgw := HGW.out.lt
      clear HOWN HFI HFT
      go_loopw [11] (fun s11 x => ∃ i : Nat, i ≤ pl ∧ s11 = .int .i64 (i : Int) ∧ Hid (Below w4.heap.size w4 x)) (fun s11 _ => pl - (intOf s11).toNat)
      case atStart => exact ⟨0, Nat.zero_le _, rfl, Lib.hid (Below.refl _ _)⟩
      case round =>
        obtain ⟨i, hi, rfl, HX⟩ := hrel
        by_cases hlt : i < pl
        · obtain ⟨p, hp⟩ : ∃ p, s.ps[i]? = some p := ⟨_, List.getElem?_eq_getElem (by rw [HPN.out]; exact hlt)⟩
          obtain ⟨pb, po, hq3, plt, p0, p1, p2, p3, p4⟩ := P4.out.at i p.z (by rw [List.getElem?_map, hp]; rfl)
          subst hq3
          obtain ⟨hpm, hpw, hpn⟩ := HPB.out p (List.mem_iff_getElem?.2 ⟨i, hp⟩)
          have HCI := Lib.hid (fun c => HCELL.out i p c hp)
          obtain ⟨pn, pr, pc, ph, pw⟩ := p
          dsimp only [Pl.z] at p0 p1 p2 p3 p4 hpm hpw hpn HCI
          have plt1 : pb < wr.heap.size := by have := HX.out.size; omega
          have y1 := (HX.out.cell (p := ⟨pb, po + i * 5 + 1, none⟩) plt).trans p1
          have y2 := (HX.out.cell (p := ⟨pb, po + i * 5 + 2, none⟩) plt).trans p2
          have HY1 := Lib.hid p1
          have HY2 := Lib.hid p2
          obtain ⟨fr, hfr⟩ : ∃ fr, fromI s.ps i pr = fr := ⟨_, rfl⟩
          rw [hfr] at HCI
          clear p0 p1 p2 p3 p4 hp
          by_cases hi0 : i = 0
          · have hfr0 : fr = 0 := by rw [← hfr, hi0]; rfl
            have HFR := Lib.hid hfr0
            have g0 : decide ((0 : Int) < (i : Int)) = false := by simp; omega
            have g0n : decide (0 < i) = false := by simp; omega
            have HI0 := Lib.hid hi0
            clear hfr hfr0 hi0
            go_wp2
            go_quiet (fail)
            go_wp2
            have HXD := Lib.hid (HX.out.trans ((below_dn w4.heap.size wr nq)))
            have y1d : (wr.drewN nq).cell? ⟨pb, po + i * 5 + 1, none⟩ = some (.int .i64 (pr : Int)) := y1
            have y2d : (wr.drewN nq).cell? ⟨pb, po + i * 5 + 2, none⟩ = some (.int .i64 (pc : Int)) := y2
            have pltd : pb < (wr.drewN nq).heap.size := plt1
            generalize wr.drewN nq = wd at HXD y1d y2d pltd ⊢
            go_loopw [13] (fun s13 x => ∃ c : Nat, s13 = .int .i64 (c : Int) ∧ Hid (fr ≤ c) ∧ c ≤ 20000 ∧ Hid (Below w4.heap.size w4 x)) (fun s13 _ => pc - (intOf s13).toNat)
            case atStart => exact ⟨0, rfl, Lib.hid (by rw [HFR.out]; exact Nat.zero_le _), by omega, HXD⟩
            case round =>
              clear HXD y1d y2d pltd
              obtain ⟨c, rfl, HFC, hc20, HXC⟩ := hrel
              have pltc : pb < wr.heap.size := by have := HXC.out.size; omega
              have v1 := (HXC.out.cell (p := ⟨pb, po + i * 5 + 1, none⟩) plt).trans HY1.out
              have v2 := (HXC.out.cell (p := ⟨pb, po + i * 5 + 2, none⟩) plt).trans HY2.out
              by_cases hcl : c < pc
              · obtain ⟨k, q, gb, rl, cap, hk, hq, hqr, k1, k2, k3, k4⟩ := HCI.out c HFC.out hcl
                obtain ⟨pb2, po2, hpe, _, _, x1, _, _, _⟩ := P4.out.at k q.z (by rw [List.getElem?_map, hq]; rfl)
                injection hpe with hpe
                injection hpe with hpe1 hpe2
                subst hpe1 hpe2
                obtain ⟨qn', qr', qc', qh', qw'⟩ := q
                dsimp only [Pl.z] at x1 hqr
                have a1 := (HXC.out.cell (p := ⟨g, pr, none⟩) lgw).trans k1
                have a2 := (HXC.out.cell (p := ⟨gb, c, none⟩) k3).trans k2
                have a3 := (HXC.out.cell (p := ⟨pb, po + k * 5 + 1, none⟩) plt).trans x1
                have l1 : g < wr.heap.size := by have := HXC.out.size; omega
                have l2 : gb < wr.heap.size := by have := HXC.out.size; omega
                have hkpl : k < pl := by omega
                have e0 : decide ((c : Int) < (pc : Int)) = true := by simp; omega
                have e0n : decide (c < pc) = true := by simp; omega
                have e1 : decide ((rl : Int) ≤ (c : Int)) = false := by simp; omega
                have e1n : decide (rl ≤ c) = false := by simp; omega
                have e2 : decide ((k : Int) < 0) = false := by simp
                have e3 : decide (((i : Nat) : Int) ≤ (k : Int)) = false := by simp; omega
                have e3n : decide (i ≤ k) = false := by simp; omega
                have e4 : decide ((pr : Int) ≤ (qr' : Int)) = false := by simp; omega
                have e4n : decide (pr ≤ qr') = false := by simp; omega
                clear k1 k2 x1 hq
                go_wp2
                try simp only [List.append_eq, List.cons_append, List.nil_append]
                go_quiet (fail)
                go_wp2
                go_roundw
                case rel => exact ⟨c + 1, by go_num, Lib.hid (by have := HFC.out; omega), by omega, Lib.hid (HXC.out.trans (below_dn _ _ _))⟩
                case measure => simp [intOf]; omega
              · have e0 : decide ((c : Int) < (pc : Int)) = false := by simp; omega
                have e0n : decide (c < pc) = false := by simp; omega
                go_wp2
                go_roundw
                case rel => exact ⟨i + 1, by omega, by go_num, HXC⟩
                case measure => simp [intOf]; omega
          · obtain ⟨ii, rfl⟩ : ∃ ii, i = ii + 1 := ⟨i - 1, by omega⟩
            obtain ⟨q, hq⟩ : ∃ q, s.ps[ii]? = some q := ⟨_, List.getElem?_eq_getElem (by rw [HPN.out]; omega)⟩
            obtain ⟨pb2, po2, hpe, _, _, x1, x2, _, x4⟩ := P4.out.at ii q.z (by rw [List.getElem?_map, hq]; rfl)
            injection hpe with hpe
            injection hpe with hpe1 hpe2
            subst hpe1 hpe2
            obtain ⟨_, hqw, _⟩ := HPB.out q (List.mem_iff_getElem?.2 ⟨ii, hq⟩)
            have hfr2 : (if q.r = pr then q.c + q.w else 0) = fr := by rw [← hfr, fromI_succ, hq]
            obtain ⟨qn, qr, qc, qh, qw⟩ := q
            dsimp only [Pl.z] at x1 x2 x4 hqw hfr2
            have u1 := (HX.out.cell (p := ⟨pb, po + ii * 5 + 1, none⟩) plt).trans x1
            have u2 := (HX.out.cell (p := ⟨pb, po + ii * 5 + 2, none⟩) plt).trans x2
            have u4 := (HX.out.cell (p := ⟨pb, po + ii * 5 + 4, none⟩) plt).trans x4
            have g0 : decide ((0 : Int) < ((ii + 1 : Nat) : Int)) = true := by first | (simp; done) | (simp; omega)
            have g0n : decide (0 < ii + 1) = true := by simp
            clear hi0 x1 x2 x4 hq hfr
            by_cases hqr : qr = pr
            · rw [if_pos hqr] at hfr2
              have HFR := Lib.hid hfr2
              obtain rfl : pr = qr := hqr.symm
              clear hfr2
              go_wp2
              go_quiet (fail)
              go_wp2
              go_quiet (fail)
              go_wp2
              rename_i nq0
              have HXD := Lib.hid (HX.out.trans ((below_dn w4.heap.size wr nq0).trans (below_dn w4.heap.size _ nq)))
              have y1d : ((wr.drewN nq0).drewN nq).cell? ⟨pb, po + (ii + 1) * 5 + 1, none⟩ = some (.int .i64 (pr : Int)) := y1
              have y2d : ((wr.drewN nq0).drewN nq).cell? ⟨pb, po + (ii + 1) * 5 + 2, none⟩ = some (.int .i64 (pc : Int)) := y2
              have pltd : pb < ((wr.drewN nq0).drewN nq).heap.size := plt1
              generalize (wr.drewN nq0).drewN nq = wd at HXD y1d y2d pltd ⊢
              clear u1 u2 u4 y1 y2 plt1
              go_loopw [13] (fun s13 x => ∃ c : Nat, s13 = .int .i64 (c : Int) ∧ Hid (fr ≤ c) ∧ c ≤ 20000 ∧ Hid (Below w4.heap.size w4 x)) (fun s13 _ => pc - (intOf s13).toNat)
              case atStart => exact ⟨qc + qw, by go_num, Lib.hid (by rw [← HFR.out]; exact Nat.le_refl _), by omega, HXD⟩
              case round =>
                clear HXD y1d y2d pltd
                obtain ⟨c, rfl, HFC, hc20, HXC⟩ := hrel
                have pltc : pb < wr.heap.size := by have := HXC.out.size; omega
                have v1 := (HXC.out.cell (p := ⟨pb, po + (ii + 1) * 5 + 1, none⟩) plt).trans HY1.out
                have v2 := (HXC.out.cell (p := ⟨pb, po + (ii + 1) * 5 + 2, none⟩) plt).trans HY2.out
                by_cases hcl : c < pc
                · obtain ⟨k, q, gb, rl, cap, hk, hq, hqr, k1, k2, k3, k4⟩ := HCI.out c HFC.out hcl
                  obtain ⟨pb2, po2, hpe, _, _, x1, _, _, _⟩ := P4.out.at k q.z (by rw [List.getElem?_map, hq]; rfl)
                  injection hpe with hpe
                  injection hpe with hpe1 hpe2
                  subst hpe1 hpe2
                  obtain ⟨qn', qr', qc', qh', qw'⟩ := q
                  dsimp only [Pl.z] at x1 hqr
                  have a1 := (HXC.out.cell (p := ⟨g, pr, none⟩) lgw).trans k1
                  have a2 := (HXC.out.cell (p := ⟨gb, c, none⟩) k3).trans k2
                  have a3 := (HXC.out.cell (p := ⟨pb, po + k * 5 + 1, none⟩) plt).trans x1
                  have l1 : g < wr.heap.size := by have := HXC.out.size; omega
                  have l2 : gb < wr.heap.size := by have := HXC.out.size; omega
                  have hkpl : k < pl := by omega
                  have e0 : decide ((c : Int) < (pc : Int)) = true := by simp; omega
                  have e0n : decide (c < pc) = true := by simp; omega
                  have e1 : decide ((rl : Int) ≤ (c : Int)) = false := by simp; omega
                  have e1n : decide (rl ≤ c) = false := by simp; omega
                  have e2 : decide ((k : Int) < 0) = false := by simp
                  have e3 : decide ((((ii + 1) : Nat) : Int) ≤ (k : Int)) = false := by simp; omega
                  have e3n : decide ((ii + 1) ≤ k) = false := by simp; omega
                  have e3b : decide ((ii : Int) + 1 ≤ (k : Int)) = false := by simp; omega
                  have e3c : decide (ii < k) = false := by simp; omega
                  have e4 : decide ((pr : Int) ≤ (qr' : Int)) = false := by simp; omega
                  have e4n : decide (pr ≤ qr') = false := by simp; omega
                  clear k1 k2 x1 hq
                  go_wp2
                  try simp only [List.append_eq, List.cons_append, List.nil_append]
                  go_quiet (fail)
                  go_wp2
                  go_roundw
                  case rel => exact ⟨c + 1, by go_num, Lib.hid (by have := HFC.out; omega), by omega, Lib.hid (HXC.out.trans (below_dn _ _ _))⟩
                  case measure => simp [intOf]; omega
                · have e0 : decide ((c : Int) < (pc : Int)) = false := by simp; omega
                  have e0n : decide (c < pc) = false := by simp; omega
                  go_wp2
                  go_roundw
                  case rel => exact ⟨(ii + 1) + 1, by omega, by go_num, HXC⟩
                  case measure => simp [intOf]; omega
            · rw [if_neg hqr] at hfr2
              have HFR := Lib.hid hfr2
              have g1 : ((qr : Int) == (pr : Int)) = false := by simp; omega
              have g1n : (qr == pr) = false := by simpa using hqr
              clear hfr2
              go_wp2
              go_quiet (fail)
              go_wp2
              have HXD := Lib.hid (HX.out.trans (below_dn w4.heap.size wr nq))
              have y1d : (wr.drewN nq).cell? ⟨pb, po + (ii + 1) * 5 + 1, none⟩ = some (.int .i64 (pr : Int)) := y1
              have y2d : (wr.drewN nq).cell? ⟨pb, po + (ii + 1) * 5 + 2, none⟩ = some (.int .i64 (pc : Int)) := y2
              have pltd : pb < (wr.drewN nq).heap.size := plt1
              generalize wr.drewN nq = wd at HXD y1d y2d pltd ⊢
              clear u1 u2 u4 y1 y2 plt1
              go_loopw [13] (fun s13 x => ∃ c : Nat, s13 = .int .i64 (c : Int) ∧ Hid (fr ≤ c) ∧ c ≤ 20000 ∧ Hid (Below w4.heap.size w4 x)) (fun s13 _ => pc - (intOf s13).toNat)
              case atStart => exact ⟨0, rfl, Lib.hid (by rw [← HFR.out]; exact Nat.le_refl _), by omega, HXD⟩
              case round =>
                clear HXD y1d y2d pltd
                obtain ⟨c, rfl, HFC, hc20, HXC⟩ := hrel
                have pltc : pb < wr.heap.size := by have := HXC.out.size; omega
                have v1 := (HXC.out.cell (p := ⟨pb, po + (ii + 1) * 5 + 1, none⟩) plt).trans HY1.out
                have v2 := (HXC.out.cell (p := ⟨pb, po + (ii + 1) * 5 + 2, none⟩) plt).trans HY2.out
                by_cases hcl : c < pc
                · obtain ⟨k, q, gb, rl, cap, hk, hq, hqr, k1, k2, k3, k4⟩ := HCI.out c HFC.out hcl
                  obtain ⟨pb2, po2, hpe, _, _, x1, _, _, _⟩ := P4.out.at k q.z (by rw [List.getElem?_map, hq]; rfl)
                  injection hpe with hpe
                  injection hpe with hpe1 hpe2
                  subst hpe1 hpe2
                  obtain ⟨qn', qr', qc', qh', qw'⟩ := q
                  dsimp only [Pl.z] at x1 hqr
                  have a1 := (HXC.out.cell (p := ⟨g, pr, none⟩) lgw).trans k1
                  have a2 := (HXC.out.cell (p := ⟨gb, c, none⟩) k3).trans k2
                  have a3 := (HXC.out.cell (p := ⟨pb, po + k * 5 + 1, none⟩) plt).trans x1
                  have l1 : g < wr.heap.size := by have := HXC.out.size; omega
                  have l2 : gb < wr.heap.size := by have := HXC.out.size; omega
                  have hkpl : k < pl := by omega
                  have e0 : decide ((c : Int) < (pc : Int)) = true := by simp; omega
                  have e0n : decide (c < pc) = true := by simp; omega
                  have e1 : decide ((rl : Int) ≤ (c : Int)) = false := by simp; omega
                  have e1n : decide (rl ≤ c) = false := by simp; omega
                  have e2 : decide ((k : Int) < 0) = false := by simp
                  have e3 : decide ((((ii + 1) : Nat) : Int) ≤ (k : Int)) = false := by simp; omega
                  have e3n : decide ((ii + 1) ≤ k) = false := by simp; omega
                  have e3b : decide ((ii : Int) + 1 ≤ (k : Int)) = false := by simp; omega
                  have e3c : decide (ii < k) = false := by simp; omega
                  have e4 : decide ((pr : Int) ≤ (qr' : Int)) = false := by simp; omega
                  have e4n : decide (pr ≤ qr') = false := by simp; omega
                  clear k1 k2 x1 hq
                  go_wp2
                  try simp only [List.append_eq, List.cons_append, List.nil_append]
                  go_quiet (fail)
                  go_wp2
                  go_roundw
                  case rel => exact ⟨c + 1, by go_num, Lib.hid (by have := HFC.out; omega), by omega, Lib.hid (HXC.out.trans (below_dn _ _ _))⟩
                  case measure => simp [intOf]; omega
                · have e0 : decide ((c : Int) < (pc : Int)) = false := by simp; omega
                  have e0n : decide (c < pc) = false := by simp; omega
                  go_wp2
                  go_roundw
                  case rel => exact ⟨(ii + 1) + 1, by omega, by go_num, HXC⟩
                  case measure => simp [intOf]; omega
        · have HF := Lib.hid (B4.out.trans (HX.out.mono B4.out.size))
          clear HX
          go_wp2
          go_ret
          exact ⟨rfl, HF.out⟩
  · have HL1 := Lib.hid (fun X (hb : Below w2.heap.size w2 X) => lay_wrong v2 _ hv2 _ _ X ((HR2.out.below hb).mono hb.size) (HE2.out.below hb) HSM.out hq)
    clear HR2 HE2 HSM
    go_wp2_with (go_at_call 18; refine (HL1.out _ (Below.refl _ _)).mono ?_; rintro e w3 ⟨rfl, hb3⟩; have B3 := Lib.hid (HB2.out.trans (hb3.mono HB2.out.size)); clear hb3 HL1)
    go_ret
    exact ⟨rfl, B3.out⟩
theorem walk (w : World) (a0 : Option Addr) (len0 cap0 : Nat) (z0 : (Nat → Value) × List (List Sp)) (h0 : RowsIn w.heap.size w (.slice a0 len0 cap0) z0.1 z0.2 ∧ z0.2.length = len0) (a1 : Option Addr) (len1 cap1 : Nat) (z1 : List Int) (h1 : Ints w (.slice a1 len1 cap1) z1 ∧ z1.length = len1 ∧ len1 ≤ cap1 ∧ cap1 ≤ maxLen) :
    Calls Try.prog 6 #[.slice a0 len0 cap0, .slice a1 len1 cap1] w fun e w' => e = .returned (.bool true) ∧ Below w.heap.size w w' := by
  obtain ⟨h2, h3, h4, h5⟩ := h1
  unfold maxLen at h5
  rcases Nat.lt_trichotomy len1 21 with hl | rfl | hl
  · exact own_lt a0 len0 cap0 z0.1 z0.2 a1 len1 cap1 z1 w h0.1 h2 h3 h4 h5 hl
  · exact own_eq a0 len0 cap0 z0.1 z0.2 a1 cap1 z1 w h0.1 h2 h3 h4 h5
  · exact own_gt a0 len0 cap0 z0.1 z0.2 a1 len1 cap1 z1 w h0.1 h2 h3 h4 h5 hl

set_option maxRecDepth 100000 in
theorem lifted (os : Os) (started : os.Started) (H : Type) (enc : TypeId × Value → H) :
    ReturnsInHanded {} Try.checked os 6 .any (Rows.gridFirstSpec.pre6 enc Try.prog Try.f6 Rows.gridFirstRow.domain false) (Rows.gridFirstSpec.post enc Try.prog Try.f6 false true false false) := by
  refine returnsInHanded_of_change (C := Try.checked) own started (by kernel_rfl) Try.func6
    (ChangeSpec.witness6 (enc := enc) (C := Try.checked) false ⟨#[], #[.slice none 0 0, .slice none 0 0], []⟩ 8 (by kernel_rfl) (by kernel_rfl) (by kernel_rfl) (by kernel_rfl)) ?_
  intro W base args ds gs before hval0 hW hcnd _
  have hval : ∀ (j : Nat) t v, Try.f6.params[j]? = some t → args[j]? = some v → Value.okWide Try.prog W .any base t v := hval0
  have hW' := hW
  obtain ⟨p, q, hA0, hV, rfl, hfz, hnd⟩ := hW
  have hA : DataW.TrodAll enc Try.prog W 0 (fun _ => true) true Try.f6.params.toList args.toList ds p := hA0
  rw [Try.params6] at hA hval
  obtain ⟨v0, vs0, d0, ds0, p0, q0, hargs, rfl, rfl, h0, r0⟩ := trodAll_cons hA
  obtain ⟨v1, vs1, d1, ds1, p1, q1, rfl, rfl, rfl, h1, r1⟩ := trodAll_cons r0
  obtain ⟨rfl, rfl, rfl⟩ := trodAll_nil r1
  obtain rfl : args = #[v0, v1] := by cases args; simp_all
  obtain ⟨rfl, rfl⟩ := trodVars_none hV
  obtain ⟨a0, len0, cap0, rfl⟩ := okWide_slice Try.underlying25 (hval 0 25 v0 rfl rfl)
  have k0 := h0
  have lt0 : ∀ x ∈ p0, x.block < W.heap.size := by obtain ⟨m, hm⟩ := k0; exact DataW.trod_lt m _ _ _ hm
  obtain ⟨z0, w0⟩ : ∃ z : (Nat → Value) × List (List Sp), RowsIn W.heap.size W (.slice a0 len0 cap0) z.1 z.2 ∧ z.2.length = len0 := by
    obtain ⟨fuel, hf⟩ := h0
    exact open_rows (by simpa [Value.cells] using hf)
  obtain ⟨a1, len1, cap1, rfl⟩ := okWide_slice Try.underlying26 (hval 1 26 v1 rfl rfl)
  have k1 := h1
  have lt1 : ∀ x ∈ p1, x.block < W.heap.size := by obtain ⟨m, hm⟩ := k1; exact DataW.trod_lt m _ _ _ hm
  obtain ⟨z1, w1⟩ : ∃ zs, Ints W (.slice a1 len1 cap1) zs ∧ zs.length = len1 ∧ len1 ≤ cap1 ∧ cap1 ≤ maxLen := by
    obtain ⟨fuel, hf⟩ := h1
    exact open_intsG (by simpa [Value.cells] using hf)
  clear hA0 hval0
  simp only [List.append_nil] at hW'
  refine (walk W a0 len0 cap0 z0 w0 a1 len1 cap1 z1 w1).mono fun e W' ⟨he, hg⟩ => ?_
  subst he
  exact ⟨_, rfl, _, _, _, [], _, [], hW', (trodAll_cons_mk (shut_bool Try.underlying4 _) trodAll_mk0), (trodAll_cons_mk (Below.trod laidOut (by kernel_rfl) (of_decide_eq_true (by kernel_rfl)) k0 hg lt0) (trodAll_cons_mk (Below.trod laidOut (by kernel_rfl) (of_decide_eq_true (by kernel_rfl)) k1 hg lt1) trodAll_mk0)), rfl, hg.frame _, fun h => by cases h⟩

theorem over : Rows.gridFirstRow.holds Try.pinned (OpenSpec.ofChange Rows.gridFirstSpec) :=
  OpenClaim.holds_of_wide 6 Try.f6 rfl rfl rfl rfl rfl rfl rfl ⟨rfl, rfl, rfl, rfl, rfl⟩ rfl rfl rfl rfl rfl (by kernel_rfl) Try.func6 (by kernel_rfl)
    (of_decide_eq_true (by kernel_rfl)) (by unfold Func.isWrapper; first | (rw [if_pos (by decide +kernel)]; kernel_rfl) | (rw [if_neg (by decide +kernel)]; exact ⟨rfl, rfl⟩))
    (fun os started H enc _ => lifted os started H enc)

/-- the statement -/
theorem proved : Rows.GridFirstSaid :=
  over
#print axioms proved
end Go.Proofs.Ytgmgkkljoeahhaa.gridFirst
