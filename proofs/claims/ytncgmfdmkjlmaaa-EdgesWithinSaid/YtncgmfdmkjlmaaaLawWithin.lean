/- Places' rectangles are within the extent, as wide as their spans. -/
import Derived.Test.YtncgmfdmkjlmaaaRows
import Derived.WalkKit
import Derived.ProofKit
import Derived.OpenShut
import Derived.Below
import Derived.Test.YtncgmfdmkjlmaaaERefC
import Derived.Test.YtncgmfdmkjlmaaaEOpen2
import Derived.ShutString
namespace Go.Proofs.Ytncgmfdmkjlmaaa.edgesWithin
open Go.ChangeShapes Go.WideShapes Go.ChangeAt Go.RowKit
set_option linter.unusedVariables false

theorem own : ownKnob Try.prog.godebug = none := by kernel_rfl
theorem laidOut : laidOutB Try.prog = true := by kernel_rfl

theorem rowE_form {X : World} {v : Value} {L : List RR.R} (h : RowE X v L) : ∃ p c, v = .slice p L.length c := by
  rcases h with ⟨rfl, rfl⟩ | ⟨g, c, rfl, _⟩ <;> exact ⟨_, _, rfl⟩
theorem rowE_at2 {X : World} {p : Option Addr} {n c : Nat} {L : List RR.R} (h : RowE X (.slice p n c) L) (k : Nat) (q : RR.R) (hq : L[k]? = some q) : ∃ g, p = some ⟨g, 0, none⟩ ∧ g < X.heap.size ∧ X.cell? ⟨g, k * 4, none⟩ = some (.int .i64 q.x) ∧ X.cell? ⟨g, k * 4 + 1, none⟩ = some (.int .i64 q.y) ∧ X.cell? ⟨g, k * 4 + 2, none⟩ = some (.int .i64 q.w) ∧ X.cell? ⟨g, k * 4 + 3, none⟩ = some (.int .i64 q.h) := by
  have h' := h
  rcases h with ⟨e, rfl⟩ | ⟨g, cap, e, _⟩
  · simp at hq
  · injection e with e _ _
    subst e
    exact ⟨g, rfl, h'.atg k q hq⟩
theorem within_end {g : Int} {bs : List Int} {fr n m : Nat} (hok : okW g bs) (hm : bs.length = m) (h0 : 0 < n) (h1 : fr + n ≤ m) : g ≤ begW g bs fr ∧ begW g bs fr + wideW g bs fr (fr + n) ≤ extW g bs - g := by
  have a := preW_bd hok fr (by omega)
  have b := preW_le hok (k := fr + n) (m := m) h1 (by omega)
  rw [wideW_lt (by omega)]
  unfold extW begW
  rw [if_neg (by omega), hm]
  omega
theorem spanV_in {g : Int} {bs : List Int} {fr n : Nat} (ho : okB g bs = true) (h : fr + n ≤ bs.length) : spanV g bs fr n = (wideW g bs fr (fr + n), 0) := by
  unfold spanV; rw [if_pos ⟨ho, by simp [liesB]; omega⟩]; simp
set_option maxRecDepth 100000 in
set_option maxHeartbeats 8000000 in
theorem main (W : World) (a0 a1 a2 : Option Addr) (len0 cap0 len1 cap1 len2 cap2 n : Nat) (L : List Pz) (cs rs : List Int) (g0 g1 : Int) (hP : PsAt W (.slice a0 n cap0) L) (hn : L.length = n) (hok : ∀ x ∈ L, x.ok) (hL : LowI W.heap.size W (.slice a1 (min len1 100) cap1) cs) (hR : LowI W.heap.size W (.slice a2 (min len2 100) cap2) rs) (hcs : cs.length = min len1 100) (hrs : rs.length = min len2 100)
    (hm : (len0 ≤ 60 ∧ n = len0) ∨ (60 < len0 ∧ n = 60)) (hc0 : len0 ≤ cap0) (hc1 : len1 ≤ cap1) (hc2 : len2 ≤ cap2) (hx0 : cap0 ≤ 9223372036854775807) (hx1 : cap1 ≤ 9223372036854775807) (hx2 : cap2 ≤ 9223372036854775807) :
    Calls Try.prog 8 #[.slice a0 len0 cap0, .slice a1 len1 cap1, .slice a2 len2 cap2, .agg #[.int .i64 g0, .int .i64 g1]] W fun e w' => e = .returned (.bool true) ∧ Below W.heap.size W w' := by
  have HSH := Lib.hid (fun X => shown10_any X)
  have HC1 := Lib.hid (fun X => ecut_any a1 len1 cap1 X hc1 hx1)
  have HC2 := Lib.hid (fun X => ecut_any a2 len2 cap2 X hc2 hx2)
  have hm1 : min len1 100 ≤ cap1 := by omega
  have hm2 : min len2 100 ≤ cap2 := by omega
  have hk1 : min len1 100 ≤ 100 := by omega
  have hk2 : min len2 100 ≤ 100 := by omega
  have hn60 : n ≤ 60 := by omega
  generalize min len1 100 = m at *
  generalize min len2 100 = k at *
  have HCE := Lib.hid (fun X (h : Below W.heap.size W X) => ecells_any a0 a1 a2 n cap0 m cap1 k cap2 L cs rs g0 g1 X (hP.below h) hn (by omega) hok ((hL.keep (Y := X) (fun k hk => h.block k hk)).mono h.size) hcs ((hR.keep (Y := X) (fun k hk => h.block k hk)).mono h.size) hrs)
  have HEA := Lib.hid (fun X (h : Below W.heap.size W X) => extent_any g0 a1 m cap1 cs X ((hL.keep (Y := X) (fun k hk => h.block k hk)).mono h.size) hcs hm1)
  have HEB := Lib.hid (fun X (h : Below W.heap.size W X) => extent_any g1 a2 k cap2 rs X ((hR.keep (Y := X) (fun k hk => h.block k hk)).mono h.size) hrs hm2)
  have HLL := Lib.hid hL
  have HRR := Lib.hid hR
  have HPP := Lib.hid hP
  have HNN := Lib.hid hn
  have HCS := Lib.hid hcs
  have HRS := Lib.hid hrs
  clear hL hR hcs hrs hP hn hok
  obtain ⟨gn, hgn⟩ : ∃ gn, W.heap.size = gn := ⟨_, rfl⟩
  obtain ⟨W0, hW0⟩ : ∃ W0, W.alloc (.cells #[.int .i64 g0, .int .i64 g1] 38) = W0 := ⟨_, rfl⟩
  have HB0 : Hid (Below W.heap.size W W0) := Lib.hid (by rw [← hW0]; exact (Below.refl _ W).alloc (Nat.le_refl _) _)
  have HA0 : Hid (Whole W0 gn 38 [.int .i64 g0, .int .i64 g1]) := Lib.hid (by rw [← hW0]; exact whole_new W [.int .i64 g0, .int .i64 g1] 38 gn hgn.symm)
  rcases hm with ⟨h, rfl⟩ | ⟨h, rfl⟩
  · have q0 : min (n : Int) 60 = n := by omega
    go_enter Try.func8, Try.ntmps8
    go_wp2_with fail
    try rw [hW0]
    clear hW0 hgn
    refine (HSH.out _).mono ?_
    rintro e w1 ⟨rfl, hb1⟩
    have HB1 := Lib.hid (HB0.out.trans (hb1.mono HB0.out.size))
    have HA1 := Lib.hid (HA0.out.below hb1 HA0.out.lt)
    clear hb1 HB0 HA0 HSH
    have d0 := HA1.out.cellAt 0
    have d1 := HA1.out.cellAt 1
    have lgn := HA1.out.lt
    simp only [List.getElem?_cons_zero, List.getElem?_cons_succ] at d0 d1
    go_wp2_with (first
      | (go_at_call 11; refine (HC1.out _).mono ?_; clear HC1; rintro e wc ⟨rfl, hwc⟩; obtain rfl := hwc.symm; clear hwc)
      | (go_at_call 11; refine (HC2.out _).mono ?_; clear HC2; rintro e wc ⟨rfl, hwc⟩; obtain rfl := hwc.symm; clear hwc))
    refine (HCE.out _ HB1.out).mono ?_
    intro e w2 hp2
    obtain ⟨hb2, hp2⟩ := hp2
    have HB2 := Lib.hid (HB1.out.trans (hb2.mono HB1.out.size))
    have HA2 := Lib.hid (HA1.out.below hb2 HA1.out.lt)
    clear HB1 HA1 HCE d0 d1 lgn hb2
    rcases hp2 with ⟨hall, v1, rfl, hown⟩ | ⟨hall, rfl⟩
    · skip
      simp only [Bool.and_eq_true] at hall
      obtain ⟨ho0, ho1, hall⟩ := hall
      have ok0 := okB_iff.1 ho0
      have ok1 := okB_iff.1 ho1
      have hrow := own_rowE hown rfl
      obtain ⟨pv, cv, rfl⟩ := rowE_form hrow
      have HROW := Lib.hid hrow
      have HALL := Lib.hid hall
      have HLEN : Hid ((L.map (cellE g0 g1 cs rs)).length = n) := Lib.hid (by rw [List.length_map]; exact HNN.out)
      rw [HLEN.out] at HROW ⊢
      have hx1' : extV g0 cs = (extW g0 cs, 0) := by unfold extV; rw [ho0]; rfl
      have hx2' : extV g1 rs = (extW g1 rs, 0) := by unfold extV; rw [ho1]; rfl
      rw [hx1'] at HEA
      rw [hx2'] at HEB
      dsimp only at HEA HEB
      have HH0 := Lib.hid ho0
      have HH1 := Lib.hid ho1
      have HK0 := Lib.hid ok0
      have HK1 := Lib.hid ok1
      have b0 := extW_bd ok0
      have b1 := extW_bd ok1
      have bg0 := ok0.1
      have bg1 := ok1.1
      obtain ⟨ex, hex⟩ : ∃ ex, extW g0 cs = ex := ⟨_, rfl⟩
      obtain ⟨ey, hey⟩ : ∃ ey, extW g1 rs = ey := ⟨_, rfl⟩
      rw [hex] at HEA b0
      rw [hey] at HEB b1
      have HEXX := Lib.hid hex
      have HEYY := Lib.hid hey
      clear hown hrow hall ho0 ho1 ok0 ok1 hx1' hx2' hex hey
      have d0 := HA2.out.cellAt 0
      have d1 := HA2.out.cellAt 1
      have lgn := HA2.out.lt
      simp only [List.getElem?_cons_zero, List.getElem?_cons_succ] at d0 d1
      go_wp2_with fail
      refine (HEA.out _ HB2.out).mono ?_
      rintro e w3 ⟨rfl, hb3⟩
      have HB3 := Lib.hid (HB2.out.trans (hb3.mono HB2.out.size))
      have HA3 := Lib.hid (HA2.out.below hb3 HA2.out.lt)
      have HR3 := Lib.hid (HROW.out.below hb3)
      clear hb3 HB2 HA2 HROW HEA d0 d1 lgn
      have d0 := HA3.out.cellAt 0
      have d1 := HA3.out.cellAt 1
      have lgn := HA3.out.lt
      simp only [List.getElem?_cons_zero, List.getElem?_cons_succ] at d0 d1
      go_wp2_with fail
      refine (HEB.out _ HB3.out).mono ?_
      rintro e w4 ⟨rfl, hb4⟩
      have HB4 := Lib.hid (HB3.out.trans (hb4.mono HB3.out.size))
      have HA4 := Lib.hid (HA3.out.below hb4 HA3.out.lt)
      have HR4 := Lib.hid (HR3.out.below hb4)
      clear hb4 HB3 HA3 HR3 HEB d0 d1 lgn
      go_wp2
      go_loopw [16] (fun s16 X => ∃ t : Nat, t ≤ n ∧ s16 = .int .i64 (t : Int) ∧ Hid (Below w4.heap.size w4 X)) (fun s16 _ => n - (intOf s16).toNat)
      case atStart => exact ⟨0, Nat.zero_le _, rfl, Lib.hid (Below.refl _ _)⟩
      case round =>
        obtain ⟨t, ht, rfl, HB⟩ := hrel
        by_cases hlt : t < n
        · obtain ⟨z, hz⟩ : ∃ z, L[t]? = some z := ⟨_, List.getElem?_eq_getElem (by rw [HNN.out]; exact hlt)⟩
          have hpl : placeN m k z = true := List.all_eq_true.1 HALL.out z (List.mem_iff_getElem?.2 ⟨t, hz⟩)
          obtain ⟨b, o, rfl, lb, c0, c1, c2, c3, c4⟩ := psAt_at HPP.out t z hz
          have HBX := Lib.hid (HB4.out.trans (HB.out.mono HB4.out.size))
          replace c1 := (HBX.out.cell (p := ⟨b, o + t * 5 + 1, none⟩) lb).trans c1
          replace c2 := (HBX.out.cell (p := ⟨b, o + t * 5 + 2, none⟩) lb).trans c2
          replace c3 := (HBX.out.cell (p := ⟨b, o + t * 5 + 3, none⟩) lb).trans c3
          replace c4 := (HBX.out.cell (p := ⟨b, o + t * 5 + 4, none⟩) lb).trans c4
          replace lb : b < wr.heap.size := by have := HBX.out.size; omega
          have HAR := Lib.hid (HA4.out.below HB.out HA4.out.lt)
          have e0 := HAR.out.cellAt 0
          have e1 := HAR.out.cellAt 1
          have lgw := HAR.out.lt
          simp only [List.getElem?_cons_zero, List.getElem?_cons_succ] at e0 e1
          obtain ⟨fc, fr, nw, nh, q1, q2, q3, q4, h1, h2, h3, h4⟩ := placeN_nat hpl
          have hce : (L.map (cellE g0 g1 cs rs))[t]? = some ⟨begW g0 cs fc, begW g1 rs fr, wideW g0 cs fc (fc + nw), wideW g1 rs fr (fr + nh)⟩ := by
            rw [List.getElem?_map, hz]; simp [cellE, q1, q2, q3, q4]
          obtain ⟨ga, rfl, lga, f0, f1, f2, f3⟩ := rowE_at2 (HR4.out.below HB.out) t _ hce
          dsimp only at f0 f1 f2 f3
          obtain ⟨pn, pr, pc, ph, pw⟩ := z
          dsimp only at c0 c1 c2 c3 c4 q1 q2 q3 q4
          subst q1 q2 q3 q4
          have r1 := within_end HK0.out HCS.out h3 h1
          have r2 := within_end HK1.out HRS.out h4 h2
          rw [HEXX.out] at r1
          rw [HEYY.out] at r2
          have b5 := begW_bd HK0.out (k := fc) (by have := HCS.out; omega)
          have b6 := begW_bd HK1.out (k := fr) (by have := HRS.out; omega)
          have b7 := wideW_bd HK0.out (s := fc) (e := fc + nw) (by have := HCS.out; omega)
          have b8 := wideW_bd HK1.out (s := fr) (e := fr + nh) (by have := HRS.out; omega)
          have HSPA := Lib.hid (fun X (h : Below W.heap.size W X) => span_main g0 a1 m cap1 fc nw cs X ((HLL.out.keep (Y := X) (fun k hk => h.block k hk)).mono h.size) HCS.out hm1 HK0.out h1)
          have HSPB := Lib.hid (fun X (h : Below W.heap.size W X) => span_main g1 a2 k cap2 fr nh rs X ((HRR.out.keep (Y := X) (fun k hk => h.block k hk)).mono h.size) HRS.out hm2 HK1.out h2)
          clear hz hpl hce c0
          generalize begW g0 cs fc = xx at *
          generalize begW g1 rs fr = yy at *
          generalize wideW g0 cs fc (fc + nw) = uu at *
          generalize wideW g1 rs fr (fr + nh) = vv at *
          go_wp2
          refine region_held_atE (S := fun X => Hid (Below wr.heap.size wr X)) (by kernel_rfl) (fun w9p hw9 => ?_)
          have SV : Hid (Below wr.heap.size wr w9p) := Lib.hid (by rw [← hw9]; exact (Below.refl _ _).drew)
          clear hw9
          try simp only [Act.put, List.setIfInBounds_toArray, List.set_cons_succ, List.set_cons_zero]
          refine wpAnyH_takeD (i := 0) (v := .slice a1 m cap1) (some 68) rfl rfl (by kernel_rfl) (by kernel_rfl) (by kernel_rfl) (fun _ _ _ h => h) (Or.inl ⟨by rfl, ?_⟩) SV ?_
          · intro X hX; go_simp
          try simp only [Act.put, List.setIfInBounds_toArray, List.set_cons_succ, List.set_cons_zero]
          refine wpAnyH_takeD (i := 1) (v := .pointer (some ⟨gn, 0, none⟩)) (some 69) rfl rfl (by kernel_rfl) (by kernel_rfl) (by kernel_rfl) (fun _ _ _ h => h) (Or.inl ⟨by rfl, ?_⟩) SV ?_
          · intro X hX; go_simp
          try simp only [Act.put, List.setIfInBounds_toArray, List.set_cons_succ, List.set_cons_zero]
          refine wpAnyH_takeD (i := 2) (v := .int .i64 g0) (some 70) rfl rfl (by kernel_rfl) (by kernel_rfl) (by kernel_rfl) (fun _ _ _ h => h) (Or.inl ⟨by rfl, ?_⟩) SV ?_
          · intro X hX; have o0 := (hX.out.cell (p := ⟨gn, 0, none⟩) lgw).trans e0; have lX := hX.out.size; have lbX : gn < X.heap.size := (by omega); go_simp
          try simp only [Act.put, List.setIfInBounds_toArray, List.set_cons_succ, List.set_cons_zero]
          refine wpAnyH_takeD (i := 3) (v := .slice (some ⟨b, o, none⟩) n cap0) (some 71) rfl rfl (by kernel_rfl) (by kernel_rfl) (by kernel_rfl) (fun _ _ _ h => h) (Or.inl ⟨by rfl, ?_⟩) SV ?_
          · intro X hX; go_simp
          try simp only [Act.put, List.setIfInBounds_toArray, List.set_cons_succ, List.set_cons_zero]
          refine wpAnyH_takeD (i := 4) (v := .int .i64 (t : Int)) (some 72) rfl rfl (by kernel_rfl) (by kernel_rfl) (by kernel_rfl) (fun _ _ _ h => h) (Or.inl ⟨by rfl, ?_⟩) SV ?_
          · intro X hX; go_simp
          try simp only [Act.put, List.setIfInBounds_toArray, List.set_cons_succ, List.set_cons_zero]
          refine wpAnyH_takeD (i := 5) (v := .pointer (some ⟨b, o + t * 5, none⟩)) (some 73) rfl rfl (by kernel_rfl) (by kernel_rfl) (by kernel_rfl) (fun _ _ _ h => h) (Or.inl ⟨by rfl, ?_⟩) SV ?_
          · intro X hX; go_simp
          try simp only [Act.put, List.setIfInBounds_toArray, List.set_cons_succ, List.set_cons_zero]
          refine wpAnyH_takeD (i := 6) (v := .pointer (some ⟨b, o + t * 5 + 2, none⟩)) (some 74) rfl rfl (by kernel_rfl) (by kernel_rfl) (by kernel_rfl) (fun _ _ _ h => h) (Or.inl ⟨by rfl, ?_⟩) SV ?_
          · intro X hX; go_simp
          try simp only [Act.put, List.setIfInBounds_toArray, List.set_cons_succ, List.set_cons_zero]
          refine wpAnyH_takeD (i := 7) (v := .int .i64 (fc : Int)) (some 75) rfl rfl (by kernel_rfl) (by kernel_rfl) (by kernel_rfl) (fun _ _ _ h => h) (Or.inl ⟨by rfl, ?_⟩) SV ?_
          · intro X hX; have o0 := (hX.out.cell (p := ⟨b, o + t * 5 + 2, none⟩) lb).trans c2; have lX := hX.out.size; have lbX : b < X.heap.size := (by omega); go_simp
          try simp only [Act.put, List.setIfInBounds_toArray, List.set_cons_succ, List.set_cons_zero]
          refine wpAnyH_takeD (i := 8) (v := .slice (some ⟨b, o, none⟩) n cap0) (some 76) rfl rfl (by kernel_rfl) (by kernel_rfl) (by kernel_rfl) (fun _ _ _ h => h) (Or.inl ⟨by rfl, ?_⟩) SV ?_
          · intro X hX; go_simp
          try simp only [Act.put, List.setIfInBounds_toArray, List.set_cons_succ, List.set_cons_zero]
          refine wpAnyH_takeD (i := 9) (v := .int .i64 (t : Int)) (some 77) rfl rfl (by kernel_rfl) (by kernel_rfl) (by kernel_rfl) (fun _ _ _ h => h) (Or.inl ⟨by rfl, ?_⟩) SV ?_
          · intro X hX; go_simp
          try simp only [Act.put, List.setIfInBounds_toArray, List.set_cons_succ, List.set_cons_zero]
          refine wpAnyH_takeD (i := 10) (v := .pointer (some ⟨b, o + t * 5, none⟩)) (some 78) rfl rfl (by kernel_rfl) (by kernel_rfl) (by kernel_rfl) (fun _ _ _ h => h) (Or.inl ⟨by rfl, ?_⟩) SV ?_
          · intro X hX; go_simp
          try simp only [Act.put, List.setIfInBounds_toArray, List.set_cons_succ, List.set_cons_zero]
          refine wpAnyH_takeD (i := 11) (v := .pointer (some ⟨b, o + t * 5 + 4, none⟩)) (some 79) rfl rfl (by kernel_rfl) (by kernel_rfl) (by kernel_rfl) (fun _ _ _ h => h) (Or.inl ⟨by rfl, ?_⟩) SV ?_
          · intro X hX; go_simp
          try simp only [Act.put, List.setIfInBounds_toArray, List.set_cons_succ, List.set_cons_zero]
          refine wpAnyH_takeD (i := 12) (v := .int .i64 (nw : Int)) (some 80) rfl rfl (by kernel_rfl) (by kernel_rfl) (by kernel_rfl) (fun _ _ _ h => h) (Or.inl ⟨by rfl, ?_⟩) SV ?_
          · intro X hX; have o0 := (hX.out.cell (p := ⟨b, o + t * 5 + 4, none⟩) lb).trans c4; have lX := hX.out.size; have lbX : b < X.heap.size := (by omega); go_simp
          try simp only [Act.put, List.setIfInBounds_toArray, List.set_cons_succ, List.set_cons_zero]
          refine wpAnyH_all (rs := [13]) (by kernel_rfl) (by simp) ?_
          intro ii hii; obtain rfl : ii = 13 := by simpa using hii
          clear hii
          refine wpOp_step rfl (fun K hK => ?_)
          go_simp
          refine (HSPA.out _ (HBX.out.trans (SV.out.mono HBX.out.size))).mono ?_
          rintro e wxp ⟨rfl, hbp⟩
          have S7 : Hid (Below wr.heap.size wr wxp) := Lib.hid (SV.out.trans (hbp.mono SV.out.size))
          refine hK _ _ ⟨S7, ?_⟩
          clear hK K SV hbp
          have SV := S7
          clear S7
          try simp only [Act.put, List.setIfInBounds_toArray, List.set_cons_succ, List.set_cons_zero]
          refine wpAnyH_takeD (i := 14) (v := .tuple #[.int .i64 uu, .int .i64 0]) (some 67) rfl rfl (by kernel_rfl) (by kernel_rfl) (by kernel_rfl) (fun _ _ _ h => h) (Or.inl ⟨by rfl, ?_⟩) SV ?_
          · intro X hX; go_simp
          try simp only [Act.put, List.setIfInBounds_toArray, List.set_cons_succ, List.set_cons_zero]
          refine wpAnyH_takeD (i := 15) (v := .int .i64 uu) (some 82) rfl rfl (by kernel_rfl) (by kernel_rfl) (by kernel_rfl) (fun _ _ _ h => h) (Or.inl ⟨by rfl, ?_⟩) SV ?_
          · intro X hX; go_simp
          try simp only [Act.put, List.setIfInBounds_toArray, List.set_cons_succ, List.set_cons_zero]
          refine wpAnyH_takeD (i := 16) (v := .int .i64 0) (some 83) rfl rfl (by kernel_rfl) (by kernel_rfl) (by kernel_rfl) (fun _ _ _ h => h) (Or.inl ⟨by rfl, ?_⟩) SV ?_
          · intro X hX; go_simp
          try simp only [Act.put, List.setIfInBounds_toArray, List.set_cons_succ, List.set_cons_zero]
          refine wpAnyH_takeD (i := 17) (v := .int .i64 uu) (some 17) rfl rfl (by kernel_rfl) (by kernel_rfl) (by kernel_rfl) (fun _ _ _ h => h) (Or.inl ⟨by rfl, ?_⟩) SV ?_
          · intro X hX; go_simp
          try simp only [Act.put, List.setIfInBounds_toArray, List.set_cons_succ, List.set_cons_zero]
          refine wpAnyH_takeD (i := 18) (v := .int .i64 0) (some 18) rfl rfl (by kernel_rfl) (by kernel_rfl) (by kernel_rfl) (fun _ _ _ h => h) (Or.inl ⟨by rfl, ?_⟩) SV ?_
          · intro X hX; go_simp
          try simp only [Act.put, List.setIfInBounds_toArray, List.set_cons_succ, List.set_cons_zero]
          refine wpAnyH_done (by kernel_rfl) ?_ _
          generalize wxp = w7 at *
          have HBX7 := Lib.hid (HBX.out.trans (SV.out.mono HBX.out.size))
          have HB47 := Lib.hid (HB.out.trans (SV.out.mono HB.out.size))
          replace c1 := (SV.out.cell (p := ⟨b, o + t * 5 + 1, none⟩) lb).trans c1
          replace c3 := (SV.out.cell (p := ⟨b, o + t * 5 + 3, none⟩) lb).trans c3
          replace f0 := (SV.out.cell (p := ⟨ga, t * 4, none⟩) lga).trans f0
          replace f1 := (SV.out.cell (p := ⟨ga, t * 4 + 1, none⟩) lga).trans f1
          replace f2 := (SV.out.cell (p := ⟨ga, t * 4 + 2, none⟩) lga).trans f2
          replace f3 := (SV.out.cell (p := ⟨ga, t * 4 + 3, none⟩) lga).trans f3
          replace e0 := (SV.out.cell (p := ⟨gn, 0, none⟩) lgw).trans e0
          replace e1 := (SV.out.cell (p := ⟨gn, 1, none⟩) lgw).trans e1
          have z7 := SV.out.size
          replace lb : b < w7.heap.size := by omega
          replace lga : ga < w7.heap.size := by omega
          replace lgw : gn < w7.heap.size := by omega
          clear SV HBX HB HAR HSPA c2 c4 z7
          have HBX := HBX7
          clear HBX7
          go_wp2
          refine region_held_atE (S := fun X => Hid (Below w7.heap.size w7 X)) (by kernel_rfl) (fun w9q hw9 => ?_)
          have SV : Hid (Below w7.heap.size w7 w9q) := Lib.hid (by rw [← hw9]; exact (Below.refl _ _).drew)
          clear hw9
          try simp only [Act.put, List.setIfInBounds_toArray, List.set_cons_succ, List.set_cons_zero]
          refine wpAnyH_takeD (i := 0) (v := .slice a2 k cap2) (some 85) rfl rfl (by kernel_rfl) (by kernel_rfl) (by kernel_rfl) (fun _ _ _ h => h) (Or.inl ⟨by rfl, ?_⟩) SV ?_
          · intro X hX; go_simp
          try simp only [Act.put, List.setIfInBounds_toArray, List.set_cons_succ, List.set_cons_zero]
          refine wpAnyH_takeD (i := 1) (v := .pointer (some ⟨gn, 1, none⟩)) (some 86) rfl rfl (by kernel_rfl) (by kernel_rfl) (by kernel_rfl) (fun _ _ _ h => h) (Or.inl ⟨by rfl, ?_⟩) SV ?_
          · intro X hX; go_simp
          try simp only [Act.put, List.setIfInBounds_toArray, List.set_cons_succ, List.set_cons_zero]
          refine wpAnyH_takeD (i := 2) (v := .int .i64 g1) (some 87) rfl rfl (by kernel_rfl) (by kernel_rfl) (by kernel_rfl) (fun _ _ _ h => h) (Or.inl ⟨by rfl, ?_⟩) SV ?_
          · intro X hX; have o0 := (hX.out.cell (p := ⟨gn, 1, none⟩) lgw).trans e1; have lX := hX.out.size; have lbX : gn < X.heap.size := (by omega); go_simp
          try simp only [Act.put, List.setIfInBounds_toArray, List.set_cons_succ, List.set_cons_zero]
          refine wpAnyH_takeD (i := 3) (v := .slice (some ⟨b, o, none⟩) n cap0) (some 88) rfl rfl (by kernel_rfl) (by kernel_rfl) (by kernel_rfl) (fun _ _ _ h => h) (Or.inl ⟨by rfl, ?_⟩) SV ?_
          · intro X hX; go_simp
          try simp only [Act.put, List.setIfInBounds_toArray, List.set_cons_succ, List.set_cons_zero]
          refine wpAnyH_takeD (i := 4) (v := .int .i64 (t : Int)) (some 89) rfl rfl (by kernel_rfl) (by kernel_rfl) (by kernel_rfl) (fun _ _ _ h => h) (Or.inl ⟨by rfl, ?_⟩) SV ?_
          · intro X hX; go_simp
          try simp only [Act.put, List.setIfInBounds_toArray, List.set_cons_succ, List.set_cons_zero]
          refine wpAnyH_takeD (i := 5) (v := .pointer (some ⟨b, o + t * 5, none⟩)) (some 90) rfl rfl (by kernel_rfl) (by kernel_rfl) (by kernel_rfl) (fun _ _ _ h => h) (Or.inl ⟨by rfl, ?_⟩) SV ?_
          · intro X hX; go_simp
          try simp only [Act.put, List.setIfInBounds_toArray, List.set_cons_succ, List.set_cons_zero]
          refine wpAnyH_takeD (i := 6) (v := .pointer (some ⟨b, o + t * 5 + 1, none⟩)) (some 91) rfl rfl (by kernel_rfl) (by kernel_rfl) (by kernel_rfl) (fun _ _ _ h => h) (Or.inl ⟨by rfl, ?_⟩) SV ?_
          · intro X hX; go_simp
          try simp only [Act.put, List.setIfInBounds_toArray, List.set_cons_succ, List.set_cons_zero]
          refine wpAnyH_takeD (i := 7) (v := .int .i64 (fr : Int)) (some 92) rfl rfl (by kernel_rfl) (by kernel_rfl) (by kernel_rfl) (fun _ _ _ h => h) (Or.inl ⟨by rfl, ?_⟩) SV ?_
          · intro X hX; have o0 := (hX.out.cell (p := ⟨b, o + t * 5 + 1, none⟩) lb).trans c1; have lX := hX.out.size; have lbX : b < X.heap.size := (by omega); go_simp
          try simp only [Act.put, List.setIfInBounds_toArray, List.set_cons_succ, List.set_cons_zero]
          refine wpAnyH_takeD (i := 8) (v := .slice (some ⟨b, o, none⟩) n cap0) (some 93) rfl rfl (by kernel_rfl) (by kernel_rfl) (by kernel_rfl) (fun _ _ _ h => h) (Or.inl ⟨by rfl, ?_⟩) SV ?_
          · intro X hX; go_simp
          try simp only [Act.put, List.setIfInBounds_toArray, List.set_cons_succ, List.set_cons_zero]
          refine wpAnyH_takeD (i := 9) (v := .int .i64 (t : Int)) (some 94) rfl rfl (by kernel_rfl) (by kernel_rfl) (by kernel_rfl) (fun _ _ _ h => h) (Or.inl ⟨by rfl, ?_⟩) SV ?_
          · intro X hX; go_simp
          try simp only [Act.put, List.setIfInBounds_toArray, List.set_cons_succ, List.set_cons_zero]
          refine wpAnyH_takeD (i := 10) (v := .pointer (some ⟨b, o + t * 5, none⟩)) (some 95) rfl rfl (by kernel_rfl) (by kernel_rfl) (by kernel_rfl) (fun _ _ _ h => h) (Or.inl ⟨by rfl, ?_⟩) SV ?_
          · intro X hX; go_simp
          try simp only [Act.put, List.setIfInBounds_toArray, List.set_cons_succ, List.set_cons_zero]
          refine wpAnyH_takeD (i := 11) (v := .pointer (some ⟨b, o + t * 5 + 3, none⟩)) (some 96) rfl rfl (by kernel_rfl) (by kernel_rfl) (by kernel_rfl) (fun _ _ _ h => h) (Or.inl ⟨by rfl, ?_⟩) SV ?_
          · intro X hX; go_simp
          try simp only [Act.put, List.setIfInBounds_toArray, List.set_cons_succ, List.set_cons_zero]
          refine wpAnyH_takeD (i := 12) (v := .int .i64 (nh : Int)) (some 97) rfl rfl (by kernel_rfl) (by kernel_rfl) (by kernel_rfl) (fun _ _ _ h => h) (Or.inl ⟨by rfl, ?_⟩) SV ?_
          · intro X hX; have o0 := (hX.out.cell (p := ⟨b, o + t * 5 + 3, none⟩) lb).trans c3; have lX := hX.out.size; have lbX : b < X.heap.size := (by omega); go_simp
          try simp only [Act.put, List.setIfInBounds_toArray, List.set_cons_succ, List.set_cons_zero]
          refine wpAnyH_all (rs := [13]) (by kernel_rfl) (by simp) ?_
          intro ii hii; obtain rfl : ii = 13 := by simpa using hii
          clear hii
          refine wpOp_step rfl (fun K hK => ?_)
          go_simp
          refine (HSPB.out _ (HBX.out.trans (SV.out.mono HBX.out.size))).mono ?_
          rintro e wxq ⟨rfl, hbq⟩
          have S7 : Hid (Below w7.heap.size w7 wxq) := Lib.hid (SV.out.trans (hbq.mono SV.out.size))
          refine hK _ _ ⟨S7, ?_⟩
          clear hK K SV hbq
          have SV := S7
          clear S7
          try simp only [Act.put, List.setIfInBounds_toArray, List.set_cons_succ, List.set_cons_zero]
          refine wpAnyH_takeD (i := 14) (v := .tuple #[.int .i64 vv, .int .i64 0]) (some 84) rfl rfl (by kernel_rfl) (by kernel_rfl) (by kernel_rfl) (fun _ _ _ h => h) (Or.inl ⟨by rfl, ?_⟩) SV ?_
          · intro X hX; go_simp
          try simp only [Act.put, List.setIfInBounds_toArray, List.set_cons_succ, List.set_cons_zero]
          refine wpAnyH_takeD (i := 15) (v := .int .i64 vv) (some 99) rfl rfl (by kernel_rfl) (by kernel_rfl) (by kernel_rfl) (fun _ _ _ h => h) (Or.inl ⟨by rfl, ?_⟩) SV ?_
          · intro X hX; go_simp
          try simp only [Act.put, List.setIfInBounds_toArray, List.set_cons_succ, List.set_cons_zero]
          refine wpAnyH_takeD (i := 16) (v := .int .i64 0) (some 100) rfl rfl (by kernel_rfl) (by kernel_rfl) (by kernel_rfl) (fun _ _ _ h => h) (Or.inl ⟨by rfl, ?_⟩) SV ?_
          · intro X hX; go_simp
          try simp only [Act.put, List.setIfInBounds_toArray, List.set_cons_succ, List.set_cons_zero]
          refine wpAnyH_takeD (i := 17) (v := .int .i64 vv) (some 19) rfl rfl (by kernel_rfl) (by kernel_rfl) (by kernel_rfl) (fun _ _ _ h => h) (Or.inl ⟨by rfl, ?_⟩) SV ?_
          · intro X hX; go_simp
          try simp only [Act.put, List.setIfInBounds_toArray, List.set_cons_succ, List.set_cons_zero]
          refine wpAnyH_takeD (i := 18) (v := .int .i64 0) (some 20) rfl rfl (by kernel_rfl) (by kernel_rfl) (by kernel_rfl) (fun _ _ _ h => h) (Or.inl ⟨by rfl, ?_⟩) SV ?_
          · intro X hX; go_simp
          try simp only [Act.put, List.setIfInBounds_toArray, List.set_cons_succ, List.set_cons_zero]
          refine wpAnyH_done (by kernel_rfl) ?_ _
          generalize wxq = w8 at *
          have HB48 := Lib.hid (HB47.out.trans (SV.out.mono HB47.out.size))
          replace f0 := (SV.out.cell (p := ⟨ga, t * 4, none⟩) lga).trans f0
          replace f1 := (SV.out.cell (p := ⟨ga, t * 4 + 1, none⟩) lga).trans f1
          replace f2 := (SV.out.cell (p := ⟨ga, t * 4 + 2, none⟩) lga).trans f2
          replace f3 := (SV.out.cell (p := ⟨ga, t * 4 + 3, none⟩) lga).trans f3
          replace e0 := (SV.out.cell (p := ⟨gn, 0, none⟩) lgw).trans e0
          replace e1 := (SV.out.cell (p := ⟨gn, 1, none⟩) lgw).trans e1
          have z8 := SV.out.size
          replace lga : ga < w8.heap.size := by omega
          replace lgw : gn < w8.heap.size := by omega
          have y1 : decide (xx < g0) = false := by simp; omega
          have y2 : decide (yy < g1) = false := by simp; omega
          have y3 : decide (ex - g0 < xx + uu) = false := by simp; omega
          have y4 : decide (ey - g1 < yy + vv) = false := by simp; omega
          clear SV HB47 HBX HSPB c1 c3 z8 lb
          go_wp2
          try simp only [List.append_eq, List.cons_append, List.nil_append]
          go_quiet (fail)
          go_wp2
          go_roundw
          case rel => exact ⟨t + 1, by omega, by go_num, Lib.hid (HB48.out.trans (by first | exact Below.refl _ _ | exact below_dn _ _ _))⟩
          case measure => simp [intOf]; omega
        · go_wp2
          go_ret
          exact ⟨by first | rfl | (simp; done), HB4.out.trans (HB.out.mono HB4.out.size)⟩
    · skip
      go_wp2
      go_ret
      exact ⟨by first | rfl | (simp; done), HB2.out⟩
  · have q0 : min (len0 : Int) 60 = 60 := by omega
    have q2 : 60 ≤ cap0 := by omega
    go_enter Try.func8, Try.ntmps8
    go_wp2_with fail
    try rw [hW0]
    clear hW0 hgn
    refine (HSH.out _).mono ?_
    rintro e w1 ⟨rfl, hb1⟩
    have HB1 := Lib.hid (HB0.out.trans (hb1.mono HB0.out.size))
    have HA1 := Lib.hid (HA0.out.below hb1 HA0.out.lt)
    clear hb1 HB0 HA0 HSH
    have d0 := HA1.out.cellAt 0
    have d1 := HA1.out.cellAt 1
    have lgn := HA1.out.lt
    simp only [List.getElem?_cons_zero, List.getElem?_cons_succ] at d0 d1
    go_wp2_with (first
      | (go_at_call 11; refine (HC1.out _).mono ?_; clear HC1; rintro e wc ⟨rfl, hwc⟩; obtain rfl := hwc.symm; clear hwc)
      | (go_at_call 11; refine (HC2.out _).mono ?_; clear HC2; rintro e wc ⟨rfl, hwc⟩; obtain rfl := hwc.symm; clear hwc))
    refine (HCE.out _ HB1.out).mono ?_
    intro e w2 hp2
    obtain ⟨hb2, hp2⟩ := hp2
    have HB2 := Lib.hid (HB1.out.trans (hb2.mono HB1.out.size))
    have HA2 := Lib.hid (HA1.out.below hb2 HA1.out.lt)
    clear HB1 HA1 HCE d0 d1 lgn hb2
    rcases hp2 with ⟨hall, v1, rfl, hown⟩ | ⟨hall, rfl⟩
    · skip
      simp only [Bool.and_eq_true] at hall
      obtain ⟨ho0, ho1, hall⟩ := hall
      have ok0 := okB_iff.1 ho0
      have ok1 := okB_iff.1 ho1
      have hrow := own_rowE hown rfl
      obtain ⟨pv, cv, rfl⟩ := rowE_form hrow
      have HROW := Lib.hid hrow
      have HALL := Lib.hid hall
      have HLEN : Hid ((L.map (cellE g0 g1 cs rs)).length = 60) := Lib.hid (by rw [List.length_map]; exact HNN.out)
      rw [HLEN.out] at HROW ⊢
      have hx1' : extV g0 cs = (extW g0 cs, 0) := by unfold extV; rw [ho0]; rfl
      have hx2' : extV g1 rs = (extW g1 rs, 0) := by unfold extV; rw [ho1]; rfl
      rw [hx1'] at HEA
      rw [hx2'] at HEB
      dsimp only at HEA HEB
      have HH0 := Lib.hid ho0
      have HH1 := Lib.hid ho1
      have HK0 := Lib.hid ok0
      have HK1 := Lib.hid ok1
      have b0 := extW_bd ok0
      have b1 := extW_bd ok1
      have bg0 := ok0.1
      have bg1 := ok1.1
      obtain ⟨ex, hex⟩ : ∃ ex, extW g0 cs = ex := ⟨_, rfl⟩
      obtain ⟨ey, hey⟩ : ∃ ey, extW g1 rs = ey := ⟨_, rfl⟩
      rw [hex] at HEA b0
      rw [hey] at HEB b1
      have HEXX := Lib.hid hex
      have HEYY := Lib.hid hey
      clear hown hrow hall ho0 ho1 ok0 ok1 hx1' hx2' hex hey
      have d0 := HA2.out.cellAt 0
      have d1 := HA2.out.cellAt 1
      have lgn := HA2.out.lt
      simp only [List.getElem?_cons_zero, List.getElem?_cons_succ] at d0 d1
      go_wp2_with fail
      refine (HEA.out _ HB2.out).mono ?_
      rintro e w3 ⟨rfl, hb3⟩
      have HB3 := Lib.hid (HB2.out.trans (hb3.mono HB2.out.size))
      have HA3 := Lib.hid (HA2.out.below hb3 HA2.out.lt)
      have HR3 := Lib.hid (HROW.out.below hb3)
      clear hb3 HB2 HA2 HROW HEA d0 d1 lgn
      have d0 := HA3.out.cellAt 0
      have d1 := HA3.out.cellAt 1
      have lgn := HA3.out.lt
      simp only [List.getElem?_cons_zero, List.getElem?_cons_succ] at d0 d1
      go_wp2_with fail
      refine (HEB.out _ HB3.out).mono ?_
      rintro e w4 ⟨rfl, hb4⟩
      have HB4 := Lib.hid (HB3.out.trans (hb4.mono HB3.out.size))
      have HA4 := Lib.hid (HA3.out.below hb4 HA3.out.lt)
      have HR4 := Lib.hid (HR3.out.below hb4)
      clear hb4 HB3 HA3 HR3 HEB d0 d1 lgn
      go_wp2
      go_loopw [16] (fun s16 X => ∃ t : Nat, t ≤ 60 ∧ s16 = .int .i64 (t : Int) ∧ Hid (Below w4.heap.size w4 X)) (fun s16 _ => 60 - (intOf s16).toNat)
      case atStart => exact ⟨0, Nat.zero_le _, rfl, Lib.hid (Below.refl _ _)⟩
      case round =>
        obtain ⟨t, ht, rfl, HB⟩ := hrel
        by_cases hlt : t < 60
        · obtain ⟨z, hz⟩ : ∃ z, L[t]? = some z := ⟨_, List.getElem?_eq_getElem (by rw [HNN.out]; exact hlt)⟩
          have hpl : placeN m k z = true := List.all_eq_true.1 HALL.out z (List.mem_iff_getElem?.2 ⟨t, hz⟩)
          obtain ⟨b, o, rfl, lb, c0, c1, c2, c3, c4⟩ := psAt_at HPP.out t z hz
          have HBX := Lib.hid (HB4.out.trans (HB.out.mono HB4.out.size))
          replace c1 := (HBX.out.cell (p := ⟨b, o + t * 5 + 1, none⟩) lb).trans c1
          replace c2 := (HBX.out.cell (p := ⟨b, o + t * 5 + 2, none⟩) lb).trans c2
          replace c3 := (HBX.out.cell (p := ⟨b, o + t * 5 + 3, none⟩) lb).trans c3
          replace c4 := (HBX.out.cell (p := ⟨b, o + t * 5 + 4, none⟩) lb).trans c4
          replace lb : b < wr.heap.size := by have := HBX.out.size; omega
          have HAR := Lib.hid (HA4.out.below HB.out HA4.out.lt)
          have e0 := HAR.out.cellAt 0
          have e1 := HAR.out.cellAt 1
          have lgw := HAR.out.lt
          simp only [List.getElem?_cons_zero, List.getElem?_cons_succ] at e0 e1
          obtain ⟨fc, fr, nw, nh, q1, q2, q3, q4, h1, h2, h3, h4⟩ := placeN_nat hpl
          have hce : (L.map (cellE g0 g1 cs rs))[t]? = some ⟨begW g0 cs fc, begW g1 rs fr, wideW g0 cs fc (fc + nw), wideW g1 rs fr (fr + nh)⟩ := by
            rw [List.getElem?_map, hz]; simp [cellE, q1, q2, q3, q4]
          obtain ⟨ga, rfl, lga, f0, f1, f2, f3⟩ := rowE_at2 (HR4.out.below HB.out) t _ hce
          dsimp only at f0 f1 f2 f3
          obtain ⟨pn, pr, pc, ph, pw⟩ := z
          dsimp only at c0 c1 c2 c3 c4 q1 q2 q3 q4
          subst q1 q2 q3 q4
          have r1 := within_end HK0.out HCS.out h3 h1
          have r2 := within_end HK1.out HRS.out h4 h2
          rw [HEXX.out] at r1
          rw [HEYY.out] at r2
          have b5 := begW_bd HK0.out (k := fc) (by have := HCS.out; omega)
          have b6 := begW_bd HK1.out (k := fr) (by have := HRS.out; omega)
          have b7 := wideW_bd HK0.out (s := fc) (e := fc + nw) (by have := HCS.out; omega)
          have b8 := wideW_bd HK1.out (s := fr) (e := fr + nh) (by have := HRS.out; omega)
          have HSPA := Lib.hid (fun X (h : Below W.heap.size W X) => span_main g0 a1 m cap1 fc nw cs X ((HLL.out.keep (Y := X) (fun k hk => h.block k hk)).mono h.size) HCS.out hm1 HK0.out h1)
          have HSPB := Lib.hid (fun X (h : Below W.heap.size W X) => span_main g1 a2 k cap2 fr nh rs X ((HRR.out.keep (Y := X) (fun k hk => h.block k hk)).mono h.size) HRS.out hm2 HK1.out h2)
          clear hz hpl hce c0
          generalize begW g0 cs fc = xx at *
          generalize begW g1 rs fr = yy at *
          generalize wideW g0 cs fc (fc + nw) = uu at *
          generalize wideW g1 rs fr (fr + nh) = vv at *
          go_wp2
          refine region_held_atE (S := fun X => Hid (Below wr.heap.size wr X)) (by kernel_rfl) (fun w9p hw9 => ?_)
          have SV : Hid (Below wr.heap.size wr w9p) := Lib.hid (by rw [← hw9]; exact (Below.refl _ _).drew)
          clear hw9
          try simp only [Act.put, List.setIfInBounds_toArray, List.set_cons_succ, List.set_cons_zero]
          refine wpAnyH_takeD (i := 0) (v := .slice a1 m cap1) (some 68) rfl rfl (by kernel_rfl) (by kernel_rfl) (by kernel_rfl) (fun _ _ _ h => h) (Or.inl ⟨by rfl, ?_⟩) SV ?_
          · intro X hX; go_simp
          try simp only [Act.put, List.setIfInBounds_toArray, List.set_cons_succ, List.set_cons_zero]
          refine wpAnyH_takeD (i := 1) (v := .pointer (some ⟨gn, 0, none⟩)) (some 69) rfl rfl (by kernel_rfl) (by kernel_rfl) (by kernel_rfl) (fun _ _ _ h => h) (Or.inl ⟨by rfl, ?_⟩) SV ?_
          · intro X hX; go_simp
          try simp only [Act.put, List.setIfInBounds_toArray, List.set_cons_succ, List.set_cons_zero]
          refine wpAnyH_takeD (i := 2) (v := .int .i64 g0) (some 70) rfl rfl (by kernel_rfl) (by kernel_rfl) (by kernel_rfl) (fun _ _ _ h => h) (Or.inl ⟨by rfl, ?_⟩) SV ?_
          · intro X hX; have o0 := (hX.out.cell (p := ⟨gn, 0, none⟩) lgw).trans e0; have lX := hX.out.size; have lbX : gn < X.heap.size := (by omega); go_simp
          try simp only [Act.put, List.setIfInBounds_toArray, List.set_cons_succ, List.set_cons_zero]
          refine wpAnyH_takeD (i := 3) (v := .slice (some ⟨b, o, none⟩) 60 cap0) (some 71) rfl rfl (by kernel_rfl) (by kernel_rfl) (by kernel_rfl) (fun _ _ _ h => h) (Or.inl ⟨by rfl, ?_⟩) SV ?_
          · intro X hX; go_simp
          try simp only [Act.put, List.setIfInBounds_toArray, List.set_cons_succ, List.set_cons_zero]
          refine wpAnyH_takeD (i := 4) (v := .int .i64 (t : Int)) (some 72) rfl rfl (by kernel_rfl) (by kernel_rfl) (by kernel_rfl) (fun _ _ _ h => h) (Or.inl ⟨by rfl, ?_⟩) SV ?_
          · intro X hX; go_simp
          try simp only [Act.put, List.setIfInBounds_toArray, List.set_cons_succ, List.set_cons_zero]
          refine wpAnyH_takeD (i := 5) (v := .pointer (some ⟨b, o + t * 5, none⟩)) (some 73) rfl rfl (by kernel_rfl) (by kernel_rfl) (by kernel_rfl) (fun _ _ _ h => h) (Or.inl ⟨by rfl, ?_⟩) SV ?_
          · intro X hX; go_simp
          try simp only [Act.put, List.setIfInBounds_toArray, List.set_cons_succ, List.set_cons_zero]
          refine wpAnyH_takeD (i := 6) (v := .pointer (some ⟨b, o + t * 5 + 2, none⟩)) (some 74) rfl rfl (by kernel_rfl) (by kernel_rfl) (by kernel_rfl) (fun _ _ _ h => h) (Or.inl ⟨by rfl, ?_⟩) SV ?_
          · intro X hX; go_simp
          try simp only [Act.put, List.setIfInBounds_toArray, List.set_cons_succ, List.set_cons_zero]
          refine wpAnyH_takeD (i := 7) (v := .int .i64 (fc : Int)) (some 75) rfl rfl (by kernel_rfl) (by kernel_rfl) (by kernel_rfl) (fun _ _ _ h => h) (Or.inl ⟨by rfl, ?_⟩) SV ?_
          · intro X hX; have o0 := (hX.out.cell (p := ⟨b, o + t * 5 + 2, none⟩) lb).trans c2; have lX := hX.out.size; have lbX : b < X.heap.size := (by omega); go_simp
          try simp only [Act.put, List.setIfInBounds_toArray, List.set_cons_succ, List.set_cons_zero]
          refine wpAnyH_takeD (i := 8) (v := .slice (some ⟨b, o, none⟩) 60 cap0) (some 76) rfl rfl (by kernel_rfl) (by kernel_rfl) (by kernel_rfl) (fun _ _ _ h => h) (Or.inl ⟨by rfl, ?_⟩) SV ?_
          · intro X hX; go_simp
          try simp only [Act.put, List.setIfInBounds_toArray, List.set_cons_succ, List.set_cons_zero]
          refine wpAnyH_takeD (i := 9) (v := .int .i64 (t : Int)) (some 77) rfl rfl (by kernel_rfl) (by kernel_rfl) (by kernel_rfl) (fun _ _ _ h => h) (Or.inl ⟨by rfl, ?_⟩) SV ?_
          · intro X hX; go_simp
          try simp only [Act.put, List.setIfInBounds_toArray, List.set_cons_succ, List.set_cons_zero]
          refine wpAnyH_takeD (i := 10) (v := .pointer (some ⟨b, o + t * 5, none⟩)) (some 78) rfl rfl (by kernel_rfl) (by kernel_rfl) (by kernel_rfl) (fun _ _ _ h => h) (Or.inl ⟨by rfl, ?_⟩) SV ?_
          · intro X hX; go_simp
          try simp only [Act.put, List.setIfInBounds_toArray, List.set_cons_succ, List.set_cons_zero]
          refine wpAnyH_takeD (i := 11) (v := .pointer (some ⟨b, o + t * 5 + 4, none⟩)) (some 79) rfl rfl (by kernel_rfl) (by kernel_rfl) (by kernel_rfl) (fun _ _ _ h => h) (Or.inl ⟨by rfl, ?_⟩) SV ?_
          · intro X hX; go_simp
          try simp only [Act.put, List.setIfInBounds_toArray, List.set_cons_succ, List.set_cons_zero]
          refine wpAnyH_takeD (i := 12) (v := .int .i64 (nw : Int)) (some 80) rfl rfl (by kernel_rfl) (by kernel_rfl) (by kernel_rfl) (fun _ _ _ h => h) (Or.inl ⟨by rfl, ?_⟩) SV ?_
          · intro X hX; have o0 := (hX.out.cell (p := ⟨b, o + t * 5 + 4, none⟩) lb).trans c4; have lX := hX.out.size; have lbX : b < X.heap.size := (by omega); go_simp
          try simp only [Act.put, List.setIfInBounds_toArray, List.set_cons_succ, List.set_cons_zero]
          refine wpAnyH_all (rs := [13]) (by kernel_rfl) (by simp) ?_
          intro ii hii; obtain rfl : ii = 13 := by simpa using hii
          clear hii
          refine wpOp_step rfl (fun K hK => ?_)
          go_simp
          refine (HSPA.out _ (HBX.out.trans (SV.out.mono HBX.out.size))).mono ?_
          rintro e wxp ⟨rfl, hbp⟩
          have S7 : Hid (Below wr.heap.size wr wxp) := Lib.hid (SV.out.trans (hbp.mono SV.out.size))
          refine hK _ _ ⟨S7, ?_⟩
          clear hK K SV hbp
          have SV := S7
          clear S7
          try simp only [Act.put, List.setIfInBounds_toArray, List.set_cons_succ, List.set_cons_zero]
          refine wpAnyH_takeD (i := 14) (v := .tuple #[.int .i64 uu, .int .i64 0]) (some 67) rfl rfl (by kernel_rfl) (by kernel_rfl) (by kernel_rfl) (fun _ _ _ h => h) (Or.inl ⟨by rfl, ?_⟩) SV ?_
          · intro X hX; go_simp
          try simp only [Act.put, List.setIfInBounds_toArray, List.set_cons_succ, List.set_cons_zero]
          refine wpAnyH_takeD (i := 15) (v := .int .i64 uu) (some 82) rfl rfl (by kernel_rfl) (by kernel_rfl) (by kernel_rfl) (fun _ _ _ h => h) (Or.inl ⟨by rfl, ?_⟩) SV ?_
          · intro X hX; go_simp
          try simp only [Act.put, List.setIfInBounds_toArray, List.set_cons_succ, List.set_cons_zero]
          refine wpAnyH_takeD (i := 16) (v := .int .i64 0) (some 83) rfl rfl (by kernel_rfl) (by kernel_rfl) (by kernel_rfl) (fun _ _ _ h => h) (Or.inl ⟨by rfl, ?_⟩) SV ?_
          · intro X hX; go_simp
          try simp only [Act.put, List.setIfInBounds_toArray, List.set_cons_succ, List.set_cons_zero]
          refine wpAnyH_takeD (i := 17) (v := .int .i64 uu) (some 17) rfl rfl (by kernel_rfl) (by kernel_rfl) (by kernel_rfl) (fun _ _ _ h => h) (Or.inl ⟨by rfl, ?_⟩) SV ?_
          · intro X hX; go_simp
          try simp only [Act.put, List.setIfInBounds_toArray, List.set_cons_succ, List.set_cons_zero]
          refine wpAnyH_takeD (i := 18) (v := .int .i64 0) (some 18) rfl rfl (by kernel_rfl) (by kernel_rfl) (by kernel_rfl) (fun _ _ _ h => h) (Or.inl ⟨by rfl, ?_⟩) SV ?_
          · intro X hX; go_simp
          try simp only [Act.put, List.setIfInBounds_toArray, List.set_cons_succ, List.set_cons_zero]
          refine wpAnyH_done (by kernel_rfl) ?_ _
          generalize wxp = w7 at *
          have HBX7 := Lib.hid (HBX.out.trans (SV.out.mono HBX.out.size))
          have HB47 := Lib.hid (HB.out.trans (SV.out.mono HB.out.size))
          replace c1 := (SV.out.cell (p := ⟨b, o + t * 5 + 1, none⟩) lb).trans c1
          replace c3 := (SV.out.cell (p := ⟨b, o + t * 5 + 3, none⟩) lb).trans c3
          replace f0 := (SV.out.cell (p := ⟨ga, t * 4, none⟩) lga).trans f0
          replace f1 := (SV.out.cell (p := ⟨ga, t * 4 + 1, none⟩) lga).trans f1
          replace f2 := (SV.out.cell (p := ⟨ga, t * 4 + 2, none⟩) lga).trans f2
          replace f3 := (SV.out.cell (p := ⟨ga, t * 4 + 3, none⟩) lga).trans f3
          replace e0 := (SV.out.cell (p := ⟨gn, 0, none⟩) lgw).trans e0
          replace e1 := (SV.out.cell (p := ⟨gn, 1, none⟩) lgw).trans e1
          have z7 := SV.out.size
          replace lb : b < w7.heap.size := by omega
          replace lga : ga < w7.heap.size := by omega
          replace lgw : gn < w7.heap.size := by omega
          clear SV HBX HB HAR HSPA c2 c4 z7
          have HBX := HBX7
          clear HBX7
          go_wp2
          refine region_held_atE (S := fun X => Hid (Below w7.heap.size w7 X)) (by kernel_rfl) (fun w9q hw9 => ?_)
          have SV : Hid (Below w7.heap.size w7 w9q) := Lib.hid (by rw [← hw9]; exact (Below.refl _ _).drew)
          clear hw9
          try simp only [Act.put, List.setIfInBounds_toArray, List.set_cons_succ, List.set_cons_zero]
          refine wpAnyH_takeD (i := 0) (v := .slice a2 k cap2) (some 85) rfl rfl (by kernel_rfl) (by kernel_rfl) (by kernel_rfl) (fun _ _ _ h => h) (Or.inl ⟨by rfl, ?_⟩) SV ?_
          · intro X hX; go_simp
          try simp only [Act.put, List.setIfInBounds_toArray, List.set_cons_succ, List.set_cons_zero]
          refine wpAnyH_takeD (i := 1) (v := .pointer (some ⟨gn, 1, none⟩)) (some 86) rfl rfl (by kernel_rfl) (by kernel_rfl) (by kernel_rfl) (fun _ _ _ h => h) (Or.inl ⟨by rfl, ?_⟩) SV ?_
          · intro X hX; go_simp
          try simp only [Act.put, List.setIfInBounds_toArray, List.set_cons_succ, List.set_cons_zero]
          refine wpAnyH_takeD (i := 2) (v := .int .i64 g1) (some 87) rfl rfl (by kernel_rfl) (by kernel_rfl) (by kernel_rfl) (fun _ _ _ h => h) (Or.inl ⟨by rfl, ?_⟩) SV ?_
          · intro X hX; have o0 := (hX.out.cell (p := ⟨gn, 1, none⟩) lgw).trans e1; have lX := hX.out.size; have lbX : gn < X.heap.size := (by omega); go_simp
          try simp only [Act.put, List.setIfInBounds_toArray, List.set_cons_succ, List.set_cons_zero]
          refine wpAnyH_takeD (i := 3) (v := .slice (some ⟨b, o, none⟩) 60 cap0) (some 88) rfl rfl (by kernel_rfl) (by kernel_rfl) (by kernel_rfl) (fun _ _ _ h => h) (Or.inl ⟨by rfl, ?_⟩) SV ?_
          · intro X hX; go_simp
          try simp only [Act.put, List.setIfInBounds_toArray, List.set_cons_succ, List.set_cons_zero]
          refine wpAnyH_takeD (i := 4) (v := .int .i64 (t : Int)) (some 89) rfl rfl (by kernel_rfl) (by kernel_rfl) (by kernel_rfl) (fun _ _ _ h => h) (Or.inl ⟨by rfl, ?_⟩) SV ?_
          · intro X hX; go_simp
          try simp only [Act.put, List.setIfInBounds_toArray, List.set_cons_succ, List.set_cons_zero]
          refine wpAnyH_takeD (i := 5) (v := .pointer (some ⟨b, o + t * 5, none⟩)) (some 90) rfl rfl (by kernel_rfl) (by kernel_rfl) (by kernel_rfl) (fun _ _ _ h => h) (Or.inl ⟨by rfl, ?_⟩) SV ?_
          · intro X hX; go_simp
          try simp only [Act.put, List.setIfInBounds_toArray, List.set_cons_succ, List.set_cons_zero]
          refine wpAnyH_takeD (i := 6) (v := .pointer (some ⟨b, o + t * 5 + 1, none⟩)) (some 91) rfl rfl (by kernel_rfl) (by kernel_rfl) (by kernel_rfl) (fun _ _ _ h => h) (Or.inl ⟨by rfl, ?_⟩) SV ?_
          · intro X hX; go_simp
          try simp only [Act.put, List.setIfInBounds_toArray, List.set_cons_succ, List.set_cons_zero]
          refine wpAnyH_takeD (i := 7) (v := .int .i64 (fr : Int)) (some 92) rfl rfl (by kernel_rfl) (by kernel_rfl) (by kernel_rfl) (fun _ _ _ h => h) (Or.inl ⟨by rfl, ?_⟩) SV ?_
          · intro X hX; have o0 := (hX.out.cell (p := ⟨b, o + t * 5 + 1, none⟩) lb).trans c1; have lX := hX.out.size; have lbX : b < X.heap.size := (by omega); go_simp
          try simp only [Act.put, List.setIfInBounds_toArray, List.set_cons_succ, List.set_cons_zero]
          refine wpAnyH_takeD (i := 8) (v := .slice (some ⟨b, o, none⟩) 60 cap0) (some 93) rfl rfl (by kernel_rfl) (by kernel_rfl) (by kernel_rfl) (fun _ _ _ h => h) (Or.inl ⟨by rfl, ?_⟩) SV ?_
          · intro X hX; go_simp
          try simp only [Act.put, List.setIfInBounds_toArray, List.set_cons_succ, List.set_cons_zero]
          refine wpAnyH_takeD (i := 9) (v := .int .i64 (t : Int)) (some 94) rfl rfl (by kernel_rfl) (by kernel_rfl) (by kernel_rfl) (fun _ _ _ h => h) (Or.inl ⟨by rfl, ?_⟩) SV ?_
          · intro X hX; go_simp
          try simp only [Act.put, List.setIfInBounds_toArray, List.set_cons_succ, List.set_cons_zero]
          refine wpAnyH_takeD (i := 10) (v := .pointer (some ⟨b, o + t * 5, none⟩)) (some 95) rfl rfl (by kernel_rfl) (by kernel_rfl) (by kernel_rfl) (fun _ _ _ h => h) (Or.inl ⟨by rfl, ?_⟩) SV ?_
          · intro X hX; go_simp
          try simp only [Act.put, List.setIfInBounds_toArray, List.set_cons_succ, List.set_cons_zero]
          refine wpAnyH_takeD (i := 11) (v := .pointer (some ⟨b, o + t * 5 + 3, none⟩)) (some 96) rfl rfl (by kernel_rfl) (by kernel_rfl) (by kernel_rfl) (fun _ _ _ h => h) (Or.inl ⟨by rfl, ?_⟩) SV ?_
          · intro X hX; go_simp
          try simp only [Act.put, List.setIfInBounds_toArray, List.set_cons_succ, List.set_cons_zero]
          refine wpAnyH_takeD (i := 12) (v := .int .i64 (nh : Int)) (some 97) rfl rfl (by kernel_rfl) (by kernel_rfl) (by kernel_rfl) (fun _ _ _ h => h) (Or.inl ⟨by rfl, ?_⟩) SV ?_
          · intro X hX; have o0 := (hX.out.cell (p := ⟨b, o + t * 5 + 3, none⟩) lb).trans c3; have lX := hX.out.size; have lbX : b < X.heap.size := (by omega); go_simp
          try simp only [Act.put, List.setIfInBounds_toArray, List.set_cons_succ, List.set_cons_zero]
          refine wpAnyH_all (rs := [13]) (by kernel_rfl) (by simp) ?_
          intro ii hii; obtain rfl : ii = 13 := by simpa using hii
          clear hii
          refine wpOp_step rfl (fun K hK => ?_)
          go_simp
          refine (HSPB.out _ (HBX.out.trans (SV.out.mono HBX.out.size))).mono ?_
          rintro e wxq ⟨rfl, hbq⟩
          have S7 : Hid (Below w7.heap.size w7 wxq) := Lib.hid (SV.out.trans (hbq.mono SV.out.size))
          refine hK _ _ ⟨S7, ?_⟩
          clear hK K SV hbq
          have SV := S7
          clear S7
          try simp only [Act.put, List.setIfInBounds_toArray, List.set_cons_succ, List.set_cons_zero]
          refine wpAnyH_takeD (i := 14) (v := .tuple #[.int .i64 vv, .int .i64 0]) (some 84) rfl rfl (by kernel_rfl) (by kernel_rfl) (by kernel_rfl) (fun _ _ _ h => h) (Or.inl ⟨by rfl, ?_⟩) SV ?_
          · intro X hX; go_simp
          try simp only [Act.put, List.setIfInBounds_toArray, List.set_cons_succ, List.set_cons_zero]
          refine wpAnyH_takeD (i := 15) (v := .int .i64 vv) (some 99) rfl rfl (by kernel_rfl) (by kernel_rfl) (by kernel_rfl) (fun _ _ _ h => h) (Or.inl ⟨by rfl, ?_⟩) SV ?_
          · intro X hX; go_simp
          try simp only [Act.put, List.setIfInBounds_toArray, List.set_cons_succ, List.set_cons_zero]
          refine wpAnyH_takeD (i := 16) (v := .int .i64 0) (some 100) rfl rfl (by kernel_rfl) (by kernel_rfl) (by kernel_rfl) (fun _ _ _ h => h) (Or.inl ⟨by rfl, ?_⟩) SV ?_
          · intro X hX; go_simp
          try simp only [Act.put, List.setIfInBounds_toArray, List.set_cons_succ, List.set_cons_zero]
          refine wpAnyH_takeD (i := 17) (v := .int .i64 vv) (some 19) rfl rfl (by kernel_rfl) (by kernel_rfl) (by kernel_rfl) (fun _ _ _ h => h) (Or.inl ⟨by rfl, ?_⟩) SV ?_
          · intro X hX; go_simp
          try simp only [Act.put, List.setIfInBounds_toArray, List.set_cons_succ, List.set_cons_zero]
          refine wpAnyH_takeD (i := 18) (v := .int .i64 0) (some 20) rfl rfl (by kernel_rfl) (by kernel_rfl) (by kernel_rfl) (fun _ _ _ h => h) (Or.inl ⟨by rfl, ?_⟩) SV ?_
          · intro X hX; go_simp
          try simp only [Act.put, List.setIfInBounds_toArray, List.set_cons_succ, List.set_cons_zero]
          refine wpAnyH_done (by kernel_rfl) ?_ _
          generalize wxq = w8 at *
          have HB48 := Lib.hid (HB47.out.trans (SV.out.mono HB47.out.size))
          replace f0 := (SV.out.cell (p := ⟨ga, t * 4, none⟩) lga).trans f0
          replace f1 := (SV.out.cell (p := ⟨ga, t * 4 + 1, none⟩) lga).trans f1
          replace f2 := (SV.out.cell (p := ⟨ga, t * 4 + 2, none⟩) lga).trans f2
          replace f3 := (SV.out.cell (p := ⟨ga, t * 4 + 3, none⟩) lga).trans f3
          replace e0 := (SV.out.cell (p := ⟨gn, 0, none⟩) lgw).trans e0
          replace e1 := (SV.out.cell (p := ⟨gn, 1, none⟩) lgw).trans e1
          have z8 := SV.out.size
          replace lga : ga < w8.heap.size := by omega
          replace lgw : gn < w8.heap.size := by omega
          have y1 : decide (xx < g0) = false := by simp; omega
          have y2 : decide (yy < g1) = false := by simp; omega
          have y3 : decide (ex - g0 < xx + uu) = false := by simp; omega
          have y4 : decide (ey - g1 < yy + vv) = false := by simp; omega
          clear SV HB47 HBX HSPB c1 c3 z8 lb
          go_wp2
          try simp only [List.append_eq, List.cons_append, List.nil_append]
          go_quiet (fail)
          go_wp2
          go_roundw
          case rel => exact ⟨t + 1, by omega, by go_num, Lib.hid (HB48.out.trans (by first | exact Below.refl _ _ | exact below_dn _ _ _))⟩
          case measure => simp [intOf]; omega
        · go_wp2
          go_ret
          exact ⟨by first | rfl | (simp; done), HB4.out.trans (HB.out.mono HB4.out.size)⟩
    · skip
      go_wp2
      go_ret
      exact ⟨by first | rfl | (simp; done), HB2.out⟩
theorem walk (W : World) (a0 : Option Addr) (len0 cap0 : Nat) (z0 : List Pz) (w0 : PsAt W (.slice a0 len0 cap0) z0 ∧ z0.length = len0 ∧ len0 ≤ cap0 ∧ cap0 ≤ maxLen ∧ ∀ p ∈ z0, p.ok) (a1 : Option Addr) (len1 cap1 : Nat) (z1 : List Int) (w1 : Ints W (.slice a1 len1 cap1) z1 ∧ z1.length = len1 ∧ len1 ≤ cap1 ∧ cap1 ≤ maxLen) (a2 : Option Addr) (len2 cap2 : Nat) (z2 : List Int) (w2 : Ints W (.slice a2 len2 cap2) z2 ∧ z2.length = len2 ∧ len2 ≤ cap2 ∧ cap2 ≤ maxLen) (a3 : Gp) (w3 : a3.wf) :
    Calls Try.prog 8 #[.slice a0 len0 cap0, .slice a1 len1 cap1, .slice a2 len2 cap2, a3.val] W fun e w' => e = .returned (.bool true) ∧ Below W.heap.size W w' := by
  obtain ⟨h1, h2, h3, h4, h5⟩ := w0
  obtain ⟨i1, i2, i3, i4⟩ := w1
  obtain ⟨j1, j2, j3, j4⟩ := w2
  unfold maxLen at h4 i4 j4
  obtain ⟨k1, k2⟩ := cut_low i1 i2
  obtain ⟨l1, l2⟩ := cut_low j1 j2
  have hp := places_take h1 h2 (min len0 60) (by omega)
  exact main W a0 a1 a2 len0 cap0 len1 cap1 len2 cap2 (min len0 60) (z0.take (min len0 60)) _ _ a3.x a3.y hp (by rw [List.length_take]; omega) (fun x hx => h5 x (List.mem_of_mem_take hx)) k1 l1 k2 l2 (by omega) h3 i3 j3 h4 i4 j4

set_option maxRecDepth 100000 in
theorem lifted (os : Os) (started : os.Started) (H : Type) (enc : TypeId × Value → H) :
    ReturnsInHanded {} Try.checked os 8 .any (Rows.edgesWithinSpec.pre6 enc Try.prog Try.f8 Rows.edgesWithinRow.domain false) (Rows.edgesWithinSpec.post enc Try.prog Try.f8 false true false false) := by
  refine returnsInHanded_of_change (C := Try.checked) own started (by kernel_rfl) Try.func8
    (ChangeSpec.witness6 (enc := enc) (C := Try.checked) false ⟨#[], #[.slice none 0 0, .slice none 0 0, .slice none 0 0, .agg #[.int .i64 0, .int .i64 0]], []⟩ 8 (by kernel_rfl) (by kernel_rfl) (by kernel_rfl) (by kernel_rfl)) ?_
  intro W base args ds gs before hval0 hW hcnd _
  have hval : ∀ (j : Nat) t v, Try.f8.params[j]? = some t → args[j]? = some v → Value.okWide Try.prog W .any base t v := hval0
  have hW' := hW
  obtain ⟨p, q, hA0, hV, rfl, hfz, hnd⟩ := hW
  have hA : DataW.TrodAll enc Try.prog W 0 (fun _ => true) true Try.f8.params.toList args.toList ds p := hA0
  rw [Try.params8] at hA hval
  obtain ⟨v0, vs0, d0, ds0, p0, q0, hargs, rfl, rfl, h0, r0⟩ := trodAll_cons hA
  obtain ⟨v1, vs1, d1, ds1, p1, q1, rfl, rfl, rfl, h1, r1⟩ := trodAll_cons r0
  obtain ⟨v2, vs2, d2, ds2, p2, q2, rfl, rfl, rfl, h2, r2⟩ := trodAll_cons r1
  obtain ⟨v3, vs3, d3, ds3, p3, q3, rfl, rfl, rfl, h3, r3⟩ := trodAll_cons r2
  obtain ⟨rfl, rfl, rfl⟩ := trodAll_nil r3
  obtain rfl : args = #[v0, v1, v2, v3] := by cases args; simp_all
  obtain ⟨rfl, rfl⟩ := trodVars_none hV
  obtain ⟨a0, len0, cap0, rfl⟩ := okWide_slice Try.underlying37 (hval 0 37 v0 rfl rfl)
  have k0 := h0
  have lt0 : ∀ x ∈ p0, x.block < W.heap.size := by obtain ⟨m, hm⟩ := k0; exact DataW.trod_lt m _ _ _ hm
  obtain ⟨z0, w0⟩ : ∃ L, PsAt W (.slice a0 len0 cap0) L ∧ L.length = len0 ∧ len0 ≤ cap0 ∧ cap0 ≤ maxLen ∧ ∀ p ∈ L, p.ok := by
    obtain ⟨fuel, hf⟩ := h0
    exact open_places (by simpa [Value.cells] using hf)
  obtain ⟨a1, len1, cap1, rfl⟩ := okWide_slice Try.underlying22 (hval 1 22 v1 rfl rfl)
  have k1 := h1
  have lt1 : ∀ x ∈ p1, x.block < W.heap.size := by obtain ⟨m, hm⟩ := k1; exact DataW.trod_lt m _ _ _ hm
  obtain ⟨z1, w1⟩ : ∃ zs, Ints W (.slice a1 len1 cap1) zs ∧ zs.length = len1 ∧ len1 ≤ cap1 ∧ cap1 ≤ maxLen := by
    obtain ⟨fuel, hf⟩ := h1
    exact open_ints64 (by simpa [Value.cells] using hf)
  obtain ⟨a2, len2, cap2, rfl⟩ := okWide_slice Try.underlying22 (hval 2 22 v2 rfl rfl)
  have k2 := h2
  have lt2 : ∀ x ∈ p2, x.block < W.heap.size := by obtain ⟨m, hm⟩ := k2; exact DataW.trod_lt m _ _ _ hm
  obtain ⟨z2, w2⟩ : ∃ zs, Ints W (.slice a2 len2 cap2) zs ∧ zs.length = len2 ∧ len2 ≤ cap2 ∧ cap2 ≤ maxLen := by
    obtain ⟨fuel, hf⟩ := h2
    exact open_ints64 (by simpa [Value.cells] using hf)
  obtain ⟨a3, rfl, rfl, rfl, w3⟩ := open_two (hval 3 38 v3 rfl rfl) h3
  clear hA0 hval0
  simp only [List.append_nil] at hW'
  refine (walk W a0 len0 cap0 z0 w0 a1 len1 cap1 z1 w1 a2 len2 cap2 z2 w2 a3 w3).mono fun e W' ⟨he, hg⟩ => ?_
  subst he
  exact ⟨_, rfl, _, _, _, [], _, [], hW', (trodAll_cons_mk (shut_bool Try.underlying4 _) trodAll_mk0), (trodAll_cons_mk (Below.trod laidOut (by kernel_rfl) (of_decide_eq_true (by kernel_rfl)) k0 hg lt0) (trodAll_cons_mk (Below.trod laidOut (by kernel_rfl) (of_decide_eq_true (by kernel_rfl)) k1 hg lt1) (trodAll_cons_mk (Below.trod laidOut (by kernel_rfl) (of_decide_eq_true (by kernel_rfl)) k2 hg lt2) (trodAll_cons_mk (shut_two a3 w3) trodAll_mk0)))), rfl, hg.frame _, fun h => by cases h⟩

theorem over : Rows.edgesWithinRow.holds Try.pinned (OpenSpec.ofChange Rows.edgesWithinSpec) :=
  OpenClaim.holds_of_wide 8 Try.f8 rfl rfl rfl rfl rfl rfl rfl ⟨rfl, rfl, rfl, rfl, rfl⟩ rfl rfl rfl rfl rfl (by kernel_rfl) Try.func8 (by kernel_rfl)
    (of_decide_eq_true (by kernel_rfl)) (by unfold Func.isWrapper; first | (rw [if_pos (by decide +kernel)]; kernel_rfl) | (rw [if_neg (by decide +kernel)]; exact ⟨rfl, rfl⟩))
    (fun os started H enc _ => lifted os started H enc)

/-- the statement -/
theorem proved : Rows.EdgesWithinSaid :=
  over
#print axioms proved
end Go.Proofs.Ytncgmfdmkjlmaaa.edgesWithin
