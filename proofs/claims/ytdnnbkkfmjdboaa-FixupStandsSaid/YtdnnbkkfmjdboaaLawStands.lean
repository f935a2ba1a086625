/- In what is fixed each kid may stand where it does: for every page. -/
import Derived.Test.YtdnnbkkfmjdboaaRows
import Derived.WalkKit
import Derived.ProofKit
import Derived.OpenShut
import Derived.Below
import Derived.Test.YtdnnbkkfmjdboaaFLaw
import Derived.ShutString
namespace Go.Proofs.Ytdnnbkkfmjdboaa.fixupStands
open Go.ChangeShapes Go.WideShapes Go.ChangeAt Go.RowKit
set_option linter.unusedVariables false

theorem own : ownKnob Try.prog.godebug = none := by kernel_rfl
theorem laidOut : laidOutB Try.prog = true := by kernel_rfl

set_option maxRecDepth 100000 in
set_option maxHeartbeats 2000000 in
theorem stands_bad (lv : Value) (ns ms : List Nd) (w : World) (b : Int) (hb : b ≠ 0) (HP : Hid (PageAt w lv ns))
    (HC : Hid (∀ X v, PageAt X v ns → Calls Try.prog 15 #[v] X (CutPost ms X)))
    (HO : Hid (∀ X v, PageAt X v ms → Calls Try.prog 16 #[v] X fun e W' => e = .returned (.tuple #[.slice none 0 0, .int .i64 b]) ∧ Below X.heap.size X W')) :
    Calls Try.prog 5 #[lv] w fun e w' => e = .returned (.bool true) ∧ Below w.heap.size w w' := by
  have hb' : (b != 0) = true := by simpa using hb
  obtain ⟨p, cap, rfl⟩ := HP.out.form
  generalize ns.length = l0 at *
  go_enter Try.func5, Try.ntmps5
  go_wp2_with (go_at_call 10; refine (shown5_any _).mono ?_; rintro e w1 ⟨rfl, hb1⟩; have HP1 := Lib.hid (HP.out.below hb1); have HB1 := Lib.hid hb1; clear hb1 HP)
  go_wp2_with (go_at_call 15; refine (HC.out _ _ HP1.out).mono ?_; rintro e w2 ⟨q, c, rfl, hp2, hb2⟩; have HP2 := Lib.hid hp2; have HB2 := Lib.hid (HB1.out.trans (hb2.mono HB1.out.size)); clear hb2 hp2 HP1 HB1 HC)
  generalize ms.length = m at *
  go_wp2_with (go_at_call 16; refine (HO.out _ _ HP2.out).mono ?_; rintro e w3 ⟨rfl, hb3⟩; have HB3 := Lib.hid (HB2.out.trans (hb3.mono HB2.out.size)); clear hb3 HP2 HB2 HO)
  go_ret
  exact ⟨rfl, HB3.out⟩
theorem ints_at0 {W : World} {q : Option Addr} {kc kl : Nat} {zs : List Int} (h : Ints W (.slice q kl kc) zs) (t : Nat) (z : Int) (hz : zs[t]? = some z) : ∃ b o, q = some ⟨b, o, none⟩ ∧ W.cell? ⟨b, o + t, none⟩ = some (.int .i64 z) ∧ b < W.heap.size := by
  have ht := (List.getElem?_eq_some_iff.1 hz).1
  obtain ⟨_, ⟨a, cap, e, rfl⟩ | ⟨b, off, cap, e, hc⟩⟩ := h
  · simp at ht
  · injection e with e1 e2 e3
    have := hc t ht
    rw [hz] at this
    exact ⟨b, off, e1, this, cell_lt this⟩
set_option maxRecDepth 100000 in
set_option maxHeartbeats 4000000 in
theorem stands_good (lv : Value) (ns ms : List Nd) (w : World) (F : Hid (Fine ms)) (K : Hid (∀ n ∈ ms, n.ks.length ≤ 70000 ∧ n.ws.length ≤ 70000)) (hml : ms.length ≤ 150) (HP : Hid (PageAt w lv ns))
    (HC : Hid (∀ X v, PageAt X v ns → Calls Try.prog 15 #[v] X (CutPost ms X))) :
    Calls Try.prog 5 #[lv] w fun e w' => e = .returned (.bool true) ∧ Below w.heap.size w w' := by
  have HO : Hid (∀ (X : World) (v : Value), PageAt X v ms → Calls Try.prog 16 #[v] X (FixForm ms X)) := Lib.hid fun X v hp => fix_form v ms X hp K.out F.out
  have HQ := Lib.hid (fixPg_more F.out (fun n hn => (K.out n hn).1))
  have HS := Lib.hid (fixPg_stands F.out (fun n hn => (K.out n hn).1))
  have HF1 := Lib.hid F.out.len1
  obtain ⟨p, cap, rfl⟩ := HP.out.form
  generalize ns.length = l0 at *
  go_enter Try.func5, Try.ntmps5
  go_wp2_with (go_at_call 10; refine (shown5_any _).mono ?_; rintro e w1 ⟨rfl, hb1⟩; have HP1 := Lib.hid (HP.out.below hb1); have HB1 := Lib.hid hb1; clear hb1 HP)
  go_wp2_with (go_at_call 15; refine (HC.out _ _ HP1.out).mono ?_; rintro e w2 ⟨q, c, rfl, hp2, hb2⟩; have HP2 := Lib.hid hp2; have HB2 := Lib.hid (HB1.out.trans (hb2.mono HB1.out.size)); clear hb2 hp2 HP1 HB1 HC)
  obtain ⟨m, hm⟩ : ∃ m, ms.length = m := ⟨_, rfl⟩
  rw [hm] at hml HP2 ⊢
  have HM := Lib.hid hm
  clear hm
  go_wp2_with (go_at_call 16; refine (HO.out _ _ HP2.out).mono ?_; rintro e w3 ⟨q3, c3, ns3, rfl, hp3, hb3, hB3⟩; have HP3 := Lib.hid hp3; have HF3 := Lib.hid hb3; have HB3 := Lib.hid (HB2.out.trans (hB3.mono HB2.out.size)); clear hb3 HP2 HB2 HO hp3 hB3)
  have hlen : ns3.length = (fixPg ms).length := by rw [← HF3.out, List.length_map]
  have h1 := HQ.out.1
  have h2 := HQ.out.2
  rw [HM.out, ← hlen] at h1
  have hst : ∀ (i : Nat) (n : Nd), ns3[i]? = some n → (0 ≤ n.k ∧ n.k ≤ 10) ∧ n.ks.length ≤ 70000 ∧ ∀ z ∈ n.ks, 0 ≤ z ∧ z < (ns3.length : Int) ∧ mayP n.k (kdOf ns3 z.toNat) = true := fun i n hn => by
    have hmem : n.bare ∈ fixPg ms := by rw [← HF3.out]; exact List.mem_map.2 ⟨n, List.mem_iff_getElem?.2 ⟨i, hn⟩, rfl⟩
    refine ⟨HS.out.1.kind n.bare hmem, HS.out.1.few n.bare hmem, fun z hz => ?_⟩
    have a := HS.out.1.kids n.bare hmem z hz
    have b := HS.out.2 n.bare hmem z hz
    rw [← hlen] at a
    refine ⟨a.1, a.2, ?_⟩
    unfold mayAt at b
    rw [← HF3.out, kdOf_bare] at b
    exact b
  have hlb : 1 ≤ ns3.length := by have := h2; rw [← hlen] at this; omega
  clear h2 hlen HQ HF3 HS
  obtain ⟨b, off, rfl, _, hcells⟩ := page_cells HP3.out hlb
  obtain ⟨m3, hm3⟩ : ∃ m3, ns3.length = m3 := ⟨_, rfl⟩
  rw [hm3] at h1 hlb hst ⊢
  have HC3 := Lib.hid hcells
  have HM3 := Lib.hid hm3
  have HST := Lib.hid hst
  clear hcells hm3 HP3 hst
  go_loopw [6] (fun s6 X => ∃ i : Nat, i ≤ m3 ∧ s6 = .int .i64 i ∧ Hid (Below w3.heap.size w3 X)) (fun s6 _ => m3 - (intOf s6).toNat)
  case atStart => exact ⟨0, by omega, rfl, Lib.hid (Below.refl _ _)⟩
  case round =>
    obtain ⟨i, hi, rfl, HB⟩ := hrel
    by_cases hlt : i < m3
    · obtain ⟨n, hn⟩ : ∃ n, ns3[i]? = some n := ⟨_, List.getElem?_eq_getElem (by rw [HM3.out]; exact hlt)⟩
      obtain ⟨ck0, cv0, hI, hl⟩ := HC3.out i n hn
      obtain ⟨hk10, hfew, hkz⟩ := HST.out i n hn
      obtain ⟨qk, ck, hkv⟩ := hI.form
      rw [hkv] at cv0 hI
      obtain ⟨kl, hkl⟩ : ∃ kl, n.ks.length = kl := ⟨_, rfl⟩
      rw [hkl] at cv0 hfew hI
      obtain ⟨k, hk⟩ : ∃ k, n.k = k := ⟨_, rfl⟩
      rw [hk] at ck0 hk10 hkz
      have HI := Lib.hid hI
      have HKL := Lib.hid hkl
      have HKZ := Lib.hid hkz
      clear hn hI hkv hkl hkz hk
      go_wp2
      go_loopw [7] (fun s7 X => ∃ t : Nat, t ≤ kl ∧ s7 = .int .i64 t ∧ Hid (Below w3.heap.size w3 X)) (fun s7 _ => kl - (intOf s7).toNat)
      case atStart => exact ⟨0, by omega, rfl, HB⟩
      case round =>
        obtain ⟨t, ht, rfl, HBt⟩ := hrel
        have dv := (HBt.out.cell (p := ⟨b, off + i * 34 + 1, none⟩) hl).trans cv0
        have dk := (HBt.out.cell (p := ⟨b, off + i * 34, none⟩) hl).trans ck0
        have ls := HBt.out.size
        by_cases htl : t < kl
        · obtain ⟨z, hz⟩ : ∃ z, n.ks[t]? = some z := ⟨_, List.getElem?_eq_getElem (by rw [HKL.out]; exact htl)⟩
          obtain ⟨qb, qo, rfl, cz, lz⟩ := ints_at0 HI.out t z hz
          obtain ⟨z0, z1, z2⟩ := HKZ.out z (List.mem_iff_getElem?.2 ⟨t, hz⟩)
          obtain ⟨zn, rfl⟩ : ∃ zn : Nat, z = (zn : Int) := ⟨z.toNat, by omega⟩
          have dz := (HBt.out.cell (p := ⟨qb, qo + t, none⟩) lz).trans cz
          obtain ⟨a, ha⟩ : ∃ a, ns3[zn]? = some a := ⟨_, List.getElem?_eq_getElem (by rw [HM3.out]; omega)⟩
          obtain ⟨ek0, _, _, _⟩ := HC3.out zn a ha
          have ek := (HBt.out.cell (p := ⟨b, off + zn * 34, none⟩) hl).trans ek0
          have hka : kdOf ns3 zn = a.k := by unfold kdOf; rw [ha]; rfl
          rw [Int.toNat_natCast, hka] at z2
          obtain ⟨j, hj⟩ : ∃ j, a.k = j := ⟨_, rfl⟩
          rw [hj] at ek z2
          have HMAY := Lib.hid (fun X => show Calls Try.prog 11 #[.int .i64 k, .int .i64 j] X (fun e W' => e = .returned (.bool true) ∧ Below X.heap.size X W') from by
            have h := may_any k j X (litwfP (by omega) (by omega))
            rw [z2] at h; exact h)
          have hzm : zn < m3 := by omega
          have g1 : decide ((zn : Int) < 0) = false := by simp
          have g2 : decide (m3 ≤ zn) = false := by simpa using hzm
          have g3 : decide ((m3 : Int) ≤ (zn : Int)) = false := by simp; omega
          clear z0 z1 z2 hka hj ha hz ek0
          go_wp2
          refine region_still_tailF 19 (by kernel_rfl) (by decide +kernel) (fun w2 hw2 => ?_)
          have bW : Below wr.heap.size wr w2 := by rw [← hw2]; exact (Below.refl _ wr).drew
          have HB2' := Lib.hid (HBt.out.trans (bW.mono ls))
          have ls2 := bW.size
          have lb : b < wr.heap.size := by omega
          have dv2 := (bW.cell (p := ⟨b, off + i * 34 + 1, none⟩) lb).trans dv
          have dk2 := (bW.cell (p := ⟨b, off + i * 34, none⟩) lb).trans dk
          have ek2 := (bW.cell (p := ⟨b, off + zn * 34, none⟩) lb).trans ek
          clear hw2 bW dv dk ek dz cz cv0 ck0 HBt
          simp only [List.take_succ_cons, List.take_zero, List.drop_succ_cons, List.drop_zero]
          repeat still_step
          refine wpStill_nil ?_
          go_wp2_with (go_at_call 11; refine (HMAY.out _).mono ?_; clear HMAY; rintro e w4 ⟨rfl, hb4⟩; have HB4 := Lib.hid (HB2'.out.trans (hb4.mono HB2'.out.size)); clear hb4)
          go_roundw
          case rel => exact ⟨t + 1, by omega, by go_num, HB4⟩
          case measure => simp [intOf]; omega
        · obtain rfl : t = kl := by omega
          clear cv0 ck0 dk
          go_wp2
          go_roundw
          case rel => exact ⟨i + 1, by omega, by go_num, HBt⟩
          case measure => simp [intOf]; omega
    · obtain rfl : i = m3 := by omega
      go_wp2
      go_ret
      exact ⟨rfl, HB3.out.trans (HB.out.mono HB3.out.size)⟩
theorem walk (w : World) (a0 : Option Addr) (len0 cap0 : Nat) (ns : List Nd) (hP : PageAt w (.slice a0 len0 cap0) ns) :
    Calls Try.prog 5 #[.slice a0 len0 cap0] w fun e w' => e = .returned (.bool true) ∧ Below w.heap.size w w' := by
  by_cases hb : (checkP (cutP ns)).2 = 0
  · exact stands_good _ ns (cutP ns) w (Lib.hid (fine_of hb)) (Lib.hid (cutP_both ns)) (cutP_len ns) (Lib.hid hP) (Lib.hid fun X v h => cut_post v ns X h)
  · exact stands_bad _ ns (cutP ns) w _ hb (Lib.hid hP) (Lib.hid fun X v h => cut_post v ns X h) (Lib.hid fun X v h => fixF_not v _ X h (fun n hn => (cutP_both ns n hn).1) hb)

set_option maxRecDepth 100000 in
theorem lifted (os : Os) (started : os.Started) (H : Type) (enc : TypeId × Value → H) :
    ReturnsInHanded {} Try.checked os 5 .any (Rows.fixupStandsSpec.pre6 enc Try.prog Try.f5 Rows.fixupStandsRow.domain false) (Rows.fixupStandsSpec.post enc Try.prog Try.f5 false true false false) := by
  refine returnsInHanded_of_change (C := Try.checked) own started (by kernel_rfl) Try.func5
    (ChangeSpec.witness6 (enc := enc) (C := Try.checked) false ⟨#[], #[.slice none 0 0], []⟩ 8 (by kernel_rfl) (by kernel_rfl) (by kernel_rfl) (by kernel_rfl)) ?_
  intro W base args ds gs before hval0 hW hcnd _
  have hval : ∀ (j : Nat) t v, Try.f5.params[j]? = some t → args[j]? = some v → Value.okWide Try.prog W .any base t v := hval0
  have hW' := hW
  obtain ⟨p, q, hA0, hV, rfl, hfz, hnd⟩ := hW
  have hA : DataW.TrodAll enc Try.prog W 0 (fun _ => true) true Try.f5.params.toList args.toList ds p := hA0
  rw [Try.params5] at hA hval
  obtain ⟨v0, vs0, d0, ds0, p0, q0, hargs, rfl, rfl, h0, r0⟩ := trodAll_cons hA
  obtain ⟨rfl, rfl, rfl⟩ := trodAll_nil r0
  obtain rfl : args = #[v0] := by cases args; simp_all
  obtain ⟨rfl, rfl⟩ := trodVars_none hV
  obtain ⟨a0, len0, cap0, rfl⟩ := okWide_slice Try.underlying25 (hval 0 25 v0 rfl rfl)
  have k0 := h0
  have lt0 : ∀ x ∈ p0, x.block < W.heap.size := by obtain ⟨m, hm⟩ := k0; exact DataW.trod_lt m _ _ _ hm
  obtain ⟨z0, w0⟩ : ∃ ns, PageAt W (.slice a0 len0 cap0) ns := by
    obtain ⟨fuel, hf⟩ := h0
    obtain ⟨ns, hn, _⟩ := open_nodes (by simpa [Value.cells] using hf)
    exact ⟨ns, hn⟩
  clear hA0 hval0
  simp only [List.append_nil] at hW'
  refine (walk W a0 len0 cap0 z0 w0).mono fun e W' ⟨he, hg⟩ => ?_
  subst he
  exact ⟨_, rfl, _, _, _, [], _, [], hW', (trodAll_cons_mk (shut_bool Try.underlying4 _) trodAll_mk0), (trodAll_cons_mk (Below.trod laidOut (by kernel_rfl) (of_decide_eq_true (by kernel_rfl)) k0 hg lt0) trodAll_mk0), rfl, hg.frame _, fun h => by cases h⟩

theorem over : Rows.fixupStandsRow.holds Try.pinned (OpenSpec.ofChange Rows.fixupStandsSpec) :=
  OpenClaim.holds_of_wide 5 Try.f5 rfl rfl rfl rfl rfl rfl rfl ⟨rfl, rfl, rfl, rfl, rfl⟩ rfl rfl rfl rfl rfl (by kernel_rfl) Try.func5 (by kernel_rfl)
    (of_decide_eq_true (by kernel_rfl)) (by unfold Func.isWrapper; first | (rw [if_pos (by decide +kernel)]; kernel_rfl) | (rw [if_neg (by decide +kernel)]; exact ⟨rfl, rfl⟩))
    (fun os started H enc _ => lifted os started H enc)

/-- the statement -/
theorem proved : Rows.FixupStandsSaid :=
  over
#print axioms proved
end Go.Proofs.Ytdnnbkkfmjdboaa.fixupStands
