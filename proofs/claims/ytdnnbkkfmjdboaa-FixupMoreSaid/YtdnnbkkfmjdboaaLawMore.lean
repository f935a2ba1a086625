/- New nodes are at most three times as many as there were, and each node but the first is a kid once: for every page. -/
import Derived.Test.YtdnnbkkfmjdboaaRows
import Derived.WalkKit
import Derived.ProofKit
import Derived.OpenShut
import Derived.Below
import Derived.Test.YtdnnbkkfmjdboaaFLaw
import Derived.ShutString
namespace Go.Proofs.Ytdnnbkkfmjdboaa.fixupMore
open Go.ChangeShapes Go.WideShapes Go.ChangeAt Go.RowKit
set_option linter.unusedVariables false

theorem own : ownKnob Try.prog.godebug = none := by kernel_rfl
theorem laidOut : laidOutB Try.prog = true := by kernel_rfl

set_option maxRecDepth 100000 in
set_option maxHeartbeats 2000000 in
theorem more_bad (lv : Value) (ns ms : List Nd) (w : World) (b : Int) (hb : b ≠ 0) (HP : Hid (PageAt w lv ns))
    (HC : Hid (∀ X v, PageAt X v ns → Calls Try.prog 15 #[v] X (CutPost ms X)))
    (HO : Hid (∀ X v, PageAt X v ms → Calls Try.prog 16 #[v] X fun e W' => e = .returned (.tuple #[.slice none 0 0, .int .i64 b]) ∧ Below X.heap.size X W')) :
    Calls Try.prog 9 #[lv] w fun e w' => e = .returned (.bool true) ∧ Below w.heap.size w w' := by
  have hb' : (b != 0) = true := by simpa using hb
  obtain ⟨p, cap, rfl⟩ := HP.out.form
  generalize ns.length = l0 at *
  go_enter Try.func9, Try.ntmps9
  go_wp2_with (go_at_call 10; refine (shown5_any _).mono ?_; rintro e w1 ⟨rfl, hb1⟩; have HP1 := Lib.hid (HP.out.below hb1); have HB1 := Lib.hid hb1; clear hb1 HP)
  go_wp2_with (go_at_call 15; refine (HC.out _ _ HP1.out).mono ?_; rintro e w2 ⟨q, c, rfl, hp2, hb2⟩; have HP2 := Lib.hid hp2; have HB2 := Lib.hid (HB1.out.trans (hb2.mono HB1.out.size)); clear hb2 hp2 HP1 HB1 HC)
  generalize ms.length = m at *
  go_wp2_with (go_at_call 16; refine (HO.out _ _ HP2.out).mono ?_; rintro e w3 ⟨rfl, hb3⟩; have HB3 := Lib.hid (HB2.out.trans (hb3.mono HB2.out.size)); clear hb3 HP2 HB2 HO)
  go_ret
  exact ⟨rfl, HB3.out⟩
set_option maxRecDepth 100000 in
set_option maxHeartbeats 2000000 in
theorem more_good (lv : Value) (ns ms : List Nd) (w : World) (F : Hid (Fine ms)) (K : Hid (∀ n ∈ ms, n.ks.length ≤ 70000 ∧ n.ws.length ≤ 70000)) (hml : ms.length ≤ 150) (HP : Hid (PageAt w lv ns))
    (HC : Hid (∀ X v, PageAt X v ns → Calls Try.prog 15 #[v] X (CutPost ms X))) :
    Calls Try.prog 9 #[lv] w fun e w' => e = .returned (.bool true) ∧ Below w.heap.size w w' := by
  have HO : Hid (∀ (X : World) (v : Value), PageAt X v ms → Calls Try.prog 16 #[v] X (FixForm ms X)) := Lib.hid fun X v hp => fix_form v ms X hp K.out F.out
  have hq := fixPg_more F.out (fun n hn => (K.out n hn).1)
  obtain ⟨p, cap, rfl⟩ := HP.out.form
  generalize ns.length = l0 at *
  have HQ := Lib.hid hq
  clear hq
  go_enter Try.func9, Try.ntmps9
  go_wp2_with (go_at_call 10; refine (shown5_any _).mono ?_; rintro e w1 ⟨rfl, hb1⟩; have HP1 := Lib.hid (HP.out.below hb1); have HB1 := Lib.hid hb1; clear hb1 HP)
  go_wp2_with (go_at_call 15; refine (HC.out _ _ HP1.out).mono ?_; rintro e w2 ⟨q, c, rfl, hp2, hb2⟩; have HP2 := Lib.hid hp2; have HB2 := Lib.hid (HB1.out.trans (hb2.mono HB1.out.size)); clear hb2 hp2 HP1 HB1 HC)
  obtain ⟨m, hm⟩ : ∃ m, ms.length = m := ⟨_, rfl⟩
  rw [hm] at hml HP2 ⊢
  have HM := Lib.hid hm
  clear hm
  go_wp2_with (go_at_call 16; refine (HO.out _ _ HP2.out).mono ?_; rintro e w3 ⟨q3, c3, ns3, rfl, hp3, hb3, hB3⟩; have HP3 := Lib.hid hp3; have HF3 := Lib.hid hb3; have HB3 := Lib.hid (HB2.out.trans (hB3.mono HB2.out.size)); clear hb3 HP2 HB2 HO hp3 hB3)
  have hlen : ns3.length = (fixPg ms).length := by rw [← HF3.out, List.length_map]
  have hkid : (kidsOf ns3).length = (kidsOf (fixPg ms)).length := by rw [← HF3.out, kids_bare]
  have h1 := HQ.out.1
  have h2 := HQ.out.2
  rw [HM.out, ← hlen] at h1
  rw [← hlen, ← hkid] at h2
  clear hlen hkid HQ HF3
  obtain ⟨b, off, rfl, _, hcells⟩ := page_cells HP3.out (by omega)
  obtain ⟨m3, hm3⟩ : ∃ m3, ns3.length = m3 := ⟨_, rfl⟩
  rw [hm3] at h1 h2 ⊢
  have HC3 := Lib.hid hcells
  have HM3 := Lib.hid hm3
  clear hcells hm3 HP3
  have HTK : Hid (∀ i, (kidsOf (ns3.take i)).length ≤ (kidsOf ns3).length) := Lib.hid fun i => by
    have : kidsOf ns3 = kidsOf (ns3.take i) ++ kidsOf (ns3.drop i) := by
      unfold kidsOf
      rw [← List.flatMap_append, List.take_append_drop]
    rw [this, List.length_append]; omega
  obtain ⟨kk, hkk⟩ : ∃ kk, (kidsOf ns3).length = kk := ⟨_, rfl⟩
  rw [hkk] at h2
  have HKK := Lib.hid hkk
  clear hkk
  go_loop [6, 7] (fun s6 s7 => ∃ (i s : Nat), i ≤ m3 ∧ s ≤ kk ∧ s7 = .int .i64 i ∧ s6 = .int .i64 s ∧ Hid ((kidsOf (ns3.take i)).length = s)) (fun _ s7 => m3 - (intOf s7).toNat)
  case atStart => exact ⟨0, 0, by omega, by omega, rfl, rfl, Lib.hid rfl⟩
  case round =>
    obtain ⟨i, s, hi, hs, rfl, rfl, HS⟩ := hrel
    by_cases hlt : i < m3
    · obtain ⟨n, hn⟩ : ∃ n, ns3[i]? = some n := ⟨_, List.getElem?_eq_getElem (by rw [HM3.out]; exact hlt)⟩
      obtain ⟨_, c1, hI, hl⟩ := HC3.out i n hn
      obtain ⟨qk, ck, hkv⟩ := hI.form
      rw [hkv] at c1
      obtain ⟨kl, hkl⟩ : ∃ kl, n.ks.length = kl := ⟨_, rfl⟩
      rw [hkl] at c1
      have hst : (kidsOf (ns3.take (i + 1))).length = s + kl := by rw [kids_snoc ns3 i n hn, List.length_append, HS.out, hkl]
      have hle := HTK.out (i + 1)
      rw [hst, HKK.out] at hle
      have HST := Lib.hid hst
      clear hst hn hI hkv hkl
      go_wp2
      go_round
      case rel => exact ⟨i + 1, s + kl, by omega, hle, by go_num, by go_num, HST⟩
      case measure => simp [intOf]; omega
    · obtain rfl : i = m3 := by omega
      have hsk : s = kk := by
        have := HS.out
        rw [List.take_of_length_le (by rw [HM3.out]; omega), HKK.out] at this
        exact this.symm
      subst hsk
      have e1 : (i : Int) ≤ 4 * (m : Int) := by omega
      have e2 : ((s : Int) == (i : Int) - 1) = true := by simp; omega
      clear HS
      go_wp2
      go_ret
      exact ⟨rfl, HB3.out⟩
theorem walk (w : World) (a0 : Option Addr) (len0 cap0 : Nat) (ns : List Nd) (hP : PageAt w (.slice a0 len0 cap0) ns) :
    Calls Try.prog 9 #[.slice a0 len0 cap0] w fun e w' => e = .returned (.bool true) ∧ Below w.heap.size w w' := by
  by_cases hb : (checkP (cutP ns)).2 = 0
  · exact more_good _ ns (cutP ns) w (Lib.hid (fine_of hb)) (Lib.hid (cutP_both ns)) (cutP_len ns) (Lib.hid hP) (Lib.hid fun X v h => cut_post v ns X h)
  · exact more_bad _ ns (cutP ns) w _ hb (Lib.hid hP) (Lib.hid fun X v h => cut_post v ns X h) (Lib.hid fun X v h => fixF_not v _ X h (fun n hn => (cutP_both ns n hn).1) hb)

set_option maxRecDepth 100000 in
theorem lifted (os : Os) (started : os.Started) (H : Type) (enc : TypeId × Value → H) :
    ReturnsInHanded {} Try.checked os 9 .any (Rows.fixupMoreSpec.pre6 enc Try.prog Try.f9 Rows.fixupMoreRow.domain false) (Rows.fixupMoreSpec.post enc Try.prog Try.f9 false true false false) := by
  refine returnsInHanded_of_change (C := Try.checked) own started (by kernel_rfl) Try.func9
    (ChangeSpec.witness6 (enc := enc) (C := Try.checked) false ⟨#[], #[.slice none 0 0], []⟩ 8 (by kernel_rfl) (by kernel_rfl) (by kernel_rfl) (by kernel_rfl)) ?_
  intro W base args ds gs before hval0 hW hcnd _
  have hval : ∀ (j : Nat) t v, Try.f9.params[j]? = some t → args[j]? = some v → Value.okWide Try.prog W .any base t v := hval0
  have hW' := hW
  obtain ⟨p, q, hA0, hV, rfl, hfz, hnd⟩ := hW
  have hA : DataW.TrodAll enc Try.prog W 0 (fun _ => true) true Try.f9.params.toList args.toList ds p := hA0
  rw [Try.params9] at hA hval
  obtain ⟨v0, vs0, d0, ds0, p0, q0, hargs, rfl, rfl, h0, r0⟩ := trodAll_cons hA
  obtain ⟨rfl, rfl, rfl⟩ := trodAll_nil r0
  obtain rfl : args = #[v0] := by cases args; simp_all
  obtain ⟨rfl, rfl⟩ := trodVars_none hV
  obtain ⟨a0, len0, cap0, rfl⟩ := okWide_slice Try.underlying25 (hval 0 25 v0 rfl rfl)
  have k0 := h0
  have lt0 : ∀ x ∈ p0, x.block < W.heap.size := by obtain ⟨m, hm⟩ := k0; exact DataW.trod_lt m _ _ _ hm
  obtain ⟨z0, w0⟩ : ∃ ns, PageAt W (.slice a0 len0 cap0) ns := by
    obtain ⟨fuel, hf⟩ := h0
    obtain ⟨ns, hn, _⟩ := open_nodes (by simpa [Value.cells] using hf)
    exact ⟨ns, hn⟩
  clear hA0 hval0
  simp only [List.append_nil] at hW'
  refine (walk W a0 len0 cap0 z0 w0).mono fun e W' ⟨he, hg⟩ => ?_
  subst he
  exact ⟨_, rfl, _, _, _, [], _, [], hW', (trodAll_cons_mk (shut_bool Try.underlying4 _) trodAll_mk0), (trodAll_cons_mk (Below.trod laidOut (by kernel_rfl) (of_decide_eq_true (by kernel_rfl)) k0 hg lt0) trodAll_mk0), rfl, hg.frame _, fun h => by cases h⟩

theorem over : Rows.fixupMoreRow.holds Try.pinned (OpenSpec.ofChange Rows.fixupMoreSpec) :=
  OpenClaim.holds_of_wide 9 Try.f9 rfl rfl rfl rfl rfl rfl rfl ⟨rfl, rfl, rfl, rfl, rfl⟩ rfl rfl rfl rfl rfl (by kernel_rfl) Try.func9 (by kernel_rfl)
    (of_decide_eq_true (by kernel_rfl)) (by unfold Func.isWrapper; first | (rw [if_pos (by decide +kernel)]; kernel_rfl) | (rw [if_neg (by decide +kernel)]; exact ⟨rfl, rfl⟩))
    (fun os started H enc _ => lifted os started H enc)

/-- the statement -/
theorem proved : Rows.FixupMoreSaid :=
  over
#print axioms proved
end Go.Proofs.Ytdnnbkkfmjdboaa.fixupMore
