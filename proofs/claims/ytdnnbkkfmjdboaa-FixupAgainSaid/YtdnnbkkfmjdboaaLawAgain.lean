/- What is fixed, fixed again is the same, unless it is too deep: for every page. -/
import Derived.Test.YtdnnbkkfmjdboaaRows
import Derived.WalkKit
import Derived.ProofKit
import Derived.OpenShut
import Derived.Below
import Derived.Test.YtdnnbkkfmjdboaaFAgain
import Derived.Test.YtdnnbkkfmjdboaaTSame
import Derived.ShutString
namespace Go.Proofs.Ytdnnbkkfmjdboaa.fixupAgain
open Go.ChangeShapes Go.WideShapes Go.ChangeAt Go.RowKit
set_option linter.unusedVariables false

theorem own : ownKnob Try.prog.godebug = none := by kernel_rfl
theorem laidOut : laidOutB Try.prog = true := by kernel_rfl

set_option maxRecDepth 100000 in
set_option maxHeartbeats 2000000 in
theorem again_bad (lv : Value) (ns ms : List Nd) (w : World) (b : Int) (hb : b ≠ 0) (HP : Hid (PageAt w lv ns))
    (HC : Hid (∀ X v, PageAt X v ns → Calls Try.prog 15 #[v] X (CutPost ms X)))
    (HO : Hid (∀ X v, PageAt X v ms → Calls Try.prog 16 #[v] X fun e W' => e = .returned (.tuple #[.slice none 0 0, .int .i64 b]) ∧ Below X.heap.size X W')) :
    Calls Try.prog 7 #[lv] w fun e w' => e = .returned (.bool true) ∧ Below w.heap.size w w' := by
  have hb' : (b != 0) = true := by simpa using hb
  obtain ⟨p, cap, rfl⟩ := HP.out.form
  generalize ns.length = l0 at *
  go_enter Try.func7, Try.ntmps7
  go_wp2_with (go_at_call 10; refine (shown5_any _).mono ?_; rintro e w1 ⟨rfl, hb1⟩; have HP1 := Lib.hid (HP.out.below hb1); have HB1 := Lib.hid hb1; clear hb1 HP)
  go_wp2_with (go_at_call 15; refine (HC.out _ _ HP1.out).mono ?_; rintro e w2 ⟨q, c, rfl, hp2, hb2⟩; have HP2 := Lib.hid hp2; have HB2 := Lib.hid (HB1.out.trans (hb2.mono HB1.out.size)); clear hb2 hp2 HP1 HB1 HC)
  generalize ms.length = m at *
  go_wp2_with (go_at_call 16; refine (HO.out _ _ HP2.out).mono ?_; rintro e w3 ⟨rfl, hb3⟩; have HB3 := Lib.hid (HB2.out.trans (hb3.mono HB2.out.size)); clear hb3 HP2 HB2 HO)
  go_ret
  exact ⟨rfl, HB3.out⟩
set_option maxRecDepth 100000 in
set_option maxHeartbeats 4000000 in
theorem again_good (lv : Value) (ns ms : List Nd) (w : World) (F : Hid (Fine ms)) (K : Hid (∀ n ∈ ms, n.ks.length ≤ 70000 ∧ n.ws.length ≤ 70000)) (hml : ms.length ≤ 150) (HP : Hid (PageAt w lv ns))
    (HC : Hid (∀ X v, PageAt X v ns → Calls Try.prog 15 #[v] X (CutPost ms X))) :
    Calls Try.prog 7 #[lv] w fun e w' => e = .returned (.bool true) ∧ Below w.heap.size w w' := by
  have HO : Hid (∀ (X : World) (v : Value), PageAt X v ms → Calls Try.prog 16 #[v] X (FixForm ms X)) := Lib.hid fun X v hp => fix_form v ms X hp K.out F.out
  have HD : Hid (∀ (X : World) (v : Value), PageAt X v ms → Calls Try.prog 17 #[v] X fun e W' => e = .returned (.tuple #[.bool (fixedB ms), .int .i64 0]) ∧ Below X.heap.size X W') := Lib.hid fun X v hp => fixedF_good v ms X hp (fun n hn => (K.out n hn).1) F.out
  have HX : Hid (∀ (ns3 : List Nd) (X : World) (v : Value), Fine ns3 → (∀ n ∈ ns3, n.ks.length ≤ 70000 ∧ n.ws.length ≤ 70000) → PageAt X v ns3 → Calls Try.prog 16 #[v] X (FixForm ns3 X)) := Lib.hid fun ns3 X v hF hK hp => fix_form v ns3 X hp hK hF
  have HY : Hid (∀ (ns3 : List Nd) (X : World) (v : Value), Fine ns3 → fixedB ns3 = true → (∀ n ∈ ns3, n.ks.length ≤ 70000 ∧ n.ws.length ≤ 70000) → PageAt X v ns3 → Calls Try.prog 17 #[v] X fun e W' => e = .returned (.tuple #[.bool true, .int .i64 0]) ∧ Below X.heap.size X W') := Lib.hid fun ns3 X v hF hf hK hp => by
    have h := fixedF_good v ns3 X hp (fun n hn => (hK n hn).1) hF
    rwa [hf] at h
  have HX2 : Hid (∀ (ns3 : List Nd) (X : World) (v : Value), (checkP ns3).2 = 42 → (∀ n ∈ ns3, n.ks.length ≤ 70000 ∧ n.ws.length ≤ 70000) → PageAt X v ns3 → Calls Try.prog 16 #[v] X fun e W' => e = .returned (.tuple #[.slice none 0 0, .int .i64 42]) ∧ Below X.heap.size X W') := Lib.hid fun ns3 X v h hK hp => by
    have h' := fixF_not v ns3 X hp (fun n hn => (hK n hn).1) (by omega)
    rwa [h] at h'
  have HY2 : Hid (∀ (ns3 : List Nd) (X : World) (v : Value), (checkP ns3).2 = 42 → (∀ n ∈ ns3, n.ks.length ≤ 70000 ∧ n.ws.length ≤ 70000) → PageAt X v ns3 → Calls Try.prog 17 #[v] X fun e W' => e = .returned (.tuple #[.bool false, .int .i64 42]) ∧ Below X.heap.size X W') := Lib.hid fun ns3 X v h hK hp => by
    have h' := fixedF_not v ns3 X hp (fun n hn => (hK n hn).1) (by omega)
    rwa [h] at h'
  have HA : Hid (∀ ns3 : List Nd, ns3.map Nd.bare = fixPg ms → AgainP ms ns3) := Lib.hid fun ns3 hb => again_of F.out (fun n hn => (K.out n hn).1) hml hb
  obtain ⟨p, cap, rfl⟩ := HP.out.form
  generalize ns.length = l0 at *
  go_enter Try.func7, Try.ntmps7
  go_wp2_with (go_at_call 10; refine (shown5_any _).mono ?_; rintro e w1 ⟨rfl, hb1⟩; have HP1 := Lib.hid (HP.out.below hb1); have HB1 := Lib.hid hb1; clear hb1 HP)
  go_wp2_with (go_at_call 15; refine (HC.out _ _ HP1.out).mono ?_; rintro e w2 ⟨q, c, rfl, hp2, hb2⟩; have HP2 := Lib.hid hp2; have HB2 := Lib.hid (HB1.out.trans (hb2.mono HB1.out.size)); clear hb2 hp2 HP1 HB1 HC)
  obtain ⟨m, hm⟩ : ∃ m, ms.length = m := ⟨_, rfl⟩
  rw [hm] at hml HP2 ⊢
  have HM := Lib.hid hm
  clear hm
  go_wp2_with (go_at_call 16; refine (HO.out _ _ HP2.out).mono ?_; rintro e w3 ⟨q3, c3, ns3, rfl, hp3, hb3, hB3⟩; have HP3 := Lib.hid hp3; have HP4 := Lib.hid (HP2.out.below hB3); have A3 := Lib.hid (HA.out ns3 hb3); have HB3 := Lib.hid (HB2.out.trans (hB3.mono HB2.out.size)); clear hb3 HP2 HB2 HO hp3 hB3 HA)
  obtain ⟨m3, hm3⟩ : ∃ m3, ns3.length = m3 := ⟨_, rfl⟩
  rw [hm3] at HP3 ⊢
  have HM3 := Lib.hid hm3
  clear hm3
  obtain ⟨is, his⟩ : ∃ is, fixedB ms = is := ⟨_, rfl⟩
  rw [his] at HD
  have hlen : is = true → m3 = m := fun h => by rw [← HM3.out, ← HM.out]; exact A3.out.len (by rw [his, h])
  clear his
  cases is with
  | true =>
    have hlen := hlen rfl
    subst hlen
    go_wp2_with (go_at_call 17; refine (HD.out _ _ HP4.out).mono ?_; rintro e w4 ⟨rfl, hB4⟩; have HP5 := Lib.hid (HP3.out.below hB4); have HB4 := Lib.hid (HB3.out.trans (hB4.mono HB3.out.size)); clear HP4 HB3 HP3 hB4 HD)
    rcases A3.out.chk with hc | hc
    · have F3 := Lib.hid (fine_of hc)
      clear hc
      go_wp2_with (go_at_call 16; refine (HX.out ns3 _ _ F3.out A3.out.few HP5.out).mono ?_; rintro e w5 ⟨q5, c5, ns5, rfl, hp5, hb5, hB5⟩; have HP6 := Lib.hid (HP5.out.below hB5); have HQ6 := Lib.hid hp5; have SB := Lib.hid (same_of (hb5.trans A3.out.same)); have HB5 := Lib.hid (HB4.out.trans (hB5.mono HB4.out.size)); clear hp5 hb5 hB5 HP5 HB4 HX)
      obtain ⟨m5, hm5⟩ : ∃ m5, ns5.length = m5 := ⟨_, rfl⟩
      rw [hm5] at HQ6 ⊢
      clear hm5
      go_wp2_with (go_at_call 17; refine (HY.out ns3 _ _ F3.out A3.out.fixed A3.out.few HP6.out).mono ?_; rintro e w6 ⟨rfl, hB6⟩; have HP7 := Lib.hid (HP6.out.below hB6); have HQ7 := Lib.hid (HQ6.out.below hB6); have HB6 := Lib.hid (HB5.out.trans (hB6.mono HB5.out.size)); clear hB6 HP6 HQ6 HB5 HY)
      go_wp2_with (go_at_call 19; refine (same_any _ _ ns3 ns5 _ HP7.out HQ7.out A3.out.len1 A3.out.len2 SB.out.1 SB.out.2).mono ?_; rintro e w7 ⟨rfl, hB7⟩; have HB7 := Lib.hid (HB6.out.trans (hB7.mono HB6.out.size)); clear hB7)
      go_ret
      exact ⟨rfl, HB7.out⟩
    · have HC2 := Lib.hid hc
      clear hc
      go_wp2_with (go_at_call 16; refine (HX2.out ns3 _ _ HC2.out A3.out.few HP5.out).mono ?_; rintro e w5 ⟨rfl, hB5⟩; have HP6 := Lib.hid (HP5.out.below hB5); have HB5 := Lib.hid (HB4.out.trans (hB5.mono HB4.out.size)); clear hB5 HP5 HB4 HX2)
      go_wp2_with (go_at_call 17; refine (HY2.out ns3 _ _ HC2.out A3.out.few HP6.out).mono ?_; rintro e w6 ⟨rfl, hB6⟩; have HB6 := Lib.hid (HB5.out.trans (hB6.mono HB5.out.size)); clear hB6 HP6 HB5 HY2)
      go_ret
      exact ⟨rfl, HB6.out⟩
  | false =>
    clear hlen
    go_wp2_with (go_at_call 17; refine (HD.out _ _ HP4.out).mono ?_; rintro e w4 ⟨rfl, hB4⟩; have HP5 := Lib.hid (HP3.out.below hB4); have HB4 := Lib.hid (HB3.out.trans (hB4.mono HB3.out.size)); clear HP4 HB3 HP3 hB4 HD)
    rcases A3.out.chk with hc | hc
    · have F3 := Lib.hid (fine_of hc)
      clear hc
      go_wp2_with (go_at_call 16; refine (HX.out ns3 _ _ F3.out A3.out.few HP5.out).mono ?_; rintro e w5 ⟨q5, c5, ns5, rfl, hp5, hb5, hB5⟩; have HP6 := Lib.hid (HP5.out.below hB5); have HQ6 := Lib.hid hp5; have SB := Lib.hid (same_of (hb5.trans A3.out.same)); have HB5 := Lib.hid (HB4.out.trans (hB5.mono HB4.out.size)); clear hp5 hb5 hB5 HP5 HB4 HX)
      obtain ⟨m5, hm5⟩ : ∃ m5, ns5.length = m5 := ⟨_, rfl⟩
      rw [hm5] at HQ6 ⊢
      clear hm5
      go_wp2_with (go_at_call 17; refine (HY.out ns3 _ _ F3.out A3.out.fixed A3.out.few HP6.out).mono ?_; rintro e w6 ⟨rfl, hB6⟩; have HP7 := Lib.hid (HP6.out.below hB6); have HQ7 := Lib.hid (HQ6.out.below hB6); have HB6 := Lib.hid (HB5.out.trans (hB6.mono HB5.out.size)); clear hB6 HP6 HQ6 HB5 HY)
      go_wp2_with (go_at_call 19; refine (same_any _ _ ns3 ns5 _ HP7.out HQ7.out A3.out.len1 A3.out.len2 SB.out.1 SB.out.2).mono ?_; rintro e w7 ⟨rfl, hB7⟩; have HB7 := Lib.hid (HB6.out.trans (hB7.mono HB6.out.size)); clear hB7)
      go_ret
      exact ⟨rfl, HB7.out⟩
    · have HC2 := Lib.hid hc
      clear hc
      go_wp2_with (go_at_call 16; refine (HX2.out ns3 _ _ HC2.out A3.out.few HP5.out).mono ?_; rintro e w5 ⟨rfl, hB5⟩; have HP6 := Lib.hid (HP5.out.below hB5); have HB5 := Lib.hid (HB4.out.trans (hB5.mono HB4.out.size)); clear hB5 HP5 HB4 HX2)
      go_wp2_with (go_at_call 17; refine (HY2.out ns3 _ _ HC2.out A3.out.few HP6.out).mono ?_; rintro e w6 ⟨rfl, hB6⟩; have HB6 := Lib.hid (HB5.out.trans (hB6.mono HB5.out.size)); clear hB6 HP6 HB5 HY2)
      go_ret
      exact ⟨rfl, HB6.out⟩
set_option maxHeartbeats 1000000 in
theorem walk (w : World) (a0 : Option Addr) (len0 cap0 : Nat) (ns : List Nd) (hP : PageAt w (.slice a0 len0 cap0) ns) :
    Calls Try.prog 7 #[.slice a0 len0 cap0] w fun e w' => e = .returned (.bool true) ∧ Below w.heap.size w w' := by
  by_cases hb : (checkP (cutP ns)).2 = 0
  · exact again_good _ ns (cutP ns) w (Lib.hid (fine_of hb)) (Lib.hid (cutP_both ns)) (cutP_len ns) (Lib.hid hP) (Lib.hid fun X v h => cut_post v ns X h)
  · exact again_bad _ ns (cutP ns) w _ hb (Lib.hid hP) (Lib.hid fun X v h => cut_post v ns X h) (Lib.hid fun X v h => fixF_not v _ X h (fun n hn => (cutP_both ns n hn).1) hb)

set_option maxRecDepth 100000 in
theorem lifted (os : Os) (started : os.Started) (H : Type) (enc : TypeId × Value → H) :
    ReturnsInHanded {} Try.checked os 7 .any (Rows.fixupAgainSpec.pre6 enc Try.prog Try.f7 Rows.fixupAgainRow.domain false) (Rows.fixupAgainSpec.post enc Try.prog Try.f7 false true false false) := by
  refine returnsInHanded_of_change (C := Try.checked) own started (by kernel_rfl) Try.func7
    (ChangeSpec.witness6 (enc := enc) (C := Try.checked) false ⟨#[], #[.slice none 0 0], []⟩ 8 (by kernel_rfl) (by kernel_rfl) (by kernel_rfl) (by kernel_rfl)) ?_
  intro W base args ds gs before hval0 hW hcnd _
  have hval : ∀ (j : Nat) t v, Try.f7.params[j]? = some t → args[j]? = some v → Value.okWide Try.prog W .any base t v := hval0
  have hW' := hW
  obtain ⟨p, q, hA0, hV, rfl, hfz, hnd⟩ := hW
  have hA : DataW.TrodAll enc Try.prog W 0 (fun _ => true) true Try.f7.params.toList args.toList ds p := hA0
  rw [Try.params7] at hA hval
  obtain ⟨v0, vs0, d0, ds0, p0, q0, hargs, rfl, rfl, h0, r0⟩ := trodAll_cons hA
  obtain ⟨rfl, rfl, rfl⟩ := trodAll_nil r0
  obtain rfl : args = #[v0] := by cases args; simp_all
  obtain ⟨rfl, rfl⟩ := trodVars_none hV
  obtain ⟨a0, len0, cap0, rfl⟩ := okWide_slice Try.underlying25 (hval 0 25 v0 rfl rfl)
  have k0 := h0
  have lt0 : ∀ x ∈ p0, x.block < W.heap.size := by obtain ⟨m, hm⟩ := k0; exact DataW.trod_lt m _ _ _ hm
  obtain ⟨z0, w0⟩ : ∃ ns, PageAt W (.slice a0 len0 cap0) ns := by
    obtain ⟨fuel, hf⟩ := h0
    obtain ⟨ns, hn, _⟩ := open_nodes (by simpa [Value.cells] using hf)
    exact ⟨ns, hn⟩
  clear hA0 hval0
  simp only [List.append_nil] at hW'
  refine (walk W a0 len0 cap0 z0 w0).mono fun e W' ⟨he, hg⟩ => ?_
  subst he
  exact ⟨_, rfl, _, _, _, [], _, [], hW', (trodAll_cons_mk (shut_bool Try.underlying4 _) trodAll_mk0), (trodAll_cons_mk (Below.trod laidOut (by kernel_rfl) (of_decide_eq_true (by kernel_rfl)) k0 hg lt0) trodAll_mk0), rfl, hg.frame _, fun h => by cases h⟩

theorem over : Rows.fixupAgainRow.holds Try.pinned (OpenSpec.ofChange Rows.fixupAgainSpec) :=
  OpenClaim.holds_of_wide 7 Try.f7 rfl rfl rfl rfl rfl rfl rfl ⟨rfl, rfl, rfl, rfl, rfl⟩ rfl rfl rfl rfl rfl (by kernel_rfl) Try.func7 (by kernel_rfl)
    (of_decide_eq_true (by kernel_rfl)) (by unfold Func.isWrapper; first | (rw [if_pos (by decide +kernel)]; kernel_rfl) | (rw [if_neg (by decide +kernel)]; exact ⟨rfl, rfl⟩))
    (fun os started H enc _ => lifted os started H enc)

/-- the statement -/
theorem proved : Rows.FixupAgainSaid :=
  over
#print axioms proved
end Go.Proofs.Ytdnnbkkfmjdboaa.fixupAgain
