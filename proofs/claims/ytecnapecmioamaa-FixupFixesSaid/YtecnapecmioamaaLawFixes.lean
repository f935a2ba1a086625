/- A page, fixed, and whether it is: as the document says, for every page. -/
import Derived.Test.YtecnapecmioamaaRows
import Derived.WalkKit
import Derived.ProofKit
import Derived.OpenShut
import Derived.Below
import Derived.Test.YtecnapecmioamaaFRefEnd
import Derived.Test.YtecnapecmioamaaFLaw
import Derived.Test.YtecnapecmioamaaTRefChk
import Derived.Test.YtecnapecmioamaaTSame
import Derived.Test.YtecnapecmioamaaFShown
import Derived.ShutString
namespace Go.Proofs.Ytecnapecmioamaa.fixupFixes
open Go.ChangeShapes Go.WideShapes Go.ChangeAt Go.RowKit
set_option linter.unusedVariables false

theorem own : ownKnob Try.prog.godebug = none := by kernel_rfl
theorem laidOut : laidOutB Try.prog = true := by kernel_rfl

set_option maxRecDepth 100000 in
set_option maxHeartbeats 2000000 in
theorem fixes_bad (lv : Value) (ns ms : List Nd) (w : World) (a b : Int) (hb : b ≠ 0) (HP : Hid (PageAt w lv ns))
    (HC : Hid (∀ X v, PageAt X v ns → Calls Try.prog 5 #[v] X (CutPost ms X)))
    (HO : Hid (∀ X v, PageAt X v ms → Calls Try.prog 6 #[v] X fun e W' => e = .returned (.tuple #[.slice none 0 0, .int .i64 b]) ∧ Below X.heap.size X W'))
    (HD : Hid (∀ X v, PageAt X v ms → Calls Try.prog 7 #[v] X fun e W' => e = .returned (.tuple #[.bool false, .int .i64 b]) ∧ Below X.heap.size X W'))
    (HK : Hid (∀ X v, PageAt X v ms → Calls Try.prog 8 #[v] X fun e W' => e = .returned (.tuple #[.int .i64 a, .int .i64 b]) ∧ Below X.heap.size X W')) :
    Calls Try.prog 3 #[lv] w fun e w' => e = .returned (.bool true) ∧ Below w.heap.size w w' := by
  have hb' : (b != 0) = true := by simpa using hb
  have hbb : (b == b) = true := by simp
  obtain ⟨p, cap, rfl⟩ := HP.out.form
  generalize ns.length = l0 at *
  go_enter Try.func3, Try.ntmps3
  go_wp2_with (go_at_call 4; refine (shown5_any _).mono ?_; rintro e w1 ⟨rfl, hb1⟩; have HP1 := Lib.hid (HP.out.below hb1); have HB1 := Lib.hid hb1; clear hb1 HP)
  go_wp2_with (go_at_call 5; refine (HC.out _ _ HP1.out).mono ?_; rintro e w2 ⟨q, c, rfl, hp2, hb2⟩; have HP2 := Lib.hid hp2; have HB2 := Lib.hid (HB1.out.trans (hb2.mono HB1.out.size)); clear hb2 hp2 HP1 HB1 HC)
  generalize ms.length = m at *
  go_wp2_with (go_at_call 6; refine (HO.out _ _ HP2.out).mono ?_; rintro e w3 ⟨rfl, hb3⟩; have HP3 := Lib.hid (HP2.out.below hb3); have HB3 := Lib.hid (HB2.out.trans (hb3.mono HB2.out.size)); clear hb3 HP2 HB2 HO)
  go_wp2_with (go_at_call 7; refine (HD.out _ _ HP3.out).mono ?_; rintro e w4 ⟨rfl, hb4⟩; have HP4 := Lib.hid (HP3.out.below hb4); have HB4 := Lib.hid (HB3.out.trans (hb4.mono HB3.out.size)); clear hb4 HP3 HB3 HD)
  go_wp2_with (go_at_call 8; refine (HK.out _ _ HP4.out).mono ?_; rintro e w5 ⟨rfl, hb5⟩; have HB5 := Lib.hid (HB4.out.trans (hb5.mono HB4.out.size)); clear hb5 HP4 HB4 HK)
  go_ret
  exact ⟨by simp, HB5.out⟩
set_option maxRecDepth 100000 in
set_option maxHeartbeats 4000000 in
theorem fixes_good (lv : Value) (ns ms : List Nd) (w : World) (a : Int) (F : Hid (Fine ms)) (K : Hid (∀ n ∈ ms, n.ks.length ≤ 70000 ∧ n.ws.length ≤ 70000)) (hml : ms.length ≤ 150) (HP : Hid (PageAt w lv ns))
    (HC : Hid (∀ X v, PageAt X v ns → Calls Try.prog 5 #[v] X (CutPost ms X)))
    (HK : Hid (∀ X v, PageAt X v ms → Calls Try.prog 8 #[v] X fun e W' => e = .returned (.tuple #[.int .i64 a, .int .i64 0]) ∧ Below X.heap.size X W')) :
    Calls Try.prog 3 #[lv] w fun e w' => e = .returned (.bool true) ∧ Below w.heap.size w w' := by
  have HO : Hid (∀ (X : World) (v : Value), PageAt X v ms → Calls Try.prog 6 #[v] X (FixForm ms X)) := Lib.hid fun X v hp => fix_form v ms X hp K.out F.out
  have HD : Hid (∀ (X : World) (v : Value), PageAt X v ms → Calls Try.prog 7 #[v] X fun e W' => e = .returned (.tuple #[.bool (fixedB ms), .int .i64 0]) ∧ Below X.heap.size X W') := Lib.hid fun X v hp => fixedF_good v ms X hp (fun n hn => (K.out n hn).1) F.out
  have HL : Hid (1 ≤ (fixPg ms).length ∧ (fixPg ms).length ≤ 600) := Lib.hid (by have := fixPg_more F.out (fun n hn => (K.out n hn).1); omega)
  have hl1 := F.out.len1
  have HRF : Hid (∀ (X : World) (q : Option Addr) (m c : Nat), ms.length = m → PageAt X (.slice q m c) ms → Calls Try.prog 10 #[.slice q m c] X fun e Y => (∃ v ns', e = .returned v ∧ PageAt Y v ns' ∧ ns'.map Nd.bare = fixPg ms) ∧ Below X.heap.size X Y) := Lib.hid fun X q m c hm hp => by
    have hw := F.out.wrong
    rw [List.any_eq_false] at hw
    exact refFix_ok q m c ms X F.out.len1 F.out.len2 hp hm (fun n hn => wrong_valid (by simpa using hw n hn)) (F.out.way fun n hn => (K.out n hn).1) (by rw [kids_comp, List.length_map]; exact F.out.nodup)
  have HRD : Hid (∀ (X : World) (q : Option Addr) (m c : Nat), ms.length = m → PageAt X (.slice q m c) ms → Calls Try.prog 11 #[.slice q m c] X fun e Y => e = .returned (.bool (fixedB ms)) ∧ Below X.heap.size X Y) := Lib.hid fun X q m c hm hp => by
    have h1 := F.out.len1
    have h2 := F.out.len2
    obtain ⟨b, off, rfl, _⟩ := page_some hp (by omega)
    exact refFixed_any b off m c ms X hm (by omega) hp (by omega) (fun n hn => (K.out n hn).1) (fun n hn z hz => by have := F.out.link n hn z hz; omega)
  obtain ⟨p, cap, rfl⟩ := HP.out.form
  generalize ns.length = l0 at *
  go_enter Try.func3, Try.ntmps3
  go_wp2_with (go_at_call 4; refine (shown5_any _).mono ?_; rintro e w1 ⟨rfl, hb1⟩; have HP1 := Lib.hid (HP.out.below hb1); have HB1 := Lib.hid hb1; clear hb1 HP)
  go_wp2_with (go_at_call 5; refine (HC.out _ _ HP1.out).mono ?_; rintro e w2 ⟨q, c, rfl, hp2, hb2⟩; have HP2 := Lib.hid hp2; have HB2 := Lib.hid (HB1.out.trans (hb2.mono HB1.out.size)); clear hb2 hp2 HP1 HB1 HC)
  obtain ⟨m, hm⟩ : ∃ m, ms.length = m := ⟨_, rfl⟩
  rw [hm] at hml hl1 HP2 ⊢
  have HM := Lib.hid hm
  clear hm
  go_wp2_with (go_at_call 6; refine (HO.out _ _ HP2.out).mono ?_; rintro e w3 ⟨q3, c3, ns3, rfl, hp3, hb3, hB3⟩; have HP3 := Lib.hid hp3; have HB := Lib.hid hb3; have HP4 := Lib.hid (HP2.out.below hB3); have HB3 := Lib.hid (HB2.out.trans (hB3.mono HB2.out.size)); clear hb3 HP2 HB2 HO hp3 hB3)
  obtain ⟨m3, hm3⟩ : ∃ m3, ns3.length = m3 := ⟨_, rfl⟩
  rw [hm3] at HP3 ⊢
  have HM3 := Lib.hid hm3
  clear hm3
  go_wp2_with (go_at_call 7; refine (HD.out _ _ HP4.out).mono ?_; rintro e w4 ⟨rfl, hB4⟩; have HP5 := Lib.hid (HP4.out.below hB4); have HQ5 := Lib.hid (HP3.out.below hB4); have HB4 := Lib.hid (HB3.out.trans (hB4.mono HB3.out.size)); clear HP4 HB3 HP3 hB4 HD)
  go_wp2_with (go_at_call 8; refine (HK.out _ _ HP5.out).mono ?_; rintro e w5 ⟨rfl, hB5⟩; have HP6 := Lib.hid (HP5.out.below hB5); have HQ6 := Lib.hid (HQ5.out.below hB5); have HB5 := Lib.hid (HB4.out.trans (hB5.mono HB4.out.size)); clear HP5 HQ5 HB4 hB5 HK)
  go_wp2_with (go_at_call 10; refine (HRF.out _ _ _ _ HM.out HP6.out).mono ?_; rintro e w6 ⟨⟨v6, ns6, rfl, hp6, hb6⟩, hB6⟩; have HR6 := Lib.hid hp6; have HBE := Lib.hid hb6; have HP7 := Lib.hid (HP6.out.below hB6); have HQ7 := Lib.hid (HQ6.out.below hB6); have HB6 := Lib.hid (HB5.out.trans (hB6.mono HB5.out.size)); clear HP6 HQ6 HB5 hB6 hp6 hb6 HRF)
  have SB := Lib.hid (same_ofX (HBE.out.trans HB.out.symm))
  have HLN : Hid (1 ≤ ns3.length ∧ ns3.length ≤ 65536) := Lib.hid (by have := congrArg List.length HB.out; rw [List.length_map] at this; have := HL.out; omega)
  obtain ⟨q6, c6, rfl⟩ := HR6.out.form
  obtain ⟨m6, hm6⟩ : ∃ m6, ns6.length = m6 := ⟨_, rfl⟩
  rw [hm6] at HR6 ⊢
  clear hm6
  go_wp2_with (go_at_call 9; refine (same_any _ _ ns3 ns6 _ HQ7.out HR6.out HLN.out.1 HLN.out.2 SB.out.1 SB.out.2).mono ?_; rintro e w7 ⟨rfl, hB7⟩; have HP8 := Lib.hid (HP7.out.below hB7); have HB7 := Lib.hid (HB6.out.trans (hB7.mono HB6.out.size)); clear hB7 HP7 HB6)
  go_wp2_with (go_at_call 11; refine (HRD.out _ _ _ _ HM.out HP8.out).mono ?_; rintro e w8 ⟨rfl, hB8⟩; have HB8 := Lib.hid (HB7.out.trans (hB8.mono HB7.out.size)); clear hB8 HP8 HB7 HRD)
  go_ret
  exact ⟨by simp, HB8.out⟩
set_option maxHeartbeats 1000000 in
theorem walk (w : World) (a0 : Option Addr) (len0 cap0 : Nat) (ns : List Nd) (hP : PageAt w (.slice a0 len0 cap0) ns) :
    Calls Try.prog 3 #[.slice a0 len0 cap0] w fun e w' => e = .returned (.bool true) ∧ Below w.heap.size w w' := by
  have hck : ∀ X v, PageAt X v (cutP ns) → Calls Try.prog 8 #[v] X fun e W' => e = .returned (.tuple #[.int .i64 (checkP (cutP ns)).1, .int .i64 (checkP (cutP ns)).2]) ∧ Below X.heap.size X W' := fun X v h => refCheck_any v _ X h (fun n hn => (cutP_both ns n hn).1)
  by_cases hb : (checkP (cutP ns)).2 = 0
  · rw [hb] at hck
    exact fixes_good _ ns (cutP ns) w _ (Lib.hid (fine_of hb)) (Lib.hid (cutP_both ns)) (cutP_len ns) (Lib.hid hP) (Lib.hid fun X v h => cut_post v ns X h) (Lib.hid hck)
  · exact fixes_bad _ ns (cutP ns) w _ _ hb (Lib.hid hP) (Lib.hid fun X v h => cut_post v ns X h) (Lib.hid fun X v h => fixF_not v _ X h (fun n hn => (cutP_both ns n hn).1) hb) (Lib.hid fun X v h => fixedF_not v _ X h (fun n hn => (cutP_both ns n hn).1) hb) (Lib.hid hck)

set_option maxRecDepth 100000 in
theorem lifted (os : Os) (started : os.Started) (H : Type) (enc : TypeId × Value → H) :
    ReturnsInHanded {} Try.checked os 3 .any (Rows.fixupFixesSpec.pre6 enc Try.prog Try.f3 Rows.fixupFixesRow.domain false) (Rows.fixupFixesSpec.post enc Try.prog Try.f3 false true false false) := by
  refine returnsInHanded_of_change (C := Try.checked) own started (by kernel_rfl) Try.func3
    (ChangeSpec.witness6 (enc := enc) (C := Try.checked) false ⟨#[], #[.slice none 0 0], []⟩ 8 (by kernel_rfl) (by kernel_rfl) (by kernel_rfl) (by kernel_rfl)) ?_
  intro W base args ds gs before hval0 hW hcnd _
  have hval : ∀ (j : Nat) t v, Try.f3.params[j]? = some t → args[j]? = some v → Value.okWide Try.prog W .any base t v := hval0
  have hW' := hW
  obtain ⟨p, q, hA0, hV, rfl, hfz, hnd⟩ := hW
  have hA : DataW.TrodAll enc Try.prog W 0 (fun _ => true) true Try.f3.params.toList args.toList ds p := hA0
  rw [Try.params3] at hA hval
  obtain ⟨v0, vs0, d0, ds0, p0, q0, hargs, rfl, rfl, h0, r0⟩ := trodAll_cons hA
  obtain ⟨rfl, rfl, rfl⟩ := trodAll_nil r0
  obtain rfl : args = #[v0] := by cases args; simp_all
  obtain ⟨rfl, rfl⟩ := trodVars_none hV
  obtain ⟨a0, len0, cap0, rfl⟩ := okWide_slice Try.underlying22 (hval 0 22 v0 rfl rfl)
  have k0 := h0
  have lt0 : ∀ x ∈ p0, x.block < W.heap.size := by obtain ⟨m, hm⟩ := k0; exact DataW.trod_lt m _ _ _ hm
  obtain ⟨z0, w0⟩ : ∃ ns, PageAt W (.slice a0 len0 cap0) ns := by
    obtain ⟨fuel, hf⟩ := h0
    obtain ⟨ns, hn, _⟩ := open_nodes (by simpa [Value.cells] using hf)
    exact ⟨ns, hn⟩
  clear hA0 hval0
  simp only [List.append_nil] at hW'
  refine (walk W a0 len0 cap0 z0 w0).mono fun e W' ⟨he, hg⟩ => ?_
  subst he
  exact ⟨_, rfl, _, _, _, [], _, [], hW', (trodAll_cons_mk (shut_bool Try.underlying4 _) trodAll_mk0), (trodAll_cons_mk (Below.trod laidOut (by kernel_rfl) (of_decide_eq_true (by kernel_rfl)) k0 hg lt0) trodAll_mk0), rfl, hg.frame _, fun h => by cases h⟩

theorem over : Rows.fixupFixesRow.holds Try.pinned (OpenSpec.ofChange Rows.fixupFixesSpec) :=
  OpenClaim.holds_of_wide 3 Try.f3 rfl rfl rfl rfl rfl rfl rfl ⟨rfl, rfl, rfl, rfl, rfl⟩ rfl rfl rfl rfl rfl (by kernel_rfl) Try.func3 (by kernel_rfl)
    (of_decide_eq_true (by kernel_rfl)) (by unfold Func.isWrapper; first | (rw [if_pos (by decide +kernel)]; kernel_rfl) | (rw [if_neg (by decide +kernel)]; exact ⟨rfl, rfl⟩))
    (fun os started H enc _ => lifted os started H enc)

/-- the statement -/
theorem proved : Rows.FixupFixesSaid :=
  over
#print axioms proved
end Go.Proofs.Ytecnapecmioamaa.fixupFixes
