/- Computed pages are valid, and computed again they are the same: for every page. -/
import Derived.Test.YtddbjfcdmilmkaaRows
import Derived.WalkKit
import Derived.ProofKit
import Derived.OpenShut
import Derived.Below
import Derived.Test.YtddbjfcdmilmkaaTBuild
import Derived.Test.YtddbjfcdmilmkaaTSame
import Derived.Test.YtddbjfcdmilmkaaTCut
import Derived.Test.YtddbjfcdmilmkaaTOpen
import Derived.Test.YtddbjfcdmilmkaaTShown
import Derived.ShutString
namespace Go.Proofs.Ytddbjfcdmilmkaa.treeComputes
open Go.ChangeShapes Go.WideShapes Go.ChangeAt Go.RowKit
set_option linter.unusedVariables false

theorem own : ownKnob Try.prog.godebug = none := by kernel_rfl
theorem laidOut : laidOutB Try.prog = true := by kernel_rfl

def CutPost (ms : List Nd) (w : World) (e : Ending) (W' : World) : Prop := ∃ q c, e = .returned (.slice q ms.length c) ∧ PageAt W' (.slice q ms.length c) ms ∧ Below w.heap.size w W'
theorem cut_post (lv : Value) (ns : List Nd) (w : World) (hP : PageAt w lv ns) : Calls Try.prog 12 #[lv] w (CutPost (cutP ns) w) :=
  (cut_any lv ns w hP).mono fun e W' ⟨v, he, hp, hb⟩ => by
    obtain ⟨q, c, rfl⟩ := hp.form
    exact ⟨q, c, he, hp, hb⟩
theorem cutP_both (ns : List Nd) : ∀ n ∈ cutP ns, n.ks.length ≤ 70000 ∧ n.ws.length ≤ 70000 := fun n hn => by
  obtain ⟨a, _, rfl⟩ := List.mem_map.1 hn
  constructor <;> simp [cutN] <;> omega
theorem comp_both {ns ns' : List Nd} (h : CompPg ns ns') (hK : ∀ n ∈ ns, n.ks.length ≤ 70000 ∧ n.ws.length ≤ 70000) : ∀ n ∈ ns', n.ks.length ≤ 70000 ∧ n.ws.length ≤ 70000 := fun n hn => by
  obtain ⟨a, ha, hc⟩ := h.back hn
  rw [hc.ks, hc.ws]
  exact hK a ha
def CompForm (ms : List Nd) (w : World) (e : Ending) (W' : World) : Prop := ∃ q c ns', e = .returned (.tuple #[.slice q ms.length c, .int .i64 0]) ∧ CompPg ms ns' ∧ PageAt W' (.slice q ms.length c) ns' ∧ Below w.heap.size w W'
theorem comp_form {ms : List Nd} {w : World} {e : Ending} {W' : World} (h : CompPost ms w e W') : CompForm ms w e W' := by
  obtain ⟨⟨v, ns', he, hc, hp⟩, hb⟩ := h
  obtain ⟨q, c, rfl⟩ := hp.form
  rw [hc.len] at he hp
  exact ⟨q, c, ns', he, hc, hp, hb⟩
set_option maxRecDepth 100000 in
set_option maxHeartbeats 2000000 in
theorem computes_bad (lv : Value) (ns ms : List Nd) (w : World) (b : Int) (hb : b ≠ 0) (HP : Hid (PageAt w lv ns))
    (HC : Hid (∀ X v, PageAt X v ns → Calls Try.prog 12 #[v] X (CutPost ms X)))
    (HO : Hid (∀ X v, PageAt X v ms → Calls Try.prog 17 #[v] X fun e W' => e = .returned (.tuple #[.slice none 0 0, .int .i64 b]) ∧ Below X.heap.size X W')) :
    Calls Try.prog 9 #[lv] w fun e w' => e = .returned (.bool true) ∧ Below w.heap.size w w' := by
  have hb' : (b != 0) = true := by simpa using hb
  obtain ⟨p, cap, rfl⟩ := HP.out.form
  generalize ns.length = l0 at *
  go_enter Try.func9, Try.ntmps9
  go_wp2_with (go_at_call 10; refine (shown_any _).mono ?_; rintro e w1 ⟨rfl, hb1⟩; have HP1 := Lib.hid (HP.out.below hb1); have HB1 := Lib.hid hb1; clear hb1 HP)
  go_wp2_with (go_at_call 12; refine (HC.out _ _ HP1.out).mono ?_; rintro e w2 ⟨q, c, rfl, hp2, hb2⟩; have HP2 := Lib.hid hp2; have HB2 := Lib.hid (HB1.out.trans (hb2.mono HB1.out.size)); clear hb2 hp2 HP1 HB1 HC)
  generalize ms.length = m at *
  go_wp2_with (go_at_call 17; refine (HO.out _ _ HP2.out).mono ?_; rintro e w3 ⟨rfl, hb3⟩; have HB3 := Lib.hid (HB2.out.trans (hb3.mono HB2.out.size)); clear hb3 HP2 HB2 HO)
  go_ret
  exact ⟨rfl, HB3.out⟩
set_option maxRecDepth 100000 in
set_option maxHeartbeats 2000000 in
theorem computes_good (lv : Value) (ns ms : List Nd) (w : World) (F : Hid (Fine ms)) (K : Hid (∀ n ∈ ms, n.ks.length ≤ 70000 ∧ n.ws.length ≤ 70000)) (HP : Hid (PageAt w lv ns))
    (HC : Hid (∀ X v, PageAt X v ns → Calls Try.prog 12 #[v] X (CutPost ms X))) :
    Calls Try.prog 9 #[lv] w fun e w' => e = .returned (.bool true) ∧ Below w.heap.size w w' := by
  have HO : Hid (∀ (ps : List Nd) (X : World) (v : Value), Fine ps → (∀ n ∈ ps, n.ks.length ≤ 70000 ∧ n.ws.length ≤ 70000) → PageAt X v ps → Calls Try.prog 17 #[v] X (CompForm ps X)) := Lib.hid fun ps X v hF hK hp => (computed_good v ps X hp hK hF).mono fun e W' h => comp_form h
  have HK : Hid (∀ (ps : List Nd) (X : World) (v : Value), Fine ps → (∀ n ∈ ps, n.ks.length ≤ 70000 ∧ n.ws.length ≤ 70000) → PageAt X v ps → Calls Try.prog 11 #[v] X fun e W' => e = .returned (.tuple #[.int .i64 0, .int .i64 0]) ∧ Below X.heap.size X W') := Lib.hid fun ps X v hF hK hp => by
    have h := check_any v ps X hp (fun n hn => (hK n hn).1)
    rw [fine_check hF] at h
    exact h
  obtain ⟨p, cap, rfl⟩ := HP.out.form
  generalize ns.length = l0 at *
  go_enter Try.func9, Try.ntmps9
  go_wp2_with (go_at_call 10; refine (shown_any _).mono ?_; rintro e w1 ⟨rfl, hb1⟩; have HP1 := Lib.hid (HP.out.below hb1); have HB1 := Lib.hid hb1; clear hb1 HP)
  go_wp2_with (go_at_call 12; refine (HC.out _ _ HP1.out).mono ?_; rintro e w2 ⟨q, c, rfl, hp2, hb2⟩; have HP2 := Lib.hid hp2; have HB2 := Lib.hid (HB1.out.trans (hb2.mono HB1.out.size)); clear hb2 hp2 HP1 HB1 HC)
  go_wp2_with (go_at_call 17; refine (HO.out ms _ _ F.out K.out HP2.out).mono ?_; rintro e w3 ⟨q3, c3, ns3, rfl, hc3, hp3, hb3⟩; have HC3 := Lib.hid hc3; have HP3 := Lib.hid hp3; have HB3 := Lib.hid (HB2.out.trans (hb3.mono HB2.out.size)); have F3 := Lib.hid (hc3.fine F.out); have K3 := Lib.hid (comp_both hc3 K.out); have L3 := Lib.hid hc3.len; clear hc3 hp3 hb3 HP2 HB2)
  go_wp2_with (go_at_call 11; refine (HK.out ns3 _ _ F3.out K3.out HP3.out).mono ?_; rintro e w4 ⟨rfl, hb4⟩; have HP4 := Lib.hid (HP3.out.below hb4); have HB4 := Lib.hid (HB3.out.trans (hb4.mono HB3.out.size)); clear hb4 HP3 HB3 HK)
  go_wp2_with (go_at_call 17; refine (HO.out ns3 _ _ F3.out K3.out HP4.out).mono ?_; rintro e w5 ⟨q5, c5, ns5, rfl, hc5, hp5, hb5⟩; have HP5 := Lib.hid hp5; have HPA := Lib.hid (HP4.out.below hb5); have HB5 := Lib.hid (HB4.out.trans (hb5.mono HB4.out.size)); have AG := Lib.hid (HC3.out.again hc5 F.out); clear hc5 hp5 hb5 HP4 HB4 HO)
  go_wp2_with (go_at_call 22; refine (same_any _ _ ns3 ns5 _ HPA.out HP5.out F3.out.len1 F3.out.len2 AG.out.1 AG.out.2).mono ?_; rintro e w6 ⟨rfl, hb6⟩; have HB6 := Lib.hid (HB5.out.trans (hb6.mono HB5.out.size)); clear hb6)
  go_ret
  exact ⟨rfl, HB6.out⟩
set_option maxHeartbeats 1000000 in
theorem walk (w : World) (a0 : Option Addr) (len0 cap0 : Nat) (ns : List Nd) (hP : PageAt w (.slice a0 len0 cap0) ns) :
    Calls Try.prog 9 #[.slice a0 len0 cap0] w fun e w' => e = .returned (.bool true) ∧ Below w.heap.size w w' := by
  by_cases hb : (checkP (cutP ns)).2 = 0
  · exact computes_good _ ns (cutP ns) w (Lib.hid (fine_of hb)) (Lib.hid (cutP_both ns)) (Lib.hid hP) (Lib.hid fun X v h => cut_post v ns X h)
  · exact computes_bad _ ns (cutP ns) w _ hb (Lib.hid hP) (Lib.hid fun X v h => cut_post v ns X h) (Lib.hid fun X v h => computed_not v _ X h (fun n hn => (cutP_both ns n hn).1) hb)

set_option maxRecDepth 100000 in
theorem lifted (os : Os) (started : os.Started) (H : Type) (enc : TypeId × Value → H) :
    ReturnsInHanded {} Try.checked os 9 .any (Rows.treeComputesSpec.pre6 enc Try.prog Try.f9 Rows.treeComputesRow.domain false) (Rows.treeComputesSpec.post enc Try.prog Try.f9 false true false false) := by
  refine returnsInHanded_of_change (C := Try.checked) own started (by kernel_rfl) Try.func9
    (ChangeSpec.witness6 (enc := enc) (C := Try.checked) false ⟨#[], #[.slice none 0 0], []⟩ 8 (by kernel_rfl) (by kernel_rfl) (by kernel_rfl) (by kernel_rfl)) ?_
  intro W base args ds gs before hval0 hW hcnd _
  have hval : ∀ (j : Nat) t v, Try.f9.params[j]? = some t → args[j]? = some v → Value.okWide Try.prog W .any base t v := hval0
  have hW' := hW
  obtain ⟨p, q, hA0, hV, rfl, hfz, hnd⟩ := hW
  have hA : DataW.TrodAll enc Try.prog W 0 (fun _ => true) true Try.f9.params.toList args.toList ds p := hA0
  rw [Try.params9] at hA hval
  obtain ⟨v0, vs0, d0, ds0, p0, q0, hargs, rfl, rfl, h0, r0⟩ := trodAll_cons hA
  obtain ⟨rfl, rfl, rfl⟩ := trodAll_nil r0
  obtain rfl : args = #[v0] := by cases args; simp_all
  obtain ⟨rfl, rfl⟩ := trodVars_none hV
  obtain ⟨a0, len0, cap0, rfl⟩ := okWide_slice Try.underlying22 (hval 0 22 v0 rfl rfl)
  have k0 := h0
  have lt0 : ∀ x ∈ p0, x.block < W.heap.size := by obtain ⟨m, hm⟩ := k0; exact DataW.trod_lt m _ _ _ hm
  obtain ⟨z0, w0⟩ : ∃ ns, PageAt W (.slice a0 len0 cap0) ns := by
    obtain ⟨fuel, hf⟩ := h0
    obtain ⟨ns, hn, _⟩ := open_nodes (by simpa [Value.cells] using hf)
    exact ⟨ns, hn⟩
  clear hA0 hval0
  simp only [List.append_nil] at hW'
  refine (walk W a0 len0 cap0 z0 w0).mono fun e W' ⟨he, hg⟩ => ?_
  subst he
  exact ⟨_, rfl, _, _, _, [], _, [], hW', (trodAll_cons_mk (shut_bool Try.underlying4 _) trodAll_mk0), (trodAll_cons_mk (Below.trod laidOut (by kernel_rfl) (of_decide_eq_true (by kernel_rfl)) k0 hg lt0) trodAll_mk0), rfl, hg.frame _, fun h => by cases h⟩

theorem over : Rows.treeComputesRow.holds Try.pinned (OpenSpec.ofChange Rows.treeComputesSpec) :=
  OpenClaim.holds_of_wide 9 Try.f9 rfl rfl rfl rfl rfl rfl rfl ⟨rfl, rfl, rfl, rfl, rfl⟩ rfl rfl rfl rfl rfl (by kernel_rfl) Try.func9 (by kernel_rfl)
    (of_decide_eq_true (by kernel_rfl)) (by unfold Func.isWrapper; first | (rw [if_pos (by decide +kernel)]; kernel_rfl) | (rw [if_neg (by decide +kernel)]; exact ⟨rfl, rfl⟩))
    (fun os started H enc _ => lifted os started H enc)

/-- the statement -/
theorem proved : Rows.TreeComputesSaid :=
  over
#print axioms proved
end Go.Proofs.Ytddbjfcdmilmkaa.treeComputes
