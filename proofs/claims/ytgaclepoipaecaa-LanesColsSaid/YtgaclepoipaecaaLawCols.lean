/- A table's columns are the document's, or its error, for every page, place and number. -/
import Derived.Test.YtgaclepoipaecaaRows
import Derived.WalkKit
import Derived.ProofKit
import Derived.OpenShut
import Derived.Below
import Derived.Test.YtgaclepoipaecaaLLaw
import Derived.Test.YtgaclepoipaecaaLCols2
import Derived.Test.YtgaclepoipaecaaLRef
import Derived.ShutString
namespace Go.Proofs.Ytgaclepoipaecaa.lanesCols
open Go.ChangeShapes Go.WideShapes Go.ChangeAt Go.RowKit
set_option linter.unusedVariables false

theorem own : ownKnob Try.prog.godebug = none := by kernel_rfl
theorem laidOut : laidOutB Try.prog = true := by kernel_rfl

open Go.Maps
/-- what Cols answers: its error, and its lanes -/
def erC (ns : List Nd) (p k : Nat) : Int := if (dcol ns (kfOf ns (p : Int))).length ≤ 10000 then 0 else 43
def laC (ns : List Nd) (p k : Nat) : List (Int × Int) := if (dcol ns (kfOf ns (p : Int))).length ≤ 10000 then dcol ns (kfOf ns (p : Int)) ++ bare (k - (dcol ns (kfOf ns (p : Int))).length) else []
theorem lanes_nil (W : World) : LanesAt W (.slice none 0 0) [] := ⟨by simp, .inl ⟨none, 0, rfl, rfl⟩⟩
theorem tab_comp {ns ns' : List Nd} (h : CompPg ns ns') (p : Int) : isTab ns' p = isTab ns p := by
  have hk : ns'.map Nd.k = ns.map Nd.k := by
    apply List.ext_getElem?
    intro i
    rw [List.getElem?_map, List.getElem?_map]
    rcases h.get i with ⟨e1, e2⟩ | ⟨n, n', e1, e2, e3⟩
    · rw [e1, e2]
    · rw [e1, e2]; simp [e3.k]
  unfold isTab
  rw [kd_same hk, h.len]
theorem cs_few {ns : List Nd} (F : Fine ns) (z : Int) : csOf ns z ≤ 1000 := by
  unfold csOf
  cases e : ns[z.toNat]? with
  | none => simp
  | some n =>
    have hw : wrongN n = false := by
      have := F.wrong
      rw [List.any_eq_false] at this
      simpa using this n (List.mem_of_getElem? e)
    have hv : validS n.s = true := wrong_valid hw
    simp only [validS, Bool.and_eq_true] at hv
    have := (spanB_iff.1 hv.2.2.2.2.1.1).2
    simpa using this
theorem colsF_good (lv : Value) (p k : Nat) (ns : List Nd) (w : World) (hP : PageAt w lv ns) (hK : ∀ n ∈ ns, n.ks.length ≤ 70000 ∧ n.ws.length ≤ 70000) (F : Fine ns) (hp : p < ns.length) (ht : kdOf ns p = 2) (hk : k ≤ 10000) :
    Calls Try.prog 6 #[lv, .int .i64 p, .int .i64 k] w fun e W' => ∃ v, e = .returned (.tuple #[v, .int .i64 (erC ns p k)]) ∧ LanesAt W' v (laC ns p k) ∧ Below w.heap.size w W' := by
  have hb : Below w.heap.size w ((w.alloc (.cells #[.slice none 0 0] 25)).alloc (.cells #[.int .i64 0] 26)) := ((Below.refl _ w).alloc (Nat.le_refl _) _).alloc (by simp) _
  have H := computed_laid lv ns _ (hP.below hb) hK F
  obtain ⟨_, _, ⟨a, cap, e, rfl⟩ | ⟨b, off, cap, rfl, _⟩⟩ := (id hP)
  · simp at hp
  · refine (cols_all b off cap _ p k (fun i => dsp ns (i : Int)) ns w rfl F.len2 hp hk (fun n hn => (hK n hn).1) (F.ok fun n hn => (hK n hn).1).link (Lib.hid (H.mono ?_)) (by unfold isTab; simp [hp, ht]) ?_).mono ?_
    · rintro e W' ⟨⟨L, c, ns', rfl, h1, h2, _⟩, h3⟩
      have hl := h1.len
      refine ⟨L, c, ns', by rw [hl], ?_, ?_, fun i n' hn' => ?_, by rw [← hl]; exact h2.page (by rw [hl]; have := F.len2; omega), by simpa using h3⟩
      · apply List.ext_getElem?
        intro i
        rw [List.getElem?_map, List.getElem?_map]
        rcases h1.get i with ⟨e1, e2⟩ | ⟨n, n', e1, e2, e3⟩
        · rw [e1, e2]
        · rw [e1, e2]; simp [e3.k]
      · apply List.ext_getElem?
        intro i
        rw [List.getElem?_map, List.getElem?_map]
        rcases h1.get i with ⟨e1, e2⟩ | ⟨n, n', e1, e2, e3⟩
        · rw [e1, e2]
        · rw [e1, e2]; simp [e3.ks]
      · have hi := (List.getElem?_eq_some_iff.1 hn').1
        have := cs_comp h1 (i : Int) (by omega)
        unfold csOf at this
        rw [Int.toNat_natCast, hn'] at this
        simpa using this
    · intro z hz
      have := cs_few F z
      have e : ((z.toNat : Nat) : Int) = z := by omega
      rw [e]
      unfold dsp
      exact ⟨rfl, by omega, by omega⟩
    · rintro e W' ⟨⟨v, h1, rfl, h2⟩ | ⟨h1, rfl⟩, hb⟩
      · exact ⟨v, by rw [erC, if_pos h1], by rw [laC, if_pos h1]; exact h2.lanes, hb⟩
      · exact ⟨_, by rw [erC, if_neg (by omega)], by rw [laC, if_neg (by omega)]; exact lanes_nil _, hb⟩
theorem refF_good (lv : Value) (p k : Nat) (ns : List Nd) (w : World) (hP : PageAt w lv ns) (hK : ∀ n ∈ ns, n.ks.length ≤ 70000) (F : Fine ns) (hp : p < ns.length) (hk : k ≤ 10000) :
    Calls Try.prog 8 #[lv, .int .i64 p, .int .i64 k] w fun e W' => ∃ v, e = .returned (.tuple #[v, .int .i64 (erC ns p k)]) ∧ LanesAt W' v (laC ns p k) ∧ Below w.heap.size w W' := by
  obtain ⟨q, cap, rfl⟩ := hP.form
  obtain ⟨b, off, rfl, _, _⟩ := page_cells hP F.len1
  refine (refCols_at b off cap _ p k ns w rfl hp F.len2 hP hK (fun n hn z hz => by have := F.link n hn z hz; omega) (cs_few F) hk).mono ?_
  rintro e W' ⟨⟨h1, v, rfl, h2⟩ | ⟨h1, rfl⟩, hb⟩
  · exact ⟨v, by rw [erC, if_pos h1], by rw [laC, if_pos h1]; exact h2.lanes, hb⟩
  · exact ⟨_, by rw [erC, if_neg (by omega)], by rw [laC, if_neg (by omega)]; exact lanes_nil _, hb⟩
set_option maxRecDepth 100000 in
set_option maxHeartbeats 4000000 in
theorem cl_bad (lv : Value) (p k : Int) (ns ms : List Nd) (w : World) (b : Int) (hb : b ≠ 0) (HP : Hid (PageAt w lv ns))
    (HC : Hid (∀ X v, PageAt X v ns → Calls Try.prog 5 #[v] X (CutPost ms X)))
    (H1 : Hid (∀ X v, PageAt X v ms → Calls Try.prog 6 #[v, .int .i64 p, .int .i64 k] X fun e W' => e = .returned (.tuple #[.slice none 0 0, .int .i64 b]) ∧ Below X.heap.size X W'))
    (H3 : Hid (∀ X v, PageAt X v ms → Calls Try.prog 7 #[v, .int .i64 p] X fun e W' => e = .returned (.int .i64 b) ∧ Below X.heap.size X W')) :
    Calls Try.prog 3 #[lv, .int .i64 p, .int .i64 k] w fun e w' => e = .returned (.bool true) ∧ Below w.heap.size w w' := by
  have hb' : (b != 0) = true := by simpa using hb
  obtain ⟨q, cap, rfl⟩ := HP.out.form
  generalize ns.length = l0 at *
  go_enter Try.func3, Try.ntmps3
  go_wp2_with (go_at_call 4; refine (shown6_any _).mono ?_; rintro e w1 ⟨rfl, hb1⟩; have HP1 := Lib.hid (HP.out.below hb1); have HB1 := Lib.hid hb1; clear hb1 HP)
  go_wp2_with (go_at_call 5; refine (HC.out _ _ HP1.out).mono ?_; rintro e w2 ⟨q, c, rfl, hp2, hb2⟩; have HP2 := Lib.hid hp2; have HB2 := Lib.hid (HB1.out.trans (hb2.mono HB1.out.size)); clear hp2 hb2 HP1 HB1 HC)
  generalize ms.length = m at *
  go_wp2_with (go_at_call 6; refine (H1.out _ _ HP2.out).mono ?_; rintro e w3 ⟨rfl, hb3⟩; have HP3 := Lib.hid (HP2.out.below hb3); have HB3 := Lib.hid (HB2.out.trans (hb3.mono HB2.out.size)); clear hb3 HP2 HB2 H1)
  go_wp2_with (go_at_call 7; refine (H3.out _ _ HP3.out).mono ?_; rintro e w5 ⟨rfl, hb5⟩; have HB5 := Lib.hid (HB3.out.trans (hb5.mono HB3.out.size)); clear hb5 HP3 HB3 H3)
  go_ret
  exact ⟨by simp, HB5.out⟩
set_option maxRecDepth 100000 in
set_option maxHeartbeats 4000000 in
theorem cl_arg (lv : Value) (p k : Int) (ns ms : List Nd) (w : World) (hk : k < 0 ∨ 10000 < k) (HP : Hid (PageAt w lv ns))
    (HC : Hid (∀ X v, PageAt X v ns → Calls Try.prog 5 #[v] X (CutPost ms X)))
    (H1 : Hid (∀ X v, PageAt X v ms → Calls Try.prog 6 #[v, .int .i64 p, .int .i64 k] X fun e W' => e = .returned (.tuple #[.slice none 0 0, .int .i64 2]) ∧ Below X.heap.size X W'))
    (H3 : Hid (∀ X v, PageAt X v ms → Calls Try.prog 7 #[v, .int .i64 p] X fun e W' => e = .returned (.int .i64 0) ∧ Below X.heap.size X W')) :
    Calls Try.prog 3 #[lv, .int .i64 p, .int .i64 k] w fun e w' => e = .returned (.bool true) ∧ Below w.heap.size w w' := by
  obtain ⟨q, cap, rfl⟩ := HP.out.form
  generalize ns.length = l0 at *
  rcases (show k < 0 ∨ (¬ k < 0 ∧ 10000 < k) by omega) with h1 | ⟨h1, h2⟩
  all_goals
    clear hk
    go_enter Try.func3, Try.ntmps3
    go_wp2_with (go_at_call 4; refine (shown6_any _).mono ?_; rintro e w1 ⟨rfl, hb1⟩; have HP1 := Lib.hid (HP.out.below hb1); have HB1 := Lib.hid hb1; clear hb1 HP)
    go_wp2_with (go_at_call 5; refine (HC.out _ _ HP1.out).mono ?_; rintro e w2 ⟨q, c, rfl, hp2, hb2⟩; have HP2 := Lib.hid hp2; have HB2 := Lib.hid (HB1.out.trans (hb2.mono HB1.out.size)); clear hp2 hb2 HP1 HB1 HC)
    generalize ms.length = m at *
    go_wp2_with (go_at_call 6; refine (H1.out _ _ HP2.out).mono ?_; rintro e w3 ⟨rfl, hb3⟩; have HP3 := Lib.hid (HP2.out.below hb3); have HB3 := Lib.hid (HB2.out.trans (hb3.mono HB2.out.size)); clear hb3 HP2 HB2 H1)
    go_wp2_with (go_at_call 7; refine (H3.out _ _ HP3.out).mono ?_; rintro e w5 ⟨rfl, hb5⟩; have HB5 := Lib.hid (HB3.out.trans (hb5.mono HB3.out.size)); clear hb5 HP3 HB3 H3)
    go_ret
    exact ⟨by simp, HB5.out⟩
set_option maxRecDepth 100000 in
set_option maxHeartbeats 4000000 in
theorem cl_good (lv : Value) (p k : Nat) (ns ms : List Nd) (w : World) (er : Int) (E : List (Int × Int)) (hk : k ≤ 10000) (HP : Hid (PageAt w lv ns))
    (HC : Hid (∀ X v, PageAt X v ns → Calls Try.prog 5 #[v] X (CutPost ms X)))
    (H1 : Hid (∀ X v, PageAt X v ms → Calls Try.prog 6 #[v, .int .i64 p, .int .i64 k] X fun e W' => ∃ v, e = .returned (.tuple #[v, .int .i64 er]) ∧ LanesAt W' v E ∧ Below X.heap.size X W'))
    (H3 : Hid (∀ X v, PageAt X v ms → Calls Try.prog 7 #[v, .int .i64 p] X fun e W' => e = .returned (.int .i64 0) ∧ Below X.heap.size X W'))
    (R1 : Hid (∀ X v, PageAt X v ms → Calls Try.prog 8 #[v, .int .i64 p, .int .i64 k] X fun e W' => ∃ v, e = .returned (.tuple #[v, .int .i64 er]) ∧ LanesAt W' v E ∧ Below X.heap.size X W')) :
    Calls Try.prog 3 #[lv, .int .i64 p, .int .i64 k] w fun e w' => e = .returned (.bool true) ∧ Below w.heap.size w w' := by
  have d1 : decide ((k : Int) < 0) = false := by simp
  have d2 : decide ((k : Int) > 10000) = false := by simp; omega
  have d3 : decide (10000 < (k : Int)) = false := by simp; omega
  obtain ⟨q, cap, rfl⟩ := HP.out.form
  generalize ns.length = l0 at *
  go_enter Try.func3, Try.ntmps3
  go_wp2_with (go_at_call 4; refine (shown6_any _).mono ?_; rintro e w1 ⟨rfl, hb1⟩; have HP1 := Lib.hid (HP.out.below hb1); have HB1 := Lib.hid hb1; clear hb1 HP)
  go_wp2_with (go_at_call 5; refine (HC.out _ _ HP1.out).mono ?_; rintro e w2 ⟨q, c, rfl, hp2, hb2⟩; have HP2 := Lib.hid hp2; have HB2 := Lib.hid (HB1.out.trans (hb2.mono HB1.out.size)); clear hp2 hb2 HP1 HB1 HC)
  generalize ms.length = m at *
  go_wp2_with (go_at_call 6; refine (H1.out _ _ HP2.out).mono ?_; rintro e w3 ⟨vr, rfl, o3, hb3⟩; have HP3 := Lib.hid (HP2.out.below hb3); have HL3 := Lib.hid o3; have HB3 := Lib.hid (HB2.out.trans (hb3.mono HB2.out.size)); clear o3 hb3 HP2 HB2 H1)
  go_wp2_with (go_at_call 7; refine (H3.out _ _ HP3.out).mono ?_; rintro e w5 ⟨rfl, hb5⟩; have HP5 := Lib.hid (HP3.out.below hb5); have HL5 := Lib.hid (HL3.out.below hb5); have HB5 := Lib.hid (HB3.out.trans (hb5.mono HB3.out.size)); clear hb5 HP3 HB3 HL3 H3)
  go_wp2_with (go_at_call 8; refine (R1.out _ _ HP5.out).mono ?_; rintro e w6 ⟨ur, rfl, o6, hb6⟩; have HL6 := Lib.hid (HL5.out.below hb6); have LR6 := Lib.hid o6; have HB6 := Lib.hid (HB5.out.trans (hb6.mono HB5.out.size)); clear o6 hb6 HP5 HB5 HL5 R1)
  go_wp2_with (go_at_call 9; refine (lsame_any vr ur E E _ HL6.out LR6.out).mono ?_; rintro e w7 ⟨rfl, hb7⟩; have HB7 := Lib.hid (HB6.out.trans (hb7.mono HB6.out.size)); clear hb7 HB6 HL6 LR6; rw [show decide (E = E) = true from by simp])
  go_ret
  exact ⟨by simp, HB7.out⟩
theorem walk (w : World) (a0 : Option Addr) (len0 cap0 : Nat) (ns : List Nd) (h : PageAt w (.slice a0 len0 cap0) ns) (p : Int) (hp : (Lit.int .i64 p).wf = true) (k : Int) (hk0 : (Lit.int .i64 k).wf = true) :
    Calls Try.prog 3 #[.slice a0 len0 cap0, .int .i64 p, .int .i64 k] w fun e w' => e = .returned (.bool true) ∧ Below w.heap.size w w' := by
  have hKK := fun n (hn : n ∈ cutP ns) => cutP_both ns n hn
  have hK := fun n (hn : n ∈ cutP ns) => (cutP_both ns n hn).1
  have HC := Lib.hid fun X v (hP : PageAt X v ns) => cut_post v ns X hP
  generalize cutP ns = ms at *
  by_cases hc : lchkP ms p = 0
  · obtain ⟨F, j, rfl, hj, hkd⟩ := lchk_ok hc
    have H3 : Hid (∀ X v, PageAt X v ms → Calls Try.prog 7 #[v, .int .i64 (j : Int)] X fun e W' => e = .returned (.int .i64 0) ∧ Below X.heap.size X W') := Lib.hid fun X v hP => by
      have h := refLchk_any v (j : Int) ms X hP hK
      rw [hc] at h; exact h
    by_cases hk : 0 ≤ k ∧ k ≤ 10000
    · obtain ⟨kn, rfl⟩ : ∃ kn : Nat, k = (kn : Int) := ⟨k.toNat, by omega⟩
      exact cl_good _ j kn ns ms w (erC ms j kn) (laC ms j kn) (by omega) (Lib.hid h) HC (Lib.hid fun X v hP => colsF_good v j kn ms X hP hKK F hj hkd (by omega)) H3 (Lib.hid fun X v hP => refF_good v j kn ms X hP hK F hj (by omega))
    · refine cl_arg _ j k ns ms w (by omega) (Lib.hid h) HC (Lib.hid fun X v hP => colsF_arg v j k ms X hP (.inr (by omega)) (Lib.hid fun Y hY => (computed_good v ms Y hY hKK F).mono ?_)) H3
      rintro e W' ⟨⟨v', ns', rfl, h1, h2⟩, h3⟩
      exact ⟨v', ns', rfl, tab_comp h1 _, h2, h3⟩
  · have H3 : Hid (∀ X v, PageAt X v ms → Calls Try.prog 7 #[v, .int .i64 p] X fun e W' => e = .returned (.int .i64 (lchkP ms p)) ∧ Below X.heap.size X W') := Lib.hid fun X v hP => refLchk_any v p ms X hP hK
    refine cl_bad _ p k ns ms w _ hc (Lib.hid h) HC (Lib.hid fun X v hP => ?_) H3
    by_cases hcc : (checkP ms).2 = 0
    · have F := fine_of hcc
      have ht : isTab ms p = false := by
        cases e : isTab ms p with
        | false => rfl
        | true => exact absurd (by unfold lchkP; rw [if_pos hcc, if_pos e]) hc
      have e2 : lchkP ms p = 2 := by unfold lchkP; rw [if_pos hcc, ht]; rfl
      rw [e2]
      refine colsF_arg v p k ms X hP (.inl ht) (Lib.hid fun Y hY => (computed_good v ms Y hY hKK F).mono ?_)
      rintro e W' ⟨⟨v', ns', rfl, h1, h2⟩, h3⟩
      exact ⟨v', ns', rfl, tab_comp h1 _, h2, h3⟩
    · have e2 : lchkP ms p = (checkP ms).2 := by unfold lchkP; rw [if_neg hcc]
      rw [e2]
      exact colsF_err v p k ms X _ hcc hP (Lib.hid fun Y hY => computed_not v ms Y hY hK hcc)

set_option maxRecDepth 100000 in
theorem lifted (os : Os) (started : os.Started) (H : Type) (enc : TypeId × Value → H) :
    ReturnsInHanded {} Try.checked os 3 .any (Rows.lanesColsSpec.pre6 enc Try.prog Try.f3 Rows.lanesColsRow.domain false) (Rows.lanesColsSpec.post enc Try.prog Try.f3 false true false false) := by
  refine returnsInHanded_of_change (C := Try.checked) own started (by kernel_rfl) Try.func3
    (ChangeSpec.witness6 (enc := enc) (C := Try.checked) false ⟨#[], #[.slice none 0 0, .int .i64 0, .int .i64 0], []⟩ 8 (by kernel_rfl) (by kernel_rfl) (by kernel_rfl) (by kernel_rfl)) ?_
  intro W base args ds gs before hval0 hW hcnd _
  have hval : ∀ (j : Nat) t v, Try.f3.params[j]? = some t → args[j]? = some v → Value.okWide Try.prog W .any base t v := hval0
  have hW' := hW
  obtain ⟨p, q, hA0, hV, rfl, hfz, hnd⟩ := hW
  have hA : DataW.TrodAll enc Try.prog W 0 (fun _ => true) true Try.f3.params.toList args.toList ds p := hA0
  rw [Try.params3] at hA hval
  obtain ⟨v0, vs0, d0, ds0, p0, q0, hargs, rfl, rfl, h0, r0⟩ := trodAll_cons hA
  obtain ⟨v1, vs1, d1, ds1, p1, q1, rfl, rfl, rfl, h1, r1⟩ := trodAll_cons r0
  obtain ⟨v2, vs2, d2, ds2, p2, q2, rfl, rfl, rfl, h2, r2⟩ := trodAll_cons r1
  obtain ⟨rfl, rfl, rfl⟩ := trodAll_nil r2
  obtain rfl : args = #[v0, v1, v2] := by cases args; simp_all
  obtain ⟨rfl, rfl⟩ := trodVars_none hV
  obtain ⟨a0, len0, cap0, rfl⟩ := okWide_slice Try.underlying22 (hval 0 22 v0 rfl rfl)
  have k0 := h0
  have lt0 : ∀ x ∈ p0, x.block < W.heap.size := by obtain ⟨m, hm⟩ := k0; exact DataW.trod_lt m _ _ _ hm
  obtain ⟨z0, w0⟩ : ∃ ns, PageAt W (.slice a0 len0 cap0) ns := by
    obtain ⟨fuel, hf⟩ := h0
    obtain ⟨ns, hn, _⟩ := open_nodes (by simpa [Value.cells] using hf)
    exact ⟨ns, hn⟩
  obtain ⟨a1, rfl, rfl, rfl, w1⟩ := open_int Try.underlying3 (hval 1 3 v1 rfl rfl) h1
  obtain ⟨a2, rfl, rfl, rfl, w2⟩ := open_int Try.underlying3 (hval 2 3 v2 rfl rfl) h2
  clear hA0 hval0
  simp only [List.append_nil] at hW'
  refine (walk W a0 len0 cap0 z0 w0 a1 w1 a2 w2).mono fun e W' ⟨he, hg⟩ => ?_
  subst he
  exact ⟨_, rfl, _, _, _, [], _, [], hW', (trodAll_cons_mk (shut_bool Try.underlying4 _) trodAll_mk0), (trodAll_cons_mk (Below.trod laidOut (by kernel_rfl) (of_decide_eq_true (by kernel_rfl)) k0 hg lt0) (trodAll_cons_mk (shut_int Try.underlying3 w1) (trodAll_cons_mk (shut_int Try.underlying3 w2) trodAll_mk0))), rfl, hg.frame _, fun h => by cases h⟩

theorem over : Rows.lanesColsRow.holds Try.pinned (OpenSpec.ofChange Rows.lanesColsSpec) :=
  OpenClaim.holds_of_wide 3 Try.f3 rfl rfl rfl rfl rfl rfl rfl ⟨rfl, rfl, rfl, rfl, rfl⟩ rfl rfl rfl rfl rfl (by kernel_rfl) Try.func3 (by kernel_rfl)
    (of_decide_eq_true (by kernel_rfl)) (by unfold Func.isWrapper; first | (rw [if_pos (by decide +kernel)]; kernel_rfl) | (rw [if_neg (by decide +kernel)]; exact ⟨rfl, rfl⟩))
    (fun os started H enc _ => lifted os started H enc)

/-- the statement -/
theorem proved : Rows.LanesColsSaid :=
  over
#print axioms proved
end Go.Proofs.Ytgaclepoipaecaa.lanesCols
