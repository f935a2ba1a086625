/- A table's cells are the document's, or its error: for every page and place. -/
import Derived.Test.YtcgnldcdcbnofaaRows
import Derived.WalkKit
import Derived.ProofKit
import Derived.OpenShut
import Derived.Below
import Derived.Test.YtcgnldcdcbnofaaGRight
import Derived.Test.YtcgnldcdcbnofaaGSameR
import Derived.ShutString
namespace Go.Proofs.Ytcgnldcdcbnofaa.gridCells
open Go.ChangeShapes Go.WideShapes Go.ChangeAt Go.RowKit
set_option linter.unusedVariables false

theorem own : ownKnob Try.prog.godebug = none := by kernel_rfl
theorem laidOut : laidOutB Try.prog = true := by kernel_rfl

set_option maxRecDepth 100000 in
set_option maxHeartbeats 4000000 in
theorem cls_bad (lv : Value) (p : Int) (ns ms : List Nd) (w : World) (b : Int) (hb : b ≠ 0) (HP : Hid (PageAt w lv ns))
    (HC : Hid (∀ X v, PageAt X v ns → Calls Try.prog 6 #[v] X (CutPost ms X)))
    (H1 : Hid (∀ X v, PageAt X v ms → Calls Try.prog 7 #[v, .int .i64 p] X fun e W' => e = .returned (.tuple #[.slice none 0 0, .slice none 0 0, .int .i64 b]) ∧ Below X.heap.size X W'))
    (H3 : Hid (∀ X v, PageAt X v ms → Calls Try.prog 8 #[v, .int .i64 p] X fun e W' => e = .returned (.int .i64 b) ∧ Below X.heap.size X W')) :
    Calls Try.prog 3 #[lv, .int .i64 p] w fun e w' => e = .returned (.bool true) ∧ Below w.heap.size w w' := by
  have hb' : (b != 0) = true := by simpa using hb
  obtain ⟨q, cap, rfl⟩ := HP.out.form
  generalize ns.length = l0 at *
  go_enter Try.func3, Try.ntmps3
  go_wp2_with (go_at_call 5; refine (shown7_any _).mono ?_; rintro e w1 ⟨rfl, hb1⟩; have HP1 := Lib.hid (HP.out.below hb1); have HB1 := Lib.hid hb1; clear hb1 HP)
  go_wp2_with (go_at_call 6; refine (HC.out _ _ HP1.out).mono ?_; rintro e w2 ⟨q, c, rfl, hp2, hb2⟩; have HP2 := Lib.hid hp2; have HB2 := Lib.hid (HB1.out.trans (hb2.mono HB1.out.size)); clear hp2 hb2 HP1 HB1 HC)
  generalize ms.length = m at *
  go_wp2_with (go_at_call 7; refine (H1.out _ _ HP2.out).mono ?_; rintro e w3 ⟨rfl, hb3⟩; have HP3 := Lib.hid (HP2.out.below hb3); have HB3 := Lib.hid (HB2.out.trans (hb3.mono HB2.out.size)); clear hb3 HP2 HB2 H1)
  go_wp2_with (go_at_call 8; refine (H3.out _ _ HP3.out).mono ?_; rintro e w5 ⟨rfl, hb5⟩; have HB5 := Lib.hid (HB3.out.trans (hb5.mono HB3.out.size)); clear hb5 HP3 HB3 H3)
  go_ret
  exact ⟨by simp, HB5.out⟩
set_option maxRecDepth 100000 in
set_option maxHeartbeats 4000000 in
theorem cls_good (lv : Value) (p : Int) (ns ms : List Nd) (w : World) (rows : List (List Sp)) (zs : List Int) (nR : Nat) (hn : rows.length = nR) (hl : nR ≤ 100000) (hr : ∀ r ∈ rows, r.length ≤ 100000) (HP : Hid (PageAt w lv ns))
    (HC : Hid (∀ X v, PageAt X v ns → Calls Try.prog 6 #[v] X (CutPost ms X)))
    (H1 : Hid (∀ X v, PageAt X v ms → Calls Try.prog 7 #[v, .int .i64 p] X fun e W' => ∃ v hv ve, e = .returned (.tuple #[v, ve, .int .i64 0]) ∧ RowsIn W'.heap.size W' v hv rows ∧ Ints W' ve zs ∧ Below X.heap.size X W'))
    (H3 : Hid (∀ X v, PageAt X v ms → Calls Try.prog 8 #[v, .int .i64 p] X fun e W' => e = .returned (.int .i64 0) ∧ Below X.heap.size X W'))
    (R1 : Hid (∀ X v, PageAt X v ms → Calls Try.prog 9 #[v, .int .i64 p] X fun e W' => ∃ v hv ve, e = .returned (.tuple #[v, ve]) ∧ RowsIn W'.heap.size W' v hv rows ∧ Ints W' ve zs ∧ Below X.heap.size X W')) :
    Calls Try.prog 3 #[lv, .int .i64 p] w fun e w' => e = .returned (.bool true) ∧ Below w.heap.size w w' := by
  have HN := Lib.hid hn
  have HR := Lib.hid hr
  clear hn hr
  obtain ⟨q, cap, rfl⟩ := HP.out.form
  generalize ns.length = l0 at *
  go_enter Try.func3, Try.ntmps3
  go_wp2_with (go_at_call 5; refine (shown7_any _).mono ?_; rintro e w1 ⟨rfl, hb1⟩; have HP1 := Lib.hid (HP.out.below hb1); have HB1 := Lib.hid hb1; clear hb1 HP)
  go_wp2_with (go_at_call 6; refine (HC.out _ _ HP1.out).mono ?_; rintro e w2 ⟨q, c, rfl, hp2, hb2⟩; have HP2 := Lib.hid hp2; have HB2 := Lib.hid (HB1.out.trans (hb2.mono HB1.out.size)); clear hp2 hb2 HP1 HB1 HC)
  generalize ms.length = m at *
  go_wp2_with (go_at_call 7; refine (H1.out _ _ HP2.out).mono ?_; rintro e w3 ⟨va, hva, vea, rfl, ra, ia, hb3⟩; obtain ⟨pa, ca, hpa⟩ := ra.form; rw [HN.out] at hpa; subst hpa; have HP3 := Lib.hid (HP2.out.below hb3); have HRA := Lib.hid ra; have HIA := Lib.hid ia; have HB3 := Lib.hid (HB2.out.trans (hb3.mono HB2.out.size)); clear hb3 HP2 HB2 H1 ra ia)
  go_wp2_with (go_at_call 8; refine (H3.out _ _ HP3.out).mono ?_; rintro e w5 ⟨rfl, hb5⟩; have HP5 := Lib.hid (HP3.out.below hb5); have HRA5 := Lib.hid ((HRA.out.below hb5).mono hb5.size); have HIA5 := Lib.hid (HIA.out.below hb5); have HB5 := Lib.hid (HB3.out.trans (hb5.mono HB3.out.size)); clear hb5 HP3 HB3 HRA HIA H3)
  go_wp2_with (go_at_call 9; refine (R1.out _ _ HP5.out).mono ?_; rintro e w6 ⟨vb, hvb, veb, rfl, rb, ib, hb6⟩; obtain ⟨pb, cb, hpb⟩ := rb.form; rw [HN.out] at hpb; subst hpb; have HRB := Lib.hid rb; have HIB := Lib.hid ib; have HRA6 := Lib.hid ((HRA5.out.below hb6).mono hb6.size); have HIA6 := Lib.hid (HIA5.out.below hb6); have HB6 := Lib.hid (HB5.out.trans (hb6.mono HB5.out.size)); clear hb6 HP5 HB5 HRA5 HIA5 R1 rb ib)
  go_wp2_with (go_at_call 10; refine (sameRows_same _ _ _ _ _ _ _ rows _ HRA6.out HRB.out HN.out hl HR.out).mono ?_; rintro e w7 ⟨rfl, hb7⟩; have HIA7 := Lib.hid (HIA6.out.below hb7); have HIB7 := Lib.hid (HIB.out.below hb7); have HB7 := Lib.hid (HB6.out.trans (hb7.mono HB6.out.size)); clear hb7 HIA6 HIB HRA6 HRB HB6)
  go_wp2_with (go_at_call 11; refine (ints_any _ _ zs zs _ HIA7.out HIB7.out).mono ?_; rintro e w9 ⟨rfl, n9, rfl⟩; have HB9 := Lib.hid (HB7.out.trans (below_dn w.heap.size w7 n9)); clear HIA7 HIB7 HB7; rw [show decide (zs = zs) = true from by simp])
  go_ret
  exact ⟨by simp, HB9.out⟩
theorem walk (w : World) (a0 : Option Addr) (len0 cap0 : Nat) (ns : List Nd) (h : PageAt w (.slice a0 len0 cap0) ns) (p : Int) (hp : (Lit.int .i64 p).wf = true) :
    Calls Try.prog 3 #[.slice a0 len0 cap0, .int .i64 p] w fun e w' => e = .returned (.bool true) ∧ Below w.heap.size w w' := by
  have hK := fun n (hn : n ∈ cutP ns) => (cutP_both ns n hn).1
  have hcl := cutP_len ns
  have HC := Lib.hid fun X v (hP : PageAt X v ns) => cut_post v ns X hP
  generalize cutP ns = ms at *
  by_cases hc : lchkP ms p = 0
  · obtain ⟨F, j, rfl, hj, hk⟩ := lchk_ok hc
    have hO := F.ok hK
    have hlk : ∀ n ∈ ms, ∀ z ∈ n.ks, 0 ≤ z ∧ z < (ms.length : Int) := fun n hn z hz => by have := F.link n hn z hz; omega
    have hE := rows_inC hO (j : Int)
    have hEl := rows_fewC F.tr hO hk
    refine cls_good _ j ns ms w (cellsP ms (rowsP ms j)) (endsW 0 (rowsP ms j)) _ rfl (by unfold cellsP; rw [List.length_map]; omega) (fun r hr => ?_) (Lib.hid h) HC (Lib.hid fun X v hP => ?_) (Lib.hid fun X v hP => ?_) (Lib.hid fun X v hP => ?_)
    · obtain ⟨x, hx, rfl⟩ := List.mem_map.1 hr
      have h1 := rowS9_len ms (kfOf ms x.1)
      have h2 : (kfOf ms x.1).length ≤ 70000 := by
        unfold kfOf
        cases hq : ms[x.1.toNat]? with
        | none => simp
        | some n => exact hK n (List.mem_iff_getElem?.2 ⟨_, hq⟩)
      omega
    · obtain ⟨q, cap, rfl⟩ := hP.form
      obtain ⟨b, off, rfl, _, _⟩ := page_cells hP F.len1
      exact cells_at b off cap _ j ms X rfl F.len2 hP hK hlk (rowsP ms j) hE (by omega) (Lib.hid (rowsF_good _ j _ X hP hK F hj hk))
    · have h := refLchk_any v (j : Int) ms X hP hK
      rw [hc] at h; exact h
    · obtain ⟨q, cap, rfl⟩ := hP.form
      obtain ⟨b, off, rfl, _, _⟩ := page_cells hP F.len1
      exact refCells_at b off cap _ j ms X rfl F.len2 hP hK hlk (rowsP ms j) hE (by omega) (Lib.hid (refRows_at b off cap _ j ms X hO rfl hj F.len2 hP hK hlk (F.tr.kf_nodup _)))
  · exact cls_bad _ p ns ms w _ hc (Lib.hid h) HC (Lib.hid fun X v hP => cells_not v p X _ hc (Lib.hid (rowsF_not v p _ X hP hK hc))) (Lib.hid fun X v hP => refLchk_any v p _ X hP hK)

set_option maxRecDepth 100000 in
theorem lifted (os : Os) (started : os.Started) (H : Type) (enc : TypeId × Value → H) :
    ReturnsInHanded {} Try.checked os 3 .any (Rows.gridCellsSpec.pre6 enc Try.prog Try.f3 Rows.gridCellsRow.domain false) (Rows.gridCellsSpec.post enc Try.prog Try.f3 false true false false) := by
  refine returnsInHanded_of_change (C := Try.checked) own started (by kernel_rfl) Try.func3
    (ChangeSpec.witness6 (enc := enc) (C := Try.checked) false ⟨#[], #[.slice none 0 0, .int .i64 0], []⟩ 8 (by kernel_rfl) (by kernel_rfl) (by kernel_rfl) (by kernel_rfl)) ?_
  intro W base args ds gs before hval0 hW hcnd _
  have hval : ∀ (j : Nat) t v, Try.f3.params[j]? = some t → args[j]? = some v → Value.okWide Try.prog W .any base t v := hval0
  have hW' := hW
  obtain ⟨p, q, hA0, hV, rfl, hfz, hnd⟩ := hW
  have hA : DataW.TrodAll enc Try.prog W 0 (fun _ => true) true Try.f3.params.toList args.toList ds p := hA0
  rw [Try.params3] at hA hval
  obtain ⟨v0, vs0, d0, ds0, p0, q0, hargs, rfl, rfl, h0, r0⟩ := trodAll_cons hA
  obtain ⟨v1, vs1, d1, ds1, p1, q1, rfl, rfl, rfl, h1, r1⟩ := trodAll_cons r0
  obtain ⟨rfl, rfl, rfl⟩ := trodAll_nil r1
  obtain rfl : args = #[v0, v1] := by cases args; simp_all
  obtain ⟨rfl, rfl⟩ := trodVars_none hV
  obtain ⟨a0, len0, cap0, rfl⟩ := okWide_slice Try.underlying22 (hval 0 22 v0 rfl rfl)
  have k0 := h0
  have lt0 : ∀ x ∈ p0, x.block < W.heap.size := by obtain ⟨m, hm⟩ := k0; exact DataW.trod_lt m _ _ _ hm
  obtain ⟨z0, w0⟩ : ∃ ns, PageAt W (.slice a0 len0 cap0) ns := by
    obtain ⟨fuel, hf⟩ := h0
    obtain ⟨ns, hn, _⟩ := open_nodes (by simpa [Value.cells] using hf)
    exact ⟨ns, hn⟩
  obtain ⟨a1, rfl, rfl, rfl, w1⟩ := open_int Try.underlying3 (hval 1 3 v1 rfl rfl) h1
  clear hA0 hval0
  simp only [List.append_nil] at hW'
  refine (walk W a0 len0 cap0 z0 w0 a1 w1).mono fun e W' ⟨he, hg⟩ => ?_
  subst he
  exact ⟨_, rfl, _, _, _, [], _, [], hW', (trodAll_cons_mk (shut_bool Try.underlying4 _) trodAll_mk0), (trodAll_cons_mk (Below.trod laidOut (by kernel_rfl) (of_decide_eq_true (by kernel_rfl)) k0 hg lt0) (trodAll_cons_mk (shut_int Try.underlying3 w1) trodAll_mk0)), rfl, hg.frame _, fun h => by cases h⟩

theorem over : Rows.gridCellsRow.holds Try.pinned (OpenSpec.ofChange Rows.gridCellsSpec) :=
  OpenClaim.holds_of_wide 3 Try.f3 rfl rfl rfl rfl rfl rfl rfl ⟨rfl, rfl, rfl, rfl, rfl⟩ rfl rfl rfl rfl rfl (by kernel_rfl) Try.func3 (by kernel_rfl)
    (of_decide_eq_true (by kernel_rfl)) (by unfold Func.isWrapper; first | (rw [if_pos (by decide +kernel)]; kernel_rfl) | (rw [if_neg (by decide +kernel)]; exact ⟨rfl, rfl⟩))
    (fun os started H enc _ => lifted os started H enc)

/-- the statement -/
theorem proved : Rows.GridCellsSaid :=
  over
#print axioms proved
end Go.Proofs.Ytcgnldcdcbnofaa.gridCells
