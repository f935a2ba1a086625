/- Rows and captions of a table are the document's, or its error: for every page and place. -/
import Derived.Test.YtdljgdmodobjpaaRows
import Derived.WalkKit
import Derived.ProofKit
import Derived.OpenShut
import Derived.Below
import Derived.Test.YtdljgdmodobjpaaLLaw
import Derived.Test.YtdljgdmodobjpaaLRefRows
import Derived.ShutString
namespace Go.Proofs.Ytdljgdmodobjpaa.lanesRows
open Go.ChangeShapes Go.WideShapes Go.ChangeAt Go.RowKit
set_option linter.unusedVariables false

theorem own : ownKnob Try.prog.godebug = none := by kernel_rfl
theorem laidOut : laidOutB Try.prog = true := by kernel_rfl

set_option maxRecDepth 100000 in
set_option maxHeartbeats 4000000 in
theorem rws_bad (lv : Value) (p : Int) (ns ms : List Nd) (w : World) (b : Int) (hb : b ≠ 0) (HP : Hid (PageAt w lv ns))
    (HC : Hid (∀ X v, PageAt X v ns → Calls Try.prog 11 #[v] X (CutPost ms X)))
    (H1 : Hid (∀ X v, PageAt X v ms → Calls Try.prog 12 #[v, .int .i64 p] X fun e W' => e = .returned (.tuple #[.slice none 0 0, .int .i64 b]) ∧ Below X.heap.size X W'))
    (H2 : Hid (∀ X v, PageAt X v ms → Calls Try.prog 13 #[v, .int .i64 p] X fun e W' => e = .returned (.tuple #[.slice none 0 0, .int .i64 b]) ∧ Below X.heap.size X W'))
    (H3 : Hid (∀ X v, PageAt X v ms → Calls Try.prog 14 #[v, .int .i64 p] X fun e W' => e = .returned (.int .i64 b) ∧ Below X.heap.size X W')) :
    Calls Try.prog 3 #[lv, .int .i64 p] w fun e w' => e = .returned (.bool true) ∧ Below w.heap.size w w' := by
  have hb' : (b != 0) = true := by simpa using hb
  obtain ⟨q, cap, rfl⟩ := HP.out.form
  generalize ns.length = l0 at *
  go_enter Try.func3, Try.ntmps3
  go_wp2_with (go_at_call 10; refine (shown6_any _).mono ?_; rintro e w1 ⟨rfl, hb1⟩; have HP1 := Lib.hid (HP.out.below hb1); have HB1 := Lib.hid hb1; clear hb1 HP)
  go_wp2_with (go_at_call 11; refine (HC.out _ _ HP1.out).mono ?_; rintro e w2 ⟨q, c, rfl, hp2, hb2⟩; have HP2 := Lib.hid hp2; have HB2 := Lib.hid (HB1.out.trans (hb2.mono HB1.out.size)); clear hp2 hb2 HP1 HB1 HC)
  generalize ms.length = m at *
  go_wp2_with (go_at_call 12; refine (H1.out _ _ HP2.out).mono ?_; rintro e w3 ⟨rfl, hb3⟩; have HP3 := Lib.hid (HP2.out.below hb3); have HB3 := Lib.hid (HB2.out.trans (hb3.mono HB2.out.size)); clear hb3 HP2 HB2 H1)
  go_wp2_with (go_at_call 13; refine (H2.out _ _ HP3.out).mono ?_; rintro e w4 ⟨rfl, hb4⟩; have HP4 := Lib.hid (HP3.out.below hb4); have HB4 := Lib.hid (HB3.out.trans (hb4.mono HB3.out.size)); clear hb4 HP3 HB3 H2)
  go_wp2_with (go_at_call 14; refine (H3.out _ _ HP4.out).mono ?_; rintro e w5 ⟨rfl, hb5⟩; have HB5 := Lib.hid (HB4.out.trans (hb5.mono HB4.out.size)); clear hb5 HP4 HB4 H3)
  go_ret
  exact ⟨by simp, HB5.out⟩
/-- page, rows and captions in a world -/
def RW (v vr vc : Value) (ms : List Nd) (E : List (Int × Int)) (zs : List Int) (w X : World) : Prop := PageAt X v ms ∧ LanesAt X vr E ∧ Ints X vc zs ∧ Below w.heap.size w X
theorem RW.go {v vr vc : Value} {ms : List Nd} {E : List (Int × Int)} {zs : List Int} {w X Y : World} (h : RW v vr vc ms E zs w X) (hb : Below X.heap.size X Y) : RW v vr vc ms E zs w Y := ⟨h.1.below hb, h.2.1.below hb, h.2.2.1.below hb, h.2.2.2.trans (hb.mono h.2.2.2.size)⟩
set_option maxRecDepth 100000 in
set_option maxHeartbeats 4000000 in
theorem rws_good (lv : Value) (p : Int) (ns ms : List Nd) (w : World) (E : List (Int × Int)) (zs : List Int) (HP : Hid (PageAt w lv ns))
    (HC : Hid (∀ X v, PageAt X v ns → Calls Try.prog 11 #[v] X (CutPost ms X)))
    (H1 : Hid (∀ X v, PageAt X v ms → Calls Try.prog 12 #[v, .int .i64 p] X fun e W' => ∃ v, e = .returned (.tuple #[v, .int .i64 0]) ∧ OwnL X.heap.size W' v E ∧ Below X.heap.size X W'))
    (H2 : Hid (∀ X v, PageAt X v ms → Calls Try.prog 13 #[v, .int .i64 p] X fun e W' => ∃ v, e = .returned (.tuple #[v, .int .i64 0]) ∧ OwnN X.heap.size W' v zs ∧ Below X.heap.size X W'))
    (H3 : Hid (∀ X v, PageAt X v ms → Calls Try.prog 14 #[v, .int .i64 p] X fun e W' => e = .returned (.int .i64 0) ∧ Below X.heap.size X W'))
    (R1 : Hid (∀ X v, PageAt X v ms → Calls Try.prog 16 #[v, .int .i64 p] X fun e W' => ∃ v, e = .returned v ∧ OwnL X.heap.size W' v E ∧ Below X.heap.size X W'))
    (R2 : Hid (∀ X v, PageAt X v ms → Calls Try.prog 18 #[v, .int .i64 p] X fun e W' => ∃ v, e = .returned v ∧ OwnN X.heap.size W' v zs ∧ Below X.heap.size X W')) :
    Calls Try.prog 3 #[lv, .int .i64 p] w fun e w' => e = .returned (.bool true) ∧ Below w.heap.size w w' := by
  obtain ⟨q, cap, rfl⟩ := HP.out.form
  generalize ns.length = l0 at *
  go_enter Try.func3, Try.ntmps3
  go_wp2_with (go_at_call 10; refine (shown6_any _).mono ?_; rintro e w1 ⟨rfl, hb1⟩; have HP1 := Lib.hid (HP.out.below hb1); have HB1 := Lib.hid hb1; clear hb1 HP)
  go_wp2_with (go_at_call 11; refine (HC.out _ _ HP1.out).mono ?_; rintro e w2 ⟨q, c, rfl, hp2, hb2⟩; have HP2 := Lib.hid hp2; have HB2 := Lib.hid (HB1.out.trans (hb2.mono HB1.out.size)); clear hp2 hb2 HP1 HB1 HC)
  generalize ms.length = m at *
  go_wp2_with (go_at_call 12; refine (H1.out _ _ HP2.out).mono ?_; rintro e w3 ⟨vr, rfl, o3, hb3⟩; have HP3 := Lib.hid (HP2.out.below hb3); have HL3 := Lib.hid o3.lanes; have HB3 := Lib.hid (HB2.out.trans (hb3.mono HB2.out.size)); clear o3 hb3 HP2 HB2 H1)
  go_wp2_with (go_at_call 13; refine (H2.out _ _ HP3.out).mono ?_; rintro e w4 ⟨vc, rfl, o4, hb4⟩; have T4 : Hid (RW (.slice q m c) vr vc ms E zs w w4) := Lib.hid ⟨HP3.out.below hb4, HL3.out.below hb4, (ints_own o4).1, HB3.out.trans (hb4.mono HB3.out.size)⟩; clear o4 hb4 HP3 HB3 HL3 H2)
  go_wp2_with (go_at_call 14; refine (H3.out _ _ T4.out.1).mono ?_; rintro e w5 ⟨rfl, hb5⟩; have T5 := Lib.hid (T4.out.go hb5); clear hb5 T4 H3)
  go_wp2_with (go_at_call 16; refine (R1.out _ _ T5.out.1).mono ?_; rintro e w6 ⟨ur, rfl, o6, hb6⟩; have T6 := Lib.hid (T5.out.go hb6); have L6 := Lib.hid o6.lanes; clear o6 hb6 T5 R1)
  go_wp2_with (go_at_call 15; refine (lsame_any vr ur E E _ T6.out.2.1 L6.out).mono ?_; rintro e w7 ⟨rfl, hb7⟩; have T7 := Lib.hid (T6.out.go hb7); clear hb7 T6 L6; rw [show decide (E = E) = true from by simp])
  go_wp2_with (go_at_call 18; refine (R2.out _ _ T7.out.1).mono ?_; rintro e w8 ⟨uc, rfl, o8, hb8⟩; have T8 := Lib.hid (T7.out.go hb8); have I8 := Lib.hid (ints_own o8).1; clear o8 hb8 T7 R2)
  go_wp2_with (go_at_call 17; refine (ints_any vc uc zs zs _ T8.out.2.2.1 I8.out).mono ?_; rintro e w9 ⟨rfl, n9, rfl⟩; have T9 := Lib.hid (T8.out.go (below_dn w8.heap.size w8 n9)); clear T8 I8; rw [show decide (zs = zs) = true from by simp])
  go_ret
  exact ⟨by simp, T9.out.2.2.2⟩
theorem walk (w : World) (a0 : Option Addr) (len0 cap0 : Nat) (ns : List Nd) (h : PageAt w (.slice a0 len0 cap0) ns) (p : Int) (hp : (Lit.int .i64 p).wf = true) :
    Calls Try.prog 3 #[.slice a0 len0 cap0, .int .i64 p] w fun e w' => e = .returned (.bool true) ∧ Below w.heap.size w w' := by
  have hK := fun n (hn : n ∈ cutP ns) => (cutP_both ns n hn).1
  have HC := Lib.hid fun X v (hP : PageAt X v ns) => cut_post v ns X hP
  generalize cutP ns = ms at *
  by_cases hc : lchkP ms p = 0
  · obtain ⟨F, j, rfl, hj, hk⟩ := lchk_ok hc
    have hO := F.ok hK
    have hlk : ∀ n ∈ ms, ∀ z ∈ n.ks, 0 ≤ z ∧ z < (ms.length : Int) := fun n hn z hz => by have := F.link n hn z hz; omega
    refine rws_good _ j ns ms w (rowsP ms j) (captP ms j) (Lib.hid h) HC (Lib.hid fun X v hP => rowsF_good v j _ X hP hK F hj hk) (Lib.hid fun X v hP => captF_good v j _ X hP hK F hj hk) (Lib.hid fun X v hP => ?_) (Lib.hid fun X v hP => ?_) (Lib.hid fun X v hP => ?_)
    · have h := refLchk_any v (j : Int) ms X hP hK
      rw [hc] at h; exact h
    · obtain ⟨q, cap, rfl⟩ := hP.form
      obtain ⟨b, off, rfl, _, _⟩ := page_cells hP F.len1
      exact refRows_at b off cap _ j ms X hO rfl hj F.len2 hP hK hlk (F.tr.kf_nodup _)
    · obtain ⟨q, cap, rfl⟩ := hP.form
      obtain ⟨b, off, rfl, _, _⟩ := page_cells hP F.len1
      exact refCapt_at b off cap _ j ms X rfl hj F.len2 hP hK hlk
  · exact rws_bad _ p ns ms w _ hc (Lib.hid h) HC (Lib.hid fun X v hP => rowsF_not v p _ X hP hK hc) (Lib.hid fun X v hP => captF_not v p _ X hP hK hc) (Lib.hid fun X v hP => refLchk_any v p _ X hP hK)

set_option maxRecDepth 100000 in
theorem lifted (os : Os) (started : os.Started) (H : Type) (enc : TypeId × Value → H) :
    ReturnsInHanded {} Try.checked os 3 .any (Rows.lanesRowsSpec.pre6 enc Try.prog Try.f3 Rows.lanesRowsRow.domain false) (Rows.lanesRowsSpec.post enc Try.prog Try.f3 false true false false) := by
  refine returnsInHanded_of_change (C := Try.checked) own started (by kernel_rfl) Try.func3
    (ChangeSpec.witness6 (enc := enc) (C := Try.checked) false ⟨#[], #[.slice none 0 0, .int .i64 0], []⟩ 8 (by kernel_rfl) (by kernel_rfl) (by kernel_rfl) (by kernel_rfl)) ?_
  intro W base args ds gs before hval0 hW hcnd _
  have hval : ∀ (j : Nat) t v, Try.f3.params[j]? = some t → args[j]? = some v → Value.okWide Try.prog W .any base t v := hval0
  have hW' := hW
  obtain ⟨p, q, hA0, hV, rfl, hfz, hnd⟩ := hW
  have hA : DataW.TrodAll enc Try.prog W 0 (fun _ => true) true Try.f3.params.toList args.toList ds p := hA0
  rw [Try.params3] at hA hval
  obtain ⟨v0, vs0, d0, ds0, p0, q0, hargs, rfl, rfl, h0, r0⟩ := trodAll_cons hA
  obtain ⟨v1, vs1, d1, ds1, p1, q1, rfl, rfl, rfl, h1, r1⟩ := trodAll_cons r0
  obtain ⟨rfl, rfl, rfl⟩ := trodAll_nil r1
  obtain rfl : args = #[v0, v1] := by cases args; simp_all
  obtain ⟨rfl, rfl⟩ := trodVars_none hV
  obtain ⟨a0, len0, cap0, rfl⟩ := okWide_slice Try.underlying22 (hval 0 22 v0 rfl rfl)
  have k0 := h0
  have lt0 : ∀ x ∈ p0, x.block < W.heap.size := by obtain ⟨m, hm⟩ := k0; exact DataW.trod_lt m _ _ _ hm
  obtain ⟨z0, w0⟩ : ∃ ns, PageAt W (.slice a0 len0 cap0) ns := by
    obtain ⟨fuel, hf⟩ := h0
    obtain ⟨ns, hn, _⟩ := open_nodes (by simpa [Value.cells] using hf)
    exact ⟨ns, hn⟩
  obtain ⟨a1, rfl, rfl, rfl, w1⟩ := open_int Try.underlying3 (hval 1 3 v1 rfl rfl) h1
  clear hA0 hval0
  simp only [List.append_nil] at hW'
  refine (walk W a0 len0 cap0 z0 w0 a1 w1).mono fun e W' ⟨he, hg⟩ => ?_
  subst he
  exact ⟨_, rfl, _, _, _, [], _, [], hW', (trodAll_cons_mk (shut_bool Try.underlying4 _) trodAll_mk0), (trodAll_cons_mk (Below.trod laidOut (by kernel_rfl) (of_decide_eq_true (by kernel_rfl)) k0 hg lt0) (trodAll_cons_mk (shut_int Try.underlying3 w1) trodAll_mk0)), rfl, hg.frame _, fun h => by cases h⟩

theorem over : Rows.lanesRowsRow.holds Try.pinned (OpenSpec.ofChange Rows.lanesRowsSpec) :=
  OpenClaim.holds_of_wide 3 Try.f3 rfl rfl rfl rfl rfl rfl rfl ⟨rfl, rfl, rfl, rfl, rfl⟩ rfl rfl rfl rfl rfl (by kernel_rfl) Try.func3 (by kernel_rfl)
    (of_decide_eq_true (by kernel_rfl)) (by unfold Func.isWrapper; first | (rw [if_pos (by decide +kernel)]; kernel_rfl) | (rw [if_neg (by decide +kernel)]; exact ⟨rfl, rfl⟩))
    (fun os started H enc _ => lifted os started H enc)

/-- the statement -/
theorem proved : Rows.LanesRowsSaid :=
  over
#print axioms proved
end Go.Proofs.Ytdljgdmodobjpaa.lanesRows
