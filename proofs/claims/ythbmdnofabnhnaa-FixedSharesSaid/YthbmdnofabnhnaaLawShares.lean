/- A length is shared out as the document says: for every length and weights, the first two hundred of them. -/
import Derived.Test.YthbmdnofabnhnaaRows
import Derived.WalkKit
import Derived.ProofKit
import Derived.OpenShut
import Derived.ShutString
import Derived.ChangeOld
import Derived.Below
import Derived.Test.YthbmdnofabnhnaaStEnd2
namespace Go.Proofs.Ythbmdnofabnhnaa.fixedShares
open Go.ChangeShapes Go.WideShapes Go.ChangeAt Go.RowKit
open Go.ChangeMaps (open_string shut_string)
set_option linter.unusedVariables false

theorem own : ownKnob Try.prog.godebug = none := by kernel_rfl
theorem laidOut : laidOutB Try.prog = true := by kernel_rfl

/-- WHAT THE WALK IS TOLD OF A SLICE OF INTEGERS THAT CAME IN: it is nil; or it leads to a row of 'cap' cells, the numbers 'zs' (the first 'len' are its elements, the rest its spare room), each fitting its kind. -/
def IsRow (k : IntKind) (w : World) (a : Option Addr) (len cap : Nat) (zs : List Int) : Prop :=
  (a = none ∧ len = 0 ∧ cap = 0 ∧ zs = []) ∨
  ∃ x, a = some x ∧ len ≤ cap ∧ cap ≤ maxLen ∧ zs.length = cap ∧ (∀ i, i < zs.length → w.cell? (x.add i) = some (.int k (zs.getD i 0))) ∧ ∀ n ∈ zs, (Lit.int k n).wf = true

theorem row_nums {w : World} {a : Option Addr} {len cap : Nat} {zs : List Int} (h : IsRow .i64 w a len cap zs) : Nums .i64 w (.slice a len cap) (zs.take len) ∧ In64 (zs.take len) := by
  rcases h with ⟨rfl, rfl, rfl, rfl⟩ | ⟨x, rfl, hl, hm, hz, hc, hw⟩
  · exact ⟨⟨by simp, .inl ⟨none, 0, rfl, by omega, rfl⟩⟩, fun j hj => by simp at hj⟩
  · have hlen : (zs.take len).length = len := by rw [List.length_take]; omega
    unfold maxLen at hm
    refine ⟨?_, fun j hj => ?_⟩
    · by_cases h0 : len = 0
      · subst h0; exact ⟨by simp, .inl ⟨some x, cap, rfl, by omega, by simp⟩⟩
      · obtain ⟨b, off, rfl, hcc⟩ := ints_at hc (by omega)
        refine ⟨by omega, .inr ⟨b, off, cap, by rw [hlen], by omega, by omega, fun j hj => ?_⟩⟩
        rw [hlen] at hj
        rw [hcc j (by omega)]
        simp [List.getElem?_take, hj]
    · rw [hlen] at hj
      have hj' : j < zs.length := by omega
      have := bounds_i64 (hw zs[j] (List.getElem_mem hj'))
      simp [List.getElem?_take, hj, hj']; exact this
theorem nums_sl {k : IntKind} {w : World} {v : Value} {zs : List Int} (h : Nums k w v zs) : ∃ a cap, v = .slice a zs.length cap ∧ cap ≤ 9223372036854775807 := by
  obtain ⟨_, ⟨a, cap, rfl, hc, rfl⟩ | ⟨b, off, cap, rfl, _, hc, _⟩⟩ := h
  · exact ⟨a, cap, rfl, hc⟩
  · exact ⟨_, cap, rfl, hc⟩
theorem cut_ws (sv : Value) (zs ws : List Int) (hw : zs.take 200 = ws) (w : World) (hI : Nums .i64 w sv zs) : Calls Try.prog 8 #[sv] w fun e w' => w = w' ∧ ∃ v, e = .returned v ∧ Nums .i64 w v ws := by
  rw [← hw]; exact cut_any sv zs w hI
theorem nums_open {k : IntKind} {w : World} {a : Option Addr} {n cap : Nat} {zs : List Int} (h : Nums k w (.slice a n cap) zs) (h0 : zs.length = n) (h1 : 0 < n) : ∃ b off, a = some ⟨b, off, none⟩ ∧ ∀ j, j < n → w.cell? ⟨b, off + j, none⟩ = some (.int k (zs[j]?.getD 0)) := by
  obtain ⟨_, ⟨_, _, _, _, hnil⟩ | ⟨b, off, c, e, _, _, hc⟩⟩ := h
  · rw [hnil] at h0; simp at h0; omega
  · injection e with e1 e2 e3
    exact ⟨b, off, e1, fun j hj => hc j (by omega)⟩
set_option maxHeartbeats 1000000 in
theorem shares_bad1 (sv : Value) (zs ws : List Int) (t : Int) (w : World) (hI : Nums .i64 w sv zs) (hws : zs.take 200 = ws) (hm : mayB t ws.length = false) :
    Calls Try.prog 3 #[.int .i64 t, sv] w fun e w' => e = .returned (.bool true) ∧ Below w.heap.size w w' := by
  have HI := Lib.hid hI
  have HM := Lib.hid hm
  have hlen : ws.length ≤ 200 := by rw [← hws, List.length_take]; omega
  have HWS := Lib.hid hws
  clear hI hm hws
  go_enter Try.func3, Try.ntmps3
  go_wp2_with fail
  refine (shown_any _).mono ?_
  rintro e w1 ⟨rfl, hb1⟩
  have HB1 := Lib.hid hb1
  clear hb1
  go_wp2_with fail
  refine (cut_ws _ zs ws HWS.out _ (HI.out.below HB1.out)).mono ?_
  rintro e w2 ⟨rfl, v1, rfl, hv1⟩
  obtain ⟨a1, cap1, rfl, hcap1⟩ := nums_sl hv1
  have HV1 := Lib.hid hv1
  clear hv1
  go_wp2_with fail
  refine (share_bad1 _ _ _ t _ (by omega) HM.out).mono ?_
  rintro e w3 ⟨rfl, rfl⟩
  go_wp2_with fail
  refine (cut_ws _ zs ws HWS.out _ (HI.out.below HB1.out)).mono ?_
  rintro e w4 ⟨rfl, v2, rfl, hv2⟩
  obtain ⟨a2, cap2, rfl, hcap2⟩ := nums_sl hv2
  clear hv2
  go_wp2_with fail
  refine (refShare_bad1 _ _ _ t _ (by omega) HM.out).mono ?_
  rintro e w5 ⟨rfl, rfl⟩
  go_wp2_with fail
  refine (same_none none none 0 0 _).mono ?_
  rintro e w' ⟨rfl, nn, rfl⟩
  go_wp2
  go_ret
  exact ⟨rfl, HB1.out.trans (below_dn _ _ _)⟩
set_option maxHeartbeats 1000000 in
theorem shares_bad2 (sv : Value) (zs ws : List Int) (t : Int) (w : World) (hI : Nums .i64 w sv zs) (hws : zs.take 200 = ws) (hm : mayB t ws.length = true) (hn : ¬ OkW ws) :
    Calls Try.prog 3 #[.int .i64 t, sv] w fun e w' => e = .returned (.bool true) ∧ Below w.heap.size w w' := by
  have hb : (1 : Int) ≤ ws.length := by simp [mayB] at hm; omega
  have HI := Lib.hid hI
  have HM := Lib.hid hm
  have HN := Lib.hid hn
  have hlen : ws.length ≤ 200 := by rw [← hws, List.length_take]; omega
  have HWS := Lib.hid hws
  clear hI hm hn hws
  go_enter Try.func3, Try.ntmps3
  go_wp2_with fail
  refine (shown_any _).mono ?_
  rintro e w1 ⟨rfl, hb1⟩
  have HB1 := Lib.hid hb1
  clear hb1
  go_wp2_with fail
  refine (cut_ws _ zs ws HWS.out _ (HI.out.below HB1.out)).mono ?_
  rintro e w2 ⟨rfl, v1, rfl, hv1⟩
  obtain ⟨a1, cap1, rfl, hcap1⟩ := nums_sl hv1
  have HV1 := Lib.hid hv1
  clear hv1
  go_wp2_with fail
  refine (share_bad2 _ _ t _ _ HV1.out HM.out HN.out).mono ?_
  rintro e w3 ⟨rfl, hb2⟩
  have HB2 := Lib.hid (HB1.out.trans (hb2.mono HB1.out.size))
  clear hb2
  go_wp2_with fail
  refine (cut_ws _ zs ws HWS.out _ (HI.out.below HB2.out)).mono ?_
  rintro e w4 ⟨rfl, v2, rfl, hv2⟩
  obtain ⟨a2, cap2, rfl, hcap2⟩ := nums_sl hv2
  obtain ⟨b2, off2, rfl, hcc⟩ := nums_open hv2 rfl (by omega)
  have HCC := Lib.hid hcc
  clear hv2 hcc
  go_wp2_with fail
  refine (refShare_bad2 b2 off2 cap2 _ t ws _ rfl HCC.out HM.out HN.out).mono ?_
  rintro e w5 ⟨rfl, rfl⟩
  go_wp2_with fail
  refine (same_none none none 0 0 _).mono ?_
  rintro e w' ⟨rfl, nn, rfl⟩
  go_wp2
  go_ret
  exact ⟨rfl, HB2.out.trans (below_dn _ _ _)⟩
theorem refShare_good (b off cap n : Nat) (t : Int) (zs : List Int) (w : World) (hn : zs.length = n) (hc : ∀ j, j < n → w.cell? ⟨b, off + j, none⟩ = some (.int .i64 (zs[j]?.getD 0))) (h : mayB t n = true) (hok : OkW zs) :
    Calls Try.prog 9 #[.int .i64 t, .slice (some ⟨b, off, none⟩) n cap] w fun e w' => (∃ v, e = .returned (.tuple #[v, .int .i64 0]) ∧ Nums .i64 w' v (shareL (ordS n) t (counted zs))) ∧ Below w.heap.size w w' := by
  have hb : 0 ≤ t ∧ (1 : Int) ≤ n ∧ (n : Int) ≤ 10000 := by simp [mayB] at h; omega
  have hs0 := (sumZ_bd zs hok).1
  by_cases h0 : sumZ zs = 0
  · refine (refShare_zero b off cap n t zs w hn hc h hok h0).mono fun e w' ⟨⟨v, he, hv⟩, hb2⟩ => ⟨⟨v, he, ?_⟩, hb2⟩
    have hcnt : counted zs = List.replicate n 1 := by unfold counted; rw [if_pos h0, hn]
    have hrep := shareS_rep t 1 n (by omega) (by omega) hb.1
    unfold shareS at hrep
    rw [List.length_replicate] at hrep
    rw [hcnt, hrep]
    exact hv.nums (by rw [evenL_length]; omega)
  · have hcnt : counted zs = zs := by unfold counted; rw [if_neg h0]
    rw [hcnt]
    exact refShare_main b off cap n t (sumZ zs) zs w hn hc h hok rfl (by omega)
set_option maxHeartbeats 1000000 in
theorem shares_good (sv : Value) (zs ws : List Int) (t : Int) (w : World) (hI : Nums .i64 w sv zs) (hws : zs.take 200 = ws) (hm : mayB t ws.length = true) (hok : OkW ws) :
    Calls Try.prog 3 #[.int .i64 t, sv] w fun e w' => e = .returned (.bool true) ∧ Below w.heap.size w w' := by
  have hb : (1 : Int) ≤ ws.length := by simp [mayB] at hm; omega
  have HI := Lib.hid hI
  have HM := Lib.hid hm
  have HOK := Lib.hid hok
  have hlen : ws.length ≤ 200 := by rw [← hws, List.length_take]; omega
  have HWS := Lib.hid hws
  obtain ⟨m, hmm⟩ : ∃ m, ws.length = m + 1 := ⟨ws.length - 1, by omega⟩
  have hsh := fun X a0 cap => share_good (ordS ws.length) a0 cap t ws X (by rw [hmm]; exact order_at m (by omega))
  have hrf := fun b off cap X => refShare_good b off cap ws.length t ws X rfl
  obtain ⟨A, hAA⟩ : ∃ A, shareL (ordS ws.length) t (counted ws) = A := ⟨_, rfl⟩
  have hAl : A.length = ws.length := by rw [← hAA]; simp [shareL, incL_length, baseL, counted_length]
  rw [hAA] at hsh hrf
  have HSH := Lib.hid hsh
  have HRF := Lib.hid hrf
  have HAL := Lib.hid hAl
  clear hI hm hok hsh hrf hAA hmm hws hAl
  go_enter Try.func3, Try.ntmps3
  go_wp2_with fail
  refine (shown_any _).mono ?_
  rintro e w1 ⟨rfl, hb1⟩
  have HB1 := Lib.hid hb1
  clear hb1
  go_wp2_with fail
  refine (cut_ws _ zs ws HWS.out _ (HI.out.below HB1.out)).mono ?_
  rintro e w2 ⟨rfl, v1, rfl, hv1⟩
  obtain ⟨a1, cap1, rfl, hcap1⟩ := nums_sl hv1
  have HV1 := Lib.hid hv1
  clear hv1
  go_wp2_with fail
  refine (HSH.out _ _ _ HV1.out HM.out HOK.out).mono ?_
  rintro e w3 ⟨⟨v, rfl, hv⟩, hb3⟩
  have HV := Lib.hid (hv.nums (by rw [HAL.out]; omega))
  have HB2 := Lib.hid (HB1.out.trans (hb3.mono HB1.out.size))
  clear hv hb3 HV1
  go_wp2_with fail
  refine (cut_ws _ zs ws HWS.out _ (HI.out.below HB2.out)).mono ?_
  rintro e w4 ⟨rfl, v2, rfl, hv2⟩
  obtain ⟨a2, cap2, rfl, hcap2⟩ := nums_sl hv2
  obtain ⟨b2, off2, rfl, hcc⟩ := nums_open hv2 rfl (by omega)
  have HCC := Lib.hid hcc
  clear hv2 hcc
  go_wp2_with fail
  refine (HRF.out b2 off2 cap2 _ HCC.out HM.out HOK.out).mono ?_
  rintro e w5 ⟨⟨v', rfl, hv'⟩, hb5⟩
  have HV2 := Lib.hid (HV.out.below hb5)
  have HV' := Lib.hid hv'
  have HB5 := Lib.hid (HB2.out.trans (hb5.mono HB2.out.size))
  clear hv' hb5 HV
  go_wp2_with fail
  refine (same_true _ _ _ _ HV2.out HV'.out).mono ?_
  rintro e w' ⟨rfl, nn, rfl⟩
  go_wp2
  go_ret
  exact ⟨rfl, HB5.out.trans (below_dn _ _ _)⟩
theorem shares (sv : Value) (zs : List Int) (t : Int) (w : World) (hI : Nums .i64 w sv zs) :
    Calls Try.prog 3 #[.int .i64 t, sv] w fun e w' => e = .returned (.bool true) ∧ Below w.heap.size w w' := by
  cases hm : mayB t (zs.take 200).length with
  | false => exact shares_bad1 sv zs _ t w hI rfl hm
  | true =>
    by_cases hok : OkW (zs.take 200)
    · exact shares_good sv zs _ t w hI rfl hm hok
    · exact shares_bad2 sv zs _ t w hI rfl hm hok
theorem walk (a0 : Int) (a1 : Option Addr) (len1 cap1 : Nat) (z1 : List Int) (w : World) (w0 : (Lit.int .i64 a0).wf = true) (w1 : IsRow .i64 w a1 len1 cap1 z1) :
    Calls Try.prog 3 #[.int .i64 a0, .slice a1 len1 cap1] w fun e w' => e = .returned (.bool true) ∧ Below w.heap.size w w' := by
  have hr := row_nums w1
  exact shares _ _ a0 w hr.1

set_option maxRecDepth 100000 in
theorem lifted (os : Os) (started : os.Started) (H : Type) (enc : TypeId × Value → H) :
    ReturnsInHanded {} Try.checked os 3 .any (Rows.fixedSharesSpec.pre6 enc Try.prog Try.f3 Rows.fixedSharesRow.domain false) (Rows.fixedSharesSpec.post enc Try.prog Try.f3 false true false false) := by
  refine returnsInHanded_of_change (C := Try.checked) own started (by kernel_rfl) Try.func3
    (ChangeSpec.witness6 (enc := enc) (C := Try.checked) false ⟨#[], #[.int .i64 0, .slice none 0 0], []⟩ 8 (by kernel_rfl) (by kernel_rfl) (by kernel_rfl) (by kernel_rfl)) ?_
  intro W base args ds gs before hval0 hW hcnd _
  have hval : ∀ (j : Nat) t v, Try.f3.params[j]? = some t → args[j]? = some v → Value.okWide Try.prog W .any base t v := hval0
  have hW' := hW
  obtain ⟨p, q, hA0, hV, rfl, hfz, hnd⟩ := hW
  have hA : DataW.TrodAll enc Try.prog W 0 (fun _ => true) true Try.f3.params.toList args.toList ds p := hA0
  rw [Try.params3] at hA hval
  obtain ⟨v0, vs0, d0, ds0, p0, q0, hargs, rfl, rfl, h0, r0⟩ := trodAll_cons hA
  obtain ⟨v1, vs1, d1, ds1, p1, q1, rfl, rfl, rfl, h1, r1⟩ := trodAll_cons r0
  obtain ⟨rfl, rfl, rfl⟩ := trodAll_nil r1
  obtain rfl : args = #[v0, v1] := by cases args; simp_all
  obtain ⟨rfl, rfl⟩ := trodVars_none hV
  obtain ⟨a0, rfl, rfl, rfl, w0⟩ := open_int Try.underlying2 (hval 0 2 v0 rfl rfl) h0
  obtain ⟨a1, len1, cap1, rfl⟩ := okWide_slice Try.underlying22 (hval 1 22 v1 rfl rfl)
  have k1 := h1
  have lt1 : ∀ x ∈ p1, x.block < W.heap.size := by obtain ⟨m, hm⟩ := k1; exact DataW.trod_lt m _ _ _ hm
  obtain ⟨z1, w1⟩ : ∃ zs, IsRow .i64 W a1 len1 cap1 zs := by
    obtain ⟨fuel, hf⟩ := h1
    rcases open_ints Try.underlying22 Try.underlying2 (by kernel_rfl) hf with ⟨hcs, _⟩ | ⟨x, l, c, zs, hcs, _, hl, hm, hz, _, hcell, hwz⟩
    · simp [Value.cells] at hcs
      obtain ⟨rfl, rfl, rfl⟩ := hcs
      exact ⟨[], .inl ⟨rfl, rfl, rfl, rfl⟩⟩
    · simp [Value.cells] at hcs
      obtain ⟨rfl, rfl, rfl⟩ := hcs
      exact ⟨zs, .inr ⟨_, rfl, hl, hm, by simpa using hz, hcell, hwz⟩⟩
  clear hA0 hval0
  refine (walk a0 a1 len1 cap1 z1 W w0 w1).mono fun e W' ⟨he, bel⟩ => ?_
  subst he
  exact ⟨_, rfl, _, _, _, [], _, [], hW', trodAll_mk1 (shut_bool Try.underlying4 _), (trodAll_cons_mk (shut_int Try.underlying2 w0) (trodAll_cons_mk (Below.trod laidOut (by kernel_rfl) (of_decide_eq_true (by kernel_rfl)) k1 bel lt1) trodAll_mk0)), rfl, bel.frame _, fun h => by cases h⟩

theorem over : Rows.fixedSharesRow.holds Try.pinned (OpenSpec.ofChange Rows.fixedSharesSpec) :=
  OpenClaim.holds_of_wide 3 Try.f3 rfl rfl rfl rfl rfl rfl rfl ⟨rfl, rfl, rfl, rfl, rfl⟩ rfl rfl rfl rfl rfl (by kernel_rfl) Try.func3 (by kernel_rfl)
    (of_decide_eq_true (by kernel_rfl)) (by unfold Func.isWrapper; first | (rw [if_pos (by decide +kernel)]; kernel_rfl) | (rw [if_neg (by decide +kernel)]; exact ⟨rfl, rfl⟩))
    (fun os started H enc _ => lifted os started H enc)

/-- ████ THE STATEMENT ████ -/
theorem proved : Rows.FixedSharesSaid := over
#print axioms proved
end Go.Proofs.Ythbmdnofabnhnaa.fixedShares
