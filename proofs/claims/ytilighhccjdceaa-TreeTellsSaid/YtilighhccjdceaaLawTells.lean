/- Order, depths, parents and computed page are the document's, or its error: for every page. -/
import Derived.Test.YtilighhccjdceaaRows
import Derived.WalkKit
import Derived.ProofKit
import Derived.OpenShut
import Derived.Below
import Derived.Test.YtilighhccjdceaaTRefChk
import Derived.Test.YtilighhccjdceaaTRefComp
import Derived.Test.YtilighhccjdceaaTSame
import Derived.Test.YtilighhccjdceaaTLaw
import Derived.Test.YtilighhccjdceaaTShown
import Derived.ShutString
namespace Go.Proofs.Ytilighhccjdceaa.treeTells
open Go.ChangeShapes Go.WideShapes Go.ChangeAt Go.RowKit
set_option linter.unusedVariables false

theorem own : ownKnob Try.prog.godebug = none := by kernel_rfl
theorem laidOut : laidOutB Try.prog = true := by kernel_rfl

/-- lists that lie in a world, beside the page -/
def TW (v : Value) (ms : List Nd) (L : List (Value × List Int)) (w X : World) : Prop := PageAt X v ms ∧ (∀ x ∈ L, Ints X x.1 x.2) ∧ Below w.heap.size w X
theorem TW.go {v : Value} {ms : List Nd} {L : List (Value × List Int)} {w X Y : World} (h : TW v ms L w X) (hb : Below X.heap.size X Y) : TW v ms L w Y := ⟨h.1.below hb, fun x hx => (h.2.1 x hx).below hb, h.2.2.trans (hb.mono h.2.2.size)⟩
theorem TW.add {v : Value} {ms : List Nd} {L : List (Value × List Int)} {w X Y : World} (h : TW v ms L w X) (hb : Below X.heap.size X Y) {u : Value} {zs : List Int} (hi : Ints Y u zs) : TW v ms ((u, zs) :: L) w Y :=
  ⟨h.1.below hb, fun x hx => by
    rcases List.mem_cons.1 hx with e | e
    · subst e; exact hi
    · exact (h.2.1 x e).below hb, h.2.2.trans (hb.mono h.2.2.size)⟩
set_option maxRecDepth 100000 in
set_option maxHeartbeats 4000000 in
theorem tells_bad (lv : Value) (ns ms : List Nd) (w : World) (a b : Int) (hb : b ≠ 0) (HP : Hid (PageAt w lv ns))
    (HC : Hid (∀ X v, PageAt X v ns → Calls Try.prog 9 #[v] X (CutPost ms X)))
    (H1 : Hid (∀ X v, PageAt X v ms → Calls Try.prog 11 #[v] X fun e W' => e = .returned (.tuple #[.slice none 0 0, .int .i64 b]) ∧ Below X.heap.size X W'))
    (H2 : Hid (∀ X v, PageAt X v ms → Calls Try.prog 12 #[v] X fun e W' => e = .returned (.tuple #[.slice none 0 0, .int .i64 b]) ∧ Below X.heap.size X W'))
    (H3 : Hid (∀ X v, PageAt X v ms → Calls Try.prog 13 #[v] X fun e W' => e = .returned (.tuple #[.slice none 0 0, .int .i64 b]) ∧ Below X.heap.size X W'))
    (H4 : Hid (∀ X v, PageAt X v ms → Calls Try.prog 14 #[v] X fun e W' => e = .returned (.tuple #[.slice none 0 0, .int .i64 b]) ∧ Below X.heap.size X W'))
    (H5 : Hid (∀ X v, PageAt X v ms → Calls Try.prog 10 #[v] X fun e W' => e = .returned (.tuple #[.int .i64 a, .int .i64 b]) ∧ Below X.heap.size X W')) :
    Calls Try.prog 4 #[lv] w fun e w' => e = .returned (.bool true) ∧ Below w.heap.size w w' := by
  have hb' : (b != 0) = true := by simpa using hb
  obtain ⟨q, cap, rfl⟩ := HP.out.form
  generalize ns.length = l0 at *
  go_enter Try.func4, Try.ntmps4
  go_wp2_with (go_at_call 7; refine (shown_any _).mono ?_; rintro e w1 ⟨rfl, hb1⟩; have HP1 := Lib.hid (HP.out.below hb1); have HB1 := Lib.hid hb1; clear hb1 HP)
  go_wp2_with (go_at_call 9; refine (HC.out _ _ HP1.out).mono ?_; rintro e w2 ⟨q, c, rfl, hp2, hb2⟩; have T2 : Hid (TW (.slice q ms.length c) ms [] w w2) := Lib.hid ⟨hp2, fun x hx => by simp at hx, HB1.out.trans (hb2.mono HB1.out.size)⟩; clear hp2 hb2 HP1 HB1 HC)
  generalize ms.length = m at *
  go_wp2_with (go_at_call 11; refine (H1.out _ _ T2.out.1).mono ?_; rintro e w3 ⟨rfl, hb3⟩; have T3 := Lib.hid (T2.out.go hb3); clear hb3 T2 H1)
  go_wp2_with (go_at_call 12; refine (H2.out _ _ T3.out.1).mono ?_; rintro e w4 ⟨rfl, hb4⟩; have T4 := Lib.hid (T3.out.go hb4); clear hb4 T3 H2)
  go_wp2_with (go_at_call 13; refine (H3.out _ _ T4.out.1).mono ?_; rintro e w5 ⟨rfl, hb5⟩; have T5 := Lib.hid (T4.out.go hb5); clear hb5 T4 H3)
  go_wp2_with (go_at_call 14; refine (H4.out _ _ T5.out.1).mono ?_; rintro e w6 ⟨rfl, hb6⟩; have T6 := Lib.hid (T5.out.go hb6); clear hb6 T5 H4)
  go_wp2_with (go_at_call 10; refine (H5.out _ _ T6.out.1).mono ?_; rintro e w7 ⟨rfl, hb7⟩; have T7 := Lib.hid (T6.out.go hb7); clear hb7 T6 H5)
  go_ret
  exact ⟨by simp, T7.out.2.2⟩
set_option maxRecDepth 100000 in
set_option maxHeartbeats 4000000 in
theorem tells_good (lv : Value) (ns ms : List Nd) (w : World) (h1 : 1 ≤ ms.length) (h2 : ms.length ≤ 65536) (HP : Hid (PageAt w lv ns)) (o d p : List Int)
    (HC : Hid (∀ X v, PageAt X v ns → Calls Try.prog 9 #[v] X (CutPost ms X)))
    (H1 : Hid (∀ X v, PageAt X v ms → Calls Try.prog 11 #[v] X fun e W' => (∃ u, e = .returned (.tuple #[u, .int .i64 0]) ∧ Ints W' u o) ∧ Below X.heap.size X W'))
    (H2 : Hid (∀ X v, PageAt X v ms → Calls Try.prog 12 #[v] X fun e W' => (∃ u, e = .returned (.tuple #[u, .int .i64 0]) ∧ Ints W' u d) ∧ Below X.heap.size X W'))
    (H3 : Hid (∀ X v, PageAt X v ms → Calls Try.prog 13 #[v] X fun e W' => (∃ u, e = .returned (.tuple #[u, .int .i64 0]) ∧ Ints W' u p) ∧ Below X.heap.size X W'))
    (H4 : Hid (∀ X v, PageAt X v ms → Calls Try.prog 14 #[v] X (CompPost ms X)))
    (H5 : Hid (∀ X v, PageAt X v ms → Calls Try.prog 10 #[v] X fun e W' => e = .returned (.tuple #[.int .i64 0, .int .i64 0]) ∧ Below X.heap.size X W'))
    (R1 : Hid (∀ X v, PageAt X v ms → Calls Try.prog 16 #[v] X fun e W' => ∃ u, e = .returned u ∧ Ints W' u o ∧ Below X.heap.size X W'))
    (R2 : Hid (∀ X v, PageAt X v ms → Calls Try.prog 17 #[v] X fun e W' => ∃ u, e = .returned u ∧ Ints W' u d ∧ Below X.heap.size X W'))
    (R3 : Hid (∀ X v, PageAt X v ms → Calls Try.prog 18 #[v] X fun e W' => ∃ u, e = .returned u ∧ Ints W' u p ∧ Below X.heap.size X W'))
    (R4 : Hid (∀ X v, PageAt X v ms → Calls Try.prog 20 #[v] X fun e W' => ∃ u, e = .returned u ∧ PageAt W' u (ms.map compQ) ∧ Below X.heap.size X W')) :
    Calls Try.prog 4 #[lv] w fun e w' => e = .returned (.bool true) ∧ Below w.heap.size w w' := by
  have HLN : Hid (∀ ns', CompPg ms ns' → 1 ≤ ns'.length ∧ ns'.length ≤ 65536 ∧ (ms.map compQ).length = ns'.length ∧ ∀ (i : Nat) (a b : Nd), ns'[i]? = some a → (ms.map compQ)[i]? = some b → SameNd a b) := Lib.hid fun ns' h => by
    refine ⟨by rw [h.len]; exact h1, by rw [h.len]; exact h2, by rw [h.len]; simp, fun i a b ha hb => ?_⟩
    rw [List.getElem?_map] at hb
    obtain ⟨n, hn, rfl⟩ := Option.map_eq_some_iff.1 hb
    have hc := h.of i n a hn ha
    exact ⟨hc.k.symm, hc.ks.symm, hc.s.symm, hc.ws.symm, hc.b.symm, hc.h.symm⟩
  obtain ⟨q, cap, rfl⟩ := HP.out.form
  generalize ns.length = l0 at *
  go_enter Try.func4, Try.ntmps4
  go_wp2_with (go_at_call 7; refine (shown_any _).mono ?_; rintro e w1 ⟨rfl, hb1⟩; have HP1 := Lib.hid (HP.out.below hb1); have HB1 := Lib.hid hb1; clear hb1 HP)
  go_wp2_with (go_at_call 9; refine (HC.out _ _ HP1.out).mono ?_; rintro e w2 ⟨q, c, rfl, hp2, hb2⟩; have T2 : Hid (TW (.slice q ms.length c) ms [] w w2) := Lib.hid ⟨hp2, fun x hx => by simp at hx, HB1.out.trans (hb2.mono HB1.out.size)⟩; clear hp2 hb2 HP1 HB1 HC)
  generalize ms.length = m at *
  go_wp2_with (go_at_call 11; refine (H1.out _ _ T2.out.1).mono ?_; rintro e w3 ⟨⟨vo, rfl, io⟩, hb3⟩; have T3 := Lib.hid (T2.out.add hb3 io); clear hb3 T2 H1 io)
  go_wp2_with (go_at_call 12; refine (H2.out _ _ T3.out.1).mono ?_; rintro e w4 ⟨⟨vd, rfl, id⟩, hb4⟩; have T4 := Lib.hid (T3.out.add hb4 id); clear hb4 T3 H2 id)
  go_wp2_with (go_at_call 13; refine (H3.out _ _ T4.out.1).mono ?_; rintro e w5 ⟨⟨vp, rfl, ip⟩, hb5⟩; have T5 := Lib.hid (T4.out.add hb5 ip); clear hb5 T4 H3 ip)
  go_wp2_with (go_at_call 14; refine (H4.out _ _ T5.out.1).mono ?_; rintro e w6 ⟨⟨vc, ns', rfl, hcp, hpc⟩, hb6⟩; have T6 := Lib.hid (T5.out.go hb6); have P6 := Lib.hid hpc; have HQ := Lib.hid (HLN.out ns' hcp); clear hb6 T5 H4 hcp hpc HLN)
  go_wp2_with (go_at_call 10; refine (H5.out _ _ T6.out.1).mono ?_; rintro e w7 ⟨rfl, hb7⟩; have T7 := Lib.hid (T6.out.go hb7); have P7 := Lib.hid (P6.out.below hb7); clear hb7 T6 H5 P6)
  go_wp2_with (go_at_call 16; refine (R1.out _ _ T7.out.1).mono ?_; rintro e w8 ⟨ro, rfl, jo, hb8⟩; have T8 := Lib.hid (T7.out.add hb8 jo); have P8 := Lib.hid (P7.out.below hb8); clear hb8 T7 R1 P7 jo)
  go_wp2_with (go_at_call 15; refine (ints_any vo ro o o _ (T8.out.2.1 (vo, o) (by simp)) (T8.out.2.1 (ro, o) (by simp))).mono ?_; rintro e w9 ⟨rfl, n9, rfl⟩; have T9 := Lib.hid (T8.out.go (below_dn w8.heap.size w8 n9)); have P9 := Lib.hid (P8.out.below (below_dn w8.heap.size w8 n9)); clear T8 P8; rw [show decide (o = o) = true from by simp])
  go_wp2_with (go_at_call 17; refine (R2.out _ _ T9.out.1).mono ?_; rintro e w10 ⟨rd, rfl, jd, hb10⟩; have T10 := Lib.hid (T9.out.add hb10 jd); have P10 := Lib.hid (P9.out.below hb10); clear hb10 T9 R2 P9 jd)
  go_wp2_with (go_at_call 15; refine (ints_any vd rd d d _ (T10.out.2.1 (vd, d) (by simp)) (T10.out.2.1 (rd, d) (by simp))).mono ?_; rintro e w11 ⟨rfl, n11, rfl⟩; have T11 := Lib.hid (T10.out.go (below_dn w10.heap.size w10 n11)); have P11 := Lib.hid (P10.out.below (below_dn w10.heap.size w10 n11)); clear T10 P10; rw [show decide (d = d) = true from by simp])
  go_wp2_with (go_at_call 18; refine (R3.out _ _ T11.out.1).mono ?_; rintro e w12 ⟨rp, rfl, jp, hb12⟩; have T12 := Lib.hid (T11.out.add hb12 jp); have P12 := Lib.hid (P11.out.below hb12); clear hb12 T11 R3 P11 jp)
  go_wp2_with (go_at_call 15; refine (ints_any vp rp p p _ (T12.out.2.1 (vp, p) (by simp)) (T12.out.2.1 (rp, p) (by simp))).mono ?_; rintro e w13 ⟨rfl, n13, rfl⟩; have T13 := Lib.hid (T12.out.go (below_dn w12.heap.size w12 n13)); have P13 := Lib.hid (P12.out.below (below_dn w12.heap.size w12 n13)); clear T12 P12; rw [show decide (p = p) = true from by simp])
  go_wp2_with (go_at_call 20; refine (R4.out _ _ T13.out.1).mono ?_; rintro e w14 ⟨rc, rfl, jc, hb14⟩; have T14 := Lib.hid (T13.out.go hb14); have P14 := Lib.hid (P13.out.below hb14); have J14 := Lib.hid jc; clear hb14 T13 R4 P13 jc)
  go_wp2_with (go_at_call 19; refine (same_any vc rc ns' (ms.map compQ) _ P14.out J14.out HQ.out.1 HQ.out.2.1 HQ.out.2.2.1 HQ.out.2.2.2).mono ?_; rintro e w15 ⟨rfl, hb15⟩; have T15 := Lib.hid (T14.out.go hb15); clear hb15 T14 P14 J14 HQ)
  go_ret
  exact ⟨by simp, T15.out.2.2⟩
theorem walk (w : World) (a0 : Option Addr) (len0 cap0 : Nat) (ns : List Nd) (h : PageAt w (.slice a0 len0 cap0) ns) :
    Calls Try.prog 4 #[.slice a0 len0 cap0] w fun e w' => e = .returned (.bool true) ∧ Below w.heap.size w w' := by
  have hKK := cutP_both ns
  have hK := fun n (hn : n ∈ cutP ns) => (hKK n hn).1
  have HC := Lib.hid fun X v (hP : PageAt X v ns) => cut_post v ns X hP
  generalize cutP ns = ms at *
  by_cases hb : (checkP ms).2 = 0
  · have F := fine_of hb
    have hN : NoStray ms := ⟨F.len1, F.link, F.stray⟩
    have LP : ∀ {zs : List Int} {X : World} {e : Ending} {W' : World}, ListPost (checkP ms).2 zs X e W' → (∃ u, e = .returned (.tuple #[u, .int .i64 0]) ∧ Ints W' u zs) ∧ Below X.heap.size X W' := fun hL => by
      obtain ⟨h1, h2⟩ := hL
      rw [if_pos hb] at h1
      exact ⟨h1, h2⟩
    refine tells_good _ ns ms w F.len1 F.len2 (Lib.hid h) ((walkL ms.length (kfOf ms)).map Prod.fst) (depthsP ms) (parentsP ms) HC (Lib.hid fun X v hP => (orderF_any v ms X hP hK).mono fun e W' hL => LP hL) (Lib.hid fun X v hP => (depthsF_any v ms X hP hK).mono fun e W' hL => LP hL) (Lib.hid fun X v hP => (parentsF_any v ms X hP hK).mono fun e W' hL => LP hL)
      (Lib.hid fun X v hP => computed_good v ms X hP hKK F) (Lib.hid fun X v hP => ?_) (Lib.hid fun X v hP => ?_) (Lib.hid fun X v hP => ?_) (Lib.hid fun X v hP => ?_) (Lib.hid fun X v hP => ?_)
    · have h := refCheck_any v ms X hP hK
      rw [fine_check F] at h
      exact h
    · refine (refOrder_any v ms X hP F.len1 F.len2 hK (fun n hn z hz => by have := F.link n hn z hz; omega)).mono ?_
      rintro e W' ⟨u, rfl, ho, hb⟩
      rw [ord_walk hN.tr0 F.len1] at ho
      exact ⟨u, rfl, (ints_own ho).1, hb⟩
    · obtain ⟨p, cap, rfl⟩ := hP.form
      obtain ⟨b, off, rfl, _, _⟩ := page_cells hP F.len1
      exact refDepthsF b off cap _ ms X hN rfl F.len2 hP hK
    · obtain ⟨p, cap, rfl⟩ := hP.form
      obtain ⟨b, off, rfl, _, _⟩ := page_cells hP F.len1
      exact refParentsF b off cap _ ms X rfl F.len1 F.len2 hP hK F.link
    · obtain ⟨p, cap, rfl⟩ := hP.form
      refine refComputed_at p _ cap ms X rfl F.len2 hP (fun n hn => ?_)
      have hw := F.wrong
      rw [List.any_eq_false] at hw
      have h1 := hw n hn
      unfold wrongN at h1
      simp at h1
      exact h1.2.1
  · have NP : ∀ {zs : List Int} {X : World} {e : Ending} {W' : World}, ListPost (checkP ms).2 zs X e W' → e = .returned (.tuple #[.slice none 0 0, .int .i64 (checkP ms).2]) ∧ Below X.heap.size X W' := fun hL => by
      obtain ⟨h1, h2⟩ := hL
      rw [if_neg hb] at h1
      exact ⟨h1, h2⟩
    exact tells_bad _ ns ms w (checkP ms).1 (checkP ms).2 hb (Lib.hid h) HC (Lib.hid fun X v hP => (orderF_any v ms X hP hK).mono fun e W' hL => NP hL) (Lib.hid fun X v hP => (depthsF_any v ms X hP hK).mono fun e W' hL => NP hL) (Lib.hid fun X v hP => (parentsF_any v ms X hP hK).mono fun e W' hL => NP hL) (Lib.hid fun X v hP => computed_not v ms X hP hK hb) (Lib.hid fun X v hP => refCheck_any v ms X hP hK)

set_option maxRecDepth 100000 in
theorem lifted (os : Os) (started : os.Started) (H : Type) (enc : TypeId × Value → H) :
    ReturnsInHanded {} Try.checked os 4 .any (Rows.treeTellsSpec.pre6 enc Try.prog Try.f4 Rows.treeTellsRow.domain false) (Rows.treeTellsSpec.post enc Try.prog Try.f4 false true false false) := by
  refine returnsInHanded_of_change (C := Try.checked) own started (by kernel_rfl) Try.func4
    (ChangeSpec.witness6 (enc := enc) (C := Try.checked) false ⟨#[], #[.slice none 0 0], []⟩ 8 (by kernel_rfl) (by kernel_rfl) (by kernel_rfl) (by kernel_rfl)) ?_
  intro W base args ds gs before hval0 hW hcnd _
  have hval : ∀ (j : Nat) t v, Try.f4.params[j]? = some t → args[j]? = some v → Value.okWide Try.prog W .any base t v := hval0
  have hW' := hW
  obtain ⟨p, q, hA0, hV, rfl, hfz, hnd⟩ := hW
  have hA : DataW.TrodAll enc Try.prog W 0 (fun _ => true) true Try.f4.params.toList args.toList ds p := hA0
  rw [Try.params4] at hA hval
  obtain ⟨v0, vs0, d0, ds0, p0, q0, hargs, rfl, rfl, h0, r0⟩ := trodAll_cons hA
  obtain ⟨rfl, rfl, rfl⟩ := trodAll_nil r0
  obtain rfl : args = #[v0] := by cases args; simp_all
  obtain ⟨rfl, rfl⟩ := trodVars_none hV
  obtain ⟨a0, len0, cap0, rfl⟩ := okWide_slice Try.underlying22 (hval 0 22 v0 rfl rfl)
  have k0 := h0
  have lt0 : ∀ x ∈ p0, x.block < W.heap.size := by obtain ⟨m, hm⟩ := k0; exact DataW.trod_lt m _ _ _ hm
  obtain ⟨z0, w0⟩ : ∃ ns, PageAt W (.slice a0 len0 cap0) ns := by
    obtain ⟨fuel, hf⟩ := h0
    obtain ⟨ns, hn, _⟩ := open_nodes (by simpa [Value.cells] using hf)
    exact ⟨ns, hn⟩
  clear hA0 hval0
  simp only [List.append_nil] at hW'
  refine (walk W a0 len0 cap0 z0 w0).mono fun e W' ⟨he, hg⟩ => ?_
  subst he
  exact ⟨_, rfl, _, _, _, [], _, [], hW', (trodAll_cons_mk (shut_bool Try.underlying4 _) trodAll_mk0), (trodAll_cons_mk (Below.trod laidOut (by kernel_rfl) (of_decide_eq_true (by kernel_rfl)) k0 hg lt0) trodAll_mk0), rfl, hg.frame _, fun h => by cases h⟩

theorem over : Rows.treeTellsRow.holds Try.pinned (OpenSpec.ofChange Rows.treeTellsSpec) :=
  OpenClaim.holds_of_wide 4 Try.f4 rfl rfl rfl rfl rfl rfl rfl ⟨rfl, rfl, rfl, rfl, rfl⟩ rfl rfl rfl rfl rfl (by kernel_rfl) Try.func4 (by kernel_rfl)
    (of_decide_eq_true (by kernel_rfl)) (by unfold Func.isWrapper; first | (rw [if_pos (by decide +kernel)]; kernel_rfl) | (rw [if_neg (by decide +kernel)]; exact ⟨rfl, rfl⟩))
    (fun os started H enc _ => lifted os started H enc)

/-- the statement -/
theorem proved : Rows.TreeTellsSaid :=
  over
#print axioms proved
end Go.Proofs.Ytilighhccjdceaa.treeTells
