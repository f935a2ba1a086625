/- A border that is drawn wins against none that is hidden, and against each that is none, and the wider of two that are drawn wins: for every two sides. -/
import Derived.Test.YtbhpclligoemcaaRows
import Derived.WalkKit
import Derived.ProofKit
import Derived.OpenShut
import Derived.Below
import Derived.Test.YtbhpclligoemcaaCTwo
import Derived.Test.YtbhpclligoemcaaCOpen
import Derived.ShutString
namespace Go.Proofs.Ytbhpclligoemcaa.contestDrawn
open Go.ChangeShapes Go.WideShapes Go.ChangeAt Go.RowKit
set_option linter.unusedVariables false

theorem own : ownKnob Try.prog.godebug = none := by kernel_rfl

set_option maxRecDepth 100000 in
set_option maxHeartbeats 4000000 in
theorem walk (a0 : Si) (w0 : a0.wf) (a1 : Si) (w1 : a1.wf) (W : World) :
    Calls Try.prog 10 #[a0.val, a1.val] W fun e w' => e = .returned (.bool true) ∧ Below W.heap.size W w' := by
  have HS := Lib.hid (fun X => shown_any X)
  have h01 := fun X => wins_any a0 a1 w0.hue w1.hue X
  obtain ⟨he, hf⟩ := drawn_facts a0 a1
  obtain ⟨⟨x, e⟩, e1⟩ : ∃ p, winsR a0 a1 = p := ⟨_, rfl⟩
  rw [e1] at h01 he hf
  dsimp only at h01 he hf
  clear e1 w0 w1
  obtain ⟨st, wd, co, bb, ro, cl⟩ := a0
  obtain ⟨st', wd', co', bb', ro', cl'⟩ := a1
  unfold Si.val at *
  dsimp only at *
  have H01 := Lib.hid h01
  have KA := Lib.hid (Whole.alloc (whole_new W [.int .i64 st, .int .i64 wd, .int .u32 co, .int .i64 bb, .int .i64 ro, .int .i64 cl] 26 W.heap.size rfl) (.cells #[.int .i64 st', .int .i64 wd', .int .u32 co', .int .i64 bb', .int .i64 ro', .int .i64 cl'] 26))
  have KB := Lib.hid (whole_new (W.alloc (.cells #[.int .i64 st, .int .i64 wd, .int .u32 co, .int .i64 bb, .int .i64 ro, .int .i64 cl] 26)) [.int .i64 st', .int .i64 wd', .int .u32 co', .int .i64 bb', .int .i64 ro', .int .i64 cl'] 26 (W.heap.size + 1) (by simp))
  have HB : Hid (Below W.heap.size W ((W.alloc (.cells #[.int .i64 st, .int .i64 wd, .int .u32 co, .int .i64 bb, .int .i64 ro, .int .i64 cl] 26)).alloc (.cells #[.int .i64 st', .int .i64 wd', .int .u32 co', .int .i64 bb', .int .i64 ro', .int .i64 cl'] 26))) := Lib.hid (((Below.refl _ W).alloc (Nat.le_refl _) _).alloc (by simp) _)
  have HE := Lib.hid he
  have HF := Lib.hid hf
  clear h01 he hf
  go_enter Try.func10, Try.ntmps10
  go_wp2_with fail
  refine (HS.out _).mono ?_
  rintro e w1 ⟨rfl, hb1⟩
  have KA1 := Lib.hid (KA.out.below hb1 KA.out.lt)
  have KB1 := Lib.hid (KB.out.below hb1 KB.out.lt)
  have HB1 := Lib.hid (HB.out.trans (hb1.mono HB.out.size))
  clear hb1 KA KB HB
  have a0 := KA1.out.cellAt 0
  have b0 := KB1.out.cellAt 0
  have a1 := KA1.out.cellAt 1
  have b1 := KB1.out.cellAt 1
  have a2 := KA1.out.cellAt 2
  have b2 := KB1.out.cellAt 2
  have a3 := KA1.out.cellAt 3
  have b3 := KB1.out.cellAt 3
  have a4 := KA1.out.cellAt 4
  have b4 := KB1.out.cellAt 4
  have a5 := KA1.out.cellAt 5
  have b5 := KB1.out.cellAt 5
  have la := KA1.out.lt
  have lb := KB1.out.lt
  simp only [List.getElem?_cons_zero, List.getElem?_cons_succ] at a0 a1 a2 a3 a4 a5 b0 b1 b2 b3 b4 b5
  go_wp2_with fail
  refine (H01.out _).mono ?_
  rintro e w2 ⟨rfl, hb2⟩
  have KA2 := Lib.hid (KA1.out.below hb2 la)
  have KB2 := Lib.hid (KB1.out.below hb2 lb)
  have HB2 := Lib.hid (HB1.out.trans (hb2.mono HB1.out.size))
  clear hb2 KA1 KB1 HB1 a0 a1 a2 a3 a4 a5 b0 b1 b2 b3 b4 b5 la lb HS H01
  have a0 := KA2.out.cellAt 0
  have a1 := KA2.out.cellAt 1
  have b0 := KB2.out.cellAt 0
  have b1 := KB2.out.cellAt 1
  have la := KA2.out.lt
  have lb := KB2.out.lt
  simp only [List.getElem?_cons_zero, List.getElem?_cons_succ] at a0 a1 b0 b1
  have he := HE.out
  have hf := HF.out
  clear HE HF
  rcases he with rfl | rfl
  · by_cases h2 : 2 ≤ st
    · obtain ⟨f1, f2, f3⟩ := hf rfl h2
      clear hf
      have h2' : ¬ st < 2 := by omega
      by_cases k1 : st' = 1
      · obtain rfl := f1 k1
        subst k1
        clear f1 f2 f3
        go_wp2
        go_ret
        exact ⟨by first | rfl | (simp; done), HB2.out⟩
      · by_cases k0 : st' = 0
        · obtain rfl := f2 k0
          subst k0
          clear f1 f2 f3
          go_wp2
          go_ret
          exact ⟨by first | rfl | (simp; done), HB2.out⟩
        · have q1 : (st' == 1) = false := by simpa using k1
          have q0 : (st' == 0) = false := by simpa using k0
          by_cases kw : wd = wd'
          · subst kw
            clear f1 f2 f3
            go_wp2
            go_ret
            exact ⟨by first | rfl | (simp; done), HB2.out⟩
          · have hx := f3 k0 k1 kw
            have qw : (wd == wd') = false := by simpa using kw
            clear f1 f2 f3 k0 k1 kw
            by_cases kl : wd' < wd
            · obtain rfl : x = true := by rw [hx]; simpa using kl
              clear hx
              go_wp2
              go_ret
              exact ⟨by first | rfl | (simp; done) | (simp; omega), HB2.out⟩
            · obtain rfl : x = false := by rw [hx]; simpa using kl
              clear hx
              go_wp2
              go_ret
              exact ⟨by first | rfl | (simp; done) | (simp; omega), HB2.out⟩
    · have h2' : st < 2 := by omega
      clear hf h2
      go_wp2
      go_ret
      exact ⟨by first | rfl | (simp; done), HB2.out⟩
  · clear hf
    go_wp2
    go_ret
    exact ⟨by first | rfl | (simp; done), HB2.out⟩

set_option maxRecDepth 100000 in
theorem lifted (os : Os) (started : os.Started) (H : Type) (enc : TypeId × Value → H) :
    ReturnsInHanded {} Try.checked os 10 .any (Rows.contestDrawnSpec.pre6 enc Try.prog Try.f10 Rows.contestDrawnRow.domain false) (Rows.contestDrawnSpec.post enc Try.prog Try.f10 false true false false) := by
  refine returnsInHanded_of_change (C := Try.checked) own started (by kernel_rfl) Try.func10
    (ChangeSpec.witness6 (enc := enc) (C := Try.checked) false ⟨#[], #[.agg #[.int .i64 0, .int .i64 0, .int .u32 0, .int .i64 0, .int .i64 0, .int .i64 0], .agg #[.int .i64 0, .int .i64 0, .int .u32 0, .int .i64 0, .int .i64 0, .int .i64 0]], []⟩ 8 (by kernel_rfl) (by kernel_rfl) (by kernel_rfl) (by kernel_rfl)) ?_
  intro W base args ds gs before hval0 hW hcnd _
  have hval : ∀ (j : Nat) t v, Try.f10.params[j]? = some t → args[j]? = some v → Value.okWide Try.prog W .any base t v := hval0
  have hW' := hW
  obtain ⟨p, q, hA0, hV, rfl, hfz, hnd⟩ := hW
  have hA : DataW.TrodAll enc Try.prog W 0 (fun _ => true) true Try.f10.params.toList args.toList ds p := hA0
  rw [Try.params10] at hA hval
  obtain ⟨v0, vs0, d0, ds0, p0, q0, hargs, rfl, rfl, h0, r0⟩ := trodAll_cons hA
  obtain ⟨v1, vs1, d1, ds1, p1, q1, rfl, rfl, rfl, h1, r1⟩ := trodAll_cons r0
  obtain ⟨rfl, rfl, rfl⟩ := trodAll_nil r1
  obtain rfl : args = #[v0, v1] := by cases args; simp_all
  obtain ⟨rfl, rfl⟩ := trodVars_none hV
  obtain ⟨a0, rfl, rfl, rfl, w0⟩ := open_side (hval 0 26 v0 rfl rfl) h0
  obtain ⟨a1, rfl, rfl, rfl, w1⟩ := open_side (hval 1 26 v1 rfl rfl) h1
  clear hA0 hval0
  simp only [List.append_nil] at hW'
  refine (walk a0 w0 a1 w1 W).mono fun e W' ⟨he, hg⟩ => ?_
  subst he
  exact ⟨_, rfl, _, _, _, [], [], [], hW', (trodAll_cons_mk (shut_bool Try.underlying4 _) trodAll_mk0), (trodAll_cons_mk (shut_side a0 w0) (trodAll_cons_mk (shut_side a1 w1) trodAll_mk0)), rfl, hg.frame _, fun h => by cases h⟩

theorem over : Rows.contestDrawnRow.holds Try.pinned (OpenSpec.ofChange Rows.contestDrawnSpec) :=
  OpenClaim.holds_of_wide 10 Try.f10 rfl rfl rfl rfl rfl rfl rfl ⟨rfl, rfl, rfl, rfl, rfl⟩ rfl rfl rfl rfl rfl (by kernel_rfl) Try.func10 (by kernel_rfl)
    (of_decide_eq_true (by kernel_rfl)) (by unfold Func.isWrapper; first | (rw [if_pos (by decide +kernel)]; kernel_rfl) | (rw [if_neg (by decide +kernel)]; exact ⟨rfl, rfl⟩))
    (fun os started H enc _ => lifted os started H enc)

/-- the statement -/
theorem proved : Rows.ContestDrawnSaid :=
  over
#print axioms proved
end Go.Proofs.Ytbhpclligoemcaa.contestDrawn
