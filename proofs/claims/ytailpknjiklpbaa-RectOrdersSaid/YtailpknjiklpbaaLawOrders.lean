/- Where two rectangles meet, and what is around them, hangs not on their order; what is around has what each has: for every two rectangles. -/
import Derived.Test.YtailpknjiklpbaaRows
import Derived.WalkKit
import Derived.ProofKit
import Derived.OpenShut
import Derived.Below
import Derived.Test.YtailpknjiklpbaaROrd
import Derived.Test.YtailpknjiklpbaaROpen
import Derived.ShutString
namespace Go.Proofs.Ytailpknjiklpbaa.rectOrders
open Go.ChangeShapes Go.WideShapes Go.ChangeAt Go.RowKit
set_option linter.unusedVariables false

theorem own : ownKnob Try.prog.godebug = none := by kernel_rfl

set_option maxRecDepth 100000 in
set_option maxHeartbeats 1600000 in
theorem walk (a : R) (ha : a.wf) (b : R) (hb : b.wf) (w : World) : Calls Try.prog 4 #[a.val, b.val] w fun e w' => e = .returned (.bool true) ∧ Below w.heap.size w w' := by
  obtain ⟨x, y, u, v⟩ := a
  obtain ⟨x', y', u', v'⟩ := b
  have M := Lib.hid (fun X => meet_any ⟨x, y, u, v⟩ ⟨x', y', u', v'⟩ X)
  have N := Lib.hid (fun X => meet_swap ⟨x, y, u, v⟩ ⟨x', y', u', v'⟩ ▸ meet_any ⟨x', y', u', v'⟩ ⟨x, y, u, v⟩ X)
  have A := Lib.hid (fun sv X hI => around_any sv [⟨x, y, u, v⟩, ⟨x', y', u', v'⟩] X hI)
  have B := Lib.hid (fun sv X hI => around_swap ⟨x, y, u, v⟩ ⟨x', y', u', v'⟩ ▸ around_any sv [⟨x', y', u', v'⟩, ⟨x, y, u, v⟩] X hI)
  have L := orders_last ⟨x, y, u, v⟩ ⟨x', y', u', v'⟩
  obtain ⟨⟨⟨m0, m1, m2, m3⟩, mc⟩, hm⟩ : ∃ p, meetR ⟨x, y, u, v⟩ ⟨x', y', u', v'⟩ = p := ⟨_, rfl⟩
  rw [hm] at M N
  obtain ⟨⟨⟨q0, q1, q2, q3⟩, qc⟩, hq⟩ : ∃ p, aroundR [⟨x, y, u, v⟩, ⟨x', y', u', v'⟩] = p := ⟨_, rfl⟩
  rw [hq] at A B L
  have K := Lib.hid (fun X => meet_any ⟨q0, q1, q2, q3⟩ ⟨x, y, u, v⟩ X)
  obtain ⟨⟨⟨s0, s1, s2, s3⟩, sc⟩, hs⟩ : ∃ p, meetR ⟨q0, q1, q2, q3⟩ ⟨x, y, u, v⟩ = p := ⟨_, rfl⟩
  simp only [hs] at K L
  have LL := Lib.hid L
  clear hm hq hs L ha hb
  unfold R.val at *
  unfold retR at *
  dsimp only at *
  go_enter Try.func4, Try.ntmps4
  go_wp2_with fail
  refine (shown_any _).mono ?_
  rintro e w1 ⟨rfl, hb1⟩
  have ka := Whole.below (g := w.heap.size) (t := 25) (xs := [.int .i64 x, .int .i64 y, .int .i64 u, .int .i64 v]) ((whole_new w _ _ _ rfl).alloc _) hb1 (by simp <;> omega)
  have kb := Whole.below (g := w.heap.size + 1) (t := 25) (xs := [.int .i64 x', .int .i64 y', .int .i64 u', .int .i64 v']) (whole_new (w.alloc _) _ _ _ (by simp)) hb1 (by simp <;> omega)
  have HB := Lib.hid (((Below.refl w.heap.size w).alloc (Nat.le_refl _) (.cells #[.int .i64 x, .int .i64 y, .int .i64 u, .int .i64 v] 25)).alloc (by simp) (.cells #[.int .i64 x', .int .i64 y', .int .i64 u', .int .i64 v'] 25) |>.trans (hb1.mono (by simp <;> omega)))
  have hs := HB.out.size
  clear hb1
  have d0 := ka.cellAt 0
  have d1 := ka.cellAt 1
  have d2 := ka.cellAt 2
  have d3 := ka.cellAt 3
  have g0 := kb.cellAt 0
  have g1 := kb.cellAt 1
  have g2 := kb.cellAt 2
  have g3 := kb.cellAt 3
  go_wp2_with fail
  refine (M.out _).mono ?_
  rintro e w2 ⟨rfl, hb2⟩
  replace ka := ka.below hb2 ka.lt
  replace kb := kb.below hb2 kb.lt
  have HB2 := Lib.hid (HB.out.trans (hb2.mono hs))
  have hs2 := HB2.out.size
  clear hb2 HB hs d0 d1 d2 d3 g0 g1 g2 g3
  have d0 := ka.cellAt 0
  have d1 := ka.cellAt 1
  have d2 := ka.cellAt 2
  have d3 := ka.cellAt 3
  have g0 := kb.cellAt 0
  have g1 := kb.cellAt 1
  have g2 := kb.cellAt 2
  have g3 := kb.cellAt 3
  have la := ka.lt
  have lb := kb.lt
  go_wp2_with fail
  refine (N.out _).mono ?_
  rintro e w3 ⟨rfl, hb3⟩
  have km := (whole_new w2 [.int .i64 m0, .int .i64 m1, .int .i64 m2, .int .i64 m3] 25 _ rfl).below hb3 (by simp)
  replace ka := (ka.alloc (.cells #[.int .i64 m0, .int .i64 m1, .int .i64 m2, .int .i64 m3] 25)).below hb3 (ka.alloc _).lt
  replace kb := (kb.alloc (.cells #[.int .i64 m0, .int .i64 m1, .int .i64 m2, .int .i64 m3] 25)).below hb3 (kb.alloc _).lt
  have HB3 := Lib.hid ((HB2.out.alloc hs2 (.cells #[.int .i64 m0, .int .i64 m1, .int .i64 m2, .int .i64 m3] 25)).trans (hb3.mono (by simp <;> omega)))
  have hs3 := HB3.out.size
  clear hb3 HB2 hs2 d0 d1 d2 d3 g0 g1 g2 g3 la lb
  have d0 := ka.cellAt 0
  have d1 := ka.cellAt 1
  have d2 := ka.cellAt 2
  have d3 := ka.cellAt 3
  have g0 := kb.cellAt 0
  have g1 := kb.cellAt 1
  have g2 := kb.cellAt 2
  have g3 := kb.cellAt 3
  have la := ka.lt
  have lb := kb.lt
  go_wp2_with fail
  refine (A.out _ _ (rects_two (whole_new (w3.alloc (.cells #[.int .i64 m0, .int .i64 m1, .int .i64 m2, .int .i64 m3] 25)) [.int .i64 x, .int .i64 y, .int .i64 u, .int .i64 v, .int .i64 x', .int .i64 y', .int .i64 u', .int .i64 v'] 25 (w3.heap.size + 1) (by simp)))).mono ?_
  rintro e w4 ⟨rfl, hb4⟩
  have kn := ((whole_new w3 [.int .i64 m0, .int .i64 m1, .int .i64 m2, .int .i64 m3] 25 _ rfl).alloc (.cells #[.int .i64 x, .int .i64 y, .int .i64 u, .int .i64 v, .int .i64 x', .int .i64 y', .int .i64 u', .int .i64 v'] 25)).below hb4 (by simp <;> omega)
  replace ka := ((ka.alloc (.cells #[.int .i64 m0, .int .i64 m1, .int .i64 m2, .int .i64 m3] 25)).alloc (.cells #[.int .i64 x, .int .i64 y, .int .i64 u, .int .i64 v, .int .i64 x', .int .i64 y', .int .i64 u', .int .i64 v'] 25)).below hb4 ((ka.alloc (.cells #[.int .i64 m0, .int .i64 m1, .int .i64 m2, .int .i64 m3] 25)).alloc (.cells #[.int .i64 x, .int .i64 y, .int .i64 u, .int .i64 v, .int .i64 x', .int .i64 y', .int .i64 u', .int .i64 v'] 25)).lt
  replace kb := ((kb.alloc (.cells #[.int .i64 m0, .int .i64 m1, .int .i64 m2, .int .i64 m3] 25)).alloc (.cells #[.int .i64 x, .int .i64 y, .int .i64 u, .int .i64 v, .int .i64 x', .int .i64 y', .int .i64 u', .int .i64 v'] 25)).below hb4 ((kb.alloc (.cells #[.int .i64 m0, .int .i64 m1, .int .i64 m2, .int .i64 m3] 25)).alloc (.cells #[.int .i64 x, .int .i64 y, .int .i64 u, .int .i64 v, .int .i64 x', .int .i64 y', .int .i64 u', .int .i64 v'] 25)).lt
  replace km := ((km.alloc (.cells #[.int .i64 m0, .int .i64 m1, .int .i64 m2, .int .i64 m3] 25)).alloc (.cells #[.int .i64 x, .int .i64 y, .int .i64 u, .int .i64 v, .int .i64 x', .int .i64 y', .int .i64 u', .int .i64 v'] 25)).below hb4 ((km.alloc (.cells #[.int .i64 m0, .int .i64 m1, .int .i64 m2, .int .i64 m3] 25)).alloc (.cells #[.int .i64 x, .int .i64 y, .int .i64 u, .int .i64 v, .int .i64 x', .int .i64 y', .int .i64 u', .int .i64 v'] 25)).lt
  have HB4 := Lib.hid (((HB3.out.alloc hs3 (.cells #[.int .i64 m0, .int .i64 m1, .int .i64 m2, .int .i64 m3] 25)).alloc (by simp <;> omega) (.cells #[.int .i64 x, .int .i64 y, .int .i64 u, .int .i64 v, .int .i64 x', .int .i64 y', .int .i64 u', .int .i64 v'] 25)).trans (hb4.mono (by simp <;> omega)))
  have hs4 := HB4.out.size
  clear hb4 HB3 hs3 d0 d1 d2 d3 g0 g1 g2 g3 la lb
  have d0 := ka.cellAt 0
  have d1 := ka.cellAt 1
  have d2 := ka.cellAt 2
  have d3 := ka.cellAt 3
  have ld := ka.lt
  have g0 := kb.cellAt 0
  have g1 := kb.cellAt 1
  have g2 := kb.cellAt 2
  have g3 := kb.cellAt 3
  have lg := kb.lt
  go_wp2_with fail
  refine (B.out _ _ (rects_two (whole_new (w4.alloc (.cells #[.int .i64 q0, .int .i64 q1, .int .i64 q2, .int .i64 q3] 25)) [.int .i64 x', .int .i64 y', .int .i64 u', .int .i64 v', .int .i64 x, .int .i64 y, .int .i64 u, .int .i64 v] 25 (w4.heap.size + 1) (by simp)))).mono ?_
  rintro e w5 ⟨rfl, hb5⟩
  have kq := ((whole_new w4 [.int .i64 q0, .int .i64 q1, .int .i64 q2, .int .i64 q3] 25 _ rfl).alloc (.cells #[.int .i64 x', .int .i64 y', .int .i64 u', .int .i64 v', .int .i64 x, .int .i64 y, .int .i64 u, .int .i64 v] 25)).below hb5 (by simp <;> omega)
  clear d0 d1 d2 d3 g0 g1 g2 g3 ld lg
  replace ka := ((ka.alloc (.cells #[.int .i64 q0, .int .i64 q1, .int .i64 q2, .int .i64 q3] 25)).alloc (.cells #[.int .i64 x', .int .i64 y', .int .i64 u', .int .i64 v', .int .i64 x, .int .i64 y, .int .i64 u, .int .i64 v] 25)).below hb5 ((ka.alloc (.cells #[.int .i64 q0, .int .i64 q1, .int .i64 q2, .int .i64 q3] 25)).alloc (.cells #[.int .i64 x', .int .i64 y', .int .i64 u', .int .i64 v', .int .i64 x, .int .i64 y, .int .i64 u, .int .i64 v] 25)).lt
  replace kb := ((kb.alloc (.cells #[.int .i64 q0, .int .i64 q1, .int .i64 q2, .int .i64 q3] 25)).alloc (.cells #[.int .i64 x', .int .i64 y', .int .i64 u', .int .i64 v', .int .i64 x, .int .i64 y, .int .i64 u, .int .i64 v] 25)).below hb5 ((kb.alloc (.cells #[.int .i64 q0, .int .i64 q1, .int .i64 q2, .int .i64 q3] 25)).alloc (.cells #[.int .i64 x', .int .i64 y', .int .i64 u', .int .i64 v', .int .i64 x, .int .i64 y, .int .i64 u, .int .i64 v] 25)).lt
  replace km := ((km.alloc (.cells #[.int .i64 q0, .int .i64 q1, .int .i64 q2, .int .i64 q3] 25)).alloc (.cells #[.int .i64 x', .int .i64 y', .int .i64 u', .int .i64 v', .int .i64 x, .int .i64 y, .int .i64 u, .int .i64 v] 25)).below hb5 ((km.alloc (.cells #[.int .i64 q0, .int .i64 q1, .int .i64 q2, .int .i64 q3] 25)).alloc (.cells #[.int .i64 x', .int .i64 y', .int .i64 u', .int .i64 v', .int .i64 x, .int .i64 y, .int .i64 u, .int .i64 v] 25)).lt
  replace kn := ((kn.alloc (.cells #[.int .i64 q0, .int .i64 q1, .int .i64 q2, .int .i64 q3] 25)).alloc (.cells #[.int .i64 x', .int .i64 y', .int .i64 u', .int .i64 v', .int .i64 x, .int .i64 y, .int .i64 u, .int .i64 v] 25)).below hb5 ((kn.alloc (.cells #[.int .i64 q0, .int .i64 q1, .int .i64 q2, .int .i64 q3] 25)).alloc (.cells #[.int .i64 x', .int .i64 y', .int .i64 u', .int .i64 v', .int .i64 x, .int .i64 y, .int .i64 u, .int .i64 v] 25)).lt
  have HB5 := Lib.hid (((HB4.out.alloc hs4 (.cells #[.int .i64 q0, .int .i64 q1, .int .i64 q2, .int .i64 q3] 25)).alloc (by simp <;> omega) (.cells #[.int .i64 x', .int .i64 y', .int .i64 u', .int .i64 v', .int .i64 x, .int .i64 y, .int .i64 u, .int .i64 v] 25)).trans (hb5.mono (by simp <;> omega)))
  have hs5 := HB5.out.size
  clear hb5 HB4 hs4
  have d0 := ka.cellAt 0
  have d1 := ka.cellAt 1
  have d2 := ka.cellAt 2
  have d3 := ka.cellAt 3
  have ld := ka.lt
  have b0 := km.cellAt 0
  have b1 := km.cellAt 1
  have b2 := km.cellAt 2
  have b3 := km.cellAt 3
  have lb := km.lt
  have c0 := kn.cellAt 0
  have c1 := kn.cellAt 1
  have c2 := kn.cellAt 2
  have c3 := kn.cellAt 3
  have lc := kn.lt
  have g0 := kq.cellAt 0
  have g1 := kq.cellAt 1
  have g2 := kq.cellAt 2
  have g3 := kq.cellAt 3
  have lg := kq.lt
  go_wp2_with fail
  · go_ret
    exact ⟨by first | rfl | (simp; done), by first | exact HB5.out.alloc hs5 _ | exact HB5.out⟩
  · have hq : qc = 0 := by first | assumption | omega | (simp_all; done)
    obtain ⟨rfl, hL⟩ := LL.out hq
    refine (K.out _).mono ?_
    rintro e w6 ⟨rfl, hb6⟩
    clear b0 b1 b2 b3 c0 c1 c2 c3 g0 g1 g2 g3 lb lc lg
    rcases hL with rfl | rfl | hL
    rotate_left 2
    obtain ⟨rfl, rfl, rfl, rfl⟩ := R.mk.inj hL
    clear hL
    all_goals
      replace ka := (ka.alloc (.cells #[.int .i64 q0, .int .i64 q1, .int .i64 q2, .int .i64 q3] 25)).below hb6 (ka.alloc (.cells #[.int .i64 q0, .int .i64 q1, .int .i64 q2, .int .i64 q3] 25)).lt
      have HB6 := Lib.hid ((HB5.out.alloc hs5 (.cells #[.int .i64 q0, .int .i64 q1, .int .i64 q2, .int .i64 q3] 25)).trans (hb6.mono (by simp <;> omega)))
      have hs6 := HB6.out.size
      have d0 := ka.cellAt 0
      have d1 := ka.cellAt 1
      have d2 := ka.cellAt 2
      have d3 := ka.cellAt 3
      have ld := ka.lt
      clear hb6 HB5 hs5 LL M N A B K
      go_wp2
      all_goals (go_ret; exact ⟨by first | rfl | (simp; done) | (simp_all; done), by first | exact HB6.out.alloc hs6 _ | exact HB6.out⟩)

set_option maxRecDepth 100000 in
theorem lifted (os : Os) (started : os.Started) (H : Type) (enc : TypeId × Value → H) :
    ReturnsInHanded {} Try.checked os 4 .any (Rows.rectOrdersSpec.pre6 enc Try.prog Try.f4 Rows.rectOrdersRow.domain false) (Rows.rectOrdersSpec.post enc Try.prog Try.f4 false true false false) := by
  refine returnsInHanded_of_change (C := Try.checked) own started (by kernel_rfl) Try.func4
    (ChangeSpec.witness6 (enc := enc) (C := Try.checked) false ⟨#[], #[.agg #[.int .i64 0, .int .i64 0, .int .i64 0, .int .i64 0], .agg #[.int .i64 0, .int .i64 0, .int .i64 0, .int .i64 0]], []⟩ 8 (by kernel_rfl) (by kernel_rfl) (by kernel_rfl) (by kernel_rfl)) ?_
  intro W base args ds gs before hval0 hW hcnd _
  have hval : ∀ (j : Nat) t v, Try.f4.params[j]? = some t → args[j]? = some v → Value.okWide Try.prog W .any base t v := hval0
  have hW' := hW
  obtain ⟨p, q, hA0, hV, rfl, hfz, hnd⟩ := hW
  have hA : DataW.TrodAll enc Try.prog W 0 (fun _ => true) true Try.f4.params.toList args.toList ds p := hA0
  rw [Try.params4] at hA hval
  obtain ⟨v0, vs0, d0, ds0, p0, q0, hargs, rfl, rfl, h0, r0⟩ := trodAll_cons hA
  obtain ⟨v1, vs1, d1, ds1, p1, q1, rfl, rfl, rfl, h1, r1⟩ := trodAll_cons r0
  obtain ⟨rfl, rfl, rfl⟩ := trodAll_nil r1
  obtain rfl : args = #[v0, v1] := by cases args; simp_all
  obtain ⟨rfl, rfl⟩ := trodVars_none hV
  obtain ⟨a0, rfl, rfl, rfl, w0⟩ := open_rect (hval 0 25 v0 rfl rfl) h0
  obtain ⟨a1, rfl, rfl, rfl, w1⟩ := open_rect (hval 1 25 v1 rfl rfl) h1
  clear hA0 hval0
  simp only [List.append_nil] at hW'
  refine (walk a0 w0 a1 w1 W).mono fun e W' ⟨he, hg⟩ => ?_
  subst he
  exact ⟨_, rfl, _, _, _, [], [], [], hW', (trodAll_cons_mk (shut_bool Try.underlying4 _) trodAll_mk0), (trodAll_cons_mk (shut_rect a0 w0) (trodAll_cons_mk (shut_rect a1 w1) trodAll_mk0)), rfl, hg.frame _, fun h => by cases h⟩

theorem over : Rows.rectOrdersRow.holds Try.pinned (OpenSpec.ofChange Rows.rectOrdersSpec) :=
  OpenClaim.holds_of_wide 4 Try.f4 rfl rfl rfl rfl rfl rfl rfl ⟨rfl, rfl, rfl, rfl, rfl⟩ rfl rfl rfl rfl rfl (by kernel_rfl) Try.func4 (by kernel_rfl)
    (of_decide_eq_true (by kernel_rfl)) (by unfold Func.isWrapper; first | (rw [if_pos (by decide +kernel)]; kernel_rfl) | (rw [if_neg (by decide +kernel)]; exact ⟨rfl, rfl⟩))
    (fun os started H enc _ => lifted os started H enc)

/-- the statement -/
theorem proved : Rows.RectOrdersSaid :=
  over
#print axioms proved
end Go.Proofs.Ytailpknjiklpbaa.rectOrders
