/- What is moved, and what is inset, is what the document says: for every rectangle and all lengths. -/
import Derived.Test.YtfkhdaidlmdhnaaRows
import Derived.WalkKit
import Derived.ProofKit
import Derived.OpenShut
import Derived.Below
import Derived.Test.YtfkhdaidlmdhnaaRShown
import Derived.Test.YtfkhdaidlmdhnaaROpen4
import Derived.Test.YtfkhdaidlmdhnaaRRefInset
import Derived.ShutString
namespace Go.Proofs.Ytfkhdaidlmdhnaa.rectMoves
open Go.ChangeShapes Go.WideShapes Go.ChangeAt Go.RowKit
set_option linter.unusedVariables false

theorem own : ownKnob Try.prog.godebug = none := by kernel_rfl

set_option maxRecDepth 100000 in
set_option maxHeartbeats 3200000 in
theorem walk (r : R) (ha : r.wf) (a : Int) (ha' : (Lit.int .i64 a).wf = true) (b : Int) (hb' : (Lit.int .i64 b).wf = true) (by4 : R) (h4 : by4.wf) (w : World) : Calls Try.prog 5 #[r.val, .int .i64 a, .int .i64 b, by4.val] w fun e w' => e = .returned (.bool true) ∧ Below w.heap.size w w' := by
  obtain ⟨x, y, u, v⟩ := r
  obtain ⟨b0, b1, b2, b3⟩ := by4
  have M1 := Lib.hid (fun X => move_any x y u v a b X)
  have M2 := Lib.hid (fun X => refMove_any x y u v a b X)
  have I1 := Lib.hid (fun X => inset_any x y u v b0 b1 b2 b3 X)
  have I2 := Lib.hid (fun X => refInset_any x y u v b0 b1 b2 b3 X)
  obtain ⟨⟨⟨p0, p1, p2, p3⟩, pc⟩, hp⟩ : ∃ p, moveR ⟨x, y, u, v⟩ a b = p := ⟨_, rfl⟩
  obtain ⟨⟨⟨q0, q1, q2, q3⟩, qc⟩, hq⟩ : ∃ p, insetR ⟨x, y, u, v⟩ b0 b1 b2 b3 = p := ⟨_, rfl⟩
  rw [hp] at M1 M2
  rw [hq] at I1 I2
  clear hp hq ha ha' hb' h4
  unfold R.val retR at *
  dsimp only at *
  go_enter Try.func5, Try.ntmps5
  go_wp2_with fail
  refine (shown_any _).mono ?_
  rintro e w1 ⟨rfl, hb1⟩
  have ka := Whole.below (g := w.heap.size) (t := 23) (xs := [.int .i64 x, .int .i64 y, .int .i64 u, .int .i64 v]) ((whole_new w _ _ _ rfl).alloc _) hb1 (by simp <;> omega)
  have kf := Whole.below (g := w.heap.size + 1) (t := 35) (xs := [.int .i64 b0, .int .i64 b1, .int .i64 b2, .int .i64 b3]) (whole_new (w.alloc _) _ _ _ (by simp)) hb1 (by simp <;> omega)
  have HB := Lib.hid ((((Below.refl w.heap.size w).alloc (Nat.le_refl _) (.cells #[.int .i64 x, .int .i64 y, .int .i64 u, .int .i64 v] 23)).alloc (by simp) (.cells #[.int .i64 b0, .int .i64 b1, .int .i64 b2, .int .i64 b3] 35)).trans (hb1.mono (by simp <;> omega)))
  have hs := HB.out.size
  clear hb1
  have KF := Lib.hid kf
  clear kf
  have d0 := ka.cellAt 0
  have d1 := ka.cellAt 1
  have d2 := ka.cellAt 2
  have d3 := ka.cellAt 3
  have la := ka.lt
  go_wp2_with fail
  refine (M1.out _).mono ?_
  rintro e w2 ⟨rfl, hb2⟩
  replace ka := ka.below hb2 ka.lt
  have KF2 := Lib.hid (KF.out.below hb2 KF.out.lt)
  have HB2 := Lib.hid (HB.out.trans (hb2.mono hs))
  have hs2 := HB2.out.size
  clear hb2 HB hs KF d0 d1 d2 d3 la
  have d0 := ka.cellAt 0
  have d1 := ka.cellAt 1
  have d2 := ka.cellAt 2
  have d3 := ka.cellAt 3
  have la := ka.lt
  go_wp2_with fail
  refine (M2.out _).mono ?_
  rintro e w3 ⟨rfl, hb3⟩
  have kp0 : Whole (w2.alloc (.cells #[.int .i64 p0, .int .i64 p1, .int .i64 p2, .int .i64 p3] 23)) w2.heap.size 23 [.int .i64 p0, .int .i64 p1, .int .i64 p2, .int .i64 p3] := whole_new w2 _ _ _ rfl
  have KP := Lib.hid (kp0.below hb3 kp0.lt)
  replace ka := (ka.alloc (.cells #[.int .i64 p0, .int .i64 p1, .int .i64 p2, .int .i64 p3] 23)).below hb3 (ka.alloc _).lt
  have kf := (KF2.out.alloc (.cells #[.int .i64 p0, .int .i64 p1, .int .i64 p2, .int .i64 p3] 23)).below hb3 (KF2.out.alloc _).lt
  have HB3 := Lib.hid ((HB2.out.alloc hs2 (.cells #[.int .i64 p0, .int .i64 p1, .int .i64 p2, .int .i64 p3] 23)).trans (hb3.mono (by simp <;> omega)))
  have hs3 := HB3.out.size
  clear hb3 HB2 hs2 kp0 KF2 d0 d1 d2 d3 la
  have d0 := ka.cellAt 0
  have d1 := ka.cellAt 1
  have d2 := ka.cellAt 2
  have d3 := ka.cellAt 3
  have la := ka.lt
  have lf := kf.lt
  have f0 := kf.cellAt 0
  have f1 := kf.cellAt 1
  have f2 := kf.cellAt 2
  have f3 := kf.cellAt 3
  go_wp2_with fail
  refine (I1.out _).mono ?_
  rintro e w4 ⟨rfl, hb4⟩
  have kq0 : Whole (w3.alloc (.cells #[.int .i64 p0, .int .i64 p1, .int .i64 p2, .int .i64 p3] 23)) w3.heap.size 23 [.int .i64 p0, .int .i64 p1, .int .i64 p2, .int .i64 p3] := whole_new w3 _ _ _ rfl
  have KQ := Lib.hid (kq0.below hb4 kq0.lt)
  have KP2 := Lib.hid ((KP.out.alloc (.cells #[.int .i64 p0, .int .i64 p1, .int .i64 p2, .int .i64 p3] 23)).below hb4 (KP.out.alloc _).lt)
  replace ka := (ka.alloc (.cells #[.int .i64 p0, .int .i64 p1, .int .i64 p2, .int .i64 p3] 23)).below hb4 (ka.alloc _).lt
  replace kf := (kf.alloc (.cells #[.int .i64 p0, .int .i64 p1, .int .i64 p2, .int .i64 p3] 23)).below hb4 (kf.alloc _).lt
  have HB4 := Lib.hid ((HB3.out.alloc hs3 (.cells #[.int .i64 p0, .int .i64 p1, .int .i64 p2, .int .i64 p3] 23)).trans (hb4.mono (by simp <;> omega)))
  have hs4 := HB4.out.size
  clear hb4 HB3 hs3 kq0 KP d0 d1 d2 d3 la f0 f1 f2 f3 lf
  have d0 := ka.cellAt 0
  have d1 := ka.cellAt 1
  have d2 := ka.cellAt 2
  have d3 := ka.cellAt 3
  have la := ka.lt
  have lf := kf.lt
  have f0 := kf.cellAt 0
  have f1 := kf.cellAt 1
  have f2 := kf.cellAt 2
  have f3 := kf.cellAt 3
  go_wp2_with fail
  refine (I2.out _).mono ?_
  rintro e w5 ⟨rfl, hb5⟩
  have kr0 : Whole (w4.alloc (.cells #[.int .i64 q0, .int .i64 q1, .int .i64 q2, .int .i64 q3] 23)) w4.heap.size 23 [.int .i64 q0, .int .i64 q1, .int .i64 q2, .int .i64 q3] := whole_new w4 _ _ _ rfl
  have kr := kr0.below hb5 kr0.lt
  have kp := (KP2.out.alloc (.cells #[.int .i64 q0, .int .i64 q1, .int .i64 q2, .int .i64 q3] 23)).below hb5 (KP2.out.alloc _).lt
  have kq := (KQ.out.alloc (.cells #[.int .i64 q0, .int .i64 q1, .int .i64 q2, .int .i64 q3] 23)).below hb5 (KQ.out.alloc _).lt
  have HB5 := Lib.hid ((HB4.out.alloc hs4 (.cells #[.int .i64 q0, .int .i64 q1, .int .i64 q2, .int .i64 q3] 23)).trans (hb5.mono (by simp <;> omega)))
  have hs5 := HB5.out.size
  clear hb5 HB4 hs4 kr0 KP2 KQ ka kf d0 d1 d2 d3 la f0 f1 f2 f3 lf
  have lp := kp.lt
  have lq := kq.lt
  have lr := kr.lt
  have d0 := kp.cellAt 0
  have d1 := kp.cellAt 1
  have d2 := kp.cellAt 2
  have d3 := kp.cellAt 3
  have e0 := kq.cellAt 0
  have e1 := kq.cellAt 1
  have e2 := kq.cellAt 2
  have e3 := kq.cellAt 3
  have f0 := kr.cellAt 0
  have f1 := kr.cellAt 1
  have f2 := kr.cellAt 2
  have f3 := kr.cellAt 3
  clear kp kq kr M1 M2 I1 I2
  go_wp2
  go_ret
  exact ⟨rfl, HB5.out.alloc hs5 _⟩

set_option maxRecDepth 100000 in
theorem lifted (os : Os) (started : os.Started) (H : Type) (enc : TypeId × Value → H) :
    ReturnsInHanded {} Try.checked os 5 .any (Rows.rectMovesSpec.pre6 enc Try.prog Try.f5 Rows.rectMovesRow.domain false) (Rows.rectMovesSpec.post enc Try.prog Try.f5 false true false false) := by
  refine returnsInHanded_of_change (C := Try.checked) own started (by kernel_rfl) Try.func5
    (ChangeSpec.witness6 (enc := enc) (C := Try.checked) false ⟨#[], #[.agg #[.int .i64 0, .int .i64 0, .int .i64 0, .int .i64 0], .int .i64 0, .int .i64 0, .agg #[.int .i64 0, .int .i64 0, .int .i64 0, .int .i64 0]], []⟩ 8 (by kernel_rfl) (by kernel_rfl) (by kernel_rfl) (by kernel_rfl)) ?_
  intro W base args ds gs before hval0 hW hcnd _
  have hval : ∀ (j : Nat) t v, Try.f5.params[j]? = some t → args[j]? = some v → Value.okWide Try.prog W .any base t v := hval0
  have hW' := hW
  obtain ⟨p, q, hA0, hV, rfl, hfz, hnd⟩ := hW
  have hA : DataW.TrodAll enc Try.prog W 0 (fun _ => true) true Try.f5.params.toList args.toList ds p := hA0
  rw [Try.params5] at hA hval
  obtain ⟨v0, vs0, d0, ds0, p0, q0, hargs, rfl, rfl, h0, r0⟩ := trodAll_cons hA
  obtain ⟨v1, vs1, d1, ds1, p1, q1, rfl, rfl, rfl, h1, r1⟩ := trodAll_cons r0
  obtain ⟨v2, vs2, d2, ds2, p2, q2, rfl, rfl, rfl, h2, r2⟩ := trodAll_cons r1
  obtain ⟨v3, vs3, d3, ds3, p3, q3, rfl, rfl, rfl, h3, r3⟩ := trodAll_cons r2
  obtain ⟨rfl, rfl, rfl⟩ := trodAll_nil r3
  obtain rfl : args = #[v0, v1, v2, v3] := by cases args; simp_all
  obtain ⟨rfl, rfl⟩ := trodVars_none hV
  obtain ⟨a0, rfl, rfl, rfl, w0⟩ := open_rect (hval 0 23 v0 rfl rfl) h0
  obtain ⟨a1, rfl, rfl, rfl, w1⟩ := open_int Try.underlying2 (hval 1 2 v1 rfl rfl) h1
  obtain ⟨a2, rfl, rfl, rfl, w2⟩ := open_int Try.underlying2 (hval 2 2 v2 rfl rfl) h2
  obtain ⟨a3, rfl, rfl, rfl, w3⟩ := open_four (hval 3 35 v3 rfl rfl) h3
  clear hA0 hval0
  simp only [List.append_nil] at hW'
  refine (walk a0 w0 a1 w1 a2 w2 a3 w3 W).mono fun e W' ⟨he, hg⟩ => ?_
  subst he
  exact ⟨_, rfl, _, _, _, [], [], [], hW', (trodAll_cons_mk (shut_bool Try.underlying4 _) trodAll_mk0), (trodAll_cons_mk (shut_rect a0 w0) (trodAll_cons_mk (shut_int Try.underlying2 w1) (trodAll_cons_mk (shut_int Try.underlying2 w2) (trodAll_cons_mk (shut_four a3 w3) trodAll_mk0)))), rfl, hg.frame _, fun h => by cases h⟩

theorem over : Rows.rectMovesRow.holds Try.pinned (OpenSpec.ofChange Rows.rectMovesSpec) :=
  OpenClaim.holds_of_wide 5 Try.f5 rfl rfl rfl rfl rfl rfl rfl ⟨rfl, rfl, rfl, rfl, rfl⟩ rfl rfl rfl rfl rfl (by kernel_rfl) Try.func5 (by kernel_rfl)
    (of_decide_eq_true (by kernel_rfl)) (by unfold Func.isWrapper; first | (rw [if_pos (by decide +kernel)]; kernel_rfl) | (rw [if_neg (by decide +kernel)]; exact ⟨rfl, rfl⟩))
    (fun os started H enc _ => lifted os started H enc)

/-- the statement -/
theorem proved : Rows.RectMovesSaid :=
  over
#print axioms proved
end Go.Proofs.Ytfkhdaidlmdhnaa.rectMoves
