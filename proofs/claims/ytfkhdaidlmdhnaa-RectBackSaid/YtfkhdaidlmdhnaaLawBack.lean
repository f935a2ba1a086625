/- What is moved to and fro is as it was; inset by nothing it is, too: for every rectangle and all lengths. -/
import Derived.Test.YtfkhdaidlmdhnaaRows
import Derived.WalkKit
import Derived.ProofKit
import Derived.OpenShut
import Derived.Below
import Derived.Test.YtfkhdaidlmdhnaaRShown
import Derived.Test.YtfkhdaidlmdhnaaROpen
import Derived.Test.YtfkhdaidlmdhnaaRInset
import Derived.ShutString
namespace Go.Proofs.Ytfkhdaidlmdhnaa.rectBack
open Go.ChangeShapes Go.WideShapes Go.ChangeAt Go.RowKit
set_option linter.unusedVariables false

theorem own : ownKnob Try.prog.godebug = none := by kernel_rfl

theorem back_good (x y u v a b : Int) (hr : rightB ⟨x, y, u, v⟩ = true) : insetR ⟨x, y, u, v⟩ 0 0 0 0 = (⟨x, y, u, v⟩, 0) := by
  have h := (rightB_iff _).1 hr
  dsimp only at h
  have e : max 0 (u - 0 - 0) = u := by omega
  have e' : max 0 (v - 0 - 0) = v := by omega
  unfold insetR
  rw [hr, show insetB 0 0 0 0 = true by decide]
  simp only [Bool.and_self, if_true]
  rw [e, e', Int.add_zero, Int.add_zero]
  unfold rightR
  rw [if_pos hr]
theorem back_bad (x y u v : Int) (hr : rightB ⟨x, y, u, v⟩ = false) : insetR ⟨x, y, u, v⟩ 0 0 0 0 = (⟨0, 0, 0, 0⟩, 20) := by
  unfold insetR; rw [hr]; rfl
theorem go_good (x y u v a b : Int) (hr : rightB ⟨x, y, u, v⟩ = true) (hm : moveB a b = true) (hq : rightB ⟨x + a, y + b, u, v⟩ = true) :
    moveR ⟨x, y, u, v⟩ a b = (⟨x + a, y + b, u, v⟩, 0) ∧ moveR ⟨x + a, y + b, u, v⟩ (-a) (-b) = (⟨x, y, u, v⟩, 0) := by
  have h := (moveB_iff _ _).1 hm
  have hm' : moveB (-a) (-b) = true := (moveB_iff _ _).2 (by omega)
  have e : x + a + -a = x := by omega
  have e' : y + b + -b = y := by omega
  unfold moveR rightR
  rw [hr, hm, hq, hm']
  dsimp only
  rw [e, e', hr]
  exact ⟨rfl, rfl⟩
theorem go_bad (x y u v a b : Int) (h : (rightB ⟨x, y, u, v⟩ && moveB a b && rightB ⟨x + a, y + b, u, v⟩) = false) : moveR ⟨x, y, u, v⟩ a b = (⟨0, 0, 0, 0⟩, 20) := by
  unfold moveR rightR
  cases hr : rightB ⟨x, y, u, v⟩ <;> cases hm : moveB a b <;> simp_all
theorem some_move (s t : Int) : ∃ m0 m1 m2 m3 mc, Hid (∀ X, Calls Try.prog 19 #[.agg #[.int .i64 0, .int .i64 0, .int .i64 0, .int .i64 0], .int .i64 s, .int .i64 t] X fun e W' => e = .returned (.tuple #[.agg #[.int .i64 m0, .int .i64 m1, .int .i64 m2, .int .i64 m3], .int .i64 mc]) ∧ Below X.heap.size X W') :=
  ⟨_, _, _, _, _, Lib.hid fun X => move_any 0 0 0 0 s t X⟩
set_option maxRecDepth 100000 in
set_option maxHeartbeats 1600000 in
theorem walk (r : R) (ha : r.wf) (a : Int) (ha' : (Lit.int .i64 a).wf = true) (b : Int) (hb' : (Lit.int .i64 b).wf = true) (w : World) : Calls Try.prog 9 #[r.val, .int .i64 a, .int .i64 b] w fun e w' => e = .returned (.bool true) ∧ Below w.heap.size w w' := by
  obtain ⟨x, y, u, v⟩ := r
  cases hg : (rightB ⟨x, y, u, v⟩ && moveB a b && rightB ⟨x + a, y + b, u, v⟩) with
  | true =>
    rw [Bool.and_eq_true, Bool.and_eq_true] at hg
    obtain ⟨⟨hr, hm⟩, hq⟩ := hg
    obtain ⟨g1, g2⟩ := go_good x y u v a b hr hm hq
    have M1 := Lib.hid (fun X => g1 ▸ move_any x y u v a b X)
    have M2 := Lib.hid (fun X => g2 ▸ move_any (x + a) (y + b) u v (-a) (-b) X)
    have I1 := Lib.hid (fun X => back_good x y u v a b hr ▸ inset_any x y u v 0 0 0 0 X)
    obtain ⟨⟨q1, q2⟩, q3, q4⟩ := (moveB_iff _ _).1 hm
    generalize x + a = xa at *
    generalize y + b = yb at *
    clear g1 g2 hq hm ha' hb'
    clear hr ha
    unfold R.val retR at *
    dsimp only at *
    go_enter Try.func9, Try.ntmps9
    go_wp2_with fail
    refine (shown_any _).mono ?_
    rintro e w1 ⟨rfl, hb1⟩
    have ka := Whole.below (g := w.heap.size) (t := 23) (xs := [.int .i64 x, .int .i64 y, .int .i64 u, .int .i64 v]) (whole_new w _ _ _ rfl) hb1 (by simp <;> omega)
    have HB := Lib.hid (((Below.refl w.heap.size w).alloc (Nat.le_refl _) (.cells #[.int .i64 x, .int .i64 y, .int .i64 u, .int .i64 v] 23)).trans (hb1.mono (by simp <;> omega)))
    have hs := HB.out.size
    clear hb1
    have d0 := ka.cellAt 0
    have d1 := ka.cellAt 1
    have d2 := ka.cellAt 2
    have d3 := ka.cellAt 3
    have la := ka.lt
    go_wp2_with fail
    refine (M1.out _).mono ?_
    rintro e w2 ⟨rfl, hb2⟩
    replace ka := ka.below hb2 ka.lt
    have HB2 := Lib.hid (HB.out.trans (hb2.mono hs))
    have hs2 := HB2.out.size
    clear hb2 HB hs d0 d1 d2 d3 la
    have la := ka.lt
    go_wp2_with fail
    refine (M2.out _).mono ?_
    rintro e w3 ⟨rfl, hb3⟩
    have kp0 : Whole (w2.alloc (.cells #[.int .i64 xa, .int .i64 yb, .int .i64 u, .int .i64 v] 23)) w2.heap.size 23 [.int .i64 xa, .int .i64 yb, .int .i64 u, .int .i64 v] := whole_new w2 _ _ _ rfl
    have kp := kp0.below hb3 kp0.lt
    replace ka := (ka.alloc (.cells #[.int .i64 xa, .int .i64 yb, .int .i64 u, .int .i64 v] 23)).below hb3 (ka.alloc _).lt
    have HB3 := Lib.hid ((HB2.out.alloc hs2 (.cells #[.int .i64 xa, .int .i64 yb, .int .i64 u, .int .i64 v] 23)).trans (hb3.mono (by simp <;> omega)))
    have hs3 := HB3.out.size
    clear hb3 HB2 hs2 kp0 la
    have la := ka.lt
    have lp := kp.lt
    have d0 := ka.cellAt 0
    have d1 := ka.cellAt 1
    have d2 := ka.cellAt 2
    have d3 := ka.cellAt 3
    have KP := Lib.hid kp
    clear kp
    go_wp2_with fail
    refine (I1.out _).mono ?_
    rintro e w4 ⟨rfl, hb4⟩
    have kq0 : Whole (w3.alloc (.cells #[.int .i64 x, .int .i64 y, .int .i64 u, .int .i64 v] 23)) w3.heap.size 23 [.int .i64 x, .int .i64 y, .int .i64 u, .int .i64 v] := whole_new w3 _ _ _ rfl
    have kq := kq0.below hb4 kq0.lt
    replace ka := (ka.alloc (.cells #[.int .i64 x, .int .i64 y, .int .i64 u, .int .i64 v] 23)).below hb4 (ka.alloc _).lt
    have kp := (KP.out.alloc (.cells #[.int .i64 x, .int .i64 y, .int .i64 u, .int .i64 v] 23)).below hb4 (KP.out.alloc _).lt
    have HB4 := Lib.hid ((HB3.out.alloc hs3 (.cells #[.int .i64 x, .int .i64 y, .int .i64 u, .int .i64 v] 23)).trans (hb4.mono (by simp <;> omega)))
    have hs4 := HB4.out.size
    clear hb4 HB3 hs3 kq0 la lp d0 d1 d2 d3 KP
    have la := ka.lt
    have lp := kp.lt
    have lq := kq.lt
    have d0 := ka.cellAt 0
    have d1 := ka.cellAt 1
    have d2 := ka.cellAt 2
    have d3 := ka.cellAt 3
    have e0 := kp.cellAt 0
    have e1 := kp.cellAt 1
    have e2 := kp.cellAt 2
    have e3 := kp.cellAt 3
    have f0 := kq.cellAt 0
    have f1 := kq.cellAt 1
    have f2 := kq.cellAt 2
    have f3 := kq.cellAt 3
    clear ka kp kq
    clear q1 q2 q3 q4
    go_wp2
    go_ret
    exact ⟨rfl, HB4.out.alloc hs4 _⟩
  | false =>
    have g1 := go_bad x y u v a b hg
    have M1 := Lib.hid (fun X => g1 ▸ move_any x y u v a b X)
    clear hg g1
    cases hr : rightB ⟨x, y, u, v⟩ with
    | true =>
      have I1 := Lib.hid (fun X => back_good x y u v a b hr ▸ inset_any x y u v 0 0 0 0 X)
      have RQ := Lib.hid (fun X => hr ▸ right_any x y u v X)
      obtain ⟨m0, m1, m2, m3, mc, M2⟩ := some_move (wrap64 (-a)) (wrap64 (-b))
      clear hr ha
      unfold R.val retR at *
      dsimp only at *
      go_enter Try.func9, Try.ntmps9
      go_wp2_with fail
      refine (shown_any _).mono ?_
      rintro e w1 ⟨rfl, hb1⟩
      have ka := Whole.below (g := w.heap.size) (t := 23) (xs := [.int .i64 x, .int .i64 y, .int .i64 u, .int .i64 v]) (whole_new w _ _ _ rfl) hb1 (by simp <;> omega)
      have HB := Lib.hid (((Below.refl w.heap.size w).alloc (Nat.le_refl _) (.cells #[.int .i64 x, .int .i64 y, .int .i64 u, .int .i64 v] 23)).trans (hb1.mono (by simp <;> omega)))
      have hs := HB.out.size
      clear hb1
      have d0 := ka.cellAt 0
      have d1 := ka.cellAt 1
      have d2 := ka.cellAt 2
      have d3 := ka.cellAt 3
      have la := ka.lt
      go_wp2_with fail
      refine (M1.out _).mono ?_
      rintro e w2 ⟨rfl, hb2⟩
      replace ka := ka.below hb2 ka.lt
      have HB2 := Lib.hid (HB.out.trans (hb2.mono hs))
      have hs2 := HB2.out.size
      clear hb2 HB hs d0 d1 d2 d3 la
      have la := ka.lt
      go_wp2_with fail
      refine (M2.out _).mono ?_
      rintro e w3 ⟨rfl, hb3⟩
      have kp0 : Whole (w2.alloc (.cells #[.int .i64 0, .int .i64 0, .int .i64 0, .int .i64 0] 23)) w2.heap.size 23 [.int .i64 0, .int .i64 0, .int .i64 0, .int .i64 0] := whole_new w2 _ _ _ rfl
      have kp := kp0.below hb3 kp0.lt
      replace ka := (ka.alloc (.cells #[.int .i64 0, .int .i64 0, .int .i64 0, .int .i64 0] 23)).below hb3 (ka.alloc _).lt
      have HB3 := Lib.hid ((HB2.out.alloc hs2 (.cells #[.int .i64 0, .int .i64 0, .int .i64 0, .int .i64 0] 23)).trans (hb3.mono (by simp <;> omega)))
      have hs3 := HB3.out.size
      clear hb3 HB2 hs2 kp0 la
      have la := ka.lt
      have lp := kp.lt
      have d0 := ka.cellAt 0
      have d1 := ka.cellAt 1
      have d2 := ka.cellAt 2
      have d3 := ka.cellAt 3
      have KP := Lib.hid kp
      clear kp
      go_wp2_with fail
      refine (I1.out _).mono ?_
      rintro e w4 ⟨rfl, hb4⟩
      have kq0 : Whole (w3.alloc (.cells #[.int .i64 m0, .int .i64 m1, .int .i64 m2, .int .i64 m3] 23)) w3.heap.size 23 [.int .i64 m0, .int .i64 m1, .int .i64 m2, .int .i64 m3] := whole_new w3 _ _ _ rfl
      have kq := kq0.below hb4 kq0.lt
      replace ka := (ka.alloc (.cells #[.int .i64 m0, .int .i64 m1, .int .i64 m2, .int .i64 m3] 23)).below hb4 (ka.alloc _).lt
      have kp := (KP.out.alloc (.cells #[.int .i64 m0, .int .i64 m1, .int .i64 m2, .int .i64 m3] 23)).below hb4 (KP.out.alloc _).lt
      have HB4 := Lib.hid ((HB3.out.alloc hs3 (.cells #[.int .i64 m0, .int .i64 m1, .int .i64 m2, .int .i64 m3] 23)).trans (hb4.mono (by simp <;> omega)))
      have hs4 := HB4.out.size
      clear hb4 HB3 hs3 kq0 la lp d0 d1 d2 d3 KP
      have la := ka.lt
      have lp := kp.lt
      have lq := kq.lt
      have d0 := ka.cellAt 0
      have d1 := ka.cellAt 1
      have d2 := ka.cellAt 2
      have d3 := ka.cellAt 3
      have e0 := kp.cellAt 0
      have e1 := kp.cellAt 1
      have e2 := kp.cellAt 2
      have e3 := kp.cellAt 3
      have f0 := kq.cellAt 0
      have f1 := kq.cellAt 1
      have f2 := kq.cellAt 2
      have f3 := kq.cellAt 3
      clear ka kp kq
      go_wp2_with fail
      refine (RQ.out _).mono ?_
      rintro e w5 ⟨rfl, hb5⟩
      have HB5 := Lib.hid ((HB4.out.alloc hs4 (.cells #[.int .i64 x, .int .i64 y, .int .i64 u, .int .i64 v] 23)).trans (hb5.mono (by simp <;> omega)))
      clear hb5
      go_wp2
      go_ret
      exact ⟨rfl, HB5.out⟩
    | false =>
      have I1 := Lib.hid (fun X => back_bad x y u v hr ▸ inset_any x y u v 0 0 0 0 X)
      have RQ := Lib.hid (fun X => hr ▸ right_any x y u v X)
      obtain ⟨m0, m1, m2, m3, mc, M2⟩ := some_move (wrap64 (-a)) (wrap64 (-b))
      clear hr ha
      unfold R.val retR at *
      dsimp only at *
      go_enter Try.func9, Try.ntmps9
      go_wp2_with fail
      refine (shown_any _).mono ?_
      rintro e w1 ⟨rfl, hb1⟩
      have ka := Whole.below (g := w.heap.size) (t := 23) (xs := [.int .i64 x, .int .i64 y, .int .i64 u, .int .i64 v]) (whole_new w _ _ _ rfl) hb1 (by simp <;> omega)
      have HB := Lib.hid (((Below.refl w.heap.size w).alloc (Nat.le_refl _) (.cells #[.int .i64 x, .int .i64 y, .int .i64 u, .int .i64 v] 23)).trans (hb1.mono (by simp <;> omega)))
      have hs := HB.out.size
      clear hb1
      have d0 := ka.cellAt 0
      have d1 := ka.cellAt 1
      have d2 := ka.cellAt 2
      have d3 := ka.cellAt 3
      have la := ka.lt
      go_wp2_with fail
      refine (M1.out _).mono ?_
      rintro e w2 ⟨rfl, hb2⟩
      replace ka := ka.below hb2 ka.lt
      have HB2 := Lib.hid (HB.out.trans (hb2.mono hs))
      have hs2 := HB2.out.size
      clear hb2 HB hs d0 d1 d2 d3 la
      have la := ka.lt
      go_wp2_with fail
      refine (M2.out _).mono ?_
      rintro e w3 ⟨rfl, hb3⟩
      have kp0 : Whole (w2.alloc (.cells #[.int .i64 0, .int .i64 0, .int .i64 0, .int .i64 0] 23)) w2.heap.size 23 [.int .i64 0, .int .i64 0, .int .i64 0, .int .i64 0] := whole_new w2 _ _ _ rfl
      have kp := kp0.below hb3 kp0.lt
      replace ka := (ka.alloc (.cells #[.int .i64 0, .int .i64 0, .int .i64 0, .int .i64 0] 23)).below hb3 (ka.alloc _).lt
      have HB3 := Lib.hid ((HB2.out.alloc hs2 (.cells #[.int .i64 0, .int .i64 0, .int .i64 0, .int .i64 0] 23)).trans (hb3.mono (by simp <;> omega)))
      have hs3 := HB3.out.size
      clear hb3 HB2 hs2 kp0 la
      have la := ka.lt
      have lp := kp.lt
      have d0 := ka.cellAt 0
      have d1 := ka.cellAt 1
      have d2 := ka.cellAt 2
      have d3 := ka.cellAt 3
      have KP := Lib.hid kp
      clear kp
      go_wp2_with fail
      refine (I1.out _).mono ?_
      rintro e w4 ⟨rfl, hb4⟩
      have kq0 : Whole (w3.alloc (.cells #[.int .i64 m0, .int .i64 m1, .int .i64 m2, .int .i64 m3] 23)) w3.heap.size 23 [.int .i64 m0, .int .i64 m1, .int .i64 m2, .int .i64 m3] := whole_new w3 _ _ _ rfl
      have kq := kq0.below hb4 kq0.lt
      replace ka := (ka.alloc (.cells #[.int .i64 m0, .int .i64 m1, .int .i64 m2, .int .i64 m3] 23)).below hb4 (ka.alloc _).lt
      have kp := (KP.out.alloc (.cells #[.int .i64 m0, .int .i64 m1, .int .i64 m2, .int .i64 m3] 23)).below hb4 (KP.out.alloc _).lt
      have HB4 := Lib.hid ((HB3.out.alloc hs3 (.cells #[.int .i64 m0, .int .i64 m1, .int .i64 m2, .int .i64 m3] 23)).trans (hb4.mono (by simp <;> omega)))
      have hs4 := HB4.out.size
      clear hb4 HB3 hs3 kq0 la lp d0 d1 d2 d3 KP
      have la := ka.lt
      have lp := kp.lt
      have lq := kq.lt
      have d0 := ka.cellAt 0
      have d1 := ka.cellAt 1
      have d2 := ka.cellAt 2
      have d3 := ka.cellAt 3
      have e0 := kp.cellAt 0
      have e1 := kp.cellAt 1
      have e2 := kp.cellAt 2
      have e3 := kp.cellAt 3
      have f0 := kq.cellAt 0
      have f1 := kq.cellAt 1
      have f2 := kq.cellAt 2
      have f3 := kq.cellAt 3
      clear ka kp kq
      go_wp2_with fail
      refine (RQ.out _).mono ?_
      rintro e w5 ⟨rfl, hb5⟩
      have HB5 := Lib.hid ((HB4.out.alloc hs4 (.cells #[.int .i64 0, .int .i64 0, .int .i64 0, .int .i64 0] 23)).trans (hb5.mono (by simp <;> omega)))
      clear hb5
      go_wp2
      go_ret
      exact ⟨rfl, HB5.out⟩

set_option maxRecDepth 100000 in
theorem lifted (os : Os) (started : os.Started) (H : Type) (enc : TypeId × Value → H) :
    ReturnsInHanded {} Try.checked os 9 .any (Rows.rectBackSpec.pre6 enc Try.prog Try.f9 Rows.rectBackRow.domain false) (Rows.rectBackSpec.post enc Try.prog Try.f9 false true false false) := by
  refine returnsInHanded_of_change (C := Try.checked) own started (by kernel_rfl) Try.func9
    (ChangeSpec.witness6 (enc := enc) (C := Try.checked) false ⟨#[], #[.agg #[.int .i64 0, .int .i64 0, .int .i64 0, .int .i64 0], .int .i64 0, .int .i64 0], []⟩ 8 (by kernel_rfl) (by kernel_rfl) (by kernel_rfl) (by kernel_rfl)) ?_
  intro W base args ds gs before hval0 hW hcnd _
  have hval : ∀ (j : Nat) t v, Try.f9.params[j]? = some t → args[j]? = some v → Value.okWide Try.prog W .any base t v := hval0
  have hW' := hW
  obtain ⟨p, q, hA0, hV, rfl, hfz, hnd⟩ := hW
  have hA : DataW.TrodAll enc Try.prog W 0 (fun _ => true) true Try.f9.params.toList args.toList ds p := hA0
  rw [Try.params9] at hA hval
  obtain ⟨v0, vs0, d0, ds0, p0, q0, hargs, rfl, rfl, h0, r0⟩ := trodAll_cons hA
  obtain ⟨v1, vs1, d1, ds1, p1, q1, rfl, rfl, rfl, h1, r1⟩ := trodAll_cons r0
  obtain ⟨v2, vs2, d2, ds2, p2, q2, rfl, rfl, rfl, h2, r2⟩ := trodAll_cons r1
  obtain ⟨rfl, rfl, rfl⟩ := trodAll_nil r2
  obtain rfl : args = #[v0, v1, v2] := by cases args; simp_all
  obtain ⟨rfl, rfl⟩ := trodVars_none hV
  obtain ⟨a0, rfl, rfl, rfl, w0⟩ := open_rect (hval 0 23 v0 rfl rfl) h0
  obtain ⟨a1, rfl, rfl, rfl, w1⟩ := open_int Try.underlying2 (hval 1 2 v1 rfl rfl) h1
  obtain ⟨a2, rfl, rfl, rfl, w2⟩ := open_int Try.underlying2 (hval 2 2 v2 rfl rfl) h2
  clear hA0 hval0
  simp only [List.append_nil] at hW'
  refine (walk a0 w0 a1 w1 a2 w2 W).mono fun e W' ⟨he, hg⟩ => ?_
  subst he
  exact ⟨_, rfl, _, _, _, [], [], [], hW', (trodAll_cons_mk (shut_bool Try.underlying4 _) trodAll_mk0), (trodAll_cons_mk (shut_rect a0 w0) (trodAll_cons_mk (shut_int Try.underlying2 w1) (trodAll_cons_mk (shut_int Try.underlying2 w2) trodAll_mk0))), rfl, hg.frame _, fun h => by cases h⟩

theorem over : Rows.rectBackRow.holds Try.pinned (OpenSpec.ofChange Rows.rectBackSpec) :=
  OpenClaim.holds_of_wide 9 Try.f9 rfl rfl rfl rfl rfl rfl rfl ⟨rfl, rfl, rfl, rfl, rfl⟩ rfl rfl rfl rfl rfl (by kernel_rfl) Try.func9 (by kernel_rfl)
    (of_decide_eq_true (by kernel_rfl)) (by unfold Func.isWrapper; first | (rw [if_pos (by decide +kernel)]; kernel_rfl) | (rw [if_neg (by decide +kernel)]; exact ⟨rfl, rfl⟩))
    (fun os started H enc _ => lifted os started H enc)

/-- the statement -/
theorem proved : Rows.RectBackSaid :=
  over
#print axioms proved
end Go.Proofs.Ytfkhdaidlmdhnaa.rectBack
