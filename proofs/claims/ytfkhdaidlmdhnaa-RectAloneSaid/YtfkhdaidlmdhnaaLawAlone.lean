/- A rectangle is tiled by itself, and by nothing just if it has no points: for every rectangle. -/
import Derived.Test.YtfkhdaidlmdhnaaRows
import Derived.WalkKit
import Derived.ProofKit
import Derived.OpenShut
import Derived.Below
import Derived.Test.YtfkhdaidlmdhnaaRShown
import Derived.Test.YtfkhdaidlmdhnaaROpen
import Derived.Test.YtfkhdaidlmdhnaaRAlone
import Derived.ShutString
namespace Go.Proofs.Ytfkhdaidlmdhnaa.rectAlone
open Go.ChangeShapes Go.WideShapes Go.ChangeAt Go.RowKit
set_option linter.unusedVariables false

theorem own : ownKnob Try.prog.godebug = none := by kernel_rfl

set_option maxRecDepth 100000 in
set_option maxHeartbeats 1600000 in
theorem walk (a : R) (ha : a.wf) (w : World) : Calls Try.prog 10 #[a.val] w fun e w' => e = .returned (.bool true) ∧ Below w.heap.size w w' := by
  obtain ⟨x, y, u, v⟩ := a
  cases hr : rightB ⟨x, y, u, v⟩ with
  | true =>
    have TS : Hid (∀ (X : World) (g : Nat), Whole X g 23 [.int .i64 x, .int .i64 y, .int .i64 u, .int .i64 v] → Calls Try.prog 23 #[.agg #[.int .i64 x, .int .i64 y, .int .i64 u, .int .i64 v], .slice (some ⟨g, 0, none⟩) 1 1] X fun e W' => e = .returned (.tuple #[.bool true, .int .i64 0]) ∧ Below X.heap.size X W') := Lib.hid fun X g hg => by
      have hk := tiles_some x y u v hr [(⟨⟨x, y, u, v⟩, hr⟩ : RR)] (by simp) X 1 g 0 1 (Lib.hid rfl) (fun j hj i q hq => by
        obtain rfl : j = 0 := by simp [vals] at hj; omega
        refine ⟨hg.lt, ?_⟩
        have e : 0 + 0 * 4 + i = i := by omega
        rw [e, hg.cellAt]; exact hq) (Rects.whole (t := 23) hg rfl (by omega))
      rw [show tilesB ⟨x, y, u, v⟩ (vals [(⟨⟨x, y, u, v⟩, hr⟩ : RR)]) = true from tiles_self _] at hk
      exact hk
    have TN : Hid (∀ X : World, Calls Try.prog 23 #[.agg #[.int .i64 x, .int .i64 y, .int .i64 u, .int .i64 v], .slice none 0 0] X fun e W' => e = .returned (.tuple #[.bool (u == 0 || v == 0), .int .i64 0]) ∧ Below X.heap.size X W') := Lib.hid fun X => by
      have hk := tiles_nil x y u v hr [] (by simp) X (Lib.hid rfl) ⟨by simp [vals], .inl ⟨none, 0, rfl, rfl⟩⟩
      rw [show tilesB ⟨x, y, u, v⟩ (vals []) = (u == 0 || v == 0) from tiles_none _ hr] at hk
      exact hk
    have RQ := Lib.hid (fun X => hr ▸ right_any x y u v X)
    by_cases hu : u = 0
    · rw [show (u == 0 || v == 0) = true by simp [hu]] at TN
      subst hu
      unfold R.val at *
      clear hr ha
      dsimp only at *
      go_enter Try.func10, Try.ntmps10
      go_wp2_with fail
      refine (shown_any _).mono ?_
      rintro e w1 ⟨rfl, hb1⟩
      have ka := Whole.below (g := w.heap.size) (t := 23) (xs := [.int .i64 x, .int .i64 y, .int .i64 0, .int .i64 v]) (whole_new w _ _ _ rfl) hb1 (by simp <;> omega)
      have HB := Lib.hid (((Below.refl w.heap.size w).alloc (Nat.le_refl _) (.cells #[.int .i64 x, .int .i64 y, .int .i64 0, .int .i64 v] 23)).trans (hb1.mono (by simp <;> omega)))
      have hs := HB.out.size
      clear hb1
      have d0 := ka.cellAt 0
      have d1 := ka.cellAt 1
      have d2 := ka.cellAt 2
      have d3 := ka.cellAt 3
      have la := ka.lt
      go_wp2_with fail
      refine (TS.out _ _ (whole_new w1 [.int .i64 x, .int .i64 y, .int .i64 0, .int .i64 v] 23 _ rfl)).mono ?_
      rintro e w2 ⟨rfl, hb2⟩
      replace ka := (ka.alloc (.cells #[.int .i64 x, .int .i64 y, .int .i64 0, .int .i64 v] 23)).below hb2 (ka.alloc _).lt
      have HB2 := Lib.hid ((HB.out.alloc hs (.cells #[.int .i64 x, .int .i64 y, .int .i64 0, .int .i64 v] 23)).trans (hb2.mono (by simp <;> omega)))
      have hs2 := HB2.out.size
      clear hb2 HB hs d0 d1 d2 d3 la
      have d0 := ka.cellAt 0
      have d1 := ka.cellAt 1
      have d2 := ka.cellAt 2
      have d3 := ka.cellAt 3
      have la := ka.lt
      go_wp2_with fail
      refine (TN.out _).mono ?_
      rintro e w3 ⟨rfl, hb3⟩
      replace ka := ka.below hb3 ka.lt
      have HB3 := Lib.hid (HB2.out.trans (hb3.mono hs2))
      have hs3 := HB3.out.size
      clear hb3 HB2 hs2 d0 d1 d2 d3 la
      have d0 := ka.cellAt 0
      have d1 := ka.cellAt 1
      have d2 := ka.cellAt 2
      have d3 := ka.cellAt 3
      have la := ka.lt
      go_wp2_with fail
      refine (RQ.out _).mono ?_
      rintro e w4 ⟨rfl, hb4⟩
      replace ka := ka.below hb4 ka.lt
      have HB4 := Lib.hid (HB3.out.trans (hb4.mono hs3))
      clear hb4 HB3 hs3 d0 d1 d2 d3 la
      have d0 := ka.cellAt 0
      have d1 := ka.cellAt 1
      have d2 := ka.cellAt 2
      have d3 := ka.cellAt 3
      have la := ka.lt
      go_wp2
      go_ret
      exact ⟨rfl, HB4.out⟩
    · by_cases hv : v = 0
      · rw [show (u == 0 || v == 0) = true by simp [hv]] at TN
        subst hv
        have hu' : (u == 0) = false := by simp [hu]
        unfold R.val at *
        clear hr ha
        dsimp only at *
        go_enter Try.func10, Try.ntmps10
        go_wp2_with fail
        refine (shown_any _).mono ?_
        rintro e w1 ⟨rfl, hb1⟩
        have ka := Whole.below (g := w.heap.size) (t := 23) (xs := [.int .i64 x, .int .i64 y, .int .i64 u, .int .i64 0]) (whole_new w _ _ _ rfl) hb1 (by simp <;> omega)
        have HB := Lib.hid (((Below.refl w.heap.size w).alloc (Nat.le_refl _) (.cells #[.int .i64 x, .int .i64 y, .int .i64 u, .int .i64 0] 23)).trans (hb1.mono (by simp <;> omega)))
        have hs := HB.out.size
        clear hb1
        have d0 := ka.cellAt 0
        have d1 := ka.cellAt 1
        have d2 := ka.cellAt 2
        have d3 := ka.cellAt 3
        have la := ka.lt
        go_wp2_with fail
        refine (TS.out _ _ (whole_new w1 [.int .i64 x, .int .i64 y, .int .i64 u, .int .i64 0] 23 _ rfl)).mono ?_
        rintro e w2 ⟨rfl, hb2⟩
        replace ka := (ka.alloc (.cells #[.int .i64 x, .int .i64 y, .int .i64 u, .int .i64 0] 23)).below hb2 (ka.alloc _).lt
        have HB2 := Lib.hid ((HB.out.alloc hs (.cells #[.int .i64 x, .int .i64 y, .int .i64 u, .int .i64 0] 23)).trans (hb2.mono (by simp <;> omega)))
        have hs2 := HB2.out.size
        clear hb2 HB hs d0 d1 d2 d3 la
        have d0 := ka.cellAt 0
        have d1 := ka.cellAt 1
        have d2 := ka.cellAt 2
        have d3 := ka.cellAt 3
        have la := ka.lt
        go_wp2_with fail
        refine (TN.out _).mono ?_
        rintro e w3 ⟨rfl, hb3⟩
        replace ka := ka.below hb3 ka.lt
        have HB3 := Lib.hid (HB2.out.trans (hb3.mono hs2))
        have hs3 := HB3.out.size
        clear hb3 HB2 hs2 d0 d1 d2 d3 la
        have d0 := ka.cellAt 0
        have d1 := ka.cellAt 1
        have d2 := ka.cellAt 2
        have d3 := ka.cellAt 3
        have la := ka.lt
        go_wp2_with fail
        refine (RQ.out _).mono ?_
        rintro e w4 ⟨rfl, hb4⟩
        replace ka := ka.below hb4 ka.lt
        have HB4 := Lib.hid (HB3.out.trans (hb4.mono hs3))
        clear hb4 HB3 hs3 d0 d1 d2 d3 la
        have d0 := ka.cellAt 0
        have d1 := ka.cellAt 1
        have d2 := ka.cellAt 2
        have d3 := ka.cellAt 3
        have la := ka.lt
        go_wp2
        go_ret
        exact ⟨rfl, HB4.out⟩
      · rw [show (u == 0 || v == 0) = false by simp [hu, hv]] at TN
        have hu' : (u == 0) = false := by simp [hu]
        have hv' : (v == 0) = false := by simp [hv]
        unfold R.val at *
        clear hr ha
        dsimp only at *
        go_enter Try.func10, Try.ntmps10
        go_wp2_with fail
        refine (shown_any _).mono ?_
        rintro e w1 ⟨rfl, hb1⟩
        have ka := Whole.below (g := w.heap.size) (t := 23) (xs := [.int .i64 x, .int .i64 y, .int .i64 u, .int .i64 v]) (whole_new w _ _ _ rfl) hb1 (by simp <;> omega)
        have HB := Lib.hid (((Below.refl w.heap.size w).alloc (Nat.le_refl _) (.cells #[.int .i64 x, .int .i64 y, .int .i64 u, .int .i64 v] 23)).trans (hb1.mono (by simp <;> omega)))
        have hs := HB.out.size
        clear hb1
        have d0 := ka.cellAt 0
        have d1 := ka.cellAt 1
        have d2 := ka.cellAt 2
        have d3 := ka.cellAt 3
        have la := ka.lt
        go_wp2_with fail
        refine (TS.out _ _ (whole_new w1 [.int .i64 x, .int .i64 y, .int .i64 u, .int .i64 v] 23 _ rfl)).mono ?_
        rintro e w2 ⟨rfl, hb2⟩
        replace ka := (ka.alloc (.cells #[.int .i64 x, .int .i64 y, .int .i64 u, .int .i64 v] 23)).below hb2 (ka.alloc _).lt
        have HB2 := Lib.hid ((HB.out.alloc hs (.cells #[.int .i64 x, .int .i64 y, .int .i64 u, .int .i64 v] 23)).trans (hb2.mono (by simp <;> omega)))
        have hs2 := HB2.out.size
        clear hb2 HB hs d0 d1 d2 d3 la
        have d0 := ka.cellAt 0
        have d1 := ka.cellAt 1
        have d2 := ka.cellAt 2
        have d3 := ka.cellAt 3
        have la := ka.lt
        go_wp2_with fail
        refine (TN.out _).mono ?_
        rintro e w3 ⟨rfl, hb3⟩
        replace ka := ka.below hb3 ka.lt
        have HB3 := Lib.hid (HB2.out.trans (hb3.mono hs2))
        have hs3 := HB3.out.size
        clear hb3 HB2 hs2 d0 d1 d2 d3 la
        have d0 := ka.cellAt 0
        have d1 := ka.cellAt 1
        have d2 := ka.cellAt 2
        have d3 := ka.cellAt 3
        have la := ka.lt
        go_wp2_with fail
        refine (RQ.out _).mono ?_
        rintro e w4 ⟨rfl, hb4⟩
        replace ka := ka.below hb4 ka.lt
        have HB4 := Lib.hid (HB3.out.trans (hb4.mono hs3))
        clear hb4 HB3 hs3 d0 d1 d2 d3 la
        have d0 := ka.cellAt 0
        have d1 := ka.cellAt 1
        have d2 := ka.cellAt 2
        have d3 := ka.cellAt 3
        have la := ka.lt
        go_wp2
        go_ret
        exact ⟨rfl, HB4.out⟩
  | false =>
    have TS : Hid (∀ (X : World) (g : Nat), Whole X g 23 [.int .i64 x, .int .i64 y, .int .i64 u, .int .i64 v] → Calls Try.prog 23 #[.agg #[.int .i64 x, .int .i64 y, .int .i64 u, .int .i64 v], .slice (some ⟨g, 0, none⟩) 1 1] X fun e W' => e = .returned (.tuple #[.bool false, .int .i64 20]) ∧ Below X.heap.size X W') := Lib.hid fun X g hg => by
      have h0 : tilesOk ⟨x, y, u, v⟩ [⟨x, y, u, v⟩] = false := by unfold tilesOk; rw [hr]; simp
      have hk := tiles_bad ⟨x, y, u, v⟩ [⟨x, y, u, v⟩] _ X (Rects.whole (t := 23) (n := 1) hg rfl (by omega)) h0
      unfold TilesPost at hk
      rw [h0] at hk
      exact hk
    have TN : Hid (∀ X : World, Calls Try.prog 23 #[.agg #[.int .i64 x, .int .i64 y, .int .i64 u, .int .i64 v], .slice none 0 0] X fun e W' => e = .returned (.tuple #[.bool false, .int .i64 20]) ∧ Below X.heap.size X W') := Lib.hid fun X => by
      have h0 : tilesOk ⟨x, y, u, v⟩ [] = false := by unfold tilesOk; rw [hr]; simp
      have hk := tiles_bad ⟨x, y, u, v⟩ [] (.slice none 0 0) X ⟨by simp, .inl ⟨none, 0, rfl, rfl⟩⟩ h0
      unfold TilesPost at hk
      rw [h0] at hk
      exact hk
    have RQ := Lib.hid (fun X => hr ▸ right_any x y u v X)
    unfold R.val at *
    clear hr ha
    dsimp only at *
    go_enter Try.func10, Try.ntmps10
    go_wp2_with fail
    refine (shown_any _).mono ?_
    rintro e w1 ⟨rfl, hb1⟩
    have ka := Whole.below (g := w.heap.size) (t := 23) (xs := [.int .i64 x, .int .i64 y, .int .i64 u, .int .i64 v]) (whole_new w _ _ _ rfl) hb1 (by simp <;> omega)
    have HB := Lib.hid (((Below.refl w.heap.size w).alloc (Nat.le_refl _) (.cells #[.int .i64 x, .int .i64 y, .int .i64 u, .int .i64 v] 23)).trans (hb1.mono (by simp <;> omega)))
    have hs := HB.out.size
    clear hb1
    have d0 := ka.cellAt 0
    have d1 := ka.cellAt 1
    have d2 := ka.cellAt 2
    have d3 := ka.cellAt 3
    have la := ka.lt
    go_wp2_with fail
    refine (TS.out _ _ (whole_new w1 [.int .i64 x, .int .i64 y, .int .i64 u, .int .i64 v] 23 _ rfl)).mono ?_
    rintro e w2 ⟨rfl, hb2⟩
    replace ka := (ka.alloc (.cells #[.int .i64 x, .int .i64 y, .int .i64 u, .int .i64 v] 23)).below hb2 (ka.alloc _).lt
    have HB2 := Lib.hid ((HB.out.alloc hs (.cells #[.int .i64 x, .int .i64 y, .int .i64 u, .int .i64 v] 23)).trans (hb2.mono (by simp <;> omega)))
    have hs2 := HB2.out.size
    clear hb2 HB hs d0 d1 d2 d3 la
    have d0 := ka.cellAt 0
    have d1 := ka.cellAt 1
    have d2 := ka.cellAt 2
    have d3 := ka.cellAt 3
    have la := ka.lt
    go_wp2_with fail
    refine (TN.out _).mono ?_
    rintro e w3 ⟨rfl, hb3⟩
    replace ka := ka.below hb3 ka.lt
    have HB3 := Lib.hid (HB2.out.trans (hb3.mono hs2))
    have hs3 := HB3.out.size
    clear hb3 HB2 hs2 d0 d1 d2 d3 la
    have d0 := ka.cellAt 0
    have d1 := ka.cellAt 1
    have d2 := ka.cellAt 2
    have d3 := ka.cellAt 3
    have la := ka.lt
    go_wp2_with fail
    refine (RQ.out _).mono ?_
    rintro e w4 ⟨rfl, hb4⟩
    replace ka := ka.below hb4 ka.lt
    have HB4 := Lib.hid (HB3.out.trans (hb4.mono hs3))
    clear hb4 HB3 hs3 d0 d1 d2 d3 la
    have d0 := ka.cellAt 0
    have d1 := ka.cellAt 1
    have d2 := ka.cellAt 2
    have d3 := ka.cellAt 3
    have la := ka.lt
    go_wp2
    go_ret
    exact ⟨rfl, HB4.out⟩

set_option maxRecDepth 100000 in
theorem lifted (os : Os) (started : os.Started) (H : Type) (enc : TypeId × Value → H) :
    ReturnsInHanded {} Try.checked os 10 .any (Rows.rectAloneSpec.pre6 enc Try.prog Try.f10 Rows.rectAloneRow.domain false) (Rows.rectAloneSpec.post enc Try.prog Try.f10 false true false false) := by
  refine returnsInHanded_of_change (C := Try.checked) own started (by kernel_rfl) Try.func10
    (ChangeSpec.witness6 (enc := enc) (C := Try.checked) false ⟨#[], #[.agg #[.int .i64 0, .int .i64 0, .int .i64 0, .int .i64 0]], []⟩ 8 (by kernel_rfl) (by kernel_rfl) (by kernel_rfl) (by kernel_rfl)) ?_
  intro W base args ds gs before hval0 hW hcnd _
  have hval : ∀ (j : Nat) t v, Try.f10.params[j]? = some t → args[j]? = some v → Value.okWide Try.prog W .any base t v := hval0
  have hW' := hW
  obtain ⟨p, q, hA0, hV, rfl, hfz, hnd⟩ := hW
  have hA : DataW.TrodAll enc Try.prog W 0 (fun _ => true) true Try.f10.params.toList args.toList ds p := hA0
  rw [Try.params10] at hA hval
  obtain ⟨v0, vs0, d0, ds0, p0, q0, hargs, rfl, rfl, h0, r0⟩ := trodAll_cons hA
  obtain ⟨rfl, rfl, rfl⟩ := trodAll_nil r0
  obtain rfl : args = #[v0] := by cases args; simp_all
  obtain ⟨rfl, rfl⟩ := trodVars_none hV
  obtain ⟨a0, rfl, rfl, rfl, w0⟩ := open_rect (hval 0 23 v0 rfl rfl) h0
  clear hA0 hval0
  simp only [List.append_nil] at hW'
  refine (walk a0 w0 W).mono fun e W' ⟨he, hg⟩ => ?_
  subst he
  exact ⟨_, rfl, _, _, _, [], [], [], hW', (trodAll_cons_mk (shut_bool Try.underlying4 _) trodAll_mk0), (trodAll_cons_mk (shut_rect a0 w0) trodAll_mk0), rfl, hg.frame _, fun h => by cases h⟩

theorem over : Rows.rectAloneRow.holds Try.pinned (OpenSpec.ofChange Rows.rectAloneSpec) :=
  OpenClaim.holds_of_wide 10 Try.f10 rfl rfl rfl rfl rfl rfl rfl ⟨rfl, rfl, rfl, rfl, rfl⟩ rfl rfl rfl rfl rfl (by kernel_rfl) Try.func10 (by kernel_rfl)
    (of_decide_eq_true (by kernel_rfl)) (by unfold Func.isWrapper; first | (rw [if_pos (by decide +kernel)]; kernel_rfl) | (rw [if_neg (by decide +kernel)]; exact ⟨rfl, rfl⟩))
    (fun os started H enc _ => lifted os started H enc)

/-- the statement -/
theorem proved : Rows.RectAloneSaid :=
  over
#print axioms proved
end Go.Proofs.Ytfkhdaidlmdhnaa.rectAlone
