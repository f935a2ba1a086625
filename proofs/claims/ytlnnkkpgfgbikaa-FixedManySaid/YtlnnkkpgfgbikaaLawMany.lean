/- How many weights there may be: for every number of them. -/
import Derived.Test.YtlnnkkpgfgbikaaRows
import Derived.WalkKit
import Derived.ProofKit
import Derived.OpenShut
import Derived.Below
import Derived.Test.YtlnnkkpgfgbikaaShown
import Derived.ShutString
namespace Go.Proofs.Ytlnnkkpgfgbikaa.fixedMany
open Go.ChangeShapes Go.WideShapes Go.ChangeAt Go.RowKit
open Go.ChangeMaps (open_string shut_string)
set_option linter.unusedVariables false      -- a walk need not use every 'w<i>' (that an integer argument fits its kind)

theorem own : ownKnob Try.prog.godebug = none := by kernel_rfl

theorem evenL_7 (k j : Nat) (hk : 9990 ≤ k) (hj : j < k) : (evenL 7 k)[j]?.getD 0 = if j < 7 then 1 else 0 := by
  have e1 : (7 : Int) / (k : Int) = 0 := Int.ediv_eq_zero_of_lt (by omega) (by omega)
  have e2 : (7 : Int) % (k : Int) = 7 := Int.emod_eq_of_lt (by omega) (by omega)
  simp only [evenL, List.getElem?_map, List.getElem?_range hj, Option.map_some, Option.getD_some, evenI, e1, e2]
  split <;> split <;> omega
theorem even_goodI (t n : Int) (k : Nat) (w : World) (hk : (k : Int) = n) (t0 : 0 ≤ t) (t1 : t ≤ 1152921504606846975) (n0 : 1 ≤ n) (n1 : n ≤ 10000) :
    Calls Try.prog 26 #[.int .i64 t, .int .i64 n] w fun e w' => (∃ v, e = .returned (.tuple #[v, .int .i64 0]) ∧ Made .i64 2 w.heap.size w' v (evenL t k)) ∧ Below w.heap.size w w' := by
  subst hk
  exact even_good t _ _ k w t0 t1 (by omega) (by omega) rfl rfl
set_option maxHeartbeats 600000 in
theorem many_ok (n : Int) (k : Nat) (w : World) (hk : Hid ((k : Int) = n)) (h1 : ¬ n < 9990) (h2 : ¬ 10010 < n) (h3 : ¬ 10000 < n) (hkn : ((k : Int) == n) = true) (k6 : (6 : Int) < k) (k7 : (7 : Int) < k) (hd : decide (n ≤ 10000) = true)
    (ek : Hid (9990 ≤ k ∧ k ≤ 10000)) :
    Calls Try.prog 9 #[.int .i64 n] w fun e w' => e = .returned (.bool true) ∧ Below w.heap.size w w' := by
  have HE := Lib.hid (fun X => even_goodI 7 n k X hk.out (by decide) (by decide) (by omega) (by omega))
  go_enter Try.func9, Try.ntmps9
  go_wp2_with fail
  refine (shown_any _).mono ?_
  rintro e w1 ⟨rfl, hb1⟩
  go_wp2_with fail
  refine (HE.out _).mono ?_
  rintro e w2 ⟨⟨v, rfl, hv⟩, hb2⟩
  have hN : Nums .i64 w2 v (evenL 7 k) := hv.nums (by rw [evenL_length]; have := ek.out; omega)
  have HB : Hid (Below w.heap.size w w2) := hb1.trans (hb2.mono hb1.size)
  obtain ⟨_, ⟨_, h0⟩ | ⟨b, off, cap, rfl, _, _, hc⟩⟩ := hN
  · have := congrArg List.length h0; rw [evenL_length] at this; simp at this; omega
  have c6 := hc 6 (by rw [evenL_length]; omega)
  have c7 := hc 7 (by rw [evenL_length]; omega)
  rw [evenL_7 k 6 ek.out.1 (by omega)] at c6
  rw [evenL_7 k 7 ek.out.1 (by omega)] at c7
  rw [if_pos (by omega)] at c6
  rw [if_neg (by omega)] at c7
  rw [evenL_length]
  clear hc hv hb1 hb2 HE
  go_wp2
  go_ret
  exact ⟨rfl, HB.out⟩
set_option maxHeartbeats 600000 in
theorem many_no (n : Int) (w : World) (h1 : ¬ n < 9990) (h2 : ¬ 10010 < n) (h3 : 10000 < n) :
    Calls Try.prog 9 #[.int .i64 n] w fun e w' => e = .returned (.bool true) ∧ Below w.heap.size w w' := by
  have HM : Hid (mayB 7 n = false) := by simp [Hid, mayB]; omega
  have hd : decide (n ≤ 10000) = false := by simp; omega
  go_enter Try.func9, Try.ntmps9
  go_wp2_with fail
  refine (shown_any _).mono ?_
  rintro e w1 ⟨rfl, hb1⟩
  go_wp2_with fail
  refine (even_bad _ _ _ HM.out).mono ?_
  rintro e w' ⟨rfl, rfl⟩
  go_wp2
  go_ret
  exact ⟨rfl, hb1⟩
set_option maxHeartbeats 600000 in
theorem many (n : Int) (w : World) :
    Calls Try.prog 9 #[.int .i64 n] w fun e w' => e = .returned (.bool true) ∧ Below w.heap.size w w' := by
  by_cases h1 : n < 9990
  · go_enter Try.func9, Try.ntmps9
    go_wp2_with (go_at_call 11; refine (shown_any _).mono ?_; rintro e w1 ⟨rfl, hb1⟩)
    go_ret
    exact ⟨rfl, hb1⟩
  · by_cases h2 : 10010 < n
    · go_enter Try.func9, Try.ntmps9
      go_wp2_with (go_at_call 11; refine (shown_any _).mono ?_; rintro e w1 ⟨rfl, hb1⟩)
      go_ret
      exact ⟨rfl, hb1⟩
    · by_cases h3 : 10000 < n
      · exact many_no n w h1 h2 h3
      · obtain ⟨k, rfl⟩ := Int.eq_ofNat_of_zero_le (show 0 ≤ n by omega)
        exact many_ok k k w rfl h1 h2 h3 (by simp) (by omega) (by omega) (decide_eq_true (by omega)) ⟨by omega, by omega⟩
theorem walk (a0 : Int) (w0 : (Lit.int .i64 a0).wf = true) (w : World) :
    Calls Try.prog 9 #[.int .i64 a0] w fun e w' => e = .returned (.bool true) ∧ Below w.heap.size w w' := by
  exact many a0 w

set_option maxRecDepth 100000 in
theorem lifted (os : Os) (started : os.Started) (H : Type) (enc : TypeId × Value → H) :
    ReturnsInHanded {} Try.checked os 9 .any (Rows.fixedManySpec.pre6 enc Try.prog Try.f9 Rows.fixedManyRow.domain false) (Rows.fixedManySpec.post enc Try.prog Try.f9 false true false false) := by
  refine returnsInHanded_of_change (C := Try.checked) own started (by kernel_rfl) Try.func9
    (ChangeSpec.witness6 (enc := enc) (C := Try.checked) false ⟨#[], #[.int .i64 0], []⟩ 8 (by kernel_rfl) (by kernel_rfl) (by kernel_rfl) (by kernel_rfl)) ?_
  intro W base args ds gs before hval0 hW hcnd _
  have hval : ∀ (j : Nat) t v, Try.f9.params[j]? = some t → args[j]? = some v → Value.okWide Try.prog W .any base t v := hval0
  have hW' := hW
  obtain ⟨p, q, hA0, hV, rfl, hfz, hnd⟩ := hW
  have hA : DataW.TrodAll enc Try.prog W 0 (fun _ => true) true Try.f9.params.toList args.toList ds p := hA0
  rw [Try.params9] at hA hval
  obtain ⟨v0, vs0, d0, ds0, p0, q0, hargs, rfl, rfl, h0, r0⟩ := trodAll_cons hA
  obtain ⟨rfl, rfl, rfl⟩ := trodAll_nil r0
  obtain rfl : args = #[v0] := by cases args; simp_all
  obtain ⟨rfl, rfl⟩ := trodVars_none hV
  obtain ⟨a0, rfl, rfl, rfl, w0⟩ := open_int Try.underlying3 (hval 0 3 v0 rfl rfl) h0
  clear hA0 hval0
  simp only [List.append_nil] at hW'
  refine (walk a0 w0 W).mono fun e W' ⟨he, hg⟩ => ?_
  subst he
  exact ⟨_, rfl, _, _, _, [], [], [], hW', (trodAll_cons_mk (shut_bool Try.underlying4 _) trodAll_mk0), (trodAll_cons_mk (shut_int Try.underlying3 w0) trodAll_mk0), rfl, hg.frame _, fun h => by cases h⟩

theorem over : Rows.fixedManyRow.holds Try.pinned (OpenSpec.ofChange Rows.fixedManySpec) :=
  OpenClaim.holds_of_wide 9 Try.f9 rfl rfl rfl rfl rfl rfl rfl ⟨rfl, rfl, rfl, rfl, rfl⟩ rfl rfl rfl rfl rfl (by kernel_rfl) Try.func9 (by kernel_rfl)
    (of_decide_eq_true (by kernel_rfl)) (by unfold Func.isWrapper; first | (rw [if_pos (by decide +kernel)]; kernel_rfl) | (rw [if_neg (by decide +kernel)]; exact ⟨rfl, rfl⟩))
    (fun os started H enc _ => lifted os started H enc)

/-- ████ THE STATEMENT ████ -/
theorem proved : Rows.FixedManySaid :=
  over
#print axioms proved
end Go.Proofs.Ytlnnkkpgfgbikaa.fixedMany
