/- Sums, differences, products, shares and bounds are the document's: for all numbers, of the list its first two hundred. -/
import Derived.Test.YtlnnkkpgfgbikaaRows
import Derived.WalkKit
import Derived.ProofKit
import Derived.OpenShut
import Derived.ShutString
import Derived.ChangeOld
import Derived.Below
import Derived.Test.YtlnnkkpgfgbikaaShown
namespace Go.Proofs.Ytlnnkkpgfgbikaa.fixedSums
open Go.ChangeShapes Go.WideShapes Go.ChangeAt Go.RowKit
open Go.ChangeMaps (open_string shut_string)
set_option linter.unusedVariables false

theorem own : ownKnob Try.prog.godebug = none := by kernel_rfl
theorem laidOut : laidOutB Try.prog = true := by kernel_rfl

/-- WHAT THE WALK IS TOLD OF A SLICE OF INTEGERS THAT CAME IN: it is nil; or it leads to a row of 'cap' cells, the numbers 'zs' (the first 'len' are its elements, the rest its spare room), each fitting its kind. -/
def IsRow (k : IntKind) (w : World) (a : Option Addr) (len cap : Nat) (zs : List Int) : Prop :=
  (a = none ∧ len = 0 ∧ cap = 0 ∧ zs = []) ∨
  ∃ x, a = some x ∧ len ≤ cap ∧ cap ≤ maxLen ∧ zs.length = cap ∧ (∀ i, i < zs.length → w.cell? (x.add i) = some (.int k (zs.getD i 0))) ∧ ∀ n ∈ zs, (Lit.int k n).wf = true

theorem row_nums {w : World} {a : Option Addr} {len cap : Nat} {zs : List Int} (h : IsRow .i64 w a len cap zs) : Nums .i64 w (.slice a len cap) (zs.take len) ∧ In64 (zs.take len) := by
  rcases h with ⟨rfl, rfl, rfl, rfl⟩ | ⟨x, rfl, hl, hm, hz, hc, hw⟩
  · exact ⟨⟨by simp, .inl ⟨none, 0, rfl, by omega, rfl⟩⟩, fun j hj => by simp at hj⟩
  · have hlen : (zs.take len).length = len := by rw [List.length_take]; omega
    unfold maxLen at hm
    refine ⟨?_, fun j hj => ?_⟩
    · by_cases h0 : len = 0
      · subst h0; exact ⟨by simp, .inl ⟨some x, cap, rfl, by omega, by simp⟩⟩
      · obtain ⟨b, off, rfl, hcc⟩ := ints_at hc (by omega)
        refine ⟨by omega, .inr ⟨b, off, cap, by rw [hlen], by omega, by omega, fun j hj => ?_⟩⟩
        rw [hlen] at hj
        rw [hcc j (by omega)]
        simp [List.getElem?_take, hj]
    · rw [hlen] at hj
      have hj' : j < zs.length := by omega
      have := bounds_i64 (hw zs[j] (List.getElem_mem hj'))
      simp [List.getElem?_take, hj, hj']; exact this
set_option maxHeartbeats 600000 in
theorem sums (sv : Value) (zs : List Int) (a b c : Int) (w : World) (hI : Nums .i64 w sv zs) (hz : In64 zs) (a0 : -9223372036854775808 ≤ a) (a1 : a ≤ 9223372036854775807) (b0 : -9223372036854775808 ≤ b) (b1 : b ≤ 9223372036854775807) :
    Calls Try.prog 3 #[sv, .int .i64 a, .int .i64 b, .int .i64 c] w fun e w' => e = .returned (.bool true) ∧ Below w.heap.size w w' := by
  have hz2 : In64 (zs.take 200) := fun j hj => by
    have hj' : j < zs.length := by rw [List.length_take] at hj; omega
    have hj2 : j < 200 := by rw [List.length_take] at hj; omega
    have := hz j hj'
    simpa [List.getElem?_take, hj2] using this
  have HI := Lib.hid hI
  have HZ := Lib.hid hz2
  obtain ⟨s, hs⟩ : ∃ s, addS (zs.take 200) = s := ⟨_, rfl⟩
  obtain ⟨d, hd⟩ : ∃ d, sat (a - b) = d := ⟨_, rfl⟩
  obtain ⟨m, hm⟩ : ∃ m, sat (a * b) = m := ⟨_, rfl⟩
  obtain ⟨p, hp⟩ : ∃ p, part a b = p := ⟨_, rfl⟩
  obtain ⟨q, hq⟩ : ∃ q, max (min a c) b = q := ⟨_, rfl⟩
  have C1 := Lib.hid (fun X v (h : Nums .i64 X v (zs.take 200)) => add_any v (zs.take 200) X h hz2)
  have C2 := Lib.hid (fun X v (h : Nums .i64 X v (zs.take 200)) => refAdd_any v (zs.take 200) X h hz2)
  have C3 := Lib.hid (fun X => sub_any a b X a0 a1 b0 b1)
  have C4 := Lib.hid (fun X => refSub_any a b X a0 a1 b0 b1)
  have C5 := Lib.hid (fun X => mul_any a b X a0 a1 b0 b1)
  have C6 := Lib.hid (fun X => refMul_any a b X a0 a1 b0 b1)
  have C7 := Lib.hid (fun X => part_any a b X a1 b1)
  have C8 := Lib.hid (fun X => refPart_any a b X a1 b1)
  have C9 := Lib.hid (fun X => clamp_any a b c X)
  have C10 := Lib.hid (fun X => refClamp_any a b c X)
  rw [hs] at C1 C2; rw [hd] at C3 C4; rw [hm] at C5 C6; rw [hp] at C7 C8; rw [hq] at C9 C10
  clear hz2 hI hz hs hd hm hp hq
  go_enter Try.func3, Try.ntmps3
  go_wp2_with fail
  refine (shown_any _).mono ?_
  rintro e w1 ⟨rfl, hb1⟩
  go_wp2_with fail
  refine (cut_any _ zs _ (HI.out.below hb1)).mono ?_
  rintro e w2 ⟨rfl, v1, rfl, hv1⟩
  go_wp2_with fail
  refine (C1.out _ _ hv1).mono ?_
  rintro e w' ⟨rfl, rfl⟩
  go_wp2_with fail
  refine (cut_any _ zs _ (HI.out.below hb1)).mono ?_
  rintro e w2 ⟨rfl, v2, rfl, hv2⟩
  go_wp2_with fail
  refine (C2.out _ _ hv2).mono ?_
  rintro e w' ⟨rfl, rfl⟩
  clear hv1 hv2
  go_wp2_with fail
  refine (C3.out _).mono ?_
  rintro e w' ⟨rfl, rfl⟩
  go_wp2_with fail
  refine (C4.out _).mono ?_
  rintro e w' ⟨rfl, rfl⟩
  go_wp2_with fail
  refine (C5.out _).mono ?_
  rintro e w' ⟨rfl, rfl⟩
  go_wp2_with fail
  refine (C6.out _).mono ?_
  rintro e w' ⟨rfl, rfl⟩
  go_wp2_with fail
  refine (C7.out _).mono ?_
  rintro e w' ⟨rfl, n1, rfl⟩
  go_wp2_with fail
  refine (C8.out _).mono ?_
  rintro e w' ⟨rfl, n2, rfl⟩
  go_wp2_with fail
  refine (C9.out _).mono ?_
  rintro e w' ⟨rfl, rfl⟩
  go_wp2_with fail
  refine (C10.out _).mono ?_
  rintro e w' ⟨rfl, rfl⟩
  go_wp2
  go_ret
  exact ⟨rfl, hb1.trans (below_dn _ _ _)⟩
theorem walk (a0 : Option Addr) (len0 cap0 : Nat) (z0 : List Int) (a1 : Int) (a2 : Int) (a3 : Int) (w : World) (w0 : IsRow .i64 w a0 len0 cap0 z0) (w1 : (Lit.int .i64 a1).wf = true) (w2 : (Lit.int .i64 a2).wf = true) (w3 : (Lit.int .i64 a3).wf = true) :
    Calls Try.prog 3 #[.slice a0 len0 cap0, .int .i64 a1, .int .i64 a2, .int .i64 a3] w fun e w' => e = .returned (.bool true) ∧ Below w.heap.size w w' := by
  have hr := row_nums w0
  have h1 := bounds_i64 w1
  have h2 := bounds_i64 w2
  exact sums _ _ a1 a2 a3 w hr.1 hr.2 h1.1 h1.2 h2.1 h2.2

set_option maxRecDepth 100000 in
theorem lifted (os : Os) (started : os.Started) (H : Type) (enc : TypeId × Value → H) :
    ReturnsInHanded {} Try.checked os 3 .any (Rows.fixedSumsSpec.pre6 enc Try.prog Try.f3 Rows.fixedSumsRow.domain false) (Rows.fixedSumsSpec.post enc Try.prog Try.f3 false true false false) := by
  refine returnsInHanded_of_change (C := Try.checked) own started (by kernel_rfl) Try.func3
    (ChangeSpec.witness6 (enc := enc) (C := Try.checked) false ⟨#[], #[.slice none 0 0, .int .i64 0, .int .i64 0, .int .i64 0], []⟩ 8 (by kernel_rfl) (by kernel_rfl) (by kernel_rfl) (by kernel_rfl)) ?_
  intro W base args ds gs before hval0 hW hcnd _
  have hval : ∀ (j : Nat) t v, Try.f3.params[j]? = some t → args[j]? = some v → Value.okWide Try.prog W .any base t v := hval0
  have hW' := hW
  obtain ⟨p, q, hA0, hV, rfl, hfz, hnd⟩ := hW
  have hA : DataW.TrodAll enc Try.prog W 0 (fun _ => true) true Try.f3.params.toList args.toList ds p := hA0
  rw [Try.params3] at hA hval
  obtain ⟨v0, vs0, d0, ds0, p0, q0, hargs, rfl, rfl, h0, r0⟩ := trodAll_cons hA
  obtain ⟨v1, vs1, d1, ds1, p1, q1, rfl, rfl, rfl, h1, r1⟩ := trodAll_cons r0
  obtain ⟨v2, vs2, d2, ds2, p2, q2, rfl, rfl, rfl, h2, r2⟩ := trodAll_cons r1
  obtain ⟨v3, vs3, d3, ds3, p3, q3, rfl, rfl, rfl, h3, r3⟩ := trodAll_cons r2
  obtain ⟨rfl, rfl, rfl⟩ := trodAll_nil r3
  obtain rfl : args = #[v0, v1, v2, v3] := by cases args; simp_all
  obtain ⟨rfl, rfl⟩ := trodVars_none hV
  obtain ⟨a0, len0, cap0, rfl⟩ := okWide_slice Try.underlying22 (hval 0 22 v0 rfl rfl)
  have k0 := h0
  have lt0 : ∀ x ∈ p0, x.block < W.heap.size := by obtain ⟨m, hm⟩ := k0; exact DataW.trod_lt m _ _ _ hm
  obtain ⟨z0, w0⟩ : ∃ zs, IsRow .i64 W a0 len0 cap0 zs := by
    obtain ⟨fuel, hf⟩ := h0
    rcases open_ints Try.underlying22 Try.underlying2 (by kernel_rfl) hf with ⟨hcs, _⟩ | ⟨x, l, c, zs, hcs, _, hl, hm, hz, _, hcell, hwz⟩
    · simp [Value.cells] at hcs
      obtain ⟨rfl, rfl, rfl⟩ := hcs
      exact ⟨[], .inl ⟨rfl, rfl, rfl, rfl⟩⟩
    · simp [Value.cells] at hcs
      obtain ⟨rfl, rfl, rfl⟩ := hcs
      exact ⟨zs, .inr ⟨_, rfl, hl, hm, by simpa using hz, hcell, hwz⟩⟩
  obtain ⟨a1, rfl, rfl, rfl, w1⟩ := open_int Try.underlying2 (hval 1 2 v1 rfl rfl) h1
  obtain ⟨a2, rfl, rfl, rfl, w2⟩ := open_int Try.underlying2 (hval 2 2 v2 rfl rfl) h2
  obtain ⟨a3, rfl, rfl, rfl, w3⟩ := open_int Try.underlying2 (hval 3 2 v3 rfl rfl) h3
  clear hA0 hval0
  refine (walk a0 len0 cap0 z0 a1 a2 a3 W w0 w1 w2 w3).mono fun e W' ⟨he, bel⟩ => ?_
  subst he
  exact ⟨_, rfl, _, _, _, [], _, [], hW', trodAll_mk1 (shut_bool Try.underlying4 _), (trodAll_cons_mk (Below.trod laidOut (by kernel_rfl) (of_decide_eq_true (by kernel_rfl)) k0 bel lt0) (trodAll_cons_mk (shut_int Try.underlying2 w1) (trodAll_cons_mk (shut_int Try.underlying2 w2) (trodAll_cons_mk (shut_int Try.underlying2 w3) trodAll_mk0)))), rfl, bel.frame _, fun h => by cases h⟩

theorem over : Rows.fixedSumsRow.holds Try.pinned (OpenSpec.ofChange Rows.fixedSumsSpec) :=
  OpenClaim.holds_of_wide 3 Try.f3 rfl rfl rfl rfl rfl rfl rfl ⟨rfl, rfl, rfl, rfl, rfl⟩ rfl rfl rfl rfl rfl (by kernel_rfl) Try.func3 (by kernel_rfl)
    (of_decide_eq_true (by kernel_rfl)) (by unfold Func.isWrapper; first | (rw [if_pos (by decide +kernel)]; kernel_rfl) | (rw [if_neg (by decide +kernel)]; exact ⟨rfl, rfl⟩))
    (fun os started H enc _ => lifted os started H enc)

/-- ████ THE STATEMENT ████ -/
theorem proved : Rows.FixedSumsSaid := over
#print axioms proved
end Go.Proofs.Ytlnnkkpgfgbikaa.fixedSums
