/- Bands begin one behind the other, a gap between each two, within the extent. -/
import Derived.Test.YtncgmfdmkjlmaaaRows
import Derived.WalkKit
import Derived.ProofKit
import Derived.OpenShut
import Derived.Below
import Derived.Test.YtncgmfdmkjlmaaaELaw
import Derived.ShutString
namespace Go.Proofs.Ytncgmfdmkjlmaaa.edgesRise
open Go.ChangeShapes Go.WideShapes Go.ChangeAt Go.RowKit
set_option linter.unusedVariables false

theorem own : ownKnob Try.prog.godebug = none := by kernel_rfl
theorem laidOut : laidOutB Try.prog = true := by kernel_rfl

set_option maxRecDepth 100000 in
set_option maxHeartbeats 2000000 in
theorem walk (W : World) (a0 : Option Addr) (len0 cap0 : Nat) (z0 : List Int) (w0 : Ints W (.slice a0 len0 cap0) z0 ∧ z0.length = len0 ∧ len0 ≤ cap0 ∧ cap0 ≤ maxLen) (a1 : Int) (w1 : (Lit.int .i64 a1).wf = true) :
    Calls Try.prog 9 #[.slice a0 len0 cap0, .int .i64 a1] W fun e w' => e = .returned (.bool true) ∧ Below W.heap.size W w' := by
  obtain ⟨h1, h2, h3, h4⟩ := w0
  unfold maxLen at h4
  obtain ⟨k1, k2⟩ := cut_low h1 h2
  have HC := Lib.hid (fun X => ecut_any a0 len0 cap0 X h3 (by omega))
  have hmk : min len0 100 ≤ 100 := by omega
  have hmc : min len0 100 ≤ cap0 := by omega
  generalize min len0 100 = m at *
  generalize z0.take 100 = bs at *
  have HL0 : Hid (LowE W a0 m cap0 bs W) := Lib.hid ⟨k1, Below.refl _ _⟩
  have HM := Lib.hid k2
  have HSH := Lib.hid (fun X => shown10_any X)
  have HEX := Lib.hid (fun X (h : LowE W a0 m cap0 bs X) => extent_any a1 a0 m cap0 bs X h.at k2 hmc)
  have HB : Hid (∀ X, LowE W a0 m cap0 bs X → okB a1 bs = false → _) := Lib.hid (fun X h ho => begin_bad a1 a0 m cap0 bs X h.at.ints k2 ho)
  have HG : Hid (∀ X, LowE W a0 m cap0 bs X → okB a1 bs = true → _) := Lib.hid (fun X h ho => begin_good a1 a0 m cap0 bs X h.at k2 (okB_iff.1 ho))
  clear h1 h2 h3 h4 k1 k2 w1
  cases ho : okB a1 bs with
  | false =>
    have HB' := Lib.hid (fun X h => HB.out X h ho)
    have hx : extV a1 bs = (0, 100) := by unfold extV; rw [ho]; rfl
    rw [hx] at HEX
    clear HB HG ho hx
    go_enter Try.func9, Try.ntmps9
    go_wp2_with (first
      | (go_at_call 10; refine (HSH.out _).mono ?_; clear HSH; rintro e w1 ⟨rfl, hb1⟩; have HL1 := Lib.hid (HL0.out.next hb1); clear hb1 HL0)
      | (go_at_call 11; refine (HC.out _).mono ?_; clear HC; rintro e w1' ⟨rfl, rfl⟩)
      | (go_at_call 12; refine (HB'.out _ HL1.out).mono ?_; clear HB'; rintro e w2 ⟨rfl, hb2⟩; have HL2 := Lib.hid (HL1.out.next hb2); clear hb2 HL1)
      | (go_at_call 13; refine (HEX.out _ HL2.out).mono ?_; clear HEX; rintro e w3 ⟨rfl, hb3⟩; have HL3 := Lib.hid (HL2.out.next hb3); clear hb3 HL2))
    go_ret
    exact ⟨rfl, HL3.out.2⟩
  | true =>
    have HG' := Lib.hid (fun X h => HG.out X h ho)
    have hx : extV a1 bs = (extW a1 bs, 0) := by unfold extV; rw [ho]; rfl
    rw [hx] at HEX
    dsimp only at HEX
    have HOK := Lib.hid (okB_iff.1 ho)
    have hg1 := HOK.out.1.1
    have hg2 := HOK.out.1.2
    have hxb := extW_bd HOK.out
    have HXV : Hid (extW a1 bs = if m = 0 then 0 else begW a1 bs m) := Lib.hid (by unfold extW; rw [HM.out])
    generalize extW a1 bs = ex at HEX hxb HXV
    clear HB HG ho hx
    go_enter Try.func9, Try.ntmps9
    go_wp2_with (first
      | (go_at_call 10; refine (HSH.out _).mono ?_; clear HSH; rintro e w1 ⟨rfl, hb1⟩; have HL1 := Lib.hid (HL0.out.next hb1); clear hb1 HL0)
      | (go_at_call 11; refine (HC.out _).mono ?_; clear HC; rintro e w1' ⟨rfl, rfl⟩)
      | (go_at_call 12; refine (HG'.out _ HL1.out).mono ?_; clear HG'; rintro e w2 ⟨⟨b, rfl, hb0, hwh⟩, hb2⟩; have HL2 := Lib.hid (HL1.out.next hb2); have HWH2 := Lib.hid hwh; clear hb2 HL1 hwh)
      | (go_at_call 13; refine (HEX.out _ HL2.out).mono ?_; clear HEX; rintro e w3 ⟨rfl, hb3⟩; have HL3 := Lib.hid (HL2.out.next hb3); have HWH3 := Lib.hid (HWH2.out.below hb3 HWH2.out.lt); clear hb3 HL2 HWH2))
    go_loopw [10, 11] (fun s10 s11 X => ∃ k : Nat, k ≤ m ∧ s11 = .int .i64 (k : Int) ∧ s10 = .int .i64 (begW a1 bs k) ∧ Hid (LowE W a0 m cap0 bs X) ∧ Hid (Whole X b 2 ((begsW a1 bs m).map (Value.int .i64)))) (fun _ s11 _ => m - (intOf s11).toNat)
    case atStart => exact ⟨0, Nat.zero_le _, rfl, by simp [begW, preW], HL3, HWH3⟩
    case round =>
      obtain ⟨k, hk, rfl, rfl, HL, HW⟩ := hrel
      clear HL3 HWH3
      by_cases hlt : k < m
      · obtain ⟨x, hx⟩ : ∃ x, bs[k]? = some x := ⟨_, List.getElem?_eq_getElem (by rw [HM.out]; exact hlt)⟩
        obtain ⟨bb, off, rfl, hbB, crow⟩ := HL.out.at.at k x hx
        have hx2 := HOK.out.2.2 x (List.mem_iff_getElem?.2 ⟨k, hx⟩)
        have HS : Hid (begW a1 bs (k + 1) = begW a1 bs k + x + a1) := Lib.hid (by unfold begW; rw [preW_succ a1 k bs x hx]; omega)
        have hq := begW_bd HOK.out (k := k) (by have := HM.out; omega)
        have cb : wr.cell? ⟨b, k, none⟩ = some (.int .i64 (begW a1 bs k)) := by rw [HW.out.cellAt k, List.getElem?_map, begsW_get hlt]; rfl
        have lb := HW.out.lt
        clear hx
        generalize begW a1 bs k = q at *
        go_wp2
        go_roundw
        case rel => exact ⟨k + 1, by omega, by go_num, by rw [HS.out], HL, HW⟩
        case measure => simp [intOf]; omega
      · obtain rfl : k = m := by omega
        by_cases h0 : k = 0
        · have e0 : Hid (ex = 0) := Lib.hid (by rw [HXV.out, if_pos h0])
          have hk0 : ((k : Int) == 0) = true := by simp [h0]
          have he : (ex == 0) = true := by simp [e0.out]
          clear h0
          go_wp2
          all_goals
            go_ret
            exact ⟨rfl, HL.out.2⟩
        · have e0 : Hid (ex = begW a1 bs k) := Lib.hid (by rw [HXV.out, if_neg h0])
          have he : (ex == begW a1 bs k) = true := by simp [e0.out]
          clear h0
          go_wp2
          go_ret
          exact ⟨rfl, HL.out.2⟩

set_option maxRecDepth 100000 in
theorem lifted (os : Os) (started : os.Started) (H : Type) (enc : TypeId × Value → H) :
    ReturnsInHanded {} Try.checked os 9 .any (Rows.edgesRiseSpec.pre6 enc Try.prog Try.f9 Rows.edgesRiseRow.domain false) (Rows.edgesRiseSpec.post enc Try.prog Try.f9 false true false false) := by
  refine returnsInHanded_of_change (C := Try.checked) own started (by kernel_rfl) Try.func9
    (ChangeSpec.witness6 (enc := enc) (C := Try.checked) false ⟨#[], #[.slice none 0 0, .int .i64 0], []⟩ 8 (by kernel_rfl) (by kernel_rfl) (by kernel_rfl) (by kernel_rfl)) ?_
  intro W base args ds gs before hval0 hW hcnd _
  have hval : ∀ (j : Nat) t v, Try.f9.params[j]? = some t → args[j]? = some v → Value.okWide Try.prog W .any base t v := hval0
  have hW' := hW
  obtain ⟨p, q, hA0, hV, rfl, hfz, hnd⟩ := hW
  have hA : DataW.TrodAll enc Try.prog W 0 (fun _ => true) true Try.f9.params.toList args.toList ds p := hA0
  rw [Try.params9] at hA hval
  obtain ⟨v0, vs0, d0, ds0, p0, q0, hargs, rfl, rfl, h0, r0⟩ := trodAll_cons hA
  obtain ⟨v1, vs1, d1, ds1, p1, q1, rfl, rfl, rfl, h1, r1⟩ := trodAll_cons r0
  obtain ⟨rfl, rfl, rfl⟩ := trodAll_nil r1
  obtain rfl : args = #[v0, v1] := by cases args; simp_all
  obtain ⟨rfl, rfl⟩ := trodVars_none hV
  obtain ⟨a0, len0, cap0, rfl⟩ := okWide_slice Try.underlying22 (hval 0 22 v0 rfl rfl)
  have k0 := h0
  have lt0 : ∀ x ∈ p0, x.block < W.heap.size := by obtain ⟨m, hm⟩ := k0; exact DataW.trod_lt m _ _ _ hm
  obtain ⟨z0, w0⟩ : ∃ zs, Ints W (.slice a0 len0 cap0) zs ∧ zs.length = len0 ∧ len0 ≤ cap0 ∧ cap0 ≤ maxLen := by
    obtain ⟨fuel, hf⟩ := h0
    exact open_ints64 (by simpa [Value.cells] using hf)
  obtain ⟨a1, rfl, rfl, rfl, w1⟩ := open_int Try.underlying2 (hval 1 2 v1 rfl rfl) h1
  clear hA0 hval0
  simp only [List.append_nil] at hW'
  refine (walk W a0 len0 cap0 z0 w0 a1 w1).mono fun e W' ⟨he, hg⟩ => ?_
  subst he
  exact ⟨_, rfl, _, _, _, [], _, [], hW', (trodAll_cons_mk (shut_bool Try.underlying4 _) trodAll_mk0), (trodAll_cons_mk (Below.trod laidOut (by kernel_rfl) (of_decide_eq_true (by kernel_rfl)) k0 hg lt0) (trodAll_cons_mk (shut_int Try.underlying2 w1) trodAll_mk0)), rfl, hg.frame _, fun h => by cases h⟩

theorem over : Rows.edgesRiseRow.holds Try.pinned (OpenSpec.ofChange Rows.edgesRiseSpec) :=
  OpenClaim.holds_of_wide 9 Try.f9 rfl rfl rfl rfl rfl rfl rfl ⟨rfl, rfl, rfl, rfl, rfl⟩ rfl rfl rfl rfl rfl (by kernel_rfl) Try.func9 (by kernel_rfl)
    (of_decide_eq_true (by kernel_rfl)) (by unfold Func.isWrapper; first | (rw [if_pos (by decide +kernel)]; kernel_rfl) | (rw [if_neg (by decide +kernel)]; exact ⟨rfl, rfl⟩))
    (fun os started H enc _ => lifted os started H enc)

/-- the statement -/
theorem proved : Rows.EdgesRiseSaid :=
  over
#print axioms proved
end Go.Proofs.Ytncgmfdmkjlmaaa.edgesRise
