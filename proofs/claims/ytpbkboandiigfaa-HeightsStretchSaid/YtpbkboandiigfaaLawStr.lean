/- What the program makes of rows, requested heights, a total, is what the document says, for any rows and requested heights (the first hundred), any total. -/
import Derived.Test.YtpbkboandiigfaaRows
import Derived.WalkKit
import Derived.ProofKit
import Derived.OpenShut
import Derived.Below
import Derived.Test.YtpbkboandiigfaaHLaw
import Derived.Test.YtpbkboandiigfaaHRefS2
import Derived.ShutString
namespace Go.Proofs.Ytpbkboandiigfaa.heightsStretch
open Go.ChangeShapes Go.WideShapes Go.ChangeAt Go.RowKit
set_option linter.unusedVariables false

theorem own : ownKnob Try.prog.godebug = none := by kernel_rfl
theorem laidOut : laidOutB Try.prog = true := by kernel_rfl

open Go.Shelf
attribute [local go_sem] Oper.semAt_some
set_option maxRecDepth 100000 in
set_option maxHeartbeats 8000000 in
theorem walk (w : World) (a0 : Option Addr) (len0 cap0 : Nat) (z0 : List Int) (w0 : IntArg w a0 len0 cap0 z0) (a1 : Option Addr) (len1 cap1 : Nat) (z1 : List Int) (w1 : IntArg w a1 len1 cap1 z1) (a2 : Int) (h2 : (Lit.int .i64 a2).wf = true) :
    Calls Try.prog 4 #[.slice a0 len0 cap0, .slice a1 len1 cap1, .int .i64 a2] w fun e w' => e = .returned (.bool true) ∧ Below w.heap.size w w' := by
  obtain ⟨hr, hrf, hr1, hr2, hr3⟩ := IntArg.take w0 100
  obtain ⟨hw, hwf, hw1, hw2, hw3⟩ := IntArg.take w1 100
  have HS := Lib.hid (fun X => shown16_any X)
  have hmin : min (len0 : Int) 100 = ((min len0 100 : Nat) : Int) := by omega
  have hmin1 : min (len1 : Int) 100 = ((min len1 100 : Nat) : Int) := by omega
  have hml : min len0 100 ≤ 100 := by omega
  have hml1 : min len1 100 ≤ 100 := by omega
  have hmc : min len0 100 ≤ cap0 := by omega
  have hmc1 : min len1 100 ≤ cap1 := by omega
  have hcs : (a0 = none ∧ min len0 100 = 0 ∧ cap0 = 0 ∧ len0 = 0) ∨ ∃ g off mm, a0 = some ⟨g, off, mm⟩ := by
    rcases hr3 with ⟨h1, h2, h3⟩ | h
    · exact .inl ⟨h1, by omega, h3, h2⟩
    · exact .inr h
  have hcs1 : (a1 = none ∧ min len1 100 = 0 ∧ cap1 = 0 ∧ len1 = 0) ∨ ∃ g off mm, a1 = some ⟨g, off, mm⟩ := by
    rcases hw3 with ⟨h1, h2, h3⟩ | h
    · exact .inl ⟨h1, by omega, h3, h2⟩
    · exact .inr h
  generalize min len0 100 = n at *
  generalize min len1 100 = m at *
  generalize z0.take 100 = rows at *
  generalize z1.take 100 = ws at *
  have HSTR := Lib.hid (fun X (hX : Below w.heap.size w X) total => stretch_any a0 a1 n cap0 m cap1 rows ws total X (hr.below hX) (hw.below hX) (by omega) (by omega))
  have HRN := Lib.hid (fun X (hX : Below w.heap.size w X) => iarg_nums (hr.below hX))
  have HWN := Lib.hid (fun X (hX : Below w.heap.size w X) => iarg_nums (hw.below hX))
  have HRA := Lib.hid (fun X (hX : Below w.heap.size w X) => (hr.below hX).ints)
  have HWA := Lib.hid (fun X (hX : Below w.heap.size w X) => (hw.below hX).ints)
  have HRL := Lib.hid hr.len
  have HWL := Lib.hid hw.len
  have HRS := Lib.hid (fun X (hX : Below w.heap.size w X) total => refStretch_any a0 a1 n cap0 m cap1 rows ws total X (hr.below hX) (hw.below hX) (by omega) (by omega) hrf)
  clear w0 w1 hr hrf hr1 hr2 hr3 hw hwf hw1 hw2 hw3
  rcases hcs with ⟨rfl, rfl, rfl, rfl⟩ | ⟨g, off, mm, rfl⟩
  · rcases hcs1 with ⟨rfl, rfl, rfl, rfl⟩ | ⟨g1, off1, mm1, rfl⟩
    all_goals
      go_enter Try.func4, Try.ntmps4
      go_wp2_with fail
      refine (HS.out _).mono ?_
      rintro e wa ⟨rfl, ba⟩
      have BA := Lib.hid ba
      clear ba HS
      go_wp2_with fail
      refine (HSTR.out _ BA.out _).mono ?_
      rintro e wb ⟨bb, ⟨S, G, c, rfl, hn, hG⟩ | ⟨hno, rfl⟩⟩
      rotate_left
      · have BB := Lib.hid (BA.out.trans (bb.mono BA.out.size))
        have HNO := Lib.hid hno
        clear bb BA hno HSTR HRN HWN HRA HWA
        go_wp2_with fail
        refine (HRS.out _ BB.out _).mono ?_
        rintro e wc ⟨bc, ⟨S, _⟩ | ⟨_, rfl⟩⟩
        · exact absurd S HNO.out
        have BC := Lib.hid (BB.out.trans (bc.mono BB.out.size))
        have htr : decide (([] : List Int) = []) = true := by simp
        have C5 := Lib.hid (same_any (.slice none 0 0) (.slice none 0 0) [] [] wc ⟨by simp, .inl ⟨none, 0, rfl, by omega, rfl⟩⟩ ⟨by simp, .inl ⟨none, 0, rfl, by omega, rfl⟩⟩)
        rw [htr] at C5
        clear bc BB HRS htr HNO
        go_wp2_with fail
        refine C5.out.mono ?_
        rintro e w6 ⟨rfl, n6, rfl⟩
        clear C5
        go_wp2
        go_ret
        exact ⟨by first | rfl | (simp; done), BC.out.trans (below_dn _ _ _)⟩
      exfalso
      have h1 := S.r1
      have h2 := S.wl
      have h3 := HRL.out
      have h4 := HWL.out
      omega
  · rcases hcs1 with ⟨rfl, rfl, rfl, rfl⟩ | ⟨g1, off1, mm1, rfl⟩
    ·
      go_enter Try.func4, Try.ntmps4
      go_wp2_with fail
      refine (HS.out _).mono ?_
      rintro e wa ⟨rfl, ba⟩
      have BA := Lib.hid ba
      clear ba HS
      go_wp2_with fail
      refine (HSTR.out _ BA.out _).mono ?_
      rintro e wb ⟨bb, ⟨S, G, c, rfl, hn, hG⟩ | ⟨hno, rfl⟩⟩
      rotate_left
      · have BB := Lib.hid (BA.out.trans (bb.mono BA.out.size))
        have HNO := Lib.hid hno
        clear bb BA hno HSTR HRN HWN HRA HWA
        go_wp2_with fail
        refine (HRS.out _ BB.out _).mono ?_
        rintro e wc ⟨bc, ⟨S, _⟩ | ⟨_, rfl⟩⟩
        · exact absurd S HNO.out
        have BC := Lib.hid (BB.out.trans (bc.mono BB.out.size))
        have htr : decide (([] : List Int) = []) = true := by simp
        have C5 := Lib.hid (same_any (.slice none 0 0) (.slice none 0 0) [] [] wc ⟨by simp, .inl ⟨none, 0, rfl, by omega, rfl⟩⟩ ⟨by simp, .inl ⟨none, 0, rfl, by omega, rfl⟩⟩)
        rw [htr] at C5
        clear bc BB HRS htr HNO
        go_wp2_with fail
        refine C5.out.mono ?_
        rintro e w6 ⟨rfl, n6, rfl⟩
        clear C5
        go_wp2
        go_ret
        exact ⟨by first | rfl | (simp; done), BC.out.trans (below_dn _ _ _)⟩
      exfalso
      have h1 := S.r1
      have h2 := S.wl
      have h3 := HRL.out
      have h4 := HWL.out
      omega
    ·
      go_enter Try.func4, Try.ntmps4
      go_wp2_with fail
      refine (HS.out _).mono ?_
      rintro e wa ⟨rfl, ba⟩
      have BA := Lib.hid ba
      clear ba HS
      go_wp2_with fail
      refine (HSTR.out _ BA.out _).mono ?_
      rintro e wb ⟨bb, ⟨S, G, c, rfl, hn, hG⟩ | ⟨hno, rfl⟩⟩
      rotate_left
      · have BB := Lib.hid (BA.out.trans (bb.mono BA.out.size))
        have HNO := Lib.hid hno
        clear bb BA hno HSTR HRN HWN HRA HWA
        go_wp2_with fail
        refine (HRS.out _ BB.out _).mono ?_
        rintro e wc ⟨bc, ⟨S, _⟩ | ⟨_, rfl⟩⟩
        · exact absurd S HNO.out
        have BC := Lib.hid (BB.out.trans (bc.mono BB.out.size))
        have htr : decide (([] : List Int) = []) = true := by simp
        have C5 := Lib.hid (same_any (.slice none 0 0) (.slice none 0 0) [] [] wc ⟨by simp, .inl ⟨none, 0, rfl, by omega, rfl⟩⟩ ⟨by simp, .inl ⟨none, 0, rfl, by omega, rfl⟩⟩)
        rw [htr] at C5
        clear bc BB HRS htr HNO
        go_wp2_with fail
        refine C5.out.mono ?_
        rintro e w6 ⟨rfl, n6, rfl⟩
        clear C5
        go_wp2
        go_ret
        exact ⟨by first | rfl | (simp; done), BC.out.trans (below_dn _ _ _)⟩
      have BB := Lib.hid (BA.out.trans (bb.mono BA.out.size))
      have HS0 := Lib.hid S
      have HN := Lib.hid hn
      have hnn : rows.length = n := HRL.out
      rw [hnn] at HN ⊢
      clear bb BA hn hG S HSTR HRN HWN HRA HWA hnn
      go_wp2_with fail
      refine (HRS.out _ BB.out _).mono ?_
      rintro e wc ⟨bc, ⟨_, v, rfl, hv⟩ | ⟨hno, _⟩⟩
      rotate_left
      · exact absurd HS0.out hno
      have BC := Lib.hid (BB.out.trans (bc.mono BB.out.size))
      have htr : decide (stretchP rows ws a2 = stretchP rows ws a2) = true := by simp
      have C5 := Lib.hid (same_any _ _ _ _ wc (nums_below HN.out bc) hv)
      rw [htr] at C5
      clear bc BB HRS htr hv HN HS0
      go_wp2_with fail
      refine C5.out.mono ?_
      rintro e w6 ⟨rfl, n6, rfl⟩
      clear C5
      go_wp2
      go_ret
      exact ⟨by first | rfl | (simp; done), BC.out.trans (below_dn _ _ _)⟩


set_option maxRecDepth 100000 in
theorem lifted (os : Os) (started : os.Started) (H : Type) (enc : TypeId × Value → H) :
    ReturnsInHanded {} Try.checked os 4 .any (Rows.heightsStretchSpec.pre6 enc Try.prog Try.f4 Rows.heightsStretchRow.domain false) (Rows.heightsStretchSpec.post enc Try.prog Try.f4 false true false false) := by
  refine returnsInHanded_of_change (C := Try.checked) own started (by kernel_rfl) Try.func4
    (ChangeSpec.witness6 (enc := enc) (C := Try.checked) false ⟨#[], #[.slice none 0 0, .slice none 0 0, .int .i64 0], []⟩ 8 (by kernel_rfl) (by kernel_rfl) (by kernel_rfl) (by kernel_rfl)) ?_
  intro W base args ds gs before hval0 hW hcnd _
  have hval : ∀ (j : Nat) t v, Try.f4.params[j]? = some t → args[j]? = some v → Value.okWide Try.prog W .any base t v := hval0
  have hW' := hW
  obtain ⟨p, q, hA0, hV, rfl, hfz, hnd⟩ := hW
  have hA : DataW.TrodAll enc Try.prog W 0 (fun _ => true) true Try.f4.params.toList args.toList ds p := hA0
  rw [Try.params4] at hA hval
  obtain ⟨v0, vs0, d0, ds0, p0, q0, hargs, rfl, rfl, h0, r0⟩ := trodAll_cons hA
  obtain ⟨v1, vs1, d1, ds1, p1, q1, rfl, rfl, rfl, h1, r1⟩ := trodAll_cons r0
  obtain ⟨v2, vs2, d2, ds2, p2, q2, rfl, rfl, rfl, h2, r2⟩ := trodAll_cons r1
  obtain ⟨rfl, rfl, rfl⟩ := trodAll_nil r2
  obtain rfl : args = #[v0, v1, v2] := by cases args; simp_all
  obtain ⟨rfl, rfl⟩ := trodVars_none hV
  obtain ⟨a0, len0, cap0, rfl⟩ := okWide_slice Try.underlying22 (hval 0 22 v0 rfl rfl)
  have k0 := h0
  have lt0 : ∀ x ∈ p0, x.block < W.heap.size := by obtain ⟨m, hm⟩ := k0; exact DataW.trod_lt m _ _ _ hm
  obtain ⟨z0, w0⟩ : ∃ zs, IntArg W a0 len0 cap0 zs := by
    obtain ⟨fuel, hf⟩ := h0
    exact open_intsH (by simpa [Value.cells] using hf)
  obtain ⟨a1, len1, cap1, rfl⟩ := okWide_slice Try.underlying22 (hval 1 22 v1 rfl rfl)
  have k1 := h1
  have lt1 : ∀ x ∈ p1, x.block < W.heap.size := by obtain ⟨m, hm⟩ := k1; exact DataW.trod_lt m _ _ _ hm
  obtain ⟨z1, w1⟩ : ∃ zs, IntArg W a1 len1 cap1 zs := by
    obtain ⟨fuel, hf⟩ := h1
    exact open_intsH (by simpa [Value.cells] using hf)
  obtain ⟨a2, rfl, rfl, rfl, w2⟩ := open_int Try.underlying2 (hval 2 2 v2 rfl rfl) h2
  clear hA0 hval0
  simp only [List.append_nil] at hW'
  refine (walk W a0 len0 cap0 z0 w0 a1 len1 cap1 z1 w1 a2 w2).mono fun e W' ⟨he, hg⟩ => ?_
  subst he
  exact ⟨_, rfl, _, _, _, [], _, [], hW', (trodAll_cons_mk (shut_bool Try.underlying4 _) trodAll_mk0), (trodAll_cons_mk (Below.trod laidOut (by kernel_rfl) (of_decide_eq_true (by kernel_rfl)) k0 hg lt0) (trodAll_cons_mk (Below.trod laidOut (by kernel_rfl) (of_decide_eq_true (by kernel_rfl)) k1 hg lt1) (trodAll_cons_mk (shut_int Try.underlying2 w2) trodAll_mk0))), rfl, hg.frame _, fun h => by cases h⟩

theorem over : Rows.heightsStretchRow.holds Try.pinned (OpenSpec.ofChange Rows.heightsStretchSpec) :=
  OpenClaim.holds_of_wide 4 Try.f4 rfl rfl rfl rfl rfl rfl rfl ⟨rfl, rfl, rfl, rfl, rfl⟩ rfl rfl rfl rfl rfl (by kernel_rfl) Try.func4 (by kernel_rfl)
    (of_decide_eq_true (by kernel_rfl)) (by unfold Func.isWrapper; first | (rw [if_pos (by decide +kernel)]; kernel_rfl) | (rw [if_neg (by decide +kernel)]; exact ⟨rfl, rfl⟩))
    (fun os started H enc _ => lifted os started H enc)

/-- the statement -/
theorem proved : Rows.HeightsStretchSaid :=
  over
#print axioms proved
end Go.Proofs.Ytpbkboandiigfaa.heightsStretch
