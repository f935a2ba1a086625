/- Rows that are as high as the total already stay as they are, for any rows and requested heights (the first hundred). -/
import Derived.Test.YtpbkboandiigfaaRows
import Derived.WalkKit
import Derived.ProofKit
import Derived.OpenShut
import Derived.Below
import Derived.Test.YtpbkboandiigfaaHLaw
import Derived.ShutString
namespace Go.Proofs.Ytpbkboandiigfaa.heightsStay
open Go.ChangeShapes Go.WideShapes Go.ChangeAt Go.RowKit
set_option linter.unusedVariables false

theorem own : ownKnob Try.prog.godebug = none := by kernel_rfl
theorem laidOut : laidOutB Try.prog = true := by kernel_rfl

open Go.Shelf
attribute [local go_sem] Oper.semAt_some
theorem take_sum (l : List Int) (i : Nat) : sumZ (l.take (i + 1)) = sumZ (l.take i) + l[i]?.getD 0 := sumZ_take l i
theorem sum_few (l : List Int) (h : OkW l) (hl : l.length ≤ 100) (i : Nat) : 0 ≤ sumZ (l.take i) ∧ sumZ (l.take i) ≤ 112589990684262300 := by
  have h1 : OkW (l.take i) := fun z hz => h z (List.mem_of_mem_take hz)
  refine ⟨sumZ_nn _ h1, ?_⟩
  have key : ∀ m : List Int, OkW m → sumZ m ≤ m.length * 1125899906842623 := fun m => by
    induction m with
    | nil => intro _; simp [sumZ]
    | cons x m ih =>
      intro hm
      have := ih fun z hz => hm z (by simp [hz])
      have := hm x (by simp)
      rw [sumZ_cons, List.length_cons]
      omega
  have := key _ h1
  have h2 : ((l.take i).length : Int) ≤ 100 := by rw [List.length_take]; omega
  omega
set_option maxRecDepth 100000 in
set_option maxHeartbeats 8000000 in
theorem walk (w : World) (a0 : Option Addr) (len0 cap0 : Nat) (z0 : List Int) (w0 : IntArg w a0 len0 cap0 z0) (a1 : Option Addr) (len1 cap1 : Nat) (z1 : List Int) (w1 : IntArg w a1 len1 cap1 z1) :
    Calls Try.prog 9 #[.slice a0 len0 cap0, .slice a1 len1 cap1] w fun e w' => e = .returned (.bool true) ∧ Below w.heap.size w w' := by
  obtain ⟨hr, hrf, hr1, hr2, hr3⟩ := IntArg.take w0 100
  obtain ⟨hw, hwf, hw1, hw2, hw3⟩ := IntArg.take w1 100
  have HS := Lib.hid (fun X => shown16_any X)
  have hmin : min (len0 : Int) 100 = ((min len0 100 : Nat) : Int) := by omega
  have hmin1 : min (len1 : Int) 100 = ((min len1 100 : Nat) : Int) := by omega
  have hml : min len0 100 ≤ 100 := by omega
  have hml1 : min len1 100 ≤ 100 := by omega
  have hmc : min len0 100 ≤ cap0 := by omega
  have hmc1 : min len1 100 ≤ cap1 := by omega
  have hcs : (a0 = none ∧ min len0 100 = 0 ∧ cap0 = 0 ∧ len0 = 0) ∨ ∃ g off mm, a0 = some ⟨g, off, mm⟩ := by
    rcases hr3 with ⟨h1, h2, h3⟩ | h
    · exact .inl ⟨h1, by omega, h3, h2⟩
    · exact .inr h
  have hcs1 : (a1 = none ∧ min len1 100 = 0 ∧ cap1 = 0 ∧ len1 = 0) ∨ ∃ g off mm, a1 = some ⟨g, off, mm⟩ := by
    rcases hw3 with ⟨h1, h2, h3⟩ | h
    · exact .inl ⟨h1, by omega, h3, h2⟩
    · exact .inr h
  generalize min len0 100 = n at *
  generalize min len1 100 = m at *
  generalize z0.take 100 = rows at *
  generalize z1.take 100 = ws at *
  have HSTR := Lib.hid (fun X (hX : Below w.heap.size w X) total => stretch_any a0 a1 n cap0 m cap1 rows ws total X (hr.below hX) (hw.below hX) (by omega) (by omega))
  have HRN := Lib.hid (fun X (hX : Below w.heap.size w X) => iarg_nums (hr.below hX))
  have HWN := Lib.hid (fun X (hX : Below w.heap.size w X) => iarg_nums (hw.below hX))
  have HRA := Lib.hid (fun X (hX : Below w.heap.size w X) => (hr.below hX).ints)
  have HWA := Lib.hid (fun X (hX : Below w.heap.size w X) => (hw.below hX).ints)
  have HRL := Lib.hid hr.len
  have HWL := Lib.hid hw.len
  clear w0 w1 hr hrf hr1 hr2 hr3 hw hwf hw1 hw2 hw3
  rcases hcs with ⟨rfl, rfl, rfl, rfl⟩ | ⟨g, off, mm, rfl⟩
  · rcases hcs1 with ⟨rfl, rfl, rfl, rfl⟩ | ⟨g1, off1, mm1, rfl⟩
    all_goals
      go_enter Try.func9, Try.ntmps9
      go_wp2_with fail
      refine (HS.out _).mono ?_
      rintro e wa ⟨rfl, ba⟩
      have BA := Lib.hid ba
      clear ba HS
      go_wp2_with fail
      refine (HSTR.out _ BA.out _).mono ?_
      rintro e wb ⟨bb, ⟨S, G, c, rfl, hn, hG⟩ | ⟨hno, rfl⟩⟩
      rotate_left
      · have BB := Lib.hid (BA.out.trans (bb.mono BA.out.size))
        clear bb BA hno HSTR HRN HWN HRA HWA
        go_wp2
        go_ret
        exact ⟨by first | rfl | (simp; done), BB.out⟩
      exfalso
      have h1 := S.r1
      have h2 := S.wl
      have h3 := HRL.out
      have h4 := HWL.out
      omega
  · rcases hcs1 with ⟨rfl, rfl, rfl, rfl⟩ | ⟨g1, off1, mm1, rfl⟩
    ·
      go_enter Try.func9, Try.ntmps9
      go_wp2_with fail
      refine (HS.out _).mono ?_
      rintro e wa ⟨rfl, ba⟩
      have BA := Lib.hid ba
      clear ba HS
      go_wp2_with fail
      refine (HSTR.out _ BA.out _).mono ?_
      rintro e wb ⟨bb, ⟨S, G, c, rfl, hn, hG⟩ | ⟨hno, rfl⟩⟩
      rotate_left
      · have BB := Lib.hid (BA.out.trans (bb.mono BA.out.size))
        clear bb BA hno HSTR HRN HWN HRA HWA
        go_wp2
        go_ret
        exact ⟨by first | rfl | (simp; done), BB.out⟩
      exfalso
      have h1 := S.r1
      have h2 := S.wl
      have h3 := HRL.out
      have h4 := HWL.out
      omega
    ·
      go_enter Try.func9, Try.ntmps9
      go_wp2_with fail
      refine (HS.out _).mono ?_
      rintro e wa ⟨rfl, ba⟩
      have BA := Lib.hid ba
      clear ba HS
      go_wp2_with fail
      refine (HSTR.out _ BA.out _).mono ?_
      rintro e wb ⟨bb, ⟨S, G, c, rfl, hn, hG⟩ | ⟨hno, rfl⟩⟩
      rotate_left
      · have BB := Lib.hid (BA.out.trans (bb.mono BA.out.size))
        clear bb BA hno HSTR HRN HWN HRA HWA
        go_wp2
        go_ret
        exact ⟨by first | rfl | (simp; done), BB.out⟩
      have BB := Lib.hid (BA.out.trans (bb.mono BA.out.size))
      have HS0 := Lib.hid S
      have hst := S.stay (by have := sumZ_nn rows S.rk; omega)
      rw [hst] at hn
      have HN := Lib.hid hn
      have HOK := Lib.hid S.rk
      have hnn : rows.length = n := HRL.out
      rw [hnn] at HN ⊢
      have hn1 : 1 ≤ n := by have := S.r1; omega
      clear bb BA hn hG hst S hnn
      go_wp2
      go_loopw [8, 9] (fun s8 s9 X => ∃ i : Nat, i ≤ n ∧ s9 = .int .i64 (i : Int) ∧ s8 = .int .i64 (sumZ (rows.take i)) ∧ Hid (Below wb.heap.size wb X)) (fun _ s9 _ => n - (intOf s9).toNat)
      case atStart => exact ⟨0, Nat.zero_le _, rfl, by simp [sumZ], Lib.hid (Below.refl _ _)⟩
      case round =>
        obtain ⟨i, hi, rfl, rfl, HX⟩ := hrel
        have BW := BB.out.trans (HX.out.mono BB.out.size)
        by_cases hlt : i < n
        · obtain ⟨rb, ro, hre, hrc⟩ : ∃ b o, (some (⟨g, off, mm⟩ : Addr)) = some ⟨b, o, none⟩ ∧ wr.cell? ⟨b, o + i, none⟩ = some (.int .i64 (rows[i]?.getD 0)) := by
            obtain ⟨_, ⟨a, c', e, he⟩ | ⟨b, off, c', e, hc⟩⟩ := (HRA.out wr BW)
            · have := HRL.out; rw [he] at this; simp at this; omega
            · injection e with e1
              exact ⟨b, off, e1, hc i (by rw [HRL.out]; omega)⟩
          injection hre with hre
          injection hre with e1 e2 e3
          subst e1 e2 e3
          have hts := take_sum rows i
          have hsf := sum_few rows HOK.out (by rw [HRL.out]; exact hml) i
          have hz := okW_get rows HOK.out i
          generalize rows[i]?.getD 0 = z at *
          obtain ⟨q, hq⟩ : ∃ q, sumZ (rows.take i) = q := ⟨_, rfl⟩
          rw [hq] at hts hsf
          have HQ : Hid (sumZ (rows.take (i + 1)) = q + z) := Lib.hid hts
          have hwr : IntKind.i64.wrap (q + z) = q + z := by rw [IntKind.wrap_i64]; omega
          have lrb := cell_lt hrc
          rw [hq]
          clear hq hts BW HSTR HRN HWN HRA HWA HN BB
          go_wp2
          go_roundw
          case rel => exact ⟨i + 1, by omega, by go_num, by rw [HQ.out], HX⟩
          case measure => simp [intOf]; omega
        · obtain rfl : n = i := by omega
          have hta : rows.take n = rows := List.take_of_length_le (by rw [HRL.out]; exact Nat.le_refl _)
          have hsf := sum_few rows HOK.out (by rw [HRL.out]; exact hml) n
          rw [hta] at hsf ⊢
          have S2 : StrOk rows ws (sumZ rows) := ⟨HS0.out.r1, HS0.out.r2, HS0.out.wl, HS0.out.wk, HS0.out.rk, hsf.1, by omega⟩
          have hst2 := S2.stay (Int.le_refl _)
          have C2 := Lib.hid (HSTR.out wr BW (sumZ rows))
          have N1 := Lib.hid (nums_below HN.out HX.out)
          have BX := Lib.hid BW
          clear HSTR HN HX BB hta
          obtain ⟨q, hq⟩ : ∃ q, sumZ rows = q := ⟨_, rfl⟩
          rw [hq] at C2 S2 hst2 hsf ⊢
          have HST2 := Lib.hid hst2
          have HS2 := Lib.hid S2
          clear hq hst2 S2 BW
          go_wp2_with fail
          refine C2.out.mono ?_
          rintro e w5 ⟨b5, ⟨S5, G5, c5, rfl, hn5, hG5⟩ | ⟨hno, rfl⟩⟩
          rotate_left
          · exact absurd HS2.out hno
          rw [HST2.out] at hn5
          have hnn : rows.length = n := HRL.out
          rw [hnn] at hn5 ⊢
          have N5 := Lib.hid hn5
          have N15 := Lib.hid (nums_below N1.out b5)
          have B5 := Lib.hid (BX.out.trans (b5.mono BX.out.size))
          have htr : decide (rows = rows) = true := by simp
          have C5 := Lib.hid (same_any _ _ _ _ w5 N15.out (HRN.out w5 B5.out))
          rw [htr] at C5
          clear htr
          clear C2 b5 hn5 hG5 S5 N1 BX hnn
          go_wp2_with fail
          refine C5.out.mono ?_
          rintro e w6 ⟨rfl, n6, rfl⟩
          have B56 : Below w5.heap.size w5 (w5.drewN n6) := below_dn _ _ _
          have B6 := Lib.hid (B5.out.trans (B56.mono B5.out.size))
          have N6 := Lib.hid (nums_below N5.out B56)
          have C6 := Lib.hid (same_any _ _ _ _ _ N6.out (HRN.out _ B6.out))
          have htr : decide (rows = rows) = true := by simp
          rw [htr] at C6
          clear htr
          obtain ⟨w6, hw6⟩ : ∃ w6, w5.drewN n6 = w6 := ⟨_, rfl⟩
          rw [hw6] at C6 B6 ⊢
          clear C5 B56 N5 N6 N15 hw6 B5
          go_wp2_with fail
          refine C6.out.mono ?_
          rintro e w7 ⟨rfl, n7, rfl⟩
          clear C6
          go_wp2
          go_ret
          exact ⟨by first | rfl | (simp; done), B6.out.trans (below_dn _ _ _)⟩


set_option maxRecDepth 100000 in
theorem lifted (os : Os) (started : os.Started) (H : Type) (enc : TypeId × Value → H) :
    ReturnsInHanded {} Try.checked os 9 .any (Rows.heightsStaySpec.pre6 enc Try.prog Try.f9 Rows.heightsStayRow.domain false) (Rows.heightsStaySpec.post enc Try.prog Try.f9 false true false false) := by
  refine returnsInHanded_of_change (C := Try.checked) own started (by kernel_rfl) Try.func9
    (ChangeSpec.witness6 (enc := enc) (C := Try.checked) false ⟨#[], #[.slice none 0 0, .slice none 0 0], []⟩ 8 (by kernel_rfl) (by kernel_rfl) (by kernel_rfl) (by kernel_rfl)) ?_
  intro W base args ds gs before hval0 hW hcnd _
  have hval : ∀ (j : Nat) t v, Try.f9.params[j]? = some t → args[j]? = some v → Value.okWide Try.prog W .any base t v := hval0
  have hW' := hW
  obtain ⟨p, q, hA0, hV, rfl, hfz, hnd⟩ := hW
  have hA : DataW.TrodAll enc Try.prog W 0 (fun _ => true) true Try.f9.params.toList args.toList ds p := hA0
  rw [Try.params9] at hA hval
  obtain ⟨v0, vs0, d0, ds0, p0, q0, hargs, rfl, rfl, h0, r0⟩ := trodAll_cons hA
  obtain ⟨v1, vs1, d1, ds1, p1, q1, rfl, rfl, rfl, h1, r1⟩ := trodAll_cons r0
  obtain ⟨rfl, rfl, rfl⟩ := trodAll_nil r1
  obtain rfl : args = #[v0, v1] := by cases args; simp_all
  obtain ⟨rfl, rfl⟩ := trodVars_none hV
  obtain ⟨a0, len0, cap0, rfl⟩ := okWide_slice Try.underlying22 (hval 0 22 v0 rfl rfl)
  have k0 := h0
  have lt0 : ∀ x ∈ p0, x.block < W.heap.size := by obtain ⟨m, hm⟩ := k0; exact DataW.trod_lt m _ _ _ hm
  obtain ⟨z0, w0⟩ : ∃ zs, IntArg W a0 len0 cap0 zs := by
    obtain ⟨fuel, hf⟩ := h0
    exact open_intsH (by simpa [Value.cells] using hf)
  obtain ⟨a1, len1, cap1, rfl⟩ := okWide_slice Try.underlying22 (hval 1 22 v1 rfl rfl)
  have k1 := h1
  have lt1 : ∀ x ∈ p1, x.block < W.heap.size := by obtain ⟨m, hm⟩ := k1; exact DataW.trod_lt m _ _ _ hm
  obtain ⟨z1, w1⟩ : ∃ zs, IntArg W a1 len1 cap1 zs := by
    obtain ⟨fuel, hf⟩ := h1
    exact open_intsH (by simpa [Value.cells] using hf)
  clear hA0 hval0
  simp only [List.append_nil] at hW'
  refine (walk W a0 len0 cap0 z0 w0 a1 len1 cap1 z1 w1).mono fun e W' ⟨he, hg⟩ => ?_
  subst he
  exact ⟨_, rfl, _, _, _, [], _, [], hW', (trodAll_cons_mk (shut_bool Try.underlying4 _) trodAll_mk0), (trodAll_cons_mk (Below.trod laidOut (by kernel_rfl) (of_decide_eq_true (by kernel_rfl)) k0 hg lt0) (trodAll_cons_mk (Below.trod laidOut (by kernel_rfl) (of_decide_eq_true (by kernel_rfl)) k1 hg lt1) trodAll_mk0)), rfl, hg.frame _, fun h => by cases h⟩

theorem over : Rows.heightsStayRow.holds Try.pinned (OpenSpec.ofChange Rows.heightsStaySpec) :=
  OpenClaim.holds_of_wide 9 Try.f9 rfl rfl rfl rfl rfl rfl rfl ⟨rfl, rfl, rfl, rfl, rfl⟩ rfl rfl rfl rfl rfl (by kernel_rfl) Try.func9 (by kernel_rfl)
    (of_decide_eq_true (by kernel_rfl)) (by unfold Func.isWrapper; first | (rw [if_pos (by decide +kernel)]; kernel_rfl) | (rw [if_neg (by decide +kernel)]; exact ⟨rfl, rfl⟩))
    (fun os started H enc _ => lifted os started H enc)

/-- the statement -/
theorem proved : Rows.HeightsStaySaid :=
  over
#print axioms proved
end Go.Proofs.Ytpbkboandiigfaa.heightsStay
