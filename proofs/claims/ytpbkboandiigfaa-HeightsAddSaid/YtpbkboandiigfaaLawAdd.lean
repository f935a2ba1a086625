/- Stretched rows add up to the total, unless they are more already; none is less; those that want a height keep theirs, if others want none; for any rows, requested heights (the first hundred), any total. -/
import Derived.Test.YtpbkboandiigfaaRows
import Derived.WalkKit
import Derived.ProofKit
import Derived.OpenShut
import Derived.Below
import Derived.Test.YtpbkboandiigfaaHLaw
import Derived.ShutString
namespace Go.Proofs.Ytpbkboandiigfaa.heightsAdd
open Go.ChangeShapes Go.WideShapes Go.ChangeAt Go.RowKit
set_option linter.unusedVariables false

theorem own : ownKnob Try.prog.godebug = none := by kernel_rfl
theorem laidOut : laidOutB Try.prog = true := by kernel_rfl

open Go.Shelf
attribute [local go_sem] Oper.semAt_some
theorem take_sum (l : List Int) (i : Nat) : sumZ (l.take (i + 1)) = sumZ (l.take i) + l[i]?.getD 0 := sumZ_take l i
theorem sum_few (l : List Int) (h : OkW l) (hl : l.length ≤ 100) (i : Nat) : 0 ≤ sumZ (l.take i) ∧ sumZ (l.take i) ≤ 112589990684262300 := by
  have h1 : OkW (l.take i) := fun z hz => h z (List.mem_of_mem_take hz)
  refine ⟨sumZ_nn _ h1, ?_⟩
  have key : ∀ m : List Int, OkW m → sumZ m ≤ m.length * 1125899906842623 := fun m => by
    induction m with
    | nil => intro _; simp [sumZ]
    | cons x m ih =>
      intro hm
      have := ih fun z hz => hm z (by simp [hz])
      have := hm x (by simp)
      rw [sumZ_cons, List.length_cons]
      omega
  have := key _ h1
  have h2 : ((l.take i).length : Int) ≤ 100 := by rw [List.length_take]; omega
  omega
/-- is there a row, of the first so many, that asks for nothing? -/
def freeB (ws : List Int) (i : Nat) : Bool := (ws.take i).any fun z => decide (z = -1)
theorem freeB_succ (ws : List Int) (i : Nat) (h : i < ws.length) : freeB ws (i + 1) = (freeB ws i || decide (ws[i]?.getD 0 = -1)) := by
  unfold freeB
  rw [List.take_add_one, List.any_append, List.getElem?_eq_getElem h]
  simp
theorem freeB_all {ws : List Int} (h : freeB ws ws.length = true) : ∃ i : Nat, i < ws.length ∧ ws[i]?.getD 0 = -1 := by
  unfold freeB at h
  rw [List.take_length, List.any_eq_true] at h
  obtain ⟨z, hz, e⟩ := h
  obtain ⟨i, hi⟩ := List.mem_iff_getElem?.1 hz
  exact ⟨i, (List.getElem?_eq_some_iff.1 hi).1, by rw [hi]; simpa using e⟩
theorem str_few {rows ws : List Int} {total : Int} (S : StrOk rows ws total) (hl : rows.length ≤ 100) (i : Nat) : 0 ≤ sumZ ((stretchP rows ws total).take i) ∧ sumZ ((stretchP rows ws total).take i) ≤ 1152921504606846976 := by
  have hp : ∀ z ∈ stretchP rows ws total, 0 ≤ z := fun z hz => by
    obtain ⟨k, hk⟩ := List.mem_iff_getElem?.1 hz
    have h1 := S.ge k
    have h2 := okW_get rows S.rk k
    rw [hk, Option.getD_some] at h1
    omega
  have hs := S.sum
  have hf := sum_few rows S.rk hl rows.length
  rw [List.take_length] at hf
  have ht := S.t1
  have h0 : ∀ (l : List Int) (k : Nat), (∀ z ∈ l, 0 ≤ z) → 0 ≤ sumZ (l.take k) ∧ sumZ (l.take k) ≤ sumZ l := fun l k => by
    induction l generalizing k with
    | nil => intro _; simp [sumZ]
    | cons x l ih =>
      intro h
      have hx := h x (by simp)
      have hl' : ∀ z ∈ l, 0 ≤ z := fun z hz => h z (by simp [hz])
      cases k with
      | zero => have := (ih 0 hl'); rw [List.take_zero, sumZ_cons]; simp [sumZ] at *; omega
      | succ k => have := ih k hl'; rw [List.take_succ_cons, sumZ_cons, sumZ_cons]; omega
  have := h0 _ i hp
  omega
set_option maxRecDepth 100000 in
set_option maxHeartbeats 8000000 in
theorem walk (w : World) (a0 : Option Addr) (len0 cap0 : Nat) (z0 : List Int) (w0 : IntArg w a0 len0 cap0 z0) (a1 : Option Addr) (len1 cap1 : Nat) (z1 : List Int) (w1 : IntArg w a1 len1 cap1 z1) (a2 : Int) (h2 : (Lit.int .i64 a2).wf = true) :
    Calls Try.prog 6 #[.slice a0 len0 cap0, .slice a1 len1 cap1, .int .i64 a2] w fun e w' => e = .returned (.bool true) ∧ Below w.heap.size w w' := by
  obtain ⟨hr, hrf, hr1, hr2, hr3⟩ := IntArg.take w0 100
  obtain ⟨hw, hwf, hw1, hw2, hw3⟩ := IntArg.take w1 100
  have HS := Lib.hid (fun X => shown16_any X)
  have hmin : min (len0 : Int) 100 = ((min len0 100 : Nat) : Int) := by omega
  have hmin1 : min (len1 : Int) 100 = ((min len1 100 : Nat) : Int) := by omega
  have hml : min len0 100 ≤ 100 := by omega
  have hml1 : min len1 100 ≤ 100 := by omega
  have hmc : min len0 100 ≤ cap0 := by omega
  have hmc1 : min len1 100 ≤ cap1 := by omega
  have hcs : (a0 = none ∧ min len0 100 = 0 ∧ cap0 = 0 ∧ len0 = 0) ∨ ∃ g off mm, a0 = some ⟨g, off, mm⟩ := by
    rcases hr3 with ⟨h1, h2, h3⟩ | h
    · exact .inl ⟨h1, by omega, h3, h2⟩
    · exact .inr h
  have hcs1 : (a1 = none ∧ min len1 100 = 0 ∧ cap1 = 0 ∧ len1 = 0) ∨ ∃ g off mm, a1 = some ⟨g, off, mm⟩ := by
    rcases hw3 with ⟨h1, h2, h3⟩ | h
    · exact .inl ⟨h1, by omega, h3, h2⟩
    · exact .inr h
  generalize min len0 100 = n at *
  generalize min len1 100 = m at *
  generalize z0.take 100 = rows at *
  generalize z1.take 100 = ws at *
  have HSTR := Lib.hid (fun X (hX : Below w.heap.size w X) total => stretch_any a0 a1 n cap0 m cap1 rows ws total X (hr.below hX) (hw.below hX) (by omega) (by omega))
  have HRN := Lib.hid (fun X (hX : Below w.heap.size w X) => iarg_nums (hr.below hX))
  have HWN := Lib.hid (fun X (hX : Below w.heap.size w X) => iarg_nums (hw.below hX))
  have HRA := Lib.hid (fun X (hX : Below w.heap.size w X) => (hr.below hX).ints)
  have HWA := Lib.hid (fun X (hX : Below w.heap.size w X) => (hw.below hX).ints)
  have HRL := Lib.hid hr.len
  have HWL := Lib.hid hw.len
  clear w0 w1 hr hrf hr1 hr2 hr3 hw hwf hw1 hw2 hw3
  rcases hcs with ⟨rfl, rfl, rfl, rfl⟩ | ⟨g, off, mm, rfl⟩
  · rcases hcs1 with ⟨rfl, rfl, rfl, rfl⟩ | ⟨g1, off1, mm1, rfl⟩
    all_goals
      go_enter Try.func6, Try.ntmps6
      go_wp2_with fail
      refine (HS.out _).mono ?_
      rintro e wa ⟨rfl, ba⟩
      have BA := Lib.hid ba
      clear ba HS
      go_wp2_with fail
      refine (HSTR.out _ BA.out _).mono ?_
      rintro e wb ⟨bb, ⟨S, G, c, rfl, hn, hG⟩ | ⟨hno, rfl⟩⟩
      rotate_left
      · have BB := Lib.hid (BA.out.trans (bb.mono BA.out.size))
        clear bb BA hno HSTR HRN HWN HRA HWA
        go_wp2
        go_ret
        exact ⟨by first | rfl | (simp; done), BB.out⟩
      exfalso
      have h1 := S.r1
      have h2 := S.wl
      have h3 := HRL.out
      have h4 := HWL.out
      omega
  · rcases hcs1 with ⟨rfl, rfl, rfl, rfl⟩ | ⟨g1, off1, mm1, rfl⟩
    ·
      go_enter Try.func6, Try.ntmps6
      go_wp2_with fail
      refine (HS.out _).mono ?_
      rintro e wa ⟨rfl, ba⟩
      have BA := Lib.hid ba
      clear ba HS
      go_wp2_with fail
      refine (HSTR.out _ BA.out _).mono ?_
      rintro e wb ⟨bb, ⟨S, G, c, rfl, hn, hG⟩ | ⟨hno, rfl⟩⟩
      rotate_left
      · have BB := Lib.hid (BA.out.trans (bb.mono BA.out.size))
        clear bb BA hno HSTR HRN HWN HRA HWA
        go_wp2
        go_ret
        exact ⟨by first | rfl | (simp; done), BB.out⟩
      exfalso
      have h1 := S.r1
      have h2 := S.wl
      have h3 := HRL.out
      have h4 := HWL.out
      omega
    ·
      go_enter Try.func6, Try.ntmps6
      go_wp2_with fail
      refine (HS.out _).mono ?_
      rintro e wa ⟨rfl, ba⟩
      have BA := Lib.hid ba
      clear ba HS
      go_wp2_with fail
      refine (HSTR.out _ BA.out _).mono ?_
      rintro e wb ⟨bb, ⟨S, G, c, rfl, hn, hG⟩ | ⟨hno, rfl⟩⟩
      rotate_left
      · have BB := Lib.hid (BA.out.trans (bb.mono BA.out.size))
        clear bb BA hno HSTR HRN HWN HRA HWA
        go_wp2
        go_ret
        exact ⟨by first | rfl | (simp; done), BB.out⟩
      have BB := Lib.hid (BA.out.trans (bb.mono BA.out.size))
      have HS0 := Lib.hid S
      have HN := Lib.hid hn
      have hnn : rows.length = n := HRL.out
      have hmn : m = n := by have := S.wl; have := HWL.out; omega
      subst hmn
      rw [hnn] at HN ⊢
      have hn1 : 1 ≤ m := by have := S.r1; omega
      have HSTL := Lib.hid (S.len.trans hnn)
      clear bb BA hn hG S hnn
      obtain ⟨st, hst⟩ : ∃ st, stretchP rows ws a2 = st := ⟨_, rfl⟩
      have HSE := Lib.hid hst
      rw [hst] at HN HSTL
      clear hst
      have HNC := Lib.hid (fun X (hX : Below wb.heap.size wb X) i (hi : i < m) => show X.cell? ⟨G, 0 + i, none⟩ = some (.int .i64 (st[i]?.getD 0)) from by
        obtain ⟨_, ⟨a, c', e, _, he⟩ | ⟨b, off, c', e, _, _, hc⟩⟩ := (nums_below HN.out hX)
        · have := HSTL.out; rw [he] at this; simp at this; omega
        · injection e with e1; injection e1 with e1; injection e1 with e1 e2
          subst e1 e2
          exact hc i (by rw [HSTL.out]; exact hi))
      go_wp2
      go_loopw [10, 11, 12, 13] (fun s10 s11 s12 s13 X => ∃ i : Nat, i ≤ m ∧ s13 = .int .i64 (i : Int) ∧ s10 = .bool (freeB ws i) ∧ s11 = .int .i64 (sumZ (rows.take i)) ∧ s12 = .int .i64 (sumZ (st.take i)) ∧ Hid (Below wb.heap.size wb X)) (fun _ _ _ s13 _ => m - (intOf s13).toNat)
      case atStart => exact ⟨0, Nat.zero_le _, rfl, rfl, by simp [sumZ], by simp [sumZ], Lib.hid (Below.refl _ _)⟩
      case round =>
        obtain ⟨i, hi, rfl, rfl, rfl, rfl, HX⟩ := hrel
        have BW := BB.out.trans (HX.out.mono BB.out.size)
        by_cases hlt : i < m
        · obtain ⟨rb, ro, re, rc⟩ : ∃ b o, (some (⟨g, off, mm⟩ : Addr)) = some ⟨b, o, none⟩ ∧ wr.cell? ⟨b, o + i, none⟩ = some (.int .i64 (rows[i]?.getD 0)) := by
            obtain ⟨_, ⟨a, c', e, he⟩ | ⟨b, off, c', e, hc⟩⟩ := (HRA.out wr BW)
            · have := HRL.out; rw [he] at this; simp at this; omega
            · injection e with e1
              exact ⟨b, off, e1, hc i (by rw [HRL.out]; omega)⟩
          injection re with re
          injection re with re1 re2 re3
          subst re1 re2 re3
          have rl := cell_lt rc
          obtain ⟨wb, wo, we, wc⟩ : ∃ b o, (some (⟨g1, off1, mm1⟩ : Addr)) = some ⟨b, o, none⟩ ∧ wr.cell? ⟨b, o + i, none⟩ = some (.int .i64 (ws[i]?.getD 0)) := by
            obtain ⟨_, ⟨a, c', e, he⟩ | ⟨b, off, c', e, hc⟩⟩ := (HWA.out wr BW)
            · have := HWL.out; rw [he] at this; simp at this; omega
            · injection e with e1
              exact ⟨b, off, e1, hc i (by rw [HWL.out]; omega)⟩
          injection we with we
          injection we with we1 we2 we3
          subst we1 we2 we3
          have wl := cell_lt wc
          have hst := HNC.out wr HX.out i hlt
          rw [Nat.zero_add] at hst
          have hts := take_sum rows i
          have htt := take_sum st i
          have hsf := sum_few rows HS0.out.rk (by rw [HRL.out]; exact hml) i
          have hsg := str_few HS0.out (by rw [HRL.out]; exact hml) i
          rw [HSE.out] at hsg
          have hfb := freeB_succ ws i (by rw [HWL.out]; exact hlt)
          have hz := okW_get rows HS0.out.rk i
          have hge := HS0.out.ge i
          rw [HSE.out] at hge
          have hsb := str_few HS0.out (by rw [HRL.out]; exact hml) (i + 1)
          rw [HSE.out, htt] at hsb
          generalize rows[i]?.getD 0 = z at *
          generalize st[i]?.getD 0 = y at *
          generalize ws[i]?.getD 0 = x at *
          obtain ⟨q, hq⟩ : ∃ q, sumZ (rows.take i) = q := ⟨_, rfl⟩
          obtain ⟨q2, hq2⟩ : ∃ q, sumZ (st.take i) = q := ⟨_, rfl⟩
          obtain ⟨fb, hfb0⟩ : ∃ b, freeB ws i = b := ⟨_, rfl⟩
          rw [hq] at hts hsf
          rw [hq2] at htt hsg hsb
          rw [hfb0] at hfb
          have HQ : Hid (sumZ (rows.take (i + 1)) = q + z) := Lib.hid hts
          have HQ2 : Hid (sumZ (st.take (i + 1)) = q2 + y) := Lib.hid htt
          have HFB := Lib.hid hfb
          have hwr : IntKind.i64.wrap (q + z) = q + z := by rw [IntKind.wrap_i64]; omega
          have hwr2 : IntKind.i64.wrap (q2 + y) = q2 + y := by rw [IntKind.wrap_i64]; omega
          have hnl : ¬ y < z := by omega
          have lG := cell_lt hst
          rw [hq, hq2, hfb0]
          clear hq hq2 hfb0 hts htt hfb BW HSTR HRN HWN HRA HWA HN BB HNC hsb hge hsg hsf
          by_cases hx : x = -1
          · have hxb : (x == -1) = true := by simpa using hx
            have hd : decide (x = -1) = true := by simpa using hx
            rw [hd] at HFB
            clear hx
            cases fb
            all_goals
              go_wp2
              go_quiet (fail)
              go_wp2
              go_roundw
              case rel => exact ⟨i + 1, by omega, by go_num, by rw [HFB.out]; rfl, by rw [HQ.out], by rw [HQ2.out], Lib.hid (by first | exact HX.out.trans (below_dn _ _ _) | exact HX.out)⟩
              case measure => simp [intOf]; omega
          · have hxb : (x == -1) = false := by simpa using hx
            have hd : decide (x = -1) = false := by simpa using hx
            rw [hd] at HFB
            clear hx
            cases fb
            all_goals
              go_wp2
              go_quiet (fail)
              go_wp2
              go_roundw
              case rel => exact ⟨i + 1, by omega, by go_num, by rw [HFB.out]; rfl, by rw [HQ.out], by rw [HQ2.out], Lib.hid (by first | exact HX.out.trans (below_dn _ _ _) | exact HX.out)⟩
              case measure => simp [intOf]; omega
        · obtain rfl : m = i := by omega
          have hta : rows.take m = rows := List.take_of_length_le (by rw [HRL.out]; exact Nat.le_refl _)
          have htb : st.take m = st := List.take_of_length_le (by rw [HSTL.out]; exact Nat.le_refl _)
          have hsm := HS0.out.sum
          rw [HSE.out] at hsm
          rw [hta, htb, hsm]
          have HKP : Hid (freeB ws m = true → ∀ i : Nat, 0 ≤ ws[i]?.getD 0 → st[i]?.getD 0 = rows[i]?.getD 0) := Lib.hid (fun h i hi => by
            rw [← HWL.out] at h
            have := HS0.out.keep (freeB_all h) i hi
            rw [HSE.out] at this
            rw [this])
          obtain ⟨fb, hfb0⟩ : ∃ b, freeB ws m = b := ⟨_, rfl⟩
          rw [hfb0] at HKP ⊢
          have hq1 := sum_few rows HS0.out.rk (by rw [HRL.out]; exact hml) m
          rw [hta] at hq1
          obtain ⟨q, hq⟩ : ∃ q, sumZ rows = q := ⟨_, rfl⟩
          rw [hq] at hq1 ⊢
          clear hq hta htb hsm hfb0 BW
          go_wp2
          go_loopw [14] (fun s14 X => ∃ i : Nat, i ≤ m ∧ s14 = .int .i64 (i : Int) ∧ Hid (Below wb.heap.size wb X)) (fun s14 _ => m - (intOf s14).toNat)
          case atStart => exact ⟨0, Nat.zero_le _, rfl, HX⟩
          case round =>
            clear HX
            obtain ⟨i, hi, rfl, HX⟩ := hrel
            have BW := BB.out.trans (HX.out.mono BB.out.size)
            have hmx : (max q a2 == max q a2) = true := by simp
            by_cases hlt : i < m
            · cases fb with
              | false =>
                have BF := Lib.hid BW
                clear HSTR HRN HWN HRA HWA HN BB HNC HKP HX BW
                go_wp2
                go_ret
                exact ⟨by first | rfl | (simp; done), BF.out⟩
              | true =>
                obtain ⟨rb, ro, re, rc⟩ : ∃ b o, (some (⟨g, off, mm⟩ : Addr)) = some ⟨b, o, none⟩ ∧ wr.cell? ⟨b, o + i, none⟩ = some (.int .i64 (rows[i]?.getD 0)) := by
                  obtain ⟨_, ⟨a, c', e, he⟩ | ⟨b, off, c', e, hc⟩⟩ := (HRA.out wr BW)
                  · have := HRL.out; rw [he] at this; simp at this; omega
                  · injection e with e1
                    exact ⟨b, off, e1, hc i (by rw [HRL.out]; omega)⟩
                injection re with re
                injection re with re1 re2 re3
                subst re1 re2 re3
                have rl := cell_lt rc
                obtain ⟨wb, wo, we, wc⟩ : ∃ b o, (some (⟨g1, off1, mm1⟩ : Addr)) = some ⟨b, o, none⟩ ∧ wr.cell? ⟨b, o + i, none⟩ = some (.int .i64 (ws[i]?.getD 0)) := by
                  obtain ⟨_, ⟨a, c', e, he⟩ | ⟨b, off, c', e, hc⟩⟩ := (HWA.out wr BW)
                  · have := HWL.out; rw [he] at this; simp at this; omega
                  · injection e with e1
                    exact ⟨b, off, e1, hc i (by rw [HWL.out]; omega)⟩
                injection we with we
                injection we with we1 we2 we3
                subst we1 we2 we3
                have wl := cell_lt wc
                have hst := HNC.out wr HX.out i hlt
                rw [Nat.zero_add] at hst
                have hkp := HKP.out rfl i
                generalize rows[i]?.getD 0 = z at *
                generalize st[i]?.getD 0 = y at *
                generalize ws[i]?.getD 0 = x at *
                have lG := cell_lt hst
                clear BW HSTR HRN HWN HRA HWA HN BB HNC HKP
                by_cases hx : 0 ≤ x
                · have hyz := hkp hx
                  subst hyz
                  have hxb : decide (0 ≤ x) = true := by simpa using hx
                  clear hkp
                  go_wp2
                  go_quiet (fail)
                  go_wp2
                  go_roundw
                  case rel => exact ⟨i + 1, by omega, by go_num, Lib.hid (by first | exact HX.out.trans (below_dn _ _ _) | exact HX.out)⟩
                  case measure => simp [intOf]; omega
                · have hxb : decide (0 ≤ x) = false := by simpa using hx
                  clear hkp
                  go_wp2
                  go_quiet (fail)
                  go_wp2
                  go_roundw
                  case rel => exact ⟨i + 1, by omega, by go_num, Lib.hid (by first | exact HX.out.trans (below_dn _ _ _) | exact HX.out)⟩
                  case measure => simp [intOf]; omega
            · obtain rfl : m = i := by omega
              have BF := Lib.hid BW
              clear HSTR HRN HWN HRA HWA HN BB HNC HKP HX BW
              go_wp2
              go_ret
              exact ⟨by first | rfl | (simp; done), BF.out⟩


set_option maxRecDepth 100000 in
theorem lifted (os : Os) (started : os.Started) (H : Type) (enc : TypeId × Value → H) :
    ReturnsInHanded {} Try.checked os 6 .any (Rows.heightsAddSpec.pre6 enc Try.prog Try.f6 Rows.heightsAddRow.domain false) (Rows.heightsAddSpec.post enc Try.prog Try.f6 false true false false) := by
  refine returnsInHanded_of_change (C := Try.checked) own started (by kernel_rfl) Try.func6
    (ChangeSpec.witness6 (enc := enc) (C := Try.checked) false ⟨#[], #[.slice none 0 0, .slice none 0 0, .int .i64 0], []⟩ 8 (by kernel_rfl) (by kernel_rfl) (by kernel_rfl) (by kernel_rfl)) ?_
  intro W base args ds gs before hval0 hW hcnd _
  have hval : ∀ (j : Nat) t v, Try.f6.params[j]? = some t → args[j]? = some v → Value.okWide Try.prog W .any base t v := hval0
  have hW' := hW
  obtain ⟨p, q, hA0, hV, rfl, hfz, hnd⟩ := hW
  have hA : DataW.TrodAll enc Try.prog W 0 (fun _ => true) true Try.f6.params.toList args.toList ds p := hA0
  rw [Try.params6] at hA hval
  obtain ⟨v0, vs0, d0, ds0, p0, q0, hargs, rfl, rfl, h0, r0⟩ := trodAll_cons hA
  obtain ⟨v1, vs1, d1, ds1, p1, q1, rfl, rfl, rfl, h1, r1⟩ := trodAll_cons r0
  obtain ⟨v2, vs2, d2, ds2, p2, q2, rfl, rfl, rfl, h2, r2⟩ := trodAll_cons r1
  obtain ⟨rfl, rfl, rfl⟩ := trodAll_nil r2
  obtain rfl : args = #[v0, v1, v2] := by cases args; simp_all
  obtain ⟨rfl, rfl⟩ := trodVars_none hV
  obtain ⟨a0, len0, cap0, rfl⟩ := okWide_slice Try.underlying22 (hval 0 22 v0 rfl rfl)
  have k0 := h0
  have lt0 : ∀ x ∈ p0, x.block < W.heap.size := by obtain ⟨m, hm⟩ := k0; exact DataW.trod_lt m _ _ _ hm
  obtain ⟨z0, w0⟩ : ∃ zs, IntArg W a0 len0 cap0 zs := by
    obtain ⟨fuel, hf⟩ := h0
    exact open_intsH (by simpa [Value.cells] using hf)
  obtain ⟨a1, len1, cap1, rfl⟩ := okWide_slice Try.underlying22 (hval 1 22 v1 rfl rfl)
  have k1 := h1
  have lt1 : ∀ x ∈ p1, x.block < W.heap.size := by obtain ⟨m, hm⟩ := k1; exact DataW.trod_lt m _ _ _ hm
  obtain ⟨z1, w1⟩ : ∃ zs, IntArg W a1 len1 cap1 zs := by
    obtain ⟨fuel, hf⟩ := h1
    exact open_intsH (by simpa [Value.cells] using hf)
  obtain ⟨a2, rfl, rfl, rfl, w2⟩ := open_int Try.underlying2 (hval 2 2 v2 rfl rfl) h2
  clear hA0 hval0
  simp only [List.append_nil] at hW'
  refine (walk W a0 len0 cap0 z0 w0 a1 len1 cap1 z1 w1 a2 w2).mono fun e W' ⟨he, hg⟩ => ?_
  subst he
  exact ⟨_, rfl, _, _, _, [], _, [], hW', (trodAll_cons_mk (shut_bool Try.underlying4 _) trodAll_mk0), (trodAll_cons_mk (Below.trod laidOut (by kernel_rfl) (of_decide_eq_true (by kernel_rfl)) k0 hg lt0) (trodAll_cons_mk (Below.trod laidOut (by kernel_rfl) (of_decide_eq_true (by kernel_rfl)) k1 hg lt1) (trodAll_cons_mk (shut_int Try.underlying2 w2) trodAll_mk0))), rfl, hg.frame _, fun h => by cases h⟩

theorem over : Rows.heightsAddRow.holds Try.pinned (OpenSpec.ofChange Rows.heightsAddSpec) :=
  OpenClaim.holds_of_wide 6 Try.f6 rfl rfl rfl rfl rfl rfl rfl ⟨rfl, rfl, rfl, rfl, rfl⟩ rfl rfl rfl rfl rfl (by kernel_rfl) Try.func6 (by kernel_rfl)
    (of_decide_eq_true (by kernel_rfl)) (by unfold Func.isWrapper; first | (rw [if_pos (by decide +kernel)]; kernel_rfl) | (rw [if_neg (by decide +kernel)]; exact ⟨rfl, rfl⟩))
    (fun os started H enc _ => lifted os started H enc)

/-- the statement -/
theorem proved : Rows.HeightsAddSaid :=
  over
#print axioms proved
end Go.Proofs.Ytpbkboandiigfaa.heightsAdd
