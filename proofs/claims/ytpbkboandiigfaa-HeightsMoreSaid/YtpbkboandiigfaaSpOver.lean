/- Contracts of spread's over (a length distributed over others) and Part. -/
import Derived.Test.YtpbkboandiigfaaSpMem
import Derived.Test.YtpbkboandiigfaaMul
import Derived.Test.YtpbkboandiigfaaStL
namespace Go.Proofs.Ytpbkboandiigfaa
open Go.RowKit Go.Shelf
set_option linter.unusedVariables false
attribute [local go_sem] Oper.semAt_some

theorem sat_min (x : Int) (h : 0 ≤ x) : sat x = min x 9223372036854775807 := by
  by_cases hx : x ≤ 9223372036854775807
  · rw [sat_in (by omega) hx]; omega
  · rw [sat_over (by omega)]; omega
theorem addS_nn (l : List Int) (h : ∀ z ∈ l, 0 ≤ z) : addS l = min (sumZ l) 9223372036854775807 := by
  unfold addS
  suffices ∀ (l : List Int) (s : Int), 0 ≤ s → s ≤ 9223372036854775807 → (∀ z ∈ l, 0 ≤ z) → l.foldl (fun s z => sat (s + z)) s = min (s + sumZ l) 9223372036854775807 by
    have := this l 0 (by omega) (by omega) h; simpa using this
  intro l
  induction l with
  | nil => intro s h0 h1 _; simp [sumZ]; omega
  | cons a l ih =>
    intro s h0 h1 h2
    have ha := h2 a (by simp)
    have hl := sumZ_nonneg l (fun z hz => h2 z (by simp [hz]))
    rw [sumZ_cons, List.foldl_cons, sat_min _ (by omega), ih _ (by omega) (by omega) (fun z hz => h2 z (by simp [hz]))]
    omega
theorem excess_eq (n : Int) (l : List Int) (n0 : 0 ≤ n) (n1 : n ≤ 1125899906842623) (hl : OkW l) : max 0 (sat (n - addS l)) = max 0 (n - sumZ l) := by
  have h0 := sumZ_nn l hl
  rw [addS_nn l (fun z hz => (hl z hz).1), sat_in (by omega) (by omega)]
  omega
theorem in64_ok (l : List Int) (h : OkW l) : In64 l := fun j _ => by have := okW_get l h j; omega
/-- the first j of them have been added -/
def upL (a l : List Int) (j : Nat) : List Int := a.mapIdx fun i z => if i < j then z + l[i]?.getD 0 else z
theorem upL_len (a l : List Int) (j : Nat) : (upL a l j).length = a.length := by simp [upL]
theorem upL_get (a l : List Int) (j i : Nat) (hi : i < a.length) : (upL a l j)[i]? = some (if i < j then a[i]?.getD 0 + l[i]?.getD 0 else a[i]?.getD 0) := by
  simp [upL, hi]
theorem upL_zero (a l : List Int) : upL a l 0 = a := by
  apply List.ext_getElem?
  intro i
  by_cases hi : i < a.length
  · rw [upL_get _ _ _ _ hi, List.getElem?_eq_getElem hi]; simp
  · rw [List.getElem?_eq_none (by rw [upL_len]; omega), List.getElem?_eq_none (by omega)]
theorem upL_succ (a l : List Int) (j : Nat) (hj : j < a.length) : (upL a l j).set j (a[j]?.getD 0 + l[j]?.getD 0) = upL a l (j + 1) := by
  apply List.ext_getElem?
  intro i
  by_cases hi : i < a.length
  · by_cases e : i = j
    · subst e
      rw [List.getElem?_set_self (by rw [upL_len]; exact hi), upL_get _ _ _ _ hi]; simp
    · rw [List.getElem?_set_ne (Ne.symm e), upL_get _ _ _ _ hi, upL_get _ _ _ _ hi]
      by_cases h : i < j
      · rw [if_pos h, if_pos (by omega)]
      · rw [if_neg h, if_neg (by omega)]
  · rw [List.getElem?_eq_none (by simp [upL_len]; omega), List.getElem?_eq_none (by rw [upL_len]; omega)]
theorem upL_all (a l : List Int) (h : a.length = l.length) : upL a l a.length = addL a l := by
  apply List.ext_getElem?
  intro i
  by_cases hi : i < a.length
  · rw [upL_get _ _ _ _ hi, if_pos hi]
    have h1 := addL_get a l h i
    rw [List.getElem?_eq_getElem (by rw [addL_len a l h]; exact hi : i < (addL a l).length)] at h1 ⊢
    rw [← h1]; rfl
  · rw [List.getElem?_eq_none (by rw [upL_len]; omega), List.getElem?_eq_none (by rw [addL_len a l h]; omega)]

set_option maxRecDepth 100000 in
set_option maxHeartbeats 2000000 in
theorem over_any (v0 : Value) (a1 : Option Addr) (k cap1 : Nat) (n : Int) (l ws : List Int) (W : World) (hk : l.length = k) (hl : Nums .i64 W (.slice a1 k cap1) l) (hw : Nums .i64 W v0 ws) (ho : OverOk n l ws) :
    Calls Try.prog 61 #[v0, .int .i64 n, .slice a1 k cap1] W fun e W' => ∃ g cap sp, e = .returned (.slice (some ⟨g, 0, none⟩) k cap) ∧ IRow W' g (overP n l ws) sp ∧ W.heap.size ≤ g ∧ k ≤ cap ∧ cap ≤ 9223372036854775807 ∧ Below W.heap.size W W' := by
  have hwl : ws.length = k := by rw [ho.wl, hk]
  have k1 : 1 ≤ k := by have := ho.l1; omega
  have k2 : k ≤ 10000 := by have := ho.l2; omega
  obtain ⟨a0, cap0, rfl⟩ : ∃ a0 cap0, v0 = .slice a0 k cap0 := by
    obtain ⟨_, ⟨a, c, _, _, e⟩ | ⟨b, off, c, e, _, _, _⟩⟩ := hw
    · rw [e] at hwl; simp at hwl; omega
    · exact ⟨_, _, by rw [e, hwl]⟩
  have n0 := ho.n0
  have n1 := ho.n1
  have HA := Lib.hid (add_any (.slice a1 k cap1) l W hl (in64_ok l ho.lo))
  have hE := excess_eq n l n0 n1 ho.lo
  obtain ⟨q, hq⟩ : ∃ q, q = addS l := ⟨_, rfl⟩
  have hq1 : -9223372036854775808 ≤ q ∧ q ≤ 9223372036854775807 := by rw [hq, addS_nn l (fun z hz => (ho.lo z hz).1)]; have := sumZ_nn l ho.lo; omega
  have HS := Lib.hid (sub_any n q W (by omega) (by omega) hq1.1 hq1.2)
  rw [← hq] at HA hE
  obtain ⟨u, hu⟩ : ∃ u, u = sat (n - q) := ⟨_, rfl⟩
  rw [← hu] at HS hE
  obtain ⟨t, ht⟩ : ∃ t, t = max 0 (n - sumZ l) := ⟨_, rfl⟩
  rw [← ht] at hE
  have t0 : 0 ≤ t := by omega
  have t1 : t ≤ 1125899906842623 := by have := sumZ_nn l ho.lo; omega
  have hsh := share_good (ordS ws.length) a0 cap0 t ws W (by rw [hwl]; have := order_at (k - 1) (by omega); rwa [show k - 1 + 1 = k by omega] at this) (by rw [hwl]; exact hw) (by rw [hwl]; simp [mayB]; omega) ho.wo
  rw [hwl] at hsh
  have hea : shareL (ordS k) t (counted ws) = shrW t ws := by unfold shrW shareS; rw [counted_length, hwl]
  rw [hea] at hsh
  have HSH := Lib.hid hsh
  have hal : (shrW t ws).length = k := by rw [shrW_len t ws t0 ho.wo (by omega), hwl]
  have hbd := shrW_bd t ws t0 ho.wo (by omega)
  have HOV : Hid (overP n l ws = addL (shrW t ws) l) := Lib.hid (by unfold overP; rw [ht])
  obtain ⟨a, ha⟩ : ∃ a, a = shrW t ws := ⟨_, rfl⟩
  rw [← ha] at HSH hal HOV hbd
  have HAL := Lib.hid hal
  have HLL := Lib.hid hk
  have HBD := Lib.hid hbd
  have HLO := Lib.hid ho.lo
  have HL := Lib.hid hl
  clear hsh hea ha ht hu hq hq1 hl hw ho hwl hk hal hbd n0 n1
  go_enter Try.func61, Try.ntmps61
  go_wp2_with fail
  refine HA.out.mono ?_
  rintro e w1 ⟨rfl, rfl⟩
  clear HA
  go_wp2_with fail
  refine HS.out.mono ?_
  rintro e w1 ⟨rfl, rfl⟩
  clear HS
  go_wp2_with fail
  try rw [hE]
  clear hE
  refine HSH.out.mono ?_
  rintro e w1 ⟨⟨v, rfl, hmd⟩, hb⟩
  obtain ⟨g, cap, sp, rfl, hg, hcap, hcm, hir⟩ := made_row hmd (by rw [HAL.out]; exact k1)
  have HB := Lib.hid hb
  have HI := Lib.hid hir
  rw [HAL.out] at hcap ⊢
  clear hmd hb hir HSH
  go_wp2
  go_loopw [25] (fun s25 X => ∃ j : Nat, j ≤ k ∧ s25 = .int .i64 (j : Int) ∧ Hid (IRow X g (upL a l j) sp) ∧ Hid (Below W.heap.size W X)) (fun s25 _ => k - (intOf s25).toNat)
  case atStart => exact ⟨0, Nat.zero_le _, rfl, by rw [upL_zero]; exact HI, HB⟩
  case round =>
    obtain ⟨j, hj, rfl, HR, HX⟩ := hrel
    clear HB HI
    by_cases hlt : j < k
    · obtain ⟨b2, o2, rfl, lc⟩ : ∃ b2 o2, a1 = some ⟨b2, o2, none⟩ ∧ W.cell? ⟨b2, o2 + j, none⟩ = some (.int .i64 (l[j]?.getD 0)) := by
        obtain ⟨_, ⟨a, c, e, _, e2⟩ | ⟨b, off, c, e, _, _, hc⟩⟩ := HL.out
        · have := HLL.out; rw [e2] at this; simp at this; omega
        · simp only [Value.slice.injEq] at e
          exact ⟨b, off, e.1, hc j (by rw [HLL.out]; exact hlt)⟩
      have hc1 := (HX.out.cell (p := ⟨b2, o2 + j, none⟩) (cell_lt lc)).trans lc
      have hc2 := HR.out.cell j (by rw [upL_len, HAL.out]; exact hlt)
      have hz : (upL a l j)[j]?.getD 0 = a[j]?.getD 0 := by rw [upL_get a l j j (by rw [HAL.out]; exact hlt)]; simp
      rw [hz] at hc2
      have hf := HR.out.free j
      have hm : a[j]?.getD 0 + l[j]?.getD 0 ≤ 2251799813685248 ∧ 0 ≤ a[j]?.getD 0 + l[j]?.getD 0 := by
        have h1 := okW_get l HLO.out j
        have h2 := HBD.out (a[j]?.getD 0) (by rw [List.getElem?_eq_getElem (by rw [HAL.out]; exact hlt)]; exact List.getElem_mem _)
        omega
      have HR2 : Hid (IRow (wr.setCell ⟨g, j, none⟩ (.int .i64 (a[j]?.getD 0 + l[j]?.getD 0))) g (upL a l (j + 1)) sp) := Lib.hid (by
        rw [← upL_succ a l j (by rw [HAL.out]; exact hlt)]; exact HR.out.set j _ (by rw [upL_len, HAL.out]; exact hlt))
      generalize a[j]?.getD 0 = za at *
      generalize l[j]?.getD 0 = zl at *
      have hwr : IntKind.i64.wrap (za + zl) = za + zl := by rw [IntKind.wrap_i64]; omega
      clear HL hz lc HR
      go_wp2
      go_roundw
      case rel => exact ⟨j + 1, by omega, by go_num, HR2, Lib.hid (HX.out.setCell (p := ⟨g, j, none⟩) hg _)⟩
      case measure => simp [intOf]; omega
    · obtain rfl : j = k := by omega
      have HE : Hid (upL a l j = addL a l) := Lib.hid (by have := upL_all a l (by rw [HAL.out, HLL.out]); rwa [HAL.out] at this)
      go_wp2
      go_ret
      exact ⟨g, cap, sp, rfl, by rw [HOV.out, ← HE.out]; exact HR.out, hg, hcap, hcm, HX.out⟩

set_option maxRecDepth 100000 in
set_option maxHeartbeats 1000000 in
theorem part_any (n gap c : Int) (W : World) (n1 : -9223372036854775808 ≤ n) (n2 : n ≤ 9223372036854775807) (g1 : -9223372036854775808 ≤ gap) (g2 : gap ≤ 9223372036854775807) (c1 : -9223372036854775808 ≤ c) (c2 : c ≤ 9223372036854775807) :
    Calls Try.prog 24 #[.int .i64 n, .int .i64 gap, .int .i64 c] W fun e W' => e = .returned (.int .i64 (partP n gap c)) ∧ W = W' := by
  by_cases hc : c < 1
  · have HE : Hid (partP n gap c = n) := Lib.hid (by unfold partP; rw [if_pos hc])
    go_enter Try.func24, Try.ntmps24
    go_wp2
    go_ret
    exact ⟨by rw [HE.out]; rfl, rfl⟩
  · have HE : Hid (partP n gap c = max 0 (sat (n - sat (gap * (c - 1))))) := Lib.hid (by unfold partP; rw [if_neg hc])
    have hwr : IntKind.i64.wrap (c - 1) = c - 1 := by rw [IntKind.wrap_i64]; omega
    have HM := Lib.hid (mul_any gap (c - 1) W g1 g2 (by omega) (by omega))
    obtain ⟨q, hq⟩ : ∃ q, q = sat (gap * (c - 1)) := ⟨_, rfl⟩
    rw [← hq] at HM HE
    have HS := Lib.hid (sub_any n q W n1 n2 (by rw [hq]; exact sat_lo _) (by rw [hq]; exact sat_hi _))
    obtain ⟨u, hu⟩ : ∃ u, u = sat (n - q) := ⟨_, rfl⟩
    rw [← hu] at HS HE
    obtain ⟨r, hr⟩ : ∃ r, r = max 0 u := ⟨_, rfl⟩
    rw [← hr] at HE
    have HRR := Lib.hid hr
    clear hq hu hr
    go_enter Try.func24, Try.ntmps24
    go_wp2_with fail
    refine HM.out.mono ?_
    rintro e w1 ⟨rfl, rfl⟩
    clear HM
    go_wp2_with fail
    refine HS.out.mono ?_
    rintro e w1 ⟨rfl, rfl⟩
    clear HS
    go_wp2
    all_goals go_ret
    all_goals exact ⟨by rw [HE.out, HRR.out]; first | rfl | (congr 2; omega), rfl⟩
end Go.Proofs.Ytpbkboandiigfaa
