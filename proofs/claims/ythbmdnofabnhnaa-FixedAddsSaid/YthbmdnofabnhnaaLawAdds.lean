/- Shares add up; a greater weight gets no less; weights that are 0 get nothing, unless all are 0: for every length and weights, the first two hundred of them. -/
import Derived.Test.YthbmdnofabnhnaaRows
import Derived.WalkKit
import Derived.ProofKit
import Derived.OpenShut
import Derived.ShutString
import Derived.ChangeOld
import Derived.Below
import Derived.Test.YthbmdnofabnhnaaStEnd
namespace Go.Proofs.Ythbmdnofabnhnaa.fixedAdds
open Go.ChangeShapes Go.WideShapes Go.ChangeAt Go.RowKit
open Go.ChangeMaps (open_string shut_string)
set_option linter.unusedVariables false

theorem own : ownKnob Try.prog.godebug = none := by kernel_rfl
theorem laidOut : laidOutB Try.prog = true := by kernel_rfl

/-- WHAT THE WALK IS TOLD OF A SLICE OF INTEGERS THAT CAME IN: it is nil; or it leads to a row of 'cap' cells, the numbers 'zs' (the first 'len' are its elements, the rest its spare room), each fitting its kind. -/
def IsRow (k : IntKind) (w : World) (a : Option Addr) (len cap : Nat) (zs : List Int) : Prop :=
  (a = none ∧ len = 0 ∧ cap = 0 ∧ zs = []) ∨
  ∃ x, a = some x ∧ len ≤ cap ∧ cap ≤ maxLen ∧ zs.length = cap ∧ (∀ i, i < zs.length → w.cell? (x.add i) = some (.int k (zs.getD i 0))) ∧ ∀ n ∈ zs, (Lit.int k n).wf = true

theorem row_nums {w : World} {a : Option Addr} {len cap : Nat} {zs : List Int} (h : IsRow .i64 w a len cap zs) : Nums .i64 w (.slice a len cap) (zs.take len) ∧ In64 (zs.take len) := by
  rcases h with ⟨rfl, rfl, rfl, rfl⟩ | ⟨x, rfl, hl, hm, hz, hc, hw⟩
  · exact ⟨⟨by simp, .inl ⟨none, 0, rfl, by omega, rfl⟩⟩, fun j hj => by simp at hj⟩
  · have hlen : (zs.take len).length = len := by rw [List.length_take]; omega
    unfold maxLen at hm
    refine ⟨?_, fun j hj => ?_⟩
    · by_cases h0 : len = 0
      · subst h0; exact ⟨by simp, .inl ⟨some x, cap, rfl, by omega, by simp⟩⟩
      · obtain ⟨b, off, rfl, hcc⟩ := ints_at hc (by omega)
        refine ⟨by omega, .inr ⟨b, off, cap, by rw [hlen], by omega, by omega, fun j hj => ?_⟩⟩
        rw [hlen] at hj
        rw [hcc j (by omega)]
        simp [List.getElem?_take, hj]
    · rw [hlen] at hj
      have hj' : j < zs.length := by omega
      have := bounds_i64 (hw zs[j] (List.getElem_mem hj'))
      simp [List.getElem?_take, hj, hj']; exact this
theorem nums_sl {k : IntKind} {w : World} {v : Value} {zs : List Int} (h : Nums k w v zs) : ∃ a cap, v = .slice a zs.length cap ∧ cap ≤ 9223372036854775807 := by
  obtain ⟨_, ⟨a, cap, rfl, hc, rfl⟩ | ⟨b, off, cap, rfl, _, hc, _⟩⟩ := h
  · exact ⟨a, cap, rfl, hc⟩
  · exact ⟨_, cap, rfl, hc⟩
theorem cut_ws (sv : Value) (zs ws : List Int) (hw : zs.take 200 = ws) (w : World) (hI : Nums .i64 w sv zs) : Calls Try.prog 8 #[sv] w fun e w' => w = w' ∧ ∃ v, e = .returned v ∧ Nums .i64 w v ws := by
  rw [← hw]; exact cut_any sv zs w hI
def anyPos (l : List Int) : Bool := l.any fun z => decide (0 < z)
theorem anyPos_snoc (zs : List Int) (i : Nat) (h : i < zs.length) : anyPos (zs.take (i + 1)) = (anyPos (zs.take i) || decide (0 < zs[i]?.getD 0)) := by
  rw [take_snoc zs i h]; simp [anyPos]
/-- what the law asks of each place -/
structure AF (t : Int) (ws A : List Int) (N : Nat) : Prop where
  pre : ∀ i, i < N → 0 ≤ sumZ (A.take i) ∧ 0 ≤ A[i]?.getD 0 ∧ sumZ (A.take i) + A[i]?.getD 0 ≤ t ∧ sumZ (A.take (i + 1)) = sumZ (A.take i) + A[i]?.getD 0
  z : ∀ i, i < N → anyPos ws = true → ws[i]?.getD 0 = 0 → A[i]?.getD 0 = 0
  up : ∀ i j : Nat, i < N → j < N → ws[i]?.getD 0 < ws[j]?.getD 0 → A[i]?.getD 0 ≤ A[j]?.getD 0
  all : t - sumZ (A.take N) = 0
theorem sumZ_pre (A : List Int) (h : ∀ z ∈ A, 0 ≤ z) (i : Nat) : 0 ≤ sumZ (A.take i) ∧ sumZ (A.take i) ≤ sumZ A := by
  have h1 := sumZ_nonneg (A.take i) fun z hz => h z (List.mem_of_mem_take hz)
  have h2 := sumZ_nonneg (A.drop i) fun z hz => h z (List.mem_of_mem_drop hz)
  have h3 : sumZ A = sumZ (A.take i) + sumZ (A.drop i) := by rw [← sumZ_append, List.take_append_drop]
  omega
theorem counted_of (ws : List Int) (hok : OkW ws) : (anyPos ws = true → counted ws = ws) ∧ (anyPos ws = false → ∀ z ∈ ws, z = 0) := by
  constructor
  · intro h
    unfold counted
    rw [if_neg]
    intro h0
    obtain ⟨z, hz, hp⟩ := List.any_eq_true.1 h
    have := le_sumZ ws (fun z hz => (hok z hz).1) z hz
    simp at hp; omega
  · intro h z hz
    have h1 := (hok z hz).1
    apply Classical.byContradiction; intro hne
    have : anyPos ws = true := List.any_eq_true.2 ⟨z, hz, by simp; omega⟩
    rw [h] at this; cases this
theorem adds_facts {t : Int} {ws A : List Int} {N : Nat} (h : Shr t (counted ws) A) (hok : OkW ws) (hN : ws.length = N) : AF t ws A N := by
  have hA : A.length = N := by rw [h.len, counted_length, hN]
  have hg : ∀ z ∈ A, 0 ≤ z := fun z hz => by
    obtain ⟨i, hi, rfl⟩ := List.mem_iff_getElem.1 hz
    have := h.ge i; simpa [hi] using this
  have hc := counted_of ws hok
  refine ⟨fun i hi => ?_, fun i hi hp hz => ?_, fun i j hi hj hlt => ?_, ?_⟩
  · have e : sumZ (A.take (i + 1)) = sumZ (A.take i) + A[i]?.getD 0 := by
      rw [take_snoc A i (by omega), sumZ_append]; simp [sumZ]
    have h1 := sumZ_pre A hg i
    have h2 := sumZ_pre A hg (i + 1)
    rw [h.sum] at h2
    exact ⟨h1.1, h.ge i, by omega, e⟩
  · have := h.zero i (by rw [counted_length, hN]; exact hi)
    rw [hc.1 hp] at this
    exact this hz
  · cases hp : anyPos ws with
    | true =>
      have := h.mono i j (by rw [counted_length, hN]; exact hi) (by rw [counted_length, hN]; exact hj)
      rw [hc.1 hp] at this
      exact this hlt
    | false =>
      have z1 := hc.2 hp (ws[i]'(by omega)) (List.getElem_mem _)
      have z2 := hc.2 hp (ws[j]'(by omega)) (List.getElem_mem _)
      simp [show i < ws.length by omega, show j < ws.length by omega, z1, z2] at hlt
  · rw [List.take_of_length_le (by omega), h.sum]; omega
set_option maxHeartbeats 1000000 in
theorem adds_bad1 (sv : Value) (zs ws : List Int) (t : Int) (w : World) (hI : Nums .i64 w sv zs) (hws : zs.take 200 = ws) (hm : mayB t ws.length = false) :
    Calls Try.prog 4 #[.int .i64 t, sv] w fun e w' => e = .returned (.bool true) ∧ Below w.heap.size w w' := by
  have HI := Lib.hid hI
  have HM := Lib.hid hm
  have hlen : ws.length ≤ 200 := by rw [← hws, List.length_take]; omega
  have HWS := Lib.hid hws
  clear hI hm hws
  go_enter Try.func4, Try.ntmps4
  go_wp2_with fail
  refine (shown_any _).mono ?_
  rintro e w1 ⟨rfl, hb1⟩
  have HB1 := Lib.hid hb1
  clear hb1
  go_wp2_with fail
  refine (cut_ws _ zs ws HWS.out _ (HI.out.below HB1.out)).mono ?_
  rintro e w2 ⟨rfl, v1, rfl, hv1⟩
  obtain ⟨a1, cap1, rfl, hcap1⟩ := nums_sl hv1
  have HV1 := Lib.hid hv1
  clear hv1
  go_wp2_with fail
  refine (share_bad1 _ _ _ t _ (by omega) HM.out).mono ?_
  rintro e w3 ⟨rfl, rfl⟩
  have HB2 : Hid (Below w1.heap.size w1 w1) := Below.refl _ _
  go_wp2
  go_ret
  exact ⟨rfl, HB1.out.trans (HB2.out.mono HB1.out.size)⟩
set_option maxHeartbeats 1000000 in
theorem adds_bad2 (sv : Value) (zs ws : List Int) (t : Int) (w : World) (hI : Nums .i64 w sv zs) (hws : zs.take 200 = ws) (hm : mayB t ws.length = true) (hn : ¬ OkW ws) :
    Calls Try.prog 4 #[.int .i64 t, sv] w fun e w' => e = .returned (.bool true) ∧ Below w.heap.size w w' := by
  have HI := Lib.hid hI
  have HM := Lib.hid hm
  have HN := Lib.hid hn
  have hlen : ws.length ≤ 200 := by rw [← hws, List.length_take]; omega
  have HWS := Lib.hid hws
  clear hI hm hn hws
  go_enter Try.func4, Try.ntmps4
  go_wp2_with fail
  refine (shown_any _).mono ?_
  rintro e w1 ⟨rfl, hb1⟩
  have HB1 := Lib.hid hb1
  clear hb1
  go_wp2_with fail
  refine (cut_ws _ zs ws HWS.out _ (HI.out.below HB1.out)).mono ?_
  rintro e w2 ⟨rfl, v1, rfl, hv1⟩
  obtain ⟨a1, cap1, rfl, hcap1⟩ := nums_sl hv1
  have HV1 := Lib.hid hv1
  clear hv1
  go_wp2_with fail
  refine (share_bad2 _ _ t _ _ HV1.out HM.out HN.out).mono ?_
  rintro e w3 ⟨rfl, hb2⟩
  have HB2 := Lib.hid hb2
  clear hb2
  go_wp2
  go_ret
  exact ⟨rfl, HB1.out.trans (HB2.out.mono HB1.out.size)⟩
set_option maxHeartbeats 4000000 in
set_option maxRecDepth 100000 in
theorem adds_good (sv : Value) (zs ws : List Int) (t : Int) (w : World) (hI : Nums .i64 w sv zs) (hws : zs.take 200 = ws) (hm : mayB t ws.length = true) (hok : OkW ws) :
    Calls Try.prog 4 #[.int .i64 t, sv] w fun e w' => e = .returned (.bool true) ∧ Below w.heap.size w w' := by
  have HI := Lib.hid hI
  have HM := Lib.hid hm
  have HOK := Lib.hid hok
  have hlen : ws.length ≤ 200 := by rw [← hws, List.length_take]; omega
  have HWS := Lib.hid hws
  have hb : 0 ≤ t ∧ t ≤ 1152921504606846975 ∧ (1 : Int) ≤ ws.length := by simp [mayB] at hm; omega
  obtain ⟨t0, t1, n0⟩ := hb
  obtain ⟨m, hmm⟩ : ∃ m, ws.length = m + 1 := ⟨ws.length - 1, by omega⟩
  have hsh := fun X a0 cap => share_good (ordS ws.length) a0 cap t ws X (by rw [hmm]; exact order_at m (by omega))
  obtain ⟨A, hAA⟩ : ∃ A, shareL (ordS ws.length) t (counted ws) = A := ⟨_, rfl⟩
  have hshr : Shr t (counted ws) A := by
    have := shareS_shr t (counted ws) t0 (fun z hz => (counted_ok _ hok z hz).1) (counted_pos _ hok (by omega)) (by rw [counted_length]; omega)
    unfold shareS at this
    rw [counted_length, hAA] at this
    exact this
  have HLEN : Hid ((shareL (ordS ws.length) t (counted ws)).length = ws.length) := by rw [hAA, hshr.len, counted_length]; exact rfl
  have HLN : Hid (A.length = ws.length) := by rw [hshr.len, counted_length]; exact rfl
  have HSHR := Lib.hid hshr
  have HSH := Lib.hid hsh
  have HAA := Lib.hid hAA
  clear hI hm hok hsh hAA hshr hmm hws
  go_enter Try.func4, Try.ntmps4
  go_wp2_with fail
  refine (shown_any _).mono ?_
  rintro e w1 ⟨rfl, hb1⟩
  have HB1 := Lib.hid hb1
  clear hb1
  go_wp2_with fail
  refine (cut_ws _ zs ws HWS.out _ (HI.out.below HB1.out)).mono ?_
  rintro e w2 ⟨rfl, v1, rfl, hv1⟩
  obtain ⟨a1, cap1, rfl, hcap1⟩ := nums_sl hv1
  have HV1 := Lib.hid hv1
  clear hv1
  go_wp2_with fail
  refine (HSH.out _ _ _ HV1.out HM.out HOK.out).mono ?_
  rintro e w3 ⟨⟨v, rfl, hv⟩, hb3⟩
  have hV1 := HV1.out.below hb3
  have hA := hv.nums (by rw [HLEN.out]; omega)
  have HB : Hid (Below w.heap.size w w3) := HB1.out.trans (hb3.mono HB1.out.size)
  clear hv hb3 HB1 HSH HV1
  rw [HAA.out] at hA
  obtain ⟨_, ⟨_, _, _, _, hnil⟩ | ⟨b2, off2, cap2, rfl, hcp2, hcp2m, hca⟩⟩ := hA
  · exact absurd (by rw [hnil]; rfl : A.length = 0) (by have := HLN.out; omega)
  obtain ⟨_, ⟨_, _, _, _, hnil⟩ | ⟨b1, off1, capz, hsl, hcp1, hcp1m, hcz⟩⟩ := hV1
  · exact absurd (by rw [hnil]; rfl : ws.length = 0) (by omega)
  injection hsl with hs1 hs2 hs3
  subst hs1 hs3
  rw [HLN.out] at hca hcp2 ⊢
  generalize hN : ws.length = N at *
  have HNN := Lib.hid hN
  clear hN hs2 hcp2m hcp1m
  have CA := Lib.hid hca
  have CZ := Lib.hid hcz
  clear hca hcz
  go_wp2
  -- whether there is any weight
  go_loopw [8, 9] (fun s8 s9 X => ∃ i : Nat, i ≤ N ∧ s9 = .int .i64 i ∧ s8 = .bool (anyPos (ws.take i)) ∧ Hid (∀ j, j < N → X.cell? ⟨b2, off2 + j, none⟩ = some (.int .i64 (A[j]?.getD 0))) ∧ Hid (∀ j, j < N → X.cell? ⟨b1, off1 + j, none⟩ = some (.int .i64 (ws[j]?.getD 0))) ∧ Hid (Below w.heap.size w X)) (fun _ s9 _ => N - (intOf s9).toNat)
  case atStart => exact ⟨0, Nat.zero_le _, rfl, rfl, CA.out, CZ.out, HB.out⟩
  case round =>
    clear CA CZ HB
    obtain ⟨i, hi, rfl, rfl, CA, CZ, HB⟩ := hrel
    by_cases hlt : i < N
    · have hltz : (i : Int) < (N : Int) := by omega
      have cz := CZ.out i hlt
      have hsn := anyPos_snoc ws i (by rw [HNN.out]; exact hlt)
      obtain ⟨zi, hzi⟩ : ∃ x, ws[i]?.getD 0 = x := ⟨_, rfl⟩
      rw [hzi] at cz hsn
      have HSN := Lib.hid hsn
      clear hsn hzi
      cases hsm : anyPos (ws.take i) with
      | true =>
        rw [hsm] at HSN
        go_wp2
        go_roundw
        case rel => exact ⟨i + 1, by omega, by go_num, by rw [HSN.out]; rfl, CA.out, CZ.out, HB.out⟩
        case measure => simp [intOf]; omega
      | false =>
        rw [hsm] at HSN
        by_cases hz : 0 < zi
        all_goals
          go_wp2
          go_roundw
          case rel => exact ⟨i + 1, by omega, by go_num, by rw [HSN.out]; simp [hz], CA.out, CZ.out, HB.out⟩
          case measure => simp [intOf]; omega
    · have hiN : N = i := by omega
      subst hiN
      have hsl : ws.take N = ws := List.take_of_length_le (by rw [HNN.out]; exact Nat.le_refl _)
      rw [hsl]
      have HF : Hid (AF t ws A N) := adds_facts HSHR.out HOK.out HNN.out
      obtain ⟨sm, hsm⟩ : ∃ s, anyPos ws = s := ⟨_, rfl⟩
      rw [hsm]
      have HSM := Lib.hid hsm
      clear hsl hsm
      go_wp2
      go_loopw [10, 11] (fun s10 s11 X => ∃ i : Nat, i ≤ N ∧ s11 = .int .i64 i ∧ s10 = .int .i64 (t - sumZ (A.take i)) ∧ Hid (∀ j, j < N → X.cell? ⟨b2, off2 + j, none⟩ = some (.int .i64 (A[j]?.getD 0))) ∧ Hid (∀ j, j < N → X.cell? ⟨b1, off1 + j, none⟩ = some (.int .i64 (ws[j]?.getD 0))) ∧ Hid (Below w.heap.size w X)) (fun _ s11 _ => N - (intOf s11).toNat)
      case atStart => exact ⟨0, Nat.zero_le _, rfl, (by congr 1; simp [sumZ]), CA.out, CZ.out, HB.out⟩
      case round =>
        clear CA CZ HB hlt hi
        obtain ⟨i, hi, rfl, rfl, CA, CZ, HB⟩ := hrel
        by_cases hlt : i < N
        · have hltz : (i : Int) < (N : Int) := by omega
          have ca := CA.out i hlt
          have cz := CZ.out i hlt
          have hp := HF.out.pre i hlt
          obtain ⟨s, hs⟩ : ∃ s, sumZ (A.take i) = s := ⟨_, rfl⟩
          obtain ⟨ai, hai⟩ : ∃ x, A[i]?.getD 0 = x := ⟨_, rfl⟩
          obtain ⟨zi, hzi⟩ : ∃ x, ws[i]?.getD 0 = x := ⟨_, rfl⟩
          rw [hai] at ca
          rw [hzi] at cz
          rw [hs, hai] at hp
          obtain ⟨p1, p2, p3, p4⟩ := hp
          rw [hs]
          have HS : Hid (sumZ (A.take (i + 1)) = s + ai) := p4
          have ew : IntKind.i64.wrap (t - s - ai) = t - s - ai := by rw [IntKind.wrap_i64]; omega
          have na : ¬ ai < 0 := by omega
          have HAI := Lib.hid hai
          have HZI := Lib.hid hzi
          clear hs hai hzi p4
          cases sm with
          | false =>
            rcases Nat.eq_zero_or_pos i with hi0 | hi0
            · subst hi0
              simp only [Nat.add_zero] at ca cz
              go_wp2_with fail
              try simp only [List.append_eq, List.cons_append, List.nil_append]
              have n0 : decide (ai < 0) = false := decide_eq_false (by omega)
              have n1 : decide (0 > ai) = false := decide_eq_false (by omega)
              go_big_quiet (fail)
              go_wp2
              go_roundw
              case rel => exact ⟨0 + 1, by omega, by go_num, (by rw [HS.out]; congr 1; omega), CA.out, CZ.out, HB.out.trans (below_dn _ _ _)⟩
              case measure => simp [intOf]; omega
            · obtain ⟨p, rfl⟩ : ∃ p, i = p + 1 := ⟨i - 1, by omega⟩
              have cap := CA.out p (by omega)
              have czp := CZ.out p (by omega)
              obtain ⟨ap, hap⟩ : ∃ x, A[p]?.getD 0 = x := ⟨_, rfl⟩
              obtain ⟨zp, hzp⟩ : ∃ x, ws[p]?.getD 0 = x := ⟨_, rfl⟩
              have hup := HF.out.up p (p + 1) (by omega) hlt
              have hdn := HF.out.up (p + 1) p hlt (by omega)
              rw [HAI.out, HZI.out, hap, hzp] at hup hdn
              rw [hap] at cap
              rw [hzp] at czp
              have ep : IntKind.i64.wrap (p : Int) = (p : Int) := by rw [IntKind.wrap_i64]; omega
              have HUP := Lib.hid hup
              have HDN := Lib.hid hdn
              clear hup hdn hap hzp
              rcases Int.lt_trichotomy zp zi with c | c | c
              · have k1 : ap ≤ ai := HUP.out c
                go_wp2_with fail
                try simp only [List.append_eq, List.cons_append, List.nil_append]
                have n0 : decide (ai < 0) = false := decide_eq_false (by omega)
                have n1 : decide (0 > ai) = false := decide_eq_false (by omega)
                have n2 : decide (0 < (p : Int) + 1) = true := decide_eq_true (by omega)
                have n3 : decide ((p : Int) + 1 > 0) = true := decide_eq_true (by omega)
                have n4 : decide (zp < zi) = true := decide_eq_true (by omega)
                have n5 : decide (zi > zp) = true := decide_eq_true (by omega)
                have n6 : decide (ai < ap) = false := decide_eq_false (by omega)
                have n7 : decide (ap > ai) = false := decide_eq_false (by omega)
                have n8 : decide (zi < zp) = false := decide_eq_false (by omega)
                have n9 : decide (zp > zi) = false := decide_eq_false (by omega)
                go_big_quiet (fail)
                go_wp2
                go_roundw
                case rel => exact ⟨p + 1 + 1, by omega, by go_num, (by rw [HS.out]; congr 1; omega), CA.out, CZ.out, HB.out.trans (below_dn _ _ _)⟩
                case measure => simp [intOf]; omega
              · have HC : Hid (zp = zi) := c
                clear c
                have k1 : zp ≤ zi := by have := HC.out; omega
                have k2 : zi ≤ zp := by have := HC.out; omega
                go_wp2_with fail
                try simp only [List.append_eq, List.cons_append, List.nil_append]
                have n0 : decide (ai < 0) = false := decide_eq_false (by omega)
                have n1 : decide (0 > ai) = false := decide_eq_false (by omega)
                have n2 : decide (0 < (p : Int) + 1) = true := decide_eq_true (by omega)
                have n3 : decide ((p : Int) + 1 > 0) = true := decide_eq_true (by omega)
                have n4 : decide (zp < zi) = false := decide_eq_false (by omega)
                have n5 : decide (zi > zp) = false := decide_eq_false (by omega)
                have n6 : decide (zi < zp) = false := decide_eq_false (by omega)
                have n7 : decide (zp > zi) = false := decide_eq_false (by omega)
                go_big_quiet (fail)
                go_wp2
                go_roundw
                case rel => exact ⟨p + 1 + 1, by omega, by go_num, (by rw [HS.out]; congr 1; omega), CA.out, CZ.out, HB.out.trans (below_dn _ _ _)⟩
                case measure => simp [intOf]; omega
              · have k1 : ai ≤ ap := HDN.out c
                go_wp2_with fail
                try simp only [List.append_eq, List.cons_append, List.nil_append]
                have n0 : decide (ai < 0) = false := decide_eq_false (by omega)
                have n1 : decide (0 > ai) = false := decide_eq_false (by omega)
                have n2 : decide (0 < (p : Int) + 1) = true := decide_eq_true (by omega)
                have n3 : decide ((p : Int) + 1 > 0) = true := decide_eq_true (by omega)
                have n4 : decide (zp < zi) = false := decide_eq_false (by omega)
                have n5 : decide (zi > zp) = false := decide_eq_false (by omega)
                have n6 : decide (zi < zp) = true := decide_eq_true (by omega)
                have n7 : decide (zp > zi) = true := decide_eq_true (by omega)
                have n8 : decide (ap < ai) = false := decide_eq_false (by omega)
                have n9 : decide (ai > ap) = false := decide_eq_false (by omega)
                go_big_quiet (fail)
                go_wp2
                go_roundw
                case rel => exact ⟨p + 1 + 1, by omega, by go_num, (by rw [HS.out]; congr 1; omega), CA.out, CZ.out, HB.out.trans (below_dn _ _ _)⟩
                case measure => simp [intOf]; omega
          | true =>
            by_cases z0 : zi = 0
            · have a0 : ai ≤ 0 := by have := HF.out.z i hlt HSM.out (by rw [HZI.out]; exact z0); rw [HAI.out] at this; omega
              have HZ0 : Hid (zi = 0) := z0
              clear z0
              rcases Nat.eq_zero_or_pos i with hi0 | hi0
              · subst hi0
                simp only [Nat.add_zero] at ca cz
                go_wp2_with fail
                try simp only [List.append_eq, List.cons_append, List.nil_append]
                have n0 : decide (ai < 0) = false := decide_eq_false (by omega)
                have n1 : decide (0 > ai) = false := decide_eq_false (by omega)
                have n2 : (zi == 0) = true := by simp [HZ0.out]
                have n3 : decide (0 < ai) = false := decide_eq_false (by omega)
                have n4 : decide (ai > 0) = false := decide_eq_false (by omega)
                go_big_quiet (fail)
                go_wp2
                go_roundw
                case rel => exact ⟨0 + 1, by omega, by go_num, (by rw [HS.out]; congr 1; omega), CA.out, CZ.out, HB.out.trans (below_dn _ _ _)⟩
                case measure => simp [intOf]; omega
              · obtain ⟨p, rfl⟩ : ∃ p, i = p + 1 := ⟨i - 1, by omega⟩
                have cap := CA.out p (by omega)
                have czp := CZ.out p (by omega)
                obtain ⟨ap, hap⟩ : ∃ x, A[p]?.getD 0 = x := ⟨_, rfl⟩
                obtain ⟨zp, hzp⟩ : ∃ x, ws[p]?.getD 0 = x := ⟨_, rfl⟩
                have hup := HF.out.up p (p + 1) (by omega) hlt
                have hdn := HF.out.up (p + 1) p hlt (by omega)
                rw [HAI.out, HZI.out, hap, hzp] at hup hdn
                rw [hap] at cap
                rw [hzp] at czp
                have ep : IntKind.i64.wrap (p : Int) = (p : Int) := by rw [IntKind.wrap_i64]; omega
                have HUP := Lib.hid hup
                have HDN := Lib.hid hdn
                clear hup hdn hap hzp
                rcases Int.lt_trichotomy zp zi with c | c | c
                · have k1 : ap ≤ ai := HUP.out c
                  go_wp2_with fail
                  try simp only [List.append_eq, List.cons_append, List.nil_append]
                  have n0 : decide (ai < 0) = false := decide_eq_false (by omega)
                  have n1 : decide (0 > ai) = false := decide_eq_false (by omega)
                  have n2 : (zi == 0) = true := by simp [HZ0.out]
                  have n3 : decide (0 < ai) = false := decide_eq_false (by omega)
                  have n4 : decide (ai > 0) = false := decide_eq_false (by omega)
                  have n5 : decide (0 < (p : Int) + 1) = true := decide_eq_true (by omega)
                  have n6 : decide ((p : Int) + 1 > 0) = true := decide_eq_true (by omega)
                  have n7 : decide (zp < zi) = true := decide_eq_true (by omega)
                  have n8 : decide (zi > zp) = true := decide_eq_true (by omega)
                  have n9 : decide (ai < ap) = false := decide_eq_false (by omega)
                  have n10 : decide (ap > ai) = false := decide_eq_false (by omega)
                  have n11 : decide (zi < zp) = false := decide_eq_false (by omega)
                  have n12 : decide (zp > zi) = false := decide_eq_false (by omega)
                  go_big_quiet (fail)
                  go_wp2
                  go_roundw
                  case rel => exact ⟨p + 1 + 1, by omega, by go_num, (by rw [HS.out]; congr 1; omega), CA.out, CZ.out, HB.out.trans (below_dn _ _ _)⟩
                  case measure => simp [intOf]; omega
                · have HC : Hid (zp = zi) := c
                  clear c
                  have k1 : zp ≤ zi := by have := HC.out; omega
                  have k2 : zi ≤ zp := by have := HC.out; omega
                  go_wp2_with fail
                  try simp only [List.append_eq, List.cons_append, List.nil_append]
                  have n0 : decide (ai < 0) = false := decide_eq_false (by omega)
                  have n1 : decide (0 > ai) = false := decide_eq_false (by omega)
                  have n2 : (zi == 0) = true := by simp [HZ0.out]
                  have n3 : decide (0 < ai) = false := decide_eq_false (by omega)
                  have n4 : decide (ai > 0) = false := decide_eq_false (by omega)
                  have n5 : decide (0 < (p : Int) + 1) = true := decide_eq_true (by omega)
                  have n6 : decide ((p : Int) + 1 > 0) = true := decide_eq_true (by omega)
                  have n7 : decide (zp < zi) = false := decide_eq_false (by omega)
                  have n8 : decide (zi > zp) = false := decide_eq_false (by omega)
                  have n9 : decide (zi < zp) = false := decide_eq_false (by omega)
                  have n10 : decide (zp > zi) = false := decide_eq_false (by omega)
                  go_big_quiet (fail)
                  go_wp2
                  go_roundw
                  case rel => exact ⟨p + 1 + 1, by omega, by go_num, (by rw [HS.out]; congr 1; omega), CA.out, CZ.out, HB.out.trans (below_dn _ _ _)⟩
                  case measure => simp [intOf]; omega
                · have k1 : ai ≤ ap := HDN.out c
                  go_wp2_with fail
                  try simp only [List.append_eq, List.cons_append, List.nil_append]
                  have n0 : decide (ai < 0) = false := decide_eq_false (by omega)
                  have n1 : decide (0 > ai) = false := decide_eq_false (by omega)
                  have n2 : (zi == 0) = true := by simp [HZ0.out]
                  have n3 : decide (0 < ai) = false := decide_eq_false (by omega)
                  have n4 : decide (ai > 0) = false := decide_eq_false (by omega)
                  have n5 : decide (0 < (p : Int) + 1) = true := decide_eq_true (by omega)
                  have n6 : decide ((p : Int) + 1 > 0) = true := decide_eq_true (by omega)
                  have n7 : decide (zp < zi) = false := decide_eq_false (by omega)
                  have n8 : decide (zi > zp) = false := decide_eq_false (by omega)
                  have n9 : decide (zi < zp) = true := decide_eq_true (by omega)
                  have n10 : decide (zp > zi) = true := decide_eq_true (by omega)
                  have n11 : decide (ap < ai) = false := decide_eq_false (by omega)
                  have n12 : decide (ai > ap) = false := decide_eq_false (by omega)
                  go_big_quiet (fail)
                  go_wp2
                  go_roundw
                  case rel => exact ⟨p + 1 + 1, by omega, by go_num, (by rw [HS.out]; congr 1; omega), CA.out, CZ.out, HB.out.trans (below_dn _ _ _)⟩
                  case measure => simp [intOf]; omega
            · have HZ0 : Hid (¬ zi = 0) := z0
              clear z0
              rcases Nat.eq_zero_or_pos i with hi0 | hi0
              · subst hi0
                simp only [Nat.add_zero] at ca cz
                go_wp2_with fail
                try simp only [List.append_eq, List.cons_append, List.nil_append]
                have n0 : decide (ai < 0) = false := decide_eq_false (by omega)
                have n1 : decide (0 > ai) = false := decide_eq_false (by omega)
                have n2 : (zi == 0) = false := by simp [HZ0.out]
                go_big_quiet (fail)
                go_wp2
                go_roundw
                case rel => exact ⟨0 + 1, by omega, by go_num, (by rw [HS.out]; congr 1; omega), CA.out, CZ.out, HB.out.trans (below_dn _ _ _)⟩
                case measure => simp [intOf]; omega
              · obtain ⟨p, rfl⟩ : ∃ p, i = p + 1 := ⟨i - 1, by omega⟩
                have cap := CA.out p (by omega)
                have czp := CZ.out p (by omega)
                obtain ⟨ap, hap⟩ : ∃ x, A[p]?.getD 0 = x := ⟨_, rfl⟩
                obtain ⟨zp, hzp⟩ : ∃ x, ws[p]?.getD 0 = x := ⟨_, rfl⟩
                have hup := HF.out.up p (p + 1) (by omega) hlt
                have hdn := HF.out.up (p + 1) p hlt (by omega)
                rw [HAI.out, HZI.out, hap, hzp] at hup hdn
                rw [hap] at cap
                rw [hzp] at czp
                have ep : IntKind.i64.wrap (p : Int) = (p : Int) := by rw [IntKind.wrap_i64]; omega
                have HUP := Lib.hid hup
                have HDN := Lib.hid hdn
                clear hup hdn hap hzp
                rcases Int.lt_trichotomy zp zi with c | c | c
                · have k1 : ap ≤ ai := HUP.out c
                  go_wp2_with fail
                  try simp only [List.append_eq, List.cons_append, List.nil_append]
                  have n0 : decide (ai < 0) = false := decide_eq_false (by omega)
                  have n1 : decide (0 > ai) = false := decide_eq_false (by omega)
                  have n2 : (zi == 0) = false := by simp [HZ0.out]
                  have n3 : decide (0 < (p : Int) + 1) = true := decide_eq_true (by omega)
                  have n4 : decide ((p : Int) + 1 > 0) = true := decide_eq_true (by omega)
                  have n5 : decide (zp < zi) = true := decide_eq_true (by omega)
                  have n6 : decide (zi > zp) = true := decide_eq_true (by omega)
                  have n7 : decide (ai < ap) = false := decide_eq_false (by omega)
                  have n8 : decide (ap > ai) = false := decide_eq_false (by omega)
                  have n9 : decide (zi < zp) = false := decide_eq_false (by omega)
                  have n10 : decide (zp > zi) = false := decide_eq_false (by omega)
                  go_big_quiet (fail)
                  go_wp2
                  go_roundw
                  case rel => exact ⟨p + 1 + 1, by omega, by go_num, (by rw [HS.out]; congr 1; omega), CA.out, CZ.out, HB.out.trans (below_dn _ _ _)⟩
                  case measure => simp [intOf]; omega
                · have HC : Hid (zp = zi) := c
                  clear c
                  have k1 : zp ≤ zi := by have := HC.out; omega
                  have k2 : zi ≤ zp := by have := HC.out; omega
                  go_wp2_with fail
                  try simp only [List.append_eq, List.cons_append, List.nil_append]
                  have n0 : decide (ai < 0) = false := decide_eq_false (by omega)
                  have n1 : decide (0 > ai) = false := decide_eq_false (by omega)
                  have n2 : (zi == 0) = false := by simp [HZ0.out]
                  have n3 : decide (0 < (p : Int) + 1) = true := decide_eq_true (by omega)
                  have n4 : decide ((p : Int) + 1 > 0) = true := decide_eq_true (by omega)
                  have n5 : decide (zp < zi) = false := decide_eq_false (by omega)
                  have n6 : decide (zi > zp) = false := decide_eq_false (by omega)
                  have n7 : decide (zi < zp) = false := decide_eq_false (by omega)
                  have n8 : decide (zp > zi) = false := decide_eq_false (by omega)
                  go_big_quiet (fail)
                  go_wp2
                  go_roundw
                  case rel => exact ⟨p + 1 + 1, by omega, by go_num, (by rw [HS.out]; congr 1; omega), CA.out, CZ.out, HB.out.trans (below_dn _ _ _)⟩
                  case measure => simp [intOf]; omega
                · have k1 : ai ≤ ap := HDN.out c
                  go_wp2_with fail
                  try simp only [List.append_eq, List.cons_append, List.nil_append]
                  have n0 : decide (ai < 0) = false := decide_eq_false (by omega)
                  have n1 : decide (0 > ai) = false := decide_eq_false (by omega)
                  have n2 : (zi == 0) = false := by simp [HZ0.out]
                  have n3 : decide (0 < (p : Int) + 1) = true := decide_eq_true (by omega)
                  have n4 : decide ((p : Int) + 1 > 0) = true := decide_eq_true (by omega)
                  have n5 : decide (zp < zi) = false := decide_eq_false (by omega)
                  have n6 : decide (zi > zp) = false := decide_eq_false (by omega)
                  have n7 : decide (zi < zp) = true := decide_eq_true (by omega)
                  have n8 : decide (zp > zi) = true := decide_eq_true (by omega)
                  have n9 : decide (ap < ai) = false := decide_eq_false (by omega)
                  have n10 : decide (ai > ap) = false := decide_eq_false (by omega)
                  go_big_quiet (fail)
                  go_wp2
                  go_roundw
                  case rel => exact ⟨p + 1 + 1, by omega, by go_num, (by rw [HS.out]; congr 1; omega), CA.out, CZ.out, HB.out.trans (below_dn _ _ _)⟩
                  case measure => simp [intOf]; omega
        · have hiN : N = i := by omega
          subst hiN
          have hz : t - sumZ (A.take N) = 0 := HF.out.all
          rw [hz]
          have hltz : ¬ (N : Int) < (N : Int) := by omega
          go_wp2
          go_ret
          exact ⟨rfl, HB.out⟩
theorem adds (sv : Value) (zs : List Int) (t : Int) (w : World) (hI : Nums .i64 w sv zs) :
    Calls Try.prog 4 #[.int .i64 t, sv] w fun e w' => e = .returned (.bool true) ∧ Below w.heap.size w w' := by
  cases hm : mayB t (zs.take 200).length with
  | false => exact adds_bad1 sv zs _ t w hI rfl hm
  | true =>
    by_cases hok : OkW (zs.take 200)
    · exact adds_good sv zs _ t w hI rfl hm hok
    · exact adds_bad2 sv zs _ t w hI rfl hm hok
theorem walk (a0 : Int) (a1 : Option Addr) (len1 cap1 : Nat) (z1 : List Int) (w : World) (w0 : (Lit.int .i64 a0).wf = true) (w1 : IsRow .i64 w a1 len1 cap1 z1) :
    Calls Try.prog 4 #[.int .i64 a0, .slice a1 len1 cap1] w fun e w' => e = .returned (.bool true) ∧ Below w.heap.size w w' := by
  have hr := row_nums w1
  exact adds _ _ a0 w hr.1

set_option maxRecDepth 100000 in
theorem lifted (os : Os) (started : os.Started) (H : Type) (enc : TypeId × Value → H) :
    ReturnsInHanded {} Try.checked os 4 .any (Rows.fixedAddsSpec.pre6 enc Try.prog Try.f4 Rows.fixedAddsRow.domain false) (Rows.fixedAddsSpec.post enc Try.prog Try.f4 false true false false) := by
  refine returnsInHanded_of_change (C := Try.checked) own started (by kernel_rfl) Try.func4
    (ChangeSpec.witness6 (enc := enc) (C := Try.checked) false ⟨#[], #[.int .i64 0, .slice none 0 0], []⟩ 8 (by kernel_rfl) (by kernel_rfl) (by kernel_rfl) (by kernel_rfl)) ?_
  intro W base args ds gs before hval0 hW hcnd _
  have hval : ∀ (j : Nat) t v, Try.f4.params[j]? = some t → args[j]? = some v → Value.okWide Try.prog W .any base t v := hval0
  have hW' := hW
  obtain ⟨p, q, hA0, hV, rfl, hfz, hnd⟩ := hW
  have hA : DataW.TrodAll enc Try.prog W 0 (fun _ => true) true Try.f4.params.toList args.toList ds p := hA0
  rw [Try.params4] at hA hval
  obtain ⟨v0, vs0, d0, ds0, p0, q0, hargs, rfl, rfl, h0, r0⟩ := trodAll_cons hA
  obtain ⟨v1, vs1, d1, ds1, p1, q1, rfl, rfl, rfl, h1, r1⟩ := trodAll_cons r0
  obtain ⟨rfl, rfl, rfl⟩ := trodAll_nil r1
  obtain rfl : args = #[v0, v1] := by cases args; simp_all
  obtain ⟨rfl, rfl⟩ := trodVars_none hV
  obtain ⟨a0, rfl, rfl, rfl, w0⟩ := open_int Try.underlying2 (hval 0 2 v0 rfl rfl) h0
  obtain ⟨a1, len1, cap1, rfl⟩ := okWide_slice Try.underlying22 (hval 1 22 v1 rfl rfl)
  have k1 := h1
  have lt1 : ∀ x ∈ p1, x.block < W.heap.size := by obtain ⟨m, hm⟩ := k1; exact DataW.trod_lt m _ _ _ hm
  obtain ⟨z1, w1⟩ : ∃ zs, IsRow .i64 W a1 len1 cap1 zs := by
    obtain ⟨fuel, hf⟩ := h1
    rcases open_ints Try.underlying22 Try.underlying2 (by kernel_rfl) hf with ⟨hcs, _⟩ | ⟨x, l, c, zs, hcs, _, hl, hm, hz, _, hcell, hwz⟩
    · simp [Value.cells] at hcs
      obtain ⟨rfl, rfl, rfl⟩ := hcs
      exact ⟨[], .inl ⟨rfl, rfl, rfl, rfl⟩⟩
    · simp [Value.cells] at hcs
      obtain ⟨rfl, rfl, rfl⟩ := hcs
      exact ⟨zs, .inr ⟨_, rfl, hl, hm, by simpa using hz, hcell, hwz⟩⟩
  clear hA0 hval0
  refine (walk a0 a1 len1 cap1 z1 W w0 w1).mono fun e W' ⟨he, bel⟩ => ?_
  subst he
  exact ⟨_, rfl, _, _, _, [], _, [], hW', trodAll_mk1 (shut_bool Try.underlying4 _), (trodAll_cons_mk (shut_int Try.underlying2 w0) (trodAll_cons_mk (Below.trod laidOut (by kernel_rfl) (of_decide_eq_true (by kernel_rfl)) k1 bel lt1) trodAll_mk0)), rfl, bel.frame _, fun h => by cases h⟩

theorem over : Rows.fixedAddsRow.holds Try.pinned (OpenSpec.ofChange Rows.fixedAddsSpec) :=
  OpenClaim.holds_of_wide 4 Try.f4 rfl rfl rfl rfl rfl rfl rfl ⟨rfl, rfl, rfl, rfl, rfl⟩ rfl rfl rfl rfl rfl (by kernel_rfl) Try.func4 (by kernel_rfl)
    (of_decide_eq_true (by kernel_rfl)) (by unfold Func.isWrapper; first | (rw [if_pos (by decide +kernel)]; kernel_rfl) | (rw [if_neg (by decide +kernel)]; exact ⟨rfl, rfl⟩))
    (fun os started H enc _ => lifted os started H enc)

/-- ████ THE STATEMENT ████ -/
theorem proved : Rows.FixedAddsSaid := over
#print axioms proved
end Go.Proofs.Ythbmdnofabnhnaa.fixedAdds
