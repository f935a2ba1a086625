/- Each row of the table, and of its groups, is there once, and nothing else: for every page and place. -/
import Derived.Test.YtdljgdmodobjpaaRows
import Derived.WalkKit
import Derived.ProofKit
import Derived.OpenShut
import Derived.Below
import Derived.Test.YtdljgdmodobjpaaLLaw
import Derived.ShutString
namespace Go.Proofs.Ytdljgdmodobjpaa.lanesOnce
open Go.ChangeShapes Go.WideShapes Go.ChangeAt Go.RowKit
set_option linter.unusedVariables false

theorem own : ownKnob Try.prog.godebug = none := by kernel_rfl
theorem laidOut : laidOutB Try.prog = true := by kernel_rfl

set_option maxRecDepth 100000 in
set_option maxHeartbeats 2000000 in
theorem once_bad (lv : Value) (p : Int) (ns ms : List Nd) (w : World) (b : Int) (hb : b ≠ 0) (HP : Hid (PageAt w lv ns))
    (HC : Hid (∀ X v, PageAt X v ns → Calls Try.prog 11 #[v] X (CutPost ms X)))
    (HO : Hid (∀ X v, PageAt X v ms → Calls Try.prog 12 #[v, .int .i64 p] X fun e W' => e = .returned (.tuple #[.slice none 0 0, .int .i64 b]) ∧ Below X.heap.size X W')) :
    Calls Try.prog 6 #[lv, .int .i64 p] w fun e w' => e = .returned (.bool true) ∧ Below w.heap.size w w' := by
  have hb' : (b != 0) = true := by simpa using hb
  obtain ⟨q, cap, rfl⟩ := HP.out.form
  generalize ns.length = l0 at *
  go_enter Try.func6, Try.ntmps6
  go_wp2_with (go_at_call 10; refine (shown6_any _).mono ?_; rintro e w1 ⟨rfl, hb1⟩; have HP1 := Lib.hid (HP.out.below hb1); have HB1 := Lib.hid hb1; clear hb1 HP)
  go_wp2_with (go_at_call 11; refine (HC.out _ _ HP1.out).mono ?_; rintro e w2 ⟨q, c, rfl, hp2, hb2⟩; have HP2 := Lib.hid hp2; have HB2 := Lib.hid (HB1.out.trans (hb2.mono HB1.out.size)); clear hb2 hp2 HP1 HB1 HC)
  generalize ms.length = m at *
  go_wp2_with (go_at_call 12; refine (HO.out _ _ HP2.out).mono ?_; rintro e w3 ⟨rfl, hb3⟩; have HB3 := Lib.hid (HB2.out.trans (hb3.mono HB2.out.size)); clear hb3 HP2 HB2 HO)
  go_ret
  exact ⟨rfl, HB3.out⟩
/-- how often each number below m is in a list -/
def cntL (m : Nat) (l : List Int) : List Int := (List.range m).map fun (z : Nat) => (l.count (z : Int) : Int)
theorem cntL_len (m : Nat) (l : List Int) : (cntL m l).length = m := by simp [cntL]
theorem cntL_get (m : Nat) (l : List Int) (z : Nat) (hz : z < m) : (cntL m l)[z]? = some (l.count (z : Int) : Int) := by simp [cntL, hz]
theorem cntL_nil (m : Nat) : cntL m [] = List.replicate m 0 := by
  apply List.ext_getElem?
  intro i
  by_cases hi : i < m
  · rw [cntL_get m [] i hi]; simp [hi]
  · rw [List.getElem?_eq_none (by rw [cntL_len]; omega), List.getElem?_eq_none (by simp; omega)]
theorem cntL_snoc (m : Nat) (l : List Int) (z : Nat) (hz : z < m) : cntL m (l ++ [(z : Int)]) = (cntL m l).set z (l.count (z : Int) + 1) := by
  apply List.ext_getElem?
  intro i
  by_cases hi : i < m
  · rw [cntL_get m _ i hi, List.getElem?_set]
    by_cases he : z = i
    · subst he
      rw [if_pos rfl, if_pos (by rw [cntL_len]; exact hi)]
      simp
    · rw [if_neg he, cntL_get m l i hi, List.count_append, show [(z : Int)].count (i : Int) = 0 from List.count_eq_zero_of_not_mem (by simp; omega)]
      simp
  · rw [List.getElem?_eq_none (by rw [cntL_len]; omega), List.getElem?_eq_none (by rw [List.length_set, cntL_len]; omega)]
theorem sumW_snoc (f : Int → Nat) (l : List Int) (i : Nat) (z : Int) (h : l[i]? = some z) : sumW f (l.take (i + 1)) = sumW f (l.take i) + f z := by
  rw [List.take_add_one, h, sumW_append]
  simp [sumW]
theorem sumW_le (f : Int → Nat) : ∀ (l : List Int), (∀ z, f z ≤ 70000) → sumW f l ≤ l.length * 70000
  | [], _ => by simp [sumW]
  | z :: l, h => by have := sumW_le f l h; have := h z; simp only [sumW, List.length_cons]; omega
theorem filt_snoc (q : Int → Bool) (l : List Int) (i : Nat) (z : Int) (h : l[i]? = some z) : ((l.take (i + 1)).filter q).length = ((l.take i).filter q).length + if q z = true then 1 else 0 := by
  rw [List.take_add_one, h, List.filter_append, List.length_append]
  by_cases hq : q z = true
  · simp [hq]
  · simp [hq]
set_option maxRecDepth 100000 in
set_option maxHeartbeats 4000000 in
theorem once_good (lv : Value) (p : Nat) (ns ms : List Nd) (w : World) (m : Nat) (hm : ms.length = m) (hpm : p < m) (hm2 : m ≤ 150) (R : Hid (PageOk ms)) (T : Hid (Tr ms)) (hk : kdOf ms p = 2) (HP : Hid (PageAt w lv ns))
    (HC : Hid (∀ X v, PageAt X v ns → Calls Try.prog 11 #[v] X (CutPost ms X)))
    (HO : Hid (∀ X v, PageAt X v ms → Calls Try.prog 12 #[v, .int .i64 p] X fun e W' => ∃ v, e = .returned (.tuple #[v, .int .i64 0]) ∧ OwnL X.heap.size W' v (rowsP ms p) ∧ Below X.heap.size X W')) :
    Calls Try.prog 6 #[lv, .int .i64 p] w fun e w' => e = .returned (.bool true) ∧ Below w.heap.size w w' := by
  obtain ⟨q, cap, rfl⟩ := HP.out.form
  generalize ns.length = l0 at *
  have HM := Lib.hid hm
  obtain ⟨n, hn⟩ : ∃ n, ms[p]? = some n := ⟨_, List.getElem?_eq_getElem (by rw [hm]; exact hpm)⟩
  have HN := Lib.hid hn
  have hkf := kindK_ge ms p hn
  have HONE : Hid (∀ z, ((rowsP ms p).map Prod.fst).count z ≤ 1) := Lib.hid fun z => rows_once T.out R.out hk z
  have HLEN : Hid ((rowsP ms p).length = sumW (rowW ms) n.ks) := Lib.hid (by have := rows_len T.out (p : Int); rwa [hkf] at this)
  have HIN : Hid (∀ x ∈ rowsP ms p, kdOf ms x.1.toNat = 9 ∧ 0 ≤ x.1 ∧ x.1 < (m : Int) ∧ -1 ≤ x.2 ∧ x.2 < (m : Int)) := Lib.hid fun x hx => by
    have h1 := rows_in R.out hx
    rw [hm] at h1
    exact ⟨(rows_mem hx).1, h1⟩
  have HLK : Hid (∀ n ∈ ms, ∀ z ∈ n.ks, 0 ≤ z ∧ z < (m : Int)) := Lib.hid fun n hn z hz => by rw [← hm]; exact R.out.link n hn z hz
  have HMEM := Lib.hid (show n ∈ ms from List.mem_iff_getElem?.2 ⟨p, hn⟩)
  have hfew := R.out.few n HMEM.out
  have HRW : Hid (∀ z, rowW ms z ≤ 70000) := Lib.hid fun z => by
    unfold rowW
    split
    · omega
    · split
      · exact kind_few R.out 9 z
      · omega
  have hmk := make_ints m (by omega)
  clear hm hn hkf hk
  go_enter Try.func6, Try.ntmps6
  go_wp2_with (go_at_call 10; refine (shown6_any _).mono ?_; rintro e w1 ⟨rfl, hb1⟩; have HP1 := Lib.hid (HP.out.below hb1); have HB1 := Lib.hid hb1; clear hb1 HP)
  go_wp2_with (go_at_call 11; refine (HC.out _ _ HP1.out).mono ?_; rintro e w2 ⟨q, c, rfl, hp2, hb2⟩; have HP2 := Lib.hid hp2; have HB2 := Lib.hid (HB1.out.trans (hb2.mono HB1.out.size)); clear hb2 hp2 HP1 HB1 HC)
  rw [HM.out] at HP2 ⊢
  obtain ⟨b, off, rfl⟩ := some_page HP2.out (by omega)
  go_wp2_with (go_at_call 12; refine (HO.out _ _ HP2.out).mono ?_; rintro e w3 ⟨v3, rfl, ho3, hb3⟩; have HB3 := Lib.hid (HB2.out.trans (hb3.mono HB2.out.size)); have HP3 := Lib.hid (HP2.out.below hb3); obtain ⟨q3, c3, rfl⟩ := ho3.lanes.form; have HL3 := Lib.hid ho3.lanes; clear hb3 HP2 HB2 HO ho3)
  obtain ⟨rl, hrl⟩ : ∃ rl, (rowsP ms p).length = rl := ⟨_, rfl⟩
  rw [hrl]
  have HRL := Lib.hid hrl
  have hrl63 : rl ≤ 9223372036854775807 := by rw [← hrl]; exact HL3.out.1
  rw [hrl] at HLEN
  clear hrl
  obtain ⟨W4, hW4⟩ : ∃ W4, w3.alloc (.cells (Array.replicate m (.int .i64 0)) 3) = W4 := ⟨_, rfl⟩
  have k4 : Whole W4 w3.heap.size 3 ((cntL m (((rowsP ms p).take 0).map Prod.fst)).map (Value.int .i64)) := by rw [← hW4, List.take_zero, List.map_nil, cntL_nil, show Array.replicate m (Value.int .i64 0) = ((List.replicate m (0 : Int)).map (Value.int .i64)).toArray by simp]; exact whole_new w3 _ 3 _ rfl
  have b34 : Below w3.heap.size w3 W4 := by rw [← hW4]; exact (Below.refl _ w3).alloc (Nat.le_refl _) _
  obtain ⟨g, hg⟩ : ∃ g, w3.heap.size = g := ⟨_, rfl⟩
  have hwg : w.heap.size ≤ g := by rw [← hg]; exact HB3.out.size
  have HI : Hid (Whole W4 g 3 ((cntL m (((rowsP ms p).take 0).map Prod.fst)).map (Value.int .i64)) ∧ Below g w3 W4) := Lib.hid (by
    rw [← hg]
    exact ⟨k4, b34⟩)
  have HPX : Hid (∀ X, Below g w3 X → PageAt X (.slice (some ⟨b, off, none⟩) m c) ms ∧ LanesAt X (.slice q3 rl c3) (rowsP ms p) ∧ Below w.heap.size w X) := Lib.hid fun X hX => by
    rw [← hg] at hX
    have h2 := HL3.out.below hX
    rw [HRL.out] at h2
    exact ⟨HP3.out.below hX, h2, HB3.out.trans (hX.mono HB3.out.size)⟩
  have HLB : Hid (b < g ∧ ∀ rb ro, q3 = some ⟨rb, ro, none⟩ → 0 < rl → rb < g) := Lib.hid (by
    rw [← hg]
    refine ⟨cell_lt (kd_at HP3.out p hpm), fun rb ro e h => ?_⟩
    obtain ⟨x, hx⟩ : ∃ x, (rowsP ms p)[0]? = some x := ⟨_, List.getElem?_eq_getElem (by rw [HRL.out]; exact h)⟩
    obtain ⟨rb', ro', e', _, _, lr'⟩ := HL3.out.at 0 x hx
    rw [e] at e'
    injection e' with e'; injection e' with e1 e2
    rw [e1]; exact lr')
  rw [hg, hW4]
  clear hW4 k4 b34 hg hmk HL3 HP3
  go_loopw [9, 10, 11] (fun s9 _ _ X => ∃ i : Nat, i ≤ rl ∧ s9 = .int .i64 i ∧ Hid (Whole X g 3 ((cntL m (((rowsP ms p).take i).map Prod.fst)).map (Value.int .i64)) ∧ Below g w3 X)) (fun s9 _ _ _ => rl - (intOf s9).toNat)
  case atStart => exact ⟨0, by omega, rfl, HI⟩
  case round =>
    obtain ⟨i, hi, rfl, HX⟩ := hrel
    obtain ⟨X1, X6⟩ := HX.out
    obtain ⟨X2, X3, X4⟩ := HPX.out wr X6
    by_cases hlt : i < rl
    · obtain ⟨x, hx⟩ : ∃ x, (rowsP ms p)[i]? = some x := ⟨_, List.getElem?_eq_getElem (by rw [HRL.out]; omega)⟩
      obtain ⟨h9, h1, h2, h3, h4⟩ := HIN.out x (List.mem_iff_getElem?.2 ⟨i, hx⟩)
      obtain ⟨x1, x2⟩ := x
      dsimp only at h9 h1 h2 h3 h4
      obtain ⟨xn, rfl⟩ : ∃ xn : Nat, x1 = (xn : Int) := ⟨x1.toNat, by omega⟩
      rw [Int.toNat_natCast] at h9
      obtain ⟨rb, ro, rfl, cx1, cx2, lr⟩ := X3.at i _ hx
      dsimp only at cx1 cx2
      have ckd := kd_at X2 xn (by omega)
      rw [h9] at ckd
      have cg : wr.cell? ⟨g, xn, none⟩ = some (.int .i64 ((((rowsP ms p).take i).map Prod.fst).count (xn : Int) : Int)) := by
        rw [X1.cellAt, List.getElem?_map, cntL_get m _ xn (by omega)]; rfl
      have fg := X1.free xn
      have lg := X1.lt
      have htk : ((rowsP ms p).take (i + 1)).map Prod.fst = ((rowsP ms p).take i).map Prod.fst ++ [(xn : Int)] := by rw [List.take_add_one, hx]; simp
      have HTK := Lib.hid htk
      obtain ⟨cn, hcn⟩ : ∃ cn, (((rowsP ms p).take i).map Prod.fst).count (xn : Int) = cn := ⟨_, rfl⟩
      have hcn1 : cn ≤ 1 := by rw [← hcn]; exact Nat.le_trans (List.Sublist.count_le _ ((List.take_sublist _ _).map _)) (HONE.out (xn : Int))
      rw [hcn] at cg
      have HCN := Lib.hid hcn
      have lb2 : b < wr.heap.size := by have := HLB.out.1; omega
      have HS : Hid (Whole (wr.setCell ⟨g, xn, none⟩ (.int .i64 ((cn : Int) + 1))) g 3 ((cntL m (((rowsP ms p).take (i + 1)).map Prod.fst)).map (Value.int .i64)) ∧ Below g w3 (wr.setCell ⟨g, xn, none⟩ (.int .i64 ((cn : Int) + 1)))) := Lib.hid (by
        refine ⟨?_, X6.setCell (p := ⟨g, xn, none⟩) (Nat.le_refl _) _⟩
        have := X1.set xn (.int .i64 ((cn : Int) + 1))
        rw [HTK.out, cntL_snoc m _ xn (by omega), HCN.out, List.map_set]
        exact this)
      clear X1 X2 X3 X4 X6 HX hx htk hcn HI
      have d1 : decide ((xn : Int) < 0) = false := by simp
      have d2 : decide ((xn : Int) ≥ (m : Int)) = false := by simp; omega
      have d3 : decide (x2 < -1) = false := by simp; omega
      have d4 : decide (x2 ≥ (m : Int)) = false := by simp; omega
      go_wp2
      go_roundw
      case rel => exact ⟨i + 1, by omega, by go_num, HS⟩
      case measure => simp [intOf]; omega
    · obtain rfl : i = rl := by omega
      rw [List.take_of_length_le (by rw [HRL.out]; exact Nat.le_refl _)] at X1
      obtain ⟨qk, kl, ck, hpl⟩ := place_at X2 HN.out
      have HPL := Lib.hid hpl
      have kck := hpl.ck
      have lb := hpl.lt
      have HKL := Lib.hid hpl.len
      have XP := Lib.hid X2
      have HWX := Lib.hid X1
      have HBX := Lib.hid X4
      have lg := X1.lt
      rw [HKL.out] at hfew
      have HW70 : Hid (∀ t, sumW (rowW ms) (n.ks.take t) ≤ 70000 * 70000) := Lib.hid fun t => by
        have := sumW_le (rowW ms) (n.ks.take t) HRW.out
        rw [List.length_take, HKL.out] at this
        exact Nat.le_trans this (Nat.mul_le_mul_right 70000 (by omega))
      clear hpl X1 X2 X3 X4 X6 HX HI HPX HIN
      go_wp2
      go_loop [12, 13, 14, 15] (fun s12 s13 _ _ => ∃ t : Nat, t ≤ kl ∧ s13 = .int .i64 t ∧ s12 = .int .i64 (sumW (rowW ms) (n.ks.take t))) (fun _ s13 _ _ => kl - (intOf s13).toNat)
      case atStart => exact ⟨0, by omega, rfl, rfl⟩
      case round =>
        obtain ⟨t, ht, rfl, rfl⟩ := hrel
        obtain ⟨S, hS⟩ : ∃ S, sumW (rowW ms) (n.ks.take t) = S := ⟨_, rfl⟩
        have hS2 : S ≤ 70000 * 70000 := by rw [← hS]; exact HW70.out t
        by_cases hlt2 : t < kl
        · obtain ⟨z, hz⟩ : ∃ z, n.ks[t]? = some z := ⟨_, List.getElem?_eq_getElem (by rw [HKL.out]; omega)⟩
          have hzr := HLK.out n HMEM.out z (List.mem_iff_getElem?.2 ⟨t, hz⟩)
          obtain ⟨zn, rfl⟩ : ∃ zn : Nat, z = (zn : Int) := ⟨z.toNat, by omega⟩
          obtain ⟨qb, qo, rfl, cz, lz⟩ := ints_at0L HPL.out.ints t (zn : Int) hz
          have ckd := kd_at XP.out zn (by omega)
          obtain ⟨nz, hnz⟩ : ∃ nz, ms[zn]? = some nz := ⟨_, List.getElem?_eq_getElem (by rw [HM.out]; omega)⟩
          obtain ⟨q4, kz, c4, hpz⟩ := place_at XP.out hnz
          have kcz := hpz.ck
          have HPZ := Lib.hid hpz
          have HKZ := Lib.hid hpz.len
          have hfz := R.out.few nz (List.mem_iff_getElem?.2 ⟨zn, hnz⟩)
          rw [HKZ.out] at hfz
          have HMZ := Lib.hid (show nz ∈ ms from List.mem_iff_getElem?.2 ⟨zn, hnz⟩)
          have HSN := Lib.hid (sumW_snoc (rowW ms) n.ks t (zn : Int) hz)
          have HRZ : Hid (rowW ms (zn : Int) = if kdOf ms zn = 9 then 1 else if 6 ≤ kdOf ms zn ∧ kdOf ms zn ≤ 8 then (nz.ks.filter fun z => decide (kdOf ms z.toNat = 9)).length else 0) := Lib.hid (by
            unfold rowW kindK
            rw [Int.toNat_natCast, kindK_ge ms zn hnz])
          rw [hS] at HSN ⊢
          obtain ⟨kd, hkd⟩ : ∃ kd, kdOf ms zn = kd := ⟨_, rfl⟩
          rw [hkd] at ckd HRZ
          clear hz hpz hnz hS hkd
          by_cases k9 : kd = 9
          · have HE : Hid (sumW (rowW ms) (n.ks.take (t + 1)) = S + 1) := Lib.hid (by rw [HSN.out, HRZ.out, if_pos k9])
            subst k9
            clear HSN HRZ
            go_wp2
            go_loop [12, 15] (fun s12 s15 => s15 = .int .i64 0 ∧ s12 = .int .i64 ((S : Int) + 1)) (fun _ _ => 0)
            case atStart => exact ⟨rfl, by go_num⟩
            case round =>
              obtain ⟨rfl, rfl⟩ := hrel
              by_cases h0 : (0 : Int) < (kz : Int)
              · go_wp2
                go_round
                case rel => exact ⟨t + 1, by omega, by go_num, by rw [HE.out]; simp⟩
                case measure => simp [intOf]; omega
              · go_wp2
                go_round
                case rel => exact ⟨t + 1, by omega, by go_num, by rw [HE.out]; simp⟩
                case measure => simp [intOf]; omega
          · have d9 : (kd == 9) = false := by simpa using k9
            by_cases kg : 6 ≤ kd ∧ kd ≤ 8
            · have HE : Hid (sumW (rowW ms) (n.ks.take (t + 1)) = S + (nz.ks.filter fun z => decide (kdOf ms z.toNat = 9)).length) := Lib.hid (by rw [HSN.out, HRZ.out, if_neg k9, if_pos kg])
              have e2 : decide (kd ≥ 6) = true := by simpa using kg.1
              have e3 : decide (kd ≤ 8) = true := by simpa using kg.2
              clear HSN HRZ k9
              go_wp2
              go_loop [12, 15] (fun s12 s15 => ∃ j : Nat, j ≤ kz ∧ s15 = .int .i64 j ∧ s12 = .int .i64 ((S : Int) + (((nz.ks.take j).filter fun z => decide (kdOf ms z.toNat = 9)).length : Nat))) (fun _ s15 => kz - (intOf s15).toNat)
              case atStart => exact ⟨0, by omega, rfl, by simp⟩
              case round =>
                obtain ⟨j, hj, rfl, rfl⟩ := hrel
                by_cases hlt3 : j < kz
                · have e1 : decide ((j : Int) < (kz : Int)) = true := by simp; omega
                  obtain ⟨y, hy⟩ : ∃ y, nz.ks[j]? = some y := ⟨_, List.getElem?_eq_getElem (by rw [HKZ.out]; omega)⟩
                  have hyr := HLK.out nz HMZ.out y (List.mem_iff_getElem?.2 ⟨j, hy⟩)
                  obtain ⟨yn, rfl⟩ : ∃ yn : Nat, y = (yn : Int) := ⟨y.toNat, by omega⟩
                  obtain ⟨q5, o5, rfl, cy, ly⟩ := ints_at0L HPZ.out.ints j (yn : Int) hy
                  have cky := kd_at XP.out yn (by omega)
                  have HF := Lib.hid (filt_snoc (fun z => decide (kdOf ms z.toNat = 9)) nz.ks j (yn : Int) hy)
                  obtain ⟨fl, hfl⟩ : ∃ fl, ((nz.ks.take j).filter fun z => decide (kdOf ms z.toNat = 9)).length = fl := ⟨_, rfl⟩
                  have hfl2 : fl ≤ 70000 := by
                    rw [← hfl]
                    refine Nat.le_trans (List.length_filter_le _ _) ?_
                    rw [List.length_take]; omega
                  rw [hfl] at HF ⊢
                  by_cases k5 : kdOf ms yn = 9
                  · have d5 : (kdOf ms yn == 9) = true := by simpa using k5
                    have HF2 : Hid (((nz.ks.take (j + 1)).filter fun z => decide (kdOf ms z.toNat = 9)).length = fl + 1) := Lib.hid (by rw [HF.out]; simp [k5])
                    clear HF hfl hy k5
                    go_wp2
                    go_round
                    case rel => exact ⟨j + 1, by omega, by go_num, by rw [HF2.out]; exact congrArg (Value.int .i64) (by omega)⟩
                    case measure => simp [intOf]; omega
                  · have d5 : (kdOf ms yn == 9) = false := by simpa using k5
                    have HF2 : Hid (((nz.ks.take (j + 1)).filter fun z => decide (kdOf ms z.toNat = 9)).length = fl) := Lib.hid (by rw [HF.out]; simp [k5])
                    clear HF hfl hy k5
                    go_wp2
                    go_round
                    case rel => exact ⟨j + 1, by omega, by go_num, by rw [HF2.out]⟩
                    case measure => simp [intOf]; omega
                · obtain rfl : j = kz := by omega
                  rw [List.take_of_length_le (by rw [HKZ.out]; exact Nat.le_refl _)]
                  go_wp2
                  go_round
                  case rel => exact ⟨t + 1, by omega, by go_num, by rw [HE.out]; simp⟩
                  case measure => simp [intOf]; omega
            · have HE : Hid (sumW (rowW ms) (n.ks.take (t + 1)) = S) := Lib.hid (by rw [HSN.out, HRZ.out, if_neg k9, if_neg kg]; rfl)
              clear HSN HRZ k9
              go_wp2
              go_loop [12, 15] (fun s12 s15 => s15 = .int .i64 0 ∧ s12 = .int .i64 (S : Int)) (fun _ _ => 0)
              case atStart => exact ⟨rfl, rfl⟩
              case round =>
                obtain ⟨rfl, rfl⟩ := hrel
                by_cases h6 : 6 ≤ kd
                · have e2 : decide (kd ≥ 6) = true := by simpa using h6
                  have e3 : decide (kd ≤ 8) = false := by simp; omega
                  by_cases h0 : (0 : Int) < (kz : Int)
                  · go_wp2
                    go_round
                    case rel => exact ⟨t + 1, by omega, by go_num, by rw [HE.out]⟩
                    case measure => simp [intOf]; omega
                  · go_wp2
                    go_round
                    case rel => exact ⟨t + 1, by omega, by go_num, by rw [HE.out]⟩
                    case measure => simp [intOf]; omega
                · have e2 : decide (kd ≥ 6) = false := by simp; omega
                  by_cases h0 : (0 : Int) < (kz : Int)
                  · go_wp2
                    go_round
                    case rel => exact ⟨t + 1, by omega, by go_num, by rw [HE.out]⟩
                    case measure => simp [intOf]; omega
                  · go_wp2
                    go_round
                    case rel => exact ⟨t + 1, by omega, by go_num, by rw [HE.out]⟩
                    case measure => simp [intOf]; omega
        · obtain rfl : t = kl := by omega
          have hfin : S = i := by
            rw [← hS, List.take_of_length_le (by rw [HKL.out]; exact Nat.le_refl _), ← HLEN.out]
          rw [hS]
          clear hS
          subst hfin
          go_wp2
          go_loop [16] (fun s16 => ∃ j : Nat, j ≤ m ∧ s16 = .int .i64 j) (fun s16 => m - (intOf s16).toNat)
          case atStart => exact ⟨0, by omega, rfl⟩
          case round =>
            obtain ⟨j, hj, rfl⟩ := hrel
            by_cases hlt4 : j < m
            · have cg : wr.cell? ⟨g, j, none⟩ = some (.int .i64 (((rowsP ms p).map Prod.fst).count (j : Int) : Int)) := by
                rw [HWX.out.cellAt, List.getElem?_map, cntL_get m _ j hlt4]; rfl
              have h1 := HONE.out (j : Int)
              obtain ⟨cn, hcn⟩ : ∃ cn, ((rowsP ms p).map Prod.fst).count (j : Int) = cn := ⟨_, rfl⟩
              rw [hcn] at cg h1
              have dc : decide ((cn : Int) > 1) = false := by simp; omega
              have dc2 : decide (1 < (cn : Int)) = false := by simp; omega
              clear hcn
              go_wp2
              go_round
              case rel => exact ⟨j + 1, by omega, by go_num⟩
              case measure => simp [intOf]; omega
            · go_wp2
              go_ret
              exact ⟨rfl, HBX.out⟩
theorem walk (w : World) (a0 : Option Addr) (len0 cap0 : Nat) (ns : List Nd) (h : PageAt w (.slice a0 len0 cap0) ns) (p : Int) (hp : (Lit.int .i64 p).wf = true) :
    Calls Try.prog 6 #[.slice a0 len0 cap0, .int .i64 p] w fun e w' => e = .returned (.bool true) ∧ Below w.heap.size w w' := by
  have hK := fun n (hn : n ∈ cutP ns) => (cutP_both ns n hn).1
  by_cases hc : lchkP (cutP ns) p = 0
  · obtain ⟨F, j, rfl, hj, hk⟩ := lchk_ok hc
    exact once_good _ j ns (cutP ns) w _ rfl hj (cutP_len ns) (Lib.hid (F.ok hK)) (Lib.hid F.tr) hk (Lib.hid h) (Lib.hid fun X v hP => cut_post v ns X hP) (Lib.hid fun X v hP => rowsF_good v j _ X hP hK F hj hk)
  · exact once_bad _ p ns (cutP ns) w _ hc (Lib.hid h) (Lib.hid fun X v hP => cut_post v ns X hP) (Lib.hid fun X v hP => rowsF_not v p _ X hP hK hc)

set_option maxRecDepth 100000 in
theorem lifted (os : Os) (started : os.Started) (H : Type) (enc : TypeId × Value → H) :
    ReturnsInHanded {} Try.checked os 6 .any (Rows.lanesOnceSpec.pre6 enc Try.prog Try.f6 Rows.lanesOnceRow.domain false) (Rows.lanesOnceSpec.post enc Try.prog Try.f6 false true false false) := by
  refine returnsInHanded_of_change (C := Try.checked) own started (by kernel_rfl) Try.func6
    (ChangeSpec.witness6 (enc := enc) (C := Try.checked) false ⟨#[], #[.slice none 0 0, .int .i64 0], []⟩ 8 (by kernel_rfl) (by kernel_rfl) (by kernel_rfl) (by kernel_rfl)) ?_
  intro W base args ds gs before hval0 hW hcnd _
  have hval : ∀ (j : Nat) t v, Try.f6.params[j]? = some t → args[j]? = some v → Value.okWide Try.prog W .any base t v := hval0
  have hW' := hW
  obtain ⟨p, q, hA0, hV, rfl, hfz, hnd⟩ := hW
  have hA : DataW.TrodAll enc Try.prog W 0 (fun _ => true) true Try.f6.params.toList args.toList ds p := hA0
  rw [Try.params6] at hA hval
  obtain ⟨v0, vs0, d0, ds0, p0, q0, hargs, rfl, rfl, h0, r0⟩ := trodAll_cons hA
  obtain ⟨v1, vs1, d1, ds1, p1, q1, rfl, rfl, rfl, h1, r1⟩ := trodAll_cons r0
  obtain ⟨rfl, rfl, rfl⟩ := trodAll_nil r1
  obtain rfl : args = #[v0, v1] := by cases args; simp_all
  obtain ⟨rfl, rfl⟩ := trodVars_none hV
  obtain ⟨a0, len0, cap0, rfl⟩ := okWide_slice Try.underlying22 (hval 0 22 v0 rfl rfl)
  have k0 := h0
  have lt0 : ∀ x ∈ p0, x.block < W.heap.size := by obtain ⟨m, hm⟩ := k0; exact DataW.trod_lt m _ _ _ hm
  obtain ⟨z0, w0⟩ : ∃ ns, PageAt W (.slice a0 len0 cap0) ns := by
    obtain ⟨fuel, hf⟩ := h0
    obtain ⟨ns, hn, _⟩ := open_nodes (by simpa [Value.cells] using hf)
    exact ⟨ns, hn⟩
  obtain ⟨a1, rfl, rfl, rfl, w1⟩ := open_int Try.underlying3 (hval 1 3 v1 rfl rfl) h1
  clear hA0 hval0
  simp only [List.append_nil] at hW'
  refine (walk W a0 len0 cap0 z0 w0 a1 w1).mono fun e W' ⟨he, hg⟩ => ?_
  subst he
  exact ⟨_, rfl, _, _, _, [], _, [], hW', (trodAll_cons_mk (shut_bool Try.underlying4 _) trodAll_mk0), (trodAll_cons_mk (Below.trod laidOut (by kernel_rfl) (of_decide_eq_true (by kernel_rfl)) k0 hg lt0) (trodAll_cons_mk (shut_int Try.underlying3 w1) trodAll_mk0)), rfl, hg.frame _, fun h => by cases h⟩

theorem over : Rows.lanesOnceRow.holds Try.pinned (OpenSpec.ofChange Rows.lanesOnceSpec) :=
  OpenClaim.holds_of_wide 6 Try.f6 rfl rfl rfl rfl rfl rfl rfl ⟨rfl, rfl, rfl, rfl, rfl⟩ rfl rfl rfl rfl rfl (by kernel_rfl) Try.func6 (by kernel_rfl)
    (of_decide_eq_true (by kernel_rfl)) (by unfold Func.isWrapper; first | (rw [if_pos (by decide +kernel)]; kernel_rfl) | (rw [if_neg (by decide +kernel)]; exact ⟨rfl, rfl⟩))
    (fun os started H enc _ => lifted os started H enc)

/-- the statement -/
theorem proved : Rows.LanesOnceSaid :=
  over
#print axioms proved
end Go.Proofs.Ytdljgdmodobjpaa.lanesOnce
