/- A plain grid has a slot for each cell, in order, and no empty one. -/
import Derived.Test.YtihpaicbdfgfbaaRows
import Derived.WalkKit
import Derived.ProofKit
import Derived.OpenShut
import Derived.Below
import Derived.Test.YtihpaicbdfgfbaaGPB
import Derived.ShutString
namespace Go.Proofs.Ytihpaicbdfgfbaa.gridPlain
open Go.ChangeShapes Go.WideShapes Go.ChangeAt Go.RowKit
set_option linter.unusedVariables false

theorem own : ownKnob Try.prog.godebug = none := by kernel_rfl

set_option maxRecDepth 100000 in
set_option maxHeartbeats 4000000 in
theorem plain_at (n m : Nat) (hn : n ≤ 50) (hm : m ≤ 50) (w : World) :
    Calls Try.prog 8 #[.int .i64 (n : Int), .int .i64 (m : Int)] w fun e w' => e = .returned (.bool true) ∧ Below w.heap.size w w' := by
  have hmk := make_rows n (by omega)
  have hmk2 := make_intsG n (by omega)
  obtain ⟨za, hza⟩ : ∃ za, (List.replicate n (Value.slice none 0 0)).toArray = za := ⟨_, rfl⟩
  obtain ⟨zb, hzb⟩ : ∃ zb, ((List.replicate n (0 : Int)).map (Value.int .i64)).toArray = zb := ⟨_, rfl⟩
  rw [hza] at hmk
  rw [hzb] at hmk2
  have HZA := Lib.hid hza
  have HZB := Lib.hid hzb
  clear hza hzb
  obtain ⟨s, hs, hps, hst⟩ := plan_run n m hm
  obtain ⟨hOQ, hEL⟩ := plan_own n m hn hm
  rw [← hps] at hOQ hEL
  have hP2 : n * m ≤ 2500 := Nat.le_trans (Nat.mul_le_mul hn hm) (by omega)
  have hPL : s.ps.length = n * m := by rw [hps]; simp
  have HGET : Hid (∀ j, j < n * m → (s.ps.map Pl.z)[j]? = some ⟨100 * ((j / m : Nat) : Int) + ((j % m : Nat) : Int), (j / m : Nat), (j % m : Nat), 1, 1⟩) := Lib.hid fun j hj => by
    rw [hps, List.getElem?_map, List.getElem?_map, List.getElem?_range hj]
    rfl
  have HS := Lib.hid hs
  have HPL := Lib.hid hPL
  clear hs hps hPL
  obtain ⟨P, hP⟩ : ∃ P, n * m = P := ⟨_, rfl⟩
  have hPI : (n : Int) * (m : Int) = (P : Int) := by rw [← hP]; simp
  rw [hP] at hP2 HPL HGET
  have HP := Lib.hid hP
  clear hP
  obtain ⟨c, hc⟩ : ∃ c, (if n = 0 then 0 else m) = c := ⟨_, rfl⟩
  rw [hc] at hst hOQ hEL
  have hc50 : c ≤ 50 := by rw [← hc]; split <;> omega
  have HC : Hid (n ≠ 0 → c = m) := Lib.hid fun h => by rw [← hc, if_neg h]
  have HST := Lib.hid hst
  have HOQ := Lib.hid hOQ
  have HEL := Lib.hid hEL
  clear hc hst hOQ hEL
  go_enter Try.func8, Try.ntmps8
  go_wp2_with (go_at_call 10; refine (shown7_any _).mono ?_; rintro e w1 ⟨rfl, hb1⟩; have HB1 := Lib.hid hb1; clear hb1)
  have H0 : Hid (PB w w1.heap.size n m 0 0 0 (w1.heap.size + 1 + 1) (List.replicate n (.slice none 0 0)) ((w1.alloc (.cells za 50)).alloc (.cells zb 3))) := Lib.hid (by
    refine ⟨(HB1.out.alloc HB1.out.size _).alloc (by have := HB1.out.size; simp; omega) _, ?_, ?_, fun j u hj => by omega, fun u hu => ?_, fun j h1 h2 => by simp [h2], by simp, HB1.out.size, Nat.le_refl _, by simp⟩
    · rw [← HZA.out]; exact (whole_new w1 (List.replicate n (.slice none 0 0)) 50 _ rfl).alloc _
    · rw [← HZB.out]
      have := whole_new (w1.alloc (.cells za 50)) ((List.replicate n (0 : Int)).map (Value.int .i64)) 3 (w1.heap.size + 1) (by simp)
      simpa using this
    · have hn0 : 0 < n := by have := (List.getElem?_eq_some_iff.1 hu).1; simpa using this
      rw [List.getElem?_replicate, if_pos hn0] at hu
      cases hu
      exact World.ownsRow_nil _ _ _ _)
  clear hmk hmk2 HZA HZB
  go_loopw [8] (fun s8 x => ∃ (i : Nat) (hs : List Value) (Bi : Nat), i ≤ n ∧ s8 = .int .i64 (i : Int) ∧ Hid (PB w w1.heap.size n m i i 0 Bi hs x)) (fun s8 _ => n - (intOf s8).toNat)
  case atStart => exact ⟨0, _, _, Nat.zero_le _, rfl, H0⟩
  case round =>
    clear H0
    obtain ⟨i, hs, Bi, hi, rfl, HX⟩ := hrel
    by_cases hlt : i < n
    · have l1 := HX.out.ke.lt
      have f1 := HX.out.ke.free i
      obtain ⟨o1, c1⟩ : ∃ o1, wr.cell? ⟨w1.heap.size + 1, i, none⟩ = some o1 := by rw [HX.out.ke.cellAt]; exact ⟨_, List.getElem?_eq_getElem (by simp; omega)⟩
      have HX2 := Lib.hid (HX.out.ends hlt)
      clear HX
      go_wp2
      go_loopw [9] (fun s9 x => ∃ (k : Nat) (hs : List Value), k ≤ m ∧ s9 = .int .i64 (k : Int) ∧ Hid (PB w w1.heap.size n m (i + 1) i k Bi hs x)) (fun s9 _ => m - (intOf s9).toNat)
      case atStart => exact ⟨0, hs, Nat.zero_le _, rfl, HX2⟩
      case round =>
        clear HX2 l1 f1 c1
        obtain ⟨k, hs, hk, rfl, HX⟩ := hrel
        by_cases hlk : k < m
        · obtain ⟨u, hu⟩ : ∃ u, hs[i]? = some u := ⟨_, List.getElem?_eq_getElem (by rw [HX.out.hl]; exact hlt)⟩
          obtain ⟨pu, nu, cu, rfl⟩ := own_slice (HX.out.cu u hu)
          have c0 : wr.cell? ⟨w1.heap.size, i, none⟩ = some (.slice pu nu cu) := by rw [HX.out.kr.cellAt]; exact hu
          have l0 := HX.out.kr.lt
          obtain ⟨i1, hi1, hz0', hz1', hz2'⟩ := info_parts Try.infoSp
          have HZ1 := Lib.hid hz0'
          have HZ2 := Lib.hid hz1'
          have HZ3 := Lib.hid hz2'
          have HOW := Lib.hid (HX.out.cu _ hu)
          have HPUT := Lib.hid (fun (Y : World) (v' : Value) ho hg => PB.put (Y := Y) (v' := v') (o := .cells #[.int .i64 (100 * (i : Int) + (k : Int)), .int .i64 1, .int .i64 1] 54) HX.out hlt hu ho hg)
          have HKR := Lib.hid (HX.out.kr.alloc (.cells #[.int .i64 (100 * (i : Int) + (k : Int)), .int .i64 1, .int .i64 1] 54))
          have HLOW := Lib.hid (fun b (hb : b < Bi) => own_low (HX.out.cu _ hu) hb)
          have hgB := HX.out.gB
          have hBx := HX.out.Bx
          have t1 : ∀ u ∈ [Value.int .i64 (100 * (i : Int) + (k : Int)), Value.int .i64 1, Value.int .i64 1], u.oneCell' = true := by simp [Value.oneCell']
          have t2 : k + 1 ≤ maxLen := by unfold maxLen; omega
          have t3 : (k + 1) * 24 ≤ 140737488355328 := by omega
          have t4 : Bi ≤ (wr.alloc (.cells #[.int .i64 (100 * (i : Int) + (k : Int)), .int .i64 1, .int .i64 1] 54)).heap.size := by simp <;> omega
          clear hz0' hz1' hz2' hu HX
          go_wp2_with (at_builtin; refine wpList_append_own_at _ rfl _ _ 50 rfl Bi 54 i1 (.agg #[.int .i64 0, .int .i64 0, .int .i64 0]) 3 24 Try.underlying50 hi1 HZ1.out HZ2.out HZ3.out rfl (by decide) (.slice pu nu cu) k _ rfl (HOW.out.alloc _) ⟨wr.heap.size, 0, none⟩ 1 1 [.int .i64 (100 * (i : Int) + (k : Int)), .int .i64 1, .int .i64 1] rfl rfl (lay_newG _ [.int .i64 (100 * (i : Int) + (k : Int)), .int .i64 1, .int .i64 1] 54 wr.heap.size rfl) t1 t2 t3 t4 ?_; intro v9 w9 hown9 hgrow9 _ hf9; obtain ⟨p9, n9, cc9, rfl⟩ := own_slice hown9; have HO9 := Lib.hid (HPUT.out w9 _ hown9 hgrow9); have k9 := HKR.out.grown hgrow9 (HLOW.out _ (by omega)); have f9 := k9.free i; have l9 := k9.lt; obtain ⟨o9, c9⟩ : ∃ o9, w9.cell? ⟨w1.heap.size, i, none⟩ = some o9 := (by rw [k9.cellAt]; exact ⟨_, List.getElem?_eq_getElem (by have := HO9.out.hl; rw [List.length_set] at this; omega)⟩); clear hown9 hgrow9 hf9 HPUT k9)
          go_roundw
          case rel => exact ⟨k + 1, _, by omega, by go_num, HO9⟩
          case measure => simp [intOf]; omega
        · have hkm : k = m := by omega
          have HN := Lib.hid ((hkm ▸ HX.out : PB w w1.heap.size n m (i + 1) i m Bi hs wr).next hlt)
          clear HX
          go_wp2
          go_roundw
          case rel => exact ⟨i + 1, hs, _, by omega, by go_num, HN⟩
          case measure => simp [intOf]; omega
    · have hin : i = n := by omega
      have HM := Lib.hid ((hin ▸ HX.out : PB w w1.heap.size n m n n 0 Bi hs wr).made hn hm)
      have HB2 := Lib.hid HX.out.lo
      clear HX
      obtain ⟨hr1, hr2⟩ := HM.out
      have HLAY := Lib.hid (lay_good _ _ _ _ _ _ hr1 hr2 (plan_few n m hn hm) (plan_right n m hn) s HS.out)
      rw [HST.out] at HLAY
      clear hr1 hr2 HM HS HST hin
      obtain ⟨bb, hbb⟩ : ∃ bb, ((c : Int) != (m : Int)) = bb := ⟨_, rfl⟩
      have hb0 : bb = true → n = 0 := fun h => by
        rw [h] at hbb
        rcases Nat.eq_zero_or_pos n with h0 | h0
        · exact h0
        · have := HC.out (by omega); rw [this] at hbb; simp at hbb
      cases bb with
      | true =>
        have HN0 := Lib.hid (hb0 rfl)
        clear hb0
        go_wp2_with (go_at_call 12; refine HLAY.out.mono ?_; clear HLAY; rintro e w3 ⟨v3, rfl, ho3, hb3⟩; have P3 := Lib.hid (ho3.places (by rw [HPL.out]; omega)); obtain ⟨q3, c3, hv3⟩ := P3.out.form; rw [List.length_map, HPL.out] at hv3; subst hv3; have HB3 := Lib.hid (HB2.out.trans (hb3.mono HB2.out.size)); clear hb3 ho3)
        · exfalso; have := HN0.out; omega
        go_loopw [13] (fun s13 x => ∃ k d : Nat, k ≤ P ∧ s13 = .int .i64 (k : Int) ∧ x = w3.drewN d) (fun s13 _ => P - (intOf s13).toNat)
        case atStart => exact ⟨0, 0, Nat.zero_le _, rfl, rfl⟩
        case round =>
          obtain ⟨k, d, hk, rfl, rfl⟩ := hrel
          by_cases hlp : k < P
          · have hm0 : 0 < m := by
              rcases Nat.eq_zero_or_pos m with h | h
              · have := HP.out; rw [h] at this; simp at this; omega
              · exact h
            have hmI : ((m : Int) == 0) = false := by simp; omega
            obtain ⟨q, hq⟩ : ∃ q, k / m = q := ⟨_, rfl⟩
            obtain ⟨r, hr⟩ : ∃ r, k % m = r := ⟨_, rfl⟩
            have hq50 : q ≤ 2500 := by rw [← hq]; exact Nat.le_trans (Nat.div_le_self k m) (by omega)
            have hr50 : r ≤ 2500 := by rw [← hr]; exact Nat.le_trans (Nat.mod_le k m) (by omega)
            have e1 : Int.tdiv (k : Int) (m : Int) = (q : Int) := by rw [← hq]; rfl
            have e2 : Int.tmod (k : Int) (m : Int) = (r : Int) := by rw [← hr]; rfl
            have hg := HGET.out k hlp
            rw [hq, hr] at hg
            obtain ⟨b, off, rfl, lb, x0, x1, x2, x3, x4⟩ := P3.out.at k _ hg
            have hE : ∀ X : World, (binOp .neq 52 (.agg #[.int .i64 (100 * (q : Int) + (r : Int)), .int .i64 (q : Int), .int .i64 (r : Int), .int .i64 1, .int .i64 1]) (.agg #[.int .i64 (100 * (q : Int) + (r : Int)), .int .i64 (q : Int), .int .i64 (r : Int), .int .i64 1, .int .i64 1])).run Try.prog X = .ok (.bool false) X := fun X => by
              have := pz_eql ⟨100 * (q : Int) + (r : Int), q, r, 1, 1⟩ ⟨100 * (q : Int) + (r : Int), q, r, 1, 1⟩ X
              rw [this]; simp
            dsimp only at x0 x1 x2 x3 x4
            clear hg hq hr
            go_wp2
            go_quiet (fail)
            go_wp2
            go_roundw
            case rel => exact ⟨k + 1, _, by omega, by go_num, rfl⟩
            case measure => simp [intOf]; omega
          · have HPS := Lib.hid (P3.out.below (below_dn w3.heap.size w3 d))
            have HEM : Hid (∀ X, Below (w3.drewN d).heap.size (w3.drewN d) X → Calls Try.prog 25 #[.slice q3 P c3, .int .i64 (n : Int), .int .i64 (c : Int)] X fun e W' => ∃ v', e = .returned (.tuple #[v', .int .i64 0]) ∧ (∃ a cc, v' = .slice a 0 cc) ∧ Below X.heap.size X W') := Lib.hid fun X hX => by
              have hSQ : SizeQ n c := ⟨by omega, by omega, by
                have h3 : ((n : Int) * (c : Int)) = ((n * c : Nat) : Int) := by simp
                have h4 : n * c ≤ 50 * 50 := Nat.mul_le_mul hn hc50
                omega⟩
              have hO := owners_ok q3 P c3 n c (s.ps.map Pl.z) X (by rw [List.length_map]; exact HPL.out) (HPS.out.below hX) hSQ (fun p hp => by
                have hpb := HOQ.out.1 p hp
                unfold placeB liesB at hpb
                simp at hpb
                unfold I64
                omega)
              refine (empty_ok (.slice q3 P c3) n c (s.ps.map Pl.z) X hSQ ⟨_, _, _, rfl⟩ (Lib.hid (hO.mono ?_))).mono ?_
              · rintro e W' ⟨hb, ⟨h1, _⟩ | ⟨_, mb, _, rfl, h2⟩⟩
                · exact absurd HOQ.out h1
                · exact ⟨mb, rfl, h2, hb⟩
              · rintro e W' ⟨v', rfl, ho, hb⟩
                refine ⟨v', rfl, ?_, hb⟩
                rw [HEL.out] at ho
                rcases ho.2 with ⟨rfl, _⟩ | ⟨g, cap, cur, rfl, _⟩
                · exact ⟨_, _, rfl⟩
                · exact ⟨_, _, rfl⟩
            have HB4 : Hid (Below w.heap.size w (w3.drewN d)) := Lib.hid (HB3.out.trans (below_dn _ _ _))
            clear HPS HGET HOQ HEL P3
            go_wp2_with (go_at_call 25; refine (HEM.out _ (Below.refl _ _)).mono ?_; clear HEM; rintro e w5 ⟨v5, rfl, ⟨q5, c5, rfl⟩, hb5⟩; have HB5 := Lib.hid (HB4.out.trans (hb5.mono HB4.out.size)); clear hb5)
            go_ret
            exact ⟨rfl, HB5.out⟩
      | false =>
        clear hb0
        go_wp2_with (go_at_call 12; refine HLAY.out.mono ?_; clear HLAY; rintro e w3 ⟨v3, rfl, ho3, hb3⟩; have P3 := Lib.hid (ho3.places (by rw [HPL.out]; omega)); obtain ⟨q3, c3, hv3⟩ := P3.out.form; rw [List.length_map, HPL.out] at hv3; subst hv3; have HB3 := Lib.hid (HB2.out.trans (hb3.mono HB2.out.size)); clear hb3 ho3)
        go_loopw [13] (fun s13 x => ∃ k d : Nat, k ≤ P ∧ s13 = .int .i64 (k : Int) ∧ x = w3.drewN d) (fun s13 _ => P - (intOf s13).toNat)
        case atStart => exact ⟨0, 0, Nat.zero_le _, rfl, rfl⟩
        case round =>
          obtain ⟨k, d, hk, rfl, rfl⟩ := hrel
          by_cases hlp : k < P
          · have hm0 : 0 < m := by
              rcases Nat.eq_zero_or_pos m with h | h
              · have := HP.out; rw [h] at this; simp at this; omega
              · exact h
            have hmI : ((m : Int) == 0) = false := by simp; omega
            obtain ⟨q, hq⟩ : ∃ q, k / m = q := ⟨_, rfl⟩
            obtain ⟨r, hr⟩ : ∃ r, k % m = r := ⟨_, rfl⟩
            have hq50 : q ≤ 2500 := by rw [← hq]; exact Nat.le_trans (Nat.div_le_self k m) (by omega)
            have hr50 : r ≤ 2500 := by rw [← hr]; exact Nat.le_trans (Nat.mod_le k m) (by omega)
            have e1 : Int.tdiv (k : Int) (m : Int) = (q : Int) := by rw [← hq]; rfl
            have e2 : Int.tmod (k : Int) (m : Int) = (r : Int) := by rw [← hr]; rfl
            have hg := HGET.out k hlp
            rw [hq, hr] at hg
            obtain ⟨b, off, rfl, lb, x0, x1, x2, x3, x4⟩ := P3.out.at k _ hg
            have hE : ∀ X : World, (binOp .neq 52 (.agg #[.int .i64 (100 * (q : Int) + (r : Int)), .int .i64 (q : Int), .int .i64 (r : Int), .int .i64 1, .int .i64 1]) (.agg #[.int .i64 (100 * (q : Int) + (r : Int)), .int .i64 (q : Int), .int .i64 (r : Int), .int .i64 1, .int .i64 1])).run Try.prog X = .ok (.bool false) X := fun X => by
              have := pz_eql ⟨100 * (q : Int) + (r : Int), q, r, 1, 1⟩ ⟨100 * (q : Int) + (r : Int), q, r, 1, 1⟩ X
              rw [this]; simp
            dsimp only at x0 x1 x2 x3 x4
            clear hg hq hr
            go_wp2
            go_quiet (fail)
            go_wp2
            go_roundw
            case rel => exact ⟨k + 1, _, by omega, by go_num, rfl⟩
            case measure => simp [intOf]; omega
          · have HPS := Lib.hid (P3.out.below (below_dn w3.heap.size w3 d))
            have HEM : Hid (∀ X, Below (w3.drewN d).heap.size (w3.drewN d) X → Calls Try.prog 25 #[.slice q3 P c3, .int .i64 (n : Int), .int .i64 (c : Int)] X fun e W' => ∃ v', e = .returned (.tuple #[v', .int .i64 0]) ∧ (∃ a cc, v' = .slice a 0 cc) ∧ Below X.heap.size X W') := Lib.hid fun X hX => by
              have hSQ : SizeQ n c := ⟨by omega, by omega, by
                have h3 : ((n : Int) * (c : Int)) = ((n * c : Nat) : Int) := by simp
                have h4 : n * c ≤ 50 * 50 := Nat.mul_le_mul hn hc50
                omega⟩
              have hO := owners_ok q3 P c3 n c (s.ps.map Pl.z) X (by rw [List.length_map]; exact HPL.out) (HPS.out.below hX) hSQ (fun p hp => by
                have hpb := HOQ.out.1 p hp
                unfold placeB liesB at hpb
                simp at hpb
                unfold I64
                omega)
              refine (empty_ok (.slice q3 P c3) n c (s.ps.map Pl.z) X hSQ ⟨_, _, _, rfl⟩ (Lib.hid (hO.mono ?_))).mono ?_
              · rintro e W' ⟨hb, ⟨h1, _⟩ | ⟨_, mb, _, rfl, h2⟩⟩
                · exact absurd HOQ.out h1
                · exact ⟨mb, rfl, h2, hb⟩
              · rintro e W' ⟨v', rfl, ho, hb⟩
                refine ⟨v', rfl, ?_, hb⟩
                rw [HEL.out] at ho
                rcases ho.2 with ⟨rfl, _⟩ | ⟨g, cap, cur, rfl, _⟩
                · exact ⟨_, _, rfl⟩
                · exact ⟨_, _, rfl⟩
            have HB4 : Hid (Below w.heap.size w (w3.drewN d)) := Lib.hid (HB3.out.trans (below_dn _ _ _))
            clear HPS HGET HOQ HEL P3
            go_wp2_with (go_at_call 25; refine (HEM.out _ (Below.refl _ _)).mono ?_; clear HEM; rintro e w5 ⟨v5, rfl, ⟨q5, c5, rfl⟩, hb5⟩; have HB5 := Lib.hid (HB4.out.trans (hb5.mono HB4.out.size)); clear hb5)
            go_ret
            exact ⟨rfl, HB5.out⟩
theorem plain_not (a0 a1 : Int) (h : a0 < 0 ∨ 50 < a0 ∨ a1 < 0 ∨ 50 < a1) (w : World) : Calls Try.prog 8 #[.int .i64 a0, .int .i64 a1] w fun e w' => e = .returned (.bool true) ∧ Below w.heap.size w w' := by
  go_enter Try.func8, Try.ntmps8
  by_cases h1 : a0 < 0
  · clear h
    go_wp2_with (go_at_call 10; refine (shown7_any _).mono ?_; rintro e w1 ⟨rfl, hb1⟩; have HB1 := Lib.hid hb1; clear hb1)
    go_ret
    exact ⟨rfl, HB1.out⟩
  · by_cases h2 : 50 < a0
    · clear h
      go_wp2_with (go_at_call 10; refine (shown7_any _).mono ?_; rintro e w1 ⟨rfl, hb1⟩; have HB1 := Lib.hid hb1; clear hb1)
      go_ret
      exact ⟨rfl, HB1.out⟩
    · by_cases h3 : a1 < 0
      · clear h
        go_wp2_with (go_at_call 10; refine (shown7_any _).mono ?_; rintro e w1 ⟨rfl, hb1⟩; have HB1 := Lib.hid hb1; clear hb1)
        go_ret
        exact ⟨rfl, HB1.out⟩
      · have h4 : 50 < a1 := by omega
        clear h
        go_wp2_with (go_at_call 10; refine (shown7_any _).mono ?_; rintro e w1 ⟨rfl, hb1⟩; have HB1 := Lib.hid hb1; clear hb1)
        go_ret
        exact ⟨rfl, HB1.out⟩
theorem walk (a0 : Int) (h0 : (Lit.int .i64 a0).wf = true) (a1 : Int) (h1 : (Lit.int .i64 a1).wf = true) (w : World) : Calls Try.prog 8 #[.int .i64 a0, .int .i64 a1] w fun e w' => e = .returned (.bool true) ∧ Below w.heap.size w w' := by
  by_cases hc : 0 ≤ a0 ∧ a0 ≤ 50 ∧ 0 ≤ a1 ∧ a1 ≤ 50
  · obtain ⟨n, rfl⟩ : ∃ n : Nat, a0 = (n : Int) := ⟨a0.toNat, by omega⟩
    obtain ⟨m, rfl⟩ : ∃ m : Nat, a1 = (m : Int) := ⟨a1.toNat, by omega⟩
    exact plain_at n m (by omega) (by omega) w
  · exact plain_not a0 a1 (by omega) w

set_option maxRecDepth 100000 in
theorem lifted (os : Os) (started : os.Started) (H : Type) (enc : TypeId × Value → H) :
    ReturnsInHanded {} Try.checked os 8 .any (Rows.gridPlainSpec.pre6 enc Try.prog Try.f8 Rows.gridPlainRow.domain false) (Rows.gridPlainSpec.post enc Try.prog Try.f8 false true false false) := by
  refine returnsInHanded_of_change (C := Try.checked) own started (by kernel_rfl) Try.func8
    (ChangeSpec.witness6 (enc := enc) (C := Try.checked) false ⟨#[], #[.int .i64 0, .int .i64 0], []⟩ 8 (by kernel_rfl) (by kernel_rfl) (by kernel_rfl) (by kernel_rfl)) ?_
  intro W base args ds gs before hval0 hW hcnd _
  have hval : ∀ (j : Nat) t v, Try.f8.params[j]? = some t → args[j]? = some v → Value.okWide Try.prog W .any base t v := hval0
  have hW' := hW
  obtain ⟨p, q, hA0, hV, rfl, hfz, hnd⟩ := hW
  have hA : DataW.TrodAll enc Try.prog W 0 (fun _ => true) true Try.f8.params.toList args.toList ds p := hA0
  rw [Try.params8] at hA hval
  obtain ⟨v0, vs0, d0, ds0, p0, q0, hargs, rfl, rfl, h0, r0⟩ := trodAll_cons hA
  obtain ⟨v1, vs1, d1, ds1, p1, q1, rfl, rfl, rfl, h1, r1⟩ := trodAll_cons r0
  obtain ⟨rfl, rfl, rfl⟩ := trodAll_nil r1
  obtain rfl : args = #[v0, v1] := by cases args; simp_all
  obtain ⟨rfl, rfl⟩ := trodVars_none hV
  obtain ⟨a0, rfl, rfl, rfl, w0⟩ := open_int Try.underlying3 (hval 0 3 v0 rfl rfl) h0
  obtain ⟨a1, rfl, rfl, rfl, w1⟩ := open_int Try.underlying3 (hval 1 3 v1 rfl rfl) h1
  clear hA0 hval0
  simp only [List.append_nil] at hW'
  refine (walk a0 w0 a1 w1 W).mono fun e W' ⟨he, hg⟩ => ?_
  subst he
  exact ⟨_, rfl, _, _, _, [], [], [], hW', (trodAll_cons_mk (shut_bool Try.underlying4 _) trodAll_mk0), (trodAll_cons_mk (shut_int Try.underlying3 w0) (trodAll_cons_mk (shut_int Try.underlying3 w1) trodAll_mk0)), rfl, hg.frame _, fun h => by cases h⟩

theorem over : Rows.gridPlainRow.holds Try.pinned (OpenSpec.ofChange Rows.gridPlainSpec) :=
  OpenClaim.holds_of_wide 8 Try.f8 rfl rfl rfl rfl rfl rfl rfl ⟨rfl, rfl, rfl, rfl, rfl⟩ rfl rfl rfl rfl rfl (by kernel_rfl) Try.func8 (by kernel_rfl)
    (of_decide_eq_true (by kernel_rfl)) (by unfold Func.isWrapper; first | (rw [if_pos (by decide +kernel)]; kernel_rfl) | (rw [if_neg (by decide +kernel)]; exact ⟨rfl, rfl⟩))
    (fun os started H enc _ => lifted os started H enc)

/-- the statement -/
theorem proved : Rows.GridPlainSaid :=
  over
#print axioms proved
end Go.Proofs.Ytihpaicbdfgfbaa.gridPlain
