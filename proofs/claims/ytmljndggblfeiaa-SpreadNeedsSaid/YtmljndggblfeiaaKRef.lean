/- The document's answers of layer 13: size, Right, Bands. -/
import Derived.Test.YtmljndggblfeiaaKApp
namespace Go.Proofs.Ytmljndggblfeiaa
open Go.RowKit Go.Shelf Go.Maps
set_option linter.unusedVariables false
set_option linter.unusedSimpArgs false
attribute [local go_sem] Oper.semAt_some

set_option maxHeartbeats 1000000 in
theorem refSize_any (s : Sz) (W : World) : Calls Try.prog 57 #[s.val] W fun e W' => e = .returned (.bool (szB s)) ∧ Below W.heap.size W W' := by
  obtain ⟨k, n⟩ := s
  have hcase : (k = 0 ∧ n = 0 ∧ Hid (szB ⟨k, n⟩ = true)) ∨ (k = 0 ∧ (n == 0) = false ∧ Hid (szB ⟨k, n⟩ = false)) ∨ (k = 1 ∧ ¬ 0 ≤ n ∧ Hid (szB ⟨k, n⟩ = false)) ∨ (k = 1 ∧ 0 ≤ n ∧ ¬ n ≤ 1073741824 ∧ Hid (szB ⟨k, n⟩ = false)) ∨ (k = 1 ∧ 0 ≤ n ∧ n ≤ 1073741824 ∧ Hid (szB ⟨k, n⟩ = true))
      ∨ (k = 2 ∧ ¬ 0 ≤ n ∧ Hid (szB ⟨k, n⟩ = false)) ∨ (k = 2 ∧ 0 ≤ n ∧ ¬ n ≤ 10000000 ∧ Hid (szB ⟨k, n⟩ = false)) ∨ (k = 2 ∧ 0 ≤ n ∧ n ≤ 10000000 ∧ Hid (szB ⟨k, n⟩ = true)) ∨ ((k == 0) = false ∧ (k == 1) = false ∧ (k == 2) = false ∧ Hid (szB ⟨k, n⟩ = false)) := by
    by_cases h0 : k = 0
    · subst h0
      by_cases h : n = 0
      · exact .inl ⟨rfl, h, Lib.hid (by simp [szB, mostS, h])⟩
      · exact .inr (.inl ⟨rfl, by simpa using h, Lib.hid (by simp [szB, mostS]; omega)⟩)
    · by_cases h1 : k = 1
      · subst h1
        by_cases h : 0 ≤ n
        · by_cases h' : n ≤ 1073741824
          · exact .inr (.inr (.inr (.inr (.inl ⟨rfl, h, h', Lib.hid (by simp [szB, mostS]; omega)⟩))))
          · exact .inr (.inr (.inr (.inl ⟨rfl, h, h', Lib.hid (by simp [szB, mostS]; omega)⟩)))
        · exact .inr (.inr (.inl ⟨rfl, h, Lib.hid (by simp [szB, mostS]; omega)⟩))
      · by_cases h2 : k = 2
        · subst h2
          by_cases h : 0 ≤ n
          · by_cases h' : n ≤ 10000000
            · exact .inr (.inr (.inr (.inr (.inr (.inr (.inr (.inl ⟨rfl, h, h', Lib.hid (by simp [szB, mostS]; omega)⟩)))))))
            · exact .inr (.inr (.inr (.inr (.inr (.inr (.inl ⟨rfl, h, h', Lib.hid (by simp [szB, mostS]; omega)⟩))))))
          · exact .inr (.inr (.inr (.inr (.inr (.inl ⟨rfl, h, Lib.hid (by simp [szB, mostS]; omega)⟩)))))
        · exact .inr (.inr (.inr (.inr (.inr (.inr (.inr (.inr ⟨by simpa using h0, by simpa using h1, by simpa using h2, Lib.hid (by simp [szB, mostS, h0, h1, h2]; omega)⟩)))))))
  obtain ⟨o, ho⟩ : ∃ o, szB ⟨k, n⟩ = o := ⟨_, rfl⟩
  rw [ho] at hcase ⊢
  clear ho
  unfold Sz.val
  dsimp only
  rcases hcase with ⟨rfl, rfl, HO⟩ | ⟨rfl, h1, HO⟩ | ⟨rfl, h1, HO⟩ | ⟨rfl, h1, h2, HO⟩ | ⟨rfl, h1, h2, HO⟩ | ⟨rfl, h1, HO⟩ | ⟨rfl, h1, h2, HO⟩ | ⟨rfl, h1, h2, HO⟩ | ⟨h0, h1, h2, HO⟩
  all_goals
    go_enter Try.func57, Try.ntmps57
    go_wp2
    go_ret
    exact ⟨by rw [HO.out]; first | rfl | (simp; done) | (simp; omega), (Below.refl _ _).alloc (Nat.le_refl _) _⟩
theorem all_step {α : Type} (p : α → Bool) (l : List α) (k : Nat) (x : α) (h : l[k]? = some x) (hp : p x = true) (ht : (l.take k).all p = true) : (l.take (k + 1)).all p = true := by
  rw [List.take_add_one, h, List.all_append, ht]; simp [hp]
theorem all_miss {α : Type} (p : α → Bool) (l : List α) (k : Nat) (x : α) (h : l[k]? = some x) (hp : p x = false) : l.all p = false := by
  rw [List.all_eq_false]; exact ⟨x, List.mem_of_getElem? h, by simp [hp]⟩
set_option maxRecDepth 100000 in
set_option maxHeartbeats 4000000 in
theorem refRight_any (p q : Option Addr) (m c m' c' : Nat) (zs : List Sz) (ns : List Ne) (W : World) (hz : RowsK Sz.cells 2 W (.slice p m c) zs) (hn : RowsK Ne.cells 9 W (.slice q m' c') ns) :
    Calls Try.prog 38 #[.slice p m c, .slice q m' c'] W fun e W' => e = .returned (.bool (rightK zs ns)) ∧ Below W.heap.size W W' := by
  have hl : zs.length = m := hz.len
  have hl' : ns.length = m' := hn.len
  have hm1 : m ≤ 9223372036854775807 := by have := hz.1; omega
  have hm2 : m' ≤ 9223372036854775807 := by have := hn.1; omega
  by_cases hm : 10000 < m
  · have hr : Hid (rightK zs ns = false) := Lib.hid (by simp [rightK]; omega)
    clear hz hn hl hl'
    go_enter Try.func38, Try.ntmps38
    go_wp2
    go_ret
    exact ⟨by rw [hr.out]; rfl, Below.refl _ _⟩
  have hr : rightK zs ns = (zs.all szB && ns.all (neB m)) := by rw [rightK, hl]; simp; omega
  have HR := Lib.hid hr
  have HZ := Lib.hid (fun X (hX : Below W.heap.size W X) => hz.below hX)
  have HN := Lib.hid (fun X (hX : Below W.heap.size W X) => hn.below hX)
  have HL := Lib.hid hl
  have HL' := Lib.hid hl'
  clear hr hz hn hl hl'
  go_enter Try.func38, Try.ntmps38
  go_wp2
  go_loopw [5] (fun s5 X => ∃ i : Nat, i ≤ m ∧ s5 = .int .i64 (i : Int) ∧ Hid ((zs.take i).all szB = true) ∧ Hid (Below W.heap.size W X)) (fun s5 _ => m - (intOf s5).toNat)
  case atStart => exact ⟨0, Nat.zero_le _, rfl, Lib.hid (by simp), Lib.hid (Below.refl _ _)⟩
  case round =>
    obtain ⟨i, hi, rfl, HA, HX⟩ := hrel
    by_cases hlt : i < m
    · obtain ⟨s, hs⟩ : ∃ s, zs[i]? = some s := ⟨_, List.getElem?_eq_getElem (by rw [HL.out]; exact hlt)⟩
      obtain ⟨g1, o1, rfl, l1, ha⟩ := (HZ.out _ HX.out).at i s hs
      have HS := Lib.hid (refSize_any s wr)
      have HST := Lib.hid (fun h => all_step szB zs i s hs h HA.out)
      have HMI := Lib.hid (fun h => all_miss szB zs i s hs h)
      obtain ⟨b, hb⟩ : ∃ b, szB s = b := ⟨_, rfl⟩
      rw [hb] at HS HST HMI
      obtain ⟨sk, sn⟩ := s
      have x0 : wr.cell? ⟨g1, o1 + i * 2, none⟩ = some (.int .i64 sk) := ha 0 _ rfl
      have x1 : wr.cell? ⟨g1, o1 + i * 2 + 1, none⟩ = some (.int .i64 sn) := ha 1 _ rfl
      unfold Sz.val at HS
      dsimp only at HS
      clear hs ha hb
      cases b with
      | false =>
        have HF := Lib.hid (HMI.out rfl)
        clear HST HMI
        go_wp2_with fail
        refine HS.out.mono ?_
        rintro e w3 ⟨rfl, hb3⟩
        have HB3 := Lib.hid (HX.out.trans (hb3.mono HX.out.size))
        clear hb3 HS x0 x1
        go_wp2
        go_ret
        exact ⟨by rw [HR.out, HF.out]; rfl, HB3.out⟩
      | true =>
        have HF := Lib.hid (HST.out rfl)
        clear HST HMI
        go_wp2_with fail
        refine HS.out.mono ?_
        rintro e w3 ⟨rfl, hb3⟩
        have HB3 := Lib.hid (HX.out.trans (hb3.mono HX.out.size))
        clear hb3 HS x0 x1
        go_wp2
        go_roundw
        case rel => exact ⟨i + 1, by omega, by go_num, HF, HB3⟩
        case measure => simp [intOf]; omega
    · have HAZ : Hid (zs.all szB = true) := Lib.hid (by have := HA.out; rwa [List.take_of_length_le (by have := HL.out; omega)] at this)
      have HX0 := HX
      clear HA
      go_wp2
      go_loopw [7] (fun s7 X => ∃ i : Nat, i ≤ m' ∧ s7 = .int .i64 (i : Int) ∧ Hid ((ns.take i).all (neB m) = true) ∧ Hid (Below W.heap.size W X)) (fun s7 _ => m' - (intOf s7).toNat)
      case atStart => exact ⟨0, Nat.zero_le _, rfl, Lib.hid (by simp), HX0⟩
      case round =>
        clear HX0 HX
        obtain ⟨t, ht, rfl, HA, HX⟩ := hrel
        by_cases hlt2 : t < m'
        · obtain ⟨s, hs⟩ : ∃ s, ns[t]? = some s := ⟨_, List.getElem?_eq_getElem (by rw [HL'.out]; exact hlt2)⟩
          obtain ⟨g1, o1, rfl, l1, ha⟩ := (HN.out _ HX.out).at t s hs
          have HST := Lib.hid (fun h => all_step (neB m) ns t s hs h HA.out)
          have HMI := Lib.hid (fun h => all_miss (neB m) ns t s hs h)
          have HIF := Lib.hid (neB_iff m s)
          obtain ⟨nd, ro, co, rs, cs, mn, mx, ⟨wk, wn⟩⟩ := s
          have x0 : wr.cell? ⟨g1, o1 + t * 9, none⟩ = some (.int .i64 nd) := ha 0 _ rfl
          have x1 : wr.cell? ⟨g1, o1 + t * 9 + 1, none⟩ = some (.int .i64 ro) := ha 1 _ rfl
          have x2 : wr.cell? ⟨g1, o1 + t * 9 + 2, none⟩ = some (.int .i64 co) := ha 2 _ rfl
          have x3 : wr.cell? ⟨g1, o1 + t * 9 + 3, none⟩ = some (.int .i64 rs) := ha 3 _ rfl
          have x4 : wr.cell? ⟨g1, o1 + t * 9 + 4, none⟩ = some (.int .i64 cs) := ha 4 _ rfl
          have x5 : wr.cell? ⟨g1, o1 + t * 9 + 5, none⟩ = some (.int .i64 mn) := ha 5 _ rfl
          have x6 : wr.cell? ⟨g1, o1 + t * 9 + 6, none⟩ = some (.int .i64 mx) := ha 6 _ rfl
          have x7 : wr.cell? ⟨g1, o1 + t * 9 + 7, none⟩ = some (.int .i64 wk) := ha 7 _ rfl
          have x8 : wr.cell? ⟨g1, o1 + t * 9 + 8, none⟩ = some (.int .i64 wn) := ha 8 _ rfl
          clear hs ha
          have HSZ := Lib.hid (fun X => refSize_any ⟨wk, wn⟩ X)
          unfold Sz.val at HSZ
          dsimp only at HSZ HIF
          by_cases c0 : szB ⟨wk, wn⟩ = true
          · by_cases d0 : mn < 0
            · have HF := Lib.hid (HMI.out (Bool.eq_false_iff.2 fun h => by have h := HIF.out.1 h; omega))
              rw [c0] at HSZ
              go_wp2_with fail
              refine (HSZ.out _).mono ?_
              rintro e w3 ⟨rfl, hb3⟩
              have kn := (((whole_new wr [.int .i64 nd, .int .i64 ro, .int .i64 co, .int .i64 rs, .int .i64 cs, .int .i64 mn, .int .i64 mx, .int .i64 wk, .int .i64 wn] 37 _ rfl).alloc (.cells #[.int .i64 nd, .int .i64 ro, .int .i64 co, .int .i64 rs, .int .i64 cs] 33)).below hb3 (by simp; omega))
              have kp := (whole_new (wr.alloc (.cells #[.int .i64 nd, .int .i64 ro, .int .i64 co, .int .i64 rs, .int .i64 cs, .int .i64 mn, .int .i64 mx, .int .i64 wk, .int .i64 wn] 37)) [.int .i64 nd, .int .i64 ro, .int .i64 co, .int .i64 rs, .int .i64 cs] 33 (wr.heap.size + 1) (by simp)).below hb3 (by simp)
              have n5 := kn.cellAt 5
              have n6 := kn.cellAt 6
              have p2 := kp.cellAt 2
              have p4 := kp.cellAt 4
              have ln := kn.lt
              have lp := kp.lt
              have HB3 := Lib.hid (((HX.out.alloc HX.out.size _).alloc (by have := HX.out.size; simp; omega) _).trans (hb3.mono (by have := HX.out.size; simp; omega)))
              clear hb3 kn kp HSZ x0 x1 x2 x3 x4 x5 x6 x7 x8 HST HMI HIF l1
              go_wp2
              go_ret
              exact ⟨by rw [HR.out, HF.out, Bool.and_false]; rfl, HB3.out⟩
            · by_cases d1 : mx < mn
              · have HF := Lib.hid (HMI.out (Bool.eq_false_iff.2 fun h => by have h := HIF.out.1 h; omega))
                rw [c0] at HSZ
                go_wp2_with fail
                refine (HSZ.out _).mono ?_
                rintro e w3 ⟨rfl, hb3⟩
                have kn := (((whole_new wr [.int .i64 nd, .int .i64 ro, .int .i64 co, .int .i64 rs, .int .i64 cs, .int .i64 mn, .int .i64 mx, .int .i64 wk, .int .i64 wn] 37 _ rfl).alloc (.cells #[.int .i64 nd, .int .i64 ro, .int .i64 co, .int .i64 rs, .int .i64 cs] 33)).below hb3 (by simp; omega))
                have kp := (whole_new (wr.alloc (.cells #[.int .i64 nd, .int .i64 ro, .int .i64 co, .int .i64 rs, .int .i64 cs, .int .i64 mn, .int .i64 mx, .int .i64 wk, .int .i64 wn] 37)) [.int .i64 nd, .int .i64 ro, .int .i64 co, .int .i64 rs, .int .i64 cs] 33 (wr.heap.size + 1) (by simp)).below hb3 (by simp)
                have n5 := kn.cellAt 5
                have n6 := kn.cellAt 6
                have p2 := kp.cellAt 2
                have p4 := kp.cellAt 4
                have ln := kn.lt
                have lp := kp.lt
                have HB3 := Lib.hid (((HX.out.alloc HX.out.size _).alloc (by have := HX.out.size; simp; omega) _).trans (hb3.mono (by have := HX.out.size; simp; omega)))
                clear hb3 kn kp HSZ x0 x1 x2 x3 x4 x5 x6 x7 x8 HST HMI HIF l1
                go_wp2
                go_ret
                exact ⟨by rw [HR.out, HF.out, Bool.and_false]; rfl, HB3.out⟩
              · by_cases d2 : 1125899906842623 < mx
                · have HF := Lib.hid (HMI.out (Bool.eq_false_iff.2 fun h => by have h := HIF.out.1 h; omega))
                  rw [c0] at HSZ
                  go_wp2_with fail
                  refine (HSZ.out _).mono ?_
                  rintro e w3 ⟨rfl, hb3⟩
                  have kn := (((whole_new wr [.int .i64 nd, .int .i64 ro, .int .i64 co, .int .i64 rs, .int .i64 cs, .int .i64 mn, .int .i64 mx, .int .i64 wk, .int .i64 wn] 37 _ rfl).alloc (.cells #[.int .i64 nd, .int .i64 ro, .int .i64 co, .int .i64 rs, .int .i64 cs] 33)).below hb3 (by simp; omega))
                  have kp := (whole_new (wr.alloc (.cells #[.int .i64 nd, .int .i64 ro, .int .i64 co, .int .i64 rs, .int .i64 cs, .int .i64 mn, .int .i64 mx, .int .i64 wk, .int .i64 wn] 37)) [.int .i64 nd, .int .i64 ro, .int .i64 co, .int .i64 rs, .int .i64 cs] 33 (wr.heap.size + 1) (by simp)).below hb3 (by simp)
                  have n5 := kn.cellAt 5
                  have n6 := kn.cellAt 6
                  have p2 := kp.cellAt 2
                  have p4 := kp.cellAt 4
                  have ln := kn.lt
                  have lp := kp.lt
                  have HB3 := Lib.hid (((HX.out.alloc HX.out.size _).alloc (by have := HX.out.size; simp; omega) _).trans (hb3.mono (by have := HX.out.size; simp; omega)))
                  clear hb3 kn kp HSZ x0 x1 x2 x3 x4 x5 x6 x7 x8 HST HMI HIF l1
                  go_wp2
                  go_ret
                  exact ⟨by rw [HR.out, HF.out, Bool.and_false]; rfl, HB3.out⟩
                · by_cases d3 : co < 0
                  · have HF := Lib.hid (HMI.out (Bool.eq_false_iff.2 fun h => by have h := HIF.out.1 h; omega))
                    rw [c0] at HSZ
                    go_wp2_with fail
                    refine (HSZ.out _).mono ?_
                    rintro e w3 ⟨rfl, hb3⟩
                    have kn := (((whole_new wr [.int .i64 nd, .int .i64 ro, .int .i64 co, .int .i64 rs, .int .i64 cs, .int .i64 mn, .int .i64 mx, .int .i64 wk, .int .i64 wn] 37 _ rfl).alloc (.cells #[.int .i64 nd, .int .i64 ro, .int .i64 co, .int .i64 rs, .int .i64 cs] 33)).below hb3 (by simp; omega))
                    have kp := (whole_new (wr.alloc (.cells #[.int .i64 nd, .int .i64 ro, .int .i64 co, .int .i64 rs, .int .i64 cs, .int .i64 mn, .int .i64 mx, .int .i64 wk, .int .i64 wn] 37)) [.int .i64 nd, .int .i64 ro, .int .i64 co, .int .i64 rs, .int .i64 cs] 33 (wr.heap.size + 1) (by simp)).below hb3 (by simp)
                    have n5 := kn.cellAt 5
                    have n6 := kn.cellAt 6
                    have p2 := kp.cellAt 2
                    have p4 := kp.cellAt 4
                    have ln := kn.lt
                    have lp := kp.lt
                    have HB3 := Lib.hid (((HX.out.alloc HX.out.size _).alloc (by have := HX.out.size; simp; omega) _).trans (hb3.mono (by have := HX.out.size; simp; omega)))
                    clear hb3 kn kp HSZ x0 x1 x2 x3 x4 x5 x6 x7 x8 HST HMI HIF l1
                    go_wp2
                    go_ret
                    exact ⟨by rw [HR.out, HF.out, Bool.and_false]; rfl, HB3.out⟩
                  · by_cases d4 : (m : Int) < co
                    · have HF := Lib.hid (HMI.out (Bool.eq_false_iff.2 fun h => by have h := HIF.out.1 h; omega))
                      rw [c0] at HSZ
                      go_wp2_with fail
                      refine (HSZ.out _).mono ?_
                      rintro e w3 ⟨rfl, hb3⟩
                      have kn := (((whole_new wr [.int .i64 nd, .int .i64 ro, .int .i64 co, .int .i64 rs, .int .i64 cs, .int .i64 mn, .int .i64 mx, .int .i64 wk, .int .i64 wn] 37 _ rfl).alloc (.cells #[.int .i64 nd, .int .i64 ro, .int .i64 co, .int .i64 rs, .int .i64 cs] 33)).below hb3 (by simp; omega))
                      have kp := (whole_new (wr.alloc (.cells #[.int .i64 nd, .int .i64 ro, .int .i64 co, .int .i64 rs, .int .i64 cs, .int .i64 mn, .int .i64 mx, .int .i64 wk, .int .i64 wn] 37)) [.int .i64 nd, .int .i64 ro, .int .i64 co, .int .i64 rs, .int .i64 cs] 33 (wr.heap.size + 1) (by simp)).below hb3 (by simp)
                      have n5 := kn.cellAt 5
                      have n6 := kn.cellAt 6
                      have p2 := kp.cellAt 2
                      have p4 := kp.cellAt 4
                      have ln := kn.lt
                      have lp := kp.lt
                      have HB3 := Lib.hid (((HX.out.alloc HX.out.size _).alloc (by have := HX.out.size; simp; omega) _).trans (hb3.mono (by have := HX.out.size; simp; omega)))
                      clear hb3 kn kp HSZ x0 x1 x2 x3 x4 x5 x6 x7 x8 HST HMI HIF l1
                      go_wp2
                      go_ret
                      exact ⟨by rw [HR.out, HF.out, Bool.and_false]; rfl, HB3.out⟩
                    · by_cases d5 : cs < 1
                      · have HF := Lib.hid (HMI.out (Bool.eq_false_iff.2 fun h => by have h := HIF.out.1 h; omega))
                        rw [c0] at HSZ
                        go_wp2_with fail
                        refine (HSZ.out _).mono ?_
                        rintro e w3 ⟨rfl, hb3⟩
                        have kn := (((whole_new wr [.int .i64 nd, .int .i64 ro, .int .i64 co, .int .i64 rs, .int .i64 cs, .int .i64 mn, .int .i64 mx, .int .i64 wk, .int .i64 wn] 37 _ rfl).alloc (.cells #[.int .i64 nd, .int .i64 ro, .int .i64 co, .int .i64 rs, .int .i64 cs] 33)).below hb3 (by simp; omega))
                        have kp := (whole_new (wr.alloc (.cells #[.int .i64 nd, .int .i64 ro, .int .i64 co, .int .i64 rs, .int .i64 cs, .int .i64 mn, .int .i64 mx, .int .i64 wk, .int .i64 wn] 37)) [.int .i64 nd, .int .i64 ro, .int .i64 co, .int .i64 rs, .int .i64 cs] 33 (wr.heap.size + 1) (by simp)).below hb3 (by simp)
                        have n5 := kn.cellAt 5
                        have n6 := kn.cellAt 6
                        have p2 := kp.cellAt 2
                        have p4 := kp.cellAt 4
                        have ln := kn.lt
                        have lp := kp.lt
                        have HB3 := Lib.hid (((HX.out.alloc HX.out.size _).alloc (by have := HX.out.size; simp; omega) _).trans (hb3.mono (by have := HX.out.size; simp; omega)))
                        clear hb3 kn kp HSZ x0 x1 x2 x3 x4 x5 x6 x7 x8 HST HMI HIF l1
                        go_wp2
                        go_ret
                        exact ⟨by rw [HR.out, HF.out, Bool.and_false]; rfl, HB3.out⟩
                      · by_cases d6 : (m : Int) - co < cs
                        · have HF := Lib.hid (HMI.out (Bool.eq_false_iff.2 fun h => by have h := HIF.out.1 h; omega))
                          rw [c0] at HSZ
                          go_wp2_with fail
                          refine (HSZ.out _).mono ?_
                          rintro e w3 ⟨rfl, hb3⟩
                          have kn := (((whole_new wr [.int .i64 nd, .int .i64 ro, .int .i64 co, .int .i64 rs, .int .i64 cs, .int .i64 mn, .int .i64 mx, .int .i64 wk, .int .i64 wn] 37 _ rfl).alloc (.cells #[.int .i64 nd, .int .i64 ro, .int .i64 co, .int .i64 rs, .int .i64 cs] 33)).below hb3 (by simp; omega))
                          have kp := (whole_new (wr.alloc (.cells #[.int .i64 nd, .int .i64 ro, .int .i64 co, .int .i64 rs, .int .i64 cs, .int .i64 mn, .int .i64 mx, .int .i64 wk, .int .i64 wn] 37)) [.int .i64 nd, .int .i64 ro, .int .i64 co, .int .i64 rs, .int .i64 cs] 33 (wr.heap.size + 1) (by simp)).below hb3 (by simp)
                          have n5 := kn.cellAt 5
                          have n6 := kn.cellAt 6
                          have p2 := kp.cellAt 2
                          have p4 := kp.cellAt 4
                          have ln := kn.lt
                          have lp := kp.lt
                          have HB3 := Lib.hid (((HX.out.alloc HX.out.size _).alloc (by have := HX.out.size; simp; omega) _).trans (hb3.mono (by have := HX.out.size; simp; omega)))
                          clear hb3 kn kp HSZ x0 x1 x2 x3 x4 x5 x6 x7 x8 HST HMI HIF l1
                          go_wp2
                          go_ret
                          exact ⟨by rw [HR.out, HF.out, Bool.and_false]; rfl, HB3.out⟩
                        · have HF := Lib.hid (HST.out (HIF.out.2 ⟨by omega, by omega, by omega, by omega, by omega, by omega, by omega, c0⟩))
                          rw [c0] at HSZ
                          go_wp2_with fail
                          refine (HSZ.out _).mono ?_
                          rintro e w3 ⟨rfl, hb3⟩
                          have kn := (((whole_new wr [.int .i64 nd, .int .i64 ro, .int .i64 co, .int .i64 rs, .int .i64 cs, .int .i64 mn, .int .i64 mx, .int .i64 wk, .int .i64 wn] 37 _ rfl).alloc (.cells #[.int .i64 nd, .int .i64 ro, .int .i64 co, .int .i64 rs, .int .i64 cs] 33)).below hb3 (by simp; omega))
                          have kp := (whole_new (wr.alloc (.cells #[.int .i64 nd, .int .i64 ro, .int .i64 co, .int .i64 rs, .int .i64 cs, .int .i64 mn, .int .i64 mx, .int .i64 wk, .int .i64 wn] 37)) [.int .i64 nd, .int .i64 ro, .int .i64 co, .int .i64 rs, .int .i64 cs] 33 (wr.heap.size + 1) (by simp)).below hb3 (by simp)
                          have n5 := kn.cellAt 5
                          have n6 := kn.cellAt 6
                          have p2 := kp.cellAt 2
                          have p4 := kp.cellAt 4
                          have ln := kn.lt
                          have lp := kp.lt
                          have HB3 := Lib.hid (((HX.out.alloc HX.out.size _).alloc (by have := HX.out.size; simp; omega) _).trans (hb3.mono (by have := HX.out.size; simp; omega)))
                          clear hb3 kn kp HSZ x0 x1 x2 x3 x4 x5 x6 x7 x8 HST HMI HIF l1
                          go_wp2
                          go_roundw
                          case rel => exact ⟨t + 1, by omega, by go_num, HF, HB3⟩
                          case measure => simp [intOf]; omega
          · have c1 : szB ⟨wk, wn⟩ = false := by simpa using c0
            have HF := Lib.hid (HMI.out (Bool.eq_false_iff.2 fun h => by have h := HIF.out.1 h; exact c0 h.2.2.2.2.2.2.2))
            rw [c1] at HSZ
            go_wp2_with fail
            refine (HSZ.out _).mono ?_
            rintro e w3 ⟨rfl, hb3⟩
            have kn := (((whole_new wr [.int .i64 nd, .int .i64 ro, .int .i64 co, .int .i64 rs, .int .i64 cs, .int .i64 mn, .int .i64 mx, .int .i64 wk, .int .i64 wn] 37 _ rfl).alloc (.cells #[.int .i64 nd, .int .i64 ro, .int .i64 co, .int .i64 rs, .int .i64 cs] 33)).below hb3 (by simp; omega))
            have kp := (whole_new (wr.alloc (.cells #[.int .i64 nd, .int .i64 ro, .int .i64 co, .int .i64 rs, .int .i64 cs, .int .i64 mn, .int .i64 mx, .int .i64 wk, .int .i64 wn] 37)) [.int .i64 nd, .int .i64 ro, .int .i64 co, .int .i64 rs, .int .i64 cs] 33 (wr.heap.size + 1) (by simp)).below hb3 (by simp)
            have n5 := kn.cellAt 5
            have n6 := kn.cellAt 6
            have p2 := kp.cellAt 2
            have p4 := kp.cellAt 4
            have ln := kn.lt
            have lp := kp.lt
            have HB3 := Lib.hid (((HX.out.alloc HX.out.size _).alloc (by have := HX.out.size; simp; omega) _).trans (hb3.mono (by have := HX.out.size; simp; omega)))
            clear hb3 kn kp HSZ x0 x1 x2 x3 x4 x5 x6 x7 x8 HST HMI HIF l1
            go_wp2
            go_ret
            exact ⟨by rw [HR.out, HF.out, Bool.and_false]; rfl, HB3.out⟩
        · have HAN : Hid (ns.all (neB m) = true) := Lib.hid (by have := HA.out; rwa [List.take_of_length_le (by have := HL'.out; omega)] at this)
          clear HA
          go_wp2
          go_ret
          exact ⟨by rw [HR.out, HAZ.out, HAN.out]; rfl, HX.out⟩
end Go.Proofs.Ytmljndggblfeiaa
