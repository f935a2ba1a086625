/- The document's answers of layer 8: length, Right, Wide, Least, Most. -/
import Derived.Test.YthgkjgaebgpplaaLnPre
namespace Go.Proofs.Ythgkjgaebgpplaa
open Go.RowKit Go.Shelf
set_option linter.unusedVariables false
attribute [local go_sem] Oper.semAt_some

def lenB (x : Int) : Bool := decide (0 ≤ x) && decide (x ≤ 1073741824)
theorem lenB_out (x : Int) : outB 0 1073741824 x = !lenB x := by
  unfold outB lenB
  by_cases h1 : 0 ≤ x <;> by_cases h2 : x ≤ 1073741824 <;> simp [h1, h2] <;> omega
set_option maxHeartbeats 400000 in
theorem refLen_at (x : Int) (d : Bool) (h : lenB x = d) (w : World) : Calls Try.prog 27 #[.int .i64 x] w fun e w' => e = .returned (.bool d) ∧ w = w' := by
  have HD := Lib.hid h
  by_cases h1 : 0 ≤ x
  · have g1 : decide (0 ≤ x) = true := by simpa using h1
    by_cases h2 : x ≤ 1073741824
    · have g2 : decide (x ≤ 1073741824) = true := by simpa using h2
      obtain rfl : d = true := by rw [← HD.out]; unfold lenB; simp [h1, h2]
      clear h
      go_enter Try.func27, Try.ntmps27
      go_wp2
      go_ret
      exact ⟨rfl, rfl⟩
    · have g2 : decide (x ≤ 1073741824) = false := by simpa using h2
      obtain rfl : d = false := by rw [← HD.out]; unfold lenB; simp [h2]
      clear h
      go_enter Try.func27, Try.ntmps27
      go_wp2
      go_ret
      exact ⟨rfl, rfl⟩
  · have g1 : decide (0 ≤ x) = false := by simpa using h1
    obtain rfl : d = false := by rw [← HD.out]; unfold lenB; simp [h1]
    clear h
    go_enter Try.func27, Try.ntmps27
    go_wp2
    go_ret
    exact ⟨rfl, rfl⟩
theorem textB_eq (n : Nd) : textB n = (decide (n.k = 1) && (decide (n.ws.length ≤ 10000) && (lenB n.b && (lenB n.h && n.ws.all lenB)))) := by
  have e : (!n.ws.any (outB 0 1073741824)) = n.ws.all lenB := by
    rw [List.not_any_eq_all_not]
    congr 1
    funext x
    rw [lenB_out]; simp
  unfold textB
  rw [e]
  simp only [List.any_cons, List.any_nil, lenB_out]
  cases lenB n.b <;> cases lenB n.h <;> simp
structure NdBx (n : Nd) (g : Nat) (p : Option Addr) (m c : Nat) (X : World) : Prop where
  k : X.cell? ⟨g, 0, none⟩ = some (.int .i64 n.k)
  w : X.cell? ⟨g, 31, none⟩ = some (.slice p m c)
  b : X.cell? ⟨g, 32, none⟩ = some (.int .i64 n.b)
  h : X.cell? ⟨g, 33, none⟩ = some (.int .i64 n.h)
  lt : g < X.heap.size
  low : LowI X.heap.size X (.slice p m c) n.ws
theorem NdBx.of {n : Nd} {g : Nat} {p : Option Addr} {m c : Nat} {X : World} (h : NdIn n g X) (hwv : n.wv = .slice p m c) : NdBx n g p m c X :=
  ⟨by rw [h.row.cellAt]; exact n.c0, by rw [← hwv]; exact h.w, h.b, h.h, h.row.lt, by rw [← hwv]; exact .of h.ok.2.1⟩
set_option maxRecDepth 100000 in
set_option maxHeartbeats 4000000 in
theorem refRight_at (n : Nd) (w : World) (p : Option Addr) (m c : Nat) (k b h : Int) (hok : n.ok w) (hwv : n.wv = .slice p m c) (hm : n.ws.length = m) (hk : n.k = k) (hb : n.b = b) (hh : n.h = h) :
    Calls Try.prog 14 #[n.val] w fun e W' => e = .returned (.bool (textB n)) ∧ Below w.heap.size w W' := by
  have HN := NdIn.new n w hok
  obtain ⟨cs, hcs⟩ : ∃ cs, n.cells.toArray = cs := ⟨_, rfl⟩
  obtain ⟨W0, hW0⟩ : ∃ W0, w.alloc (.cells cs 35) = W0 := ⟨_, rfl⟩
  rw [hcs, hW0] at HN
  have HB0 : Hid (Below w.heap.size w W0) := Lib.hid (by rw [← hW0]; exact (Below.refl _ w).alloc (Nat.le_refl _) _)
  obtain ⟨c0, c31, c32, c33, lg, hlow⟩ := NdBx.of HN hwv
  have HLOW := Lib.hid hlow
  rw [hk] at c0
  rw [hb] at c32
  rw [hh] at c33
  have HT : Hid (textB n = (decide (k = 1) && (decide (m ≤ 10000) && (lenB b && (lenB h && n.ws.all lenB))))) := Lib.hid (by rw [textB_eq, hk, hb, hh, hm])
  have HM := Lib.hid hm
  have hmm : m ≤ 9223372036854775807 := by have := hlow.1; omega
  rw [show n.val = .agg n.cells.toArray from rfl, hcs]
  clear HN hok hwv hm hk hb hh hcs hlow
  by_cases h1 : k = 1
  · subst h1
    by_cases h2 : m ≤ 10000
    · have g2 : decide ((10000 : Int) < (m : Int)) = false := by simp; omega
      have g2n : decide (10000 < m) = false := by simp; omega
      cases hd1 : lenB b with
      | false =>
        have hf : textB n = false := by rw [HT.out, hd1]; simp
        rw [hf]
        have HL1 := Lib.hid (refLen_at b _ hd1)
        clear HT hf hd1
        go_enter Try.func14, Try.ntmps14
        go_wp2_with (go_at_call 27; refine (HL1.out _).mono ?_; rintro e w' ⟨rfl, rfl⟩)
        go_ret
        exact ⟨rfl, HB0.out⟩
      | true =>
        have HL1 := Lib.hid (refLen_at b _ hd1)
        cases hd2 : lenB h with
        | false =>
          have hf : textB n = false := by rw [HT.out, hd2]; simp
          rw [hf]
          have HL2 := Lib.hid (refLen_at h _ hd2)
          clear HT hf hd1 hd2
          go_enter Try.func14, Try.ntmps14
          go_wp2_with (go_at_call 27; first | (refine (HL1.out _).mono ?_; clear HL1; rintro e w' ⟨rfl, rfl⟩) | (refine (HL2.out _).mono ?_; rintro e w' ⟨rfl, rfl⟩))
          go_ret
          exact ⟨rfl, HB0.out⟩
        | true =>
          have HL2 := Lib.hid (refLen_at h _ hd2)
          have HT2 : Hid (textB n = n.ws.all lenB) := Lib.hid (by rw [HT.out, hd1, hd2]; simp [h2])
          clear HT hd1 hd2
          go_enter Try.func14, Try.ntmps14
          go_wp2_with (go_at_call 27; first | (refine (HL1.out _).mono ?_; clear HL1; rintro e w' ⟨rfl, rfl⟩) | (refine (HL2.out _).mono ?_; clear HL2; rintro e w' ⟨rfl, rfl⟩))
          go_loopw [3] (fun s3 X => ∃ t : Nat, t ≤ m ∧ s3 = .int .i64 t ∧ Hid (∀ j x, j < t → n.ws[j]? = some x → lenB x = true) ∧ W0 = X) (fun s3 _ => m - (intOf s3).toNat)
          case atStart => exact ⟨0, Nat.zero_le _, rfl, Lib.hid (fun j x hj => by omega), rfl⟩
          case round =>
            obtain ⟨t, ht, rfl, HA, rfl⟩ := hrel
            by_cases hlt : t < m
            · obtain ⟨x, hx⟩ : ∃ x, n.ws[t]? = some x := ⟨_, List.getElem?_eq_getElem (by rw [HM.out]; exact hlt)⟩
              obtain ⟨bb, off, rfl, hbB, crow⟩ := HLOW.out.at t x hx
              have HX := Lib.hid hx
              cases hd : lenB x with
              | false =>
                have hf : textB n = false := by
                  rw [HT2.out, List.all_eq_false]
                  exact ⟨x, List.mem_iff_getElem?.2 ⟨t, HX.out⟩, by simp [hd]⟩
                have HF3 := Lib.hid hf
                have HL3 := Lib.hid (refLen_at x _ hd)
                clear hx hf hd
                go_wp2_with (go_at_call 27; refine (HL3.out _).mono ?_; rintro e w' ⟨rfl, rfl⟩)
                go_ret
                exact ⟨by rw [HF3.out]; rfl, HB0.out⟩
              | true =>
                have HL3 := Lib.hid (refLen_at x _ hd)
                have HA2 : Hid (∀ j x, j < t + 1 → n.ws[j]? = some x → lenB x = true) := Lib.hid fun j y hj hy => by
                  by_cases e : j = t
                  · subst e
                    rw [HX.out] at hy
                    injection hy with hy
                    rw [← hy]; exact hd
                  · exact HA.out j y (by omega) hy
                clear hx hd HA
                go_wp2_with (go_at_call 27; refine (HL3.out _).mono ?_; rintro e w' ⟨rfl, rfl⟩)
                go_roundw
                case rel => exact ⟨t + 1, by omega, by go_num, HA2, trivial⟩
                case measure => simp [intOf]; omega
            · have hf : textB n = true := by
                rw [HT2.out, List.all_eq_true]
                intro x hx
                obtain ⟨j, hj⟩ := List.mem_iff_getElem?.1 hx
                exact HA.out j x (by have := (List.getElem?_eq_some_iff.1 hj).1; have := HM.out; omega) hj
              have HF3 := Lib.hid hf
              clear hf
              go_wp2
              go_ret
              exact ⟨by rw [HF3.out]; rfl, HB0.out⟩
    · have g2 : decide ((10000 : Int) < (m : Int)) = true := by simp; omega
      have g2n : decide (10000 < m) = true := by simp; omega
      have hf : textB n = false := by rw [HT.out]; simp [h2]
      rw [hf]
      clear HT hf
      go_enter Try.func14, Try.ntmps14
      go_wp2
      go_ret
      exact ⟨rfl, HB0.out⟩
  · have g1 : (k == 1) = false := by simpa using h1
    have g1n : (k != 1) = true := by simpa using h1
    have hf : textB n = false := by rw [HT.out]; simp [h1]
    rw [hf]
    clear HT hf
    go_enter Try.func14, Try.ntmps14
    go_wp2
    go_ret
    exact ⟨rfl, HB0.out⟩
theorem refRight_any (n : Nd) (w : World) (hok : n.ok w) : Calls Try.prog 14 #[n.val] w fun e W' => e = .returned (.bool (textB n)) ∧ Below w.heap.size w W' := by
  obtain ⟨p, c, hwv⟩ := hok.2.1.form
  exact refRight_at n w p _ c _ _ _ hok hwv rfl rfl rfl rfl
set_option maxRecDepth 100000 in
set_option maxHeartbeats 2000000 in
theorem refWide_at (n : Nd) (w : World) (p : Option Addr) (m c fr to : Nat) (b : Int) (hok : n.ok w) (ht : okW b n.ws) (hwv : n.wv = .slice p m c) (hm : n.ws.length = m) (hb : n.b = b) (h1 : fr ≤ to) (h2 : to ≤ m) :
    Calls Try.prog 24 #[n.val, .int .i64 fr, .int .i64 to] w fun e W' => e = .returned (.int .i64 (wideW b n.ws fr to)) ∧ Below w.heap.size w W' := by
  have HN := NdIn.new n w hok
  obtain ⟨cs, hcs⟩ : ∃ cs, n.cells.toArray = cs := ⟨_, rfl⟩
  obtain ⟨W0, hW0⟩ : ∃ W0, w.alloc (.cells cs 35) = W0 := ⟨_, rfl⟩
  rw [hcs, hW0] at HN
  have HB0 : Hid (Below w.heap.size w W0) := Lib.hid (by rw [← hW0]; exact (Below.refl _ w).alloc (Nat.le_refl _) _)
  obtain ⟨c0, c31, c32, c33, lg, hlow⟩ := NdBx.of HN hwv
  have HLOW := Lib.hid hlow
  rw [hb] at c32
  have HM := Lib.hid hm
  have HT := Lib.hid ht
  have hb0 := ht.1.1
  have hb1 := ht.1.2
  have hm64 : m ≤ 10000 := by have := ht.2.1; omega
  rw [show n.val = .agg n.cells.toArray from rfl, hcs]
  clear HN hok hwv hm hb hcs hlow c0 c33 ht
  go_enter Try.func24, Try.ntmps24
  go_wp2
  go_loopw [7, 8] (fun s7 s8 X => ∃ t : Nat, fr ≤ t ∧ t ≤ to ∧ s8 = .int .i64 t ∧ s7 = .int .i64 (wideW b n.ws fr t) ∧ W0 = X) (fun _ s8 _ => to - (intOf s8).toNat)
  case atStart => exact ⟨fr, Nat.le_refl _, h1, rfl, by rw [wideW_self], rfl⟩
  case round =>
    obtain ⟨t, ht0, ht, rfl, rfl, rfl⟩ := hrel
    by_cases hlt : t < to
    · obtain ⟨x, hx⟩ : ∃ x, n.ws[t]? = some x := ⟨_, List.getElem?_eq_getElem (by rw [HM.out]; omega)⟩
      obtain ⟨bb, off, rfl, hbB, crow⟩ := HLOW.out.at t x hx
      have hx2 := HT.out.2.2 x (List.mem_iff_getElem?.2 ⟨t, hx⟩)
      have hw := wideW_bd HT.out (s := fr) (e := t) (by have := HM.out; omega)
      by_cases hft : fr < t
      · have HS := Lib.hid (wideW_succ (b := b) hft hx)
        have g3 : decide ((fr : Int) < (t : Int)) = true := by simp; omega
        generalize wideW b n.ws fr t = q at *
        clear hx
        go_wp2
        all_goals go_roundw
        all_goals first
          | exact ⟨t + 1, by omega, by omega, by go_num, by rw [HS.out]; congr 1; omega, trivial⟩
          | (simp [intOf]; omega)
      · obtain rfl : fr = t := by omega
        have HS := Lib.hid (wideW_one (b := b) hx)
        rw [wideW_self] at hw ⊢
        have g3 : decide ((fr : Int) < (fr : Int)) = false := by simp
        clear hx hw
        go_wp2
        all_goals go_roundw
        all_goals first
          | exact ⟨fr + 1, by omega, by omega, by go_num, by rw [HS.out], trivial⟩
          | (simp [intOf]; omega)
    · obtain rfl : t = to := by omega
      go_wp2
      go_ret
      exact ⟨rfl, HB0.out⟩
set_option maxRecDepth 100000 in
set_option maxHeartbeats 2000000 in
theorem refLeast_at (n : Nd) (w : World) (p : Option Addr) (m c : Nat) (hok : n.ok w) (hwv : n.wv = .slice p m c) (hm : n.ws.length = m) (hm64 : m ≤ 10000) :
    Calls Try.prog 22 #[n.val] w fun e W' => e = .returned (.int .i64 (leastW n.ws)) ∧ Below w.heap.size w W' := by
  have HN := NdIn.new n w hok
  obtain ⟨cs, hcs⟩ : ∃ cs, n.cells.toArray = cs := ⟨_, rfl⟩
  obtain ⟨W0, hW0⟩ : ∃ W0, w.alloc (.cells cs 35) = W0 := ⟨_, rfl⟩
  rw [hcs, hW0] at HN
  have HB0 : Hid (Below w.heap.size w W0) := Lib.hid (by rw [← hW0]; exact (Below.refl _ w).alloc (Nat.le_refl _) _)
  obtain ⟨c0, c31, c32, c33, lg, hlow⟩ := NdBx.of HN hwv
  have HLOW := Lib.hid hlow
  have HM := Lib.hid hm
  rw [show n.val = .agg n.cells.toArray from rfl, hcs]
  clear HN hok hwv hm hcs hlow c0 c32 c33
  go_enter Try.func22, Try.ntmps22
  go_wp2
  go_loopw [3, 4] (fun s3 s4 X => ∃ t : Nat, t ≤ m ∧ s4 = .int .i64 t ∧ s3 = .int .i64 (leastW (n.ws.take t)) ∧ W0 = X) (fun _ s4 _ => m - (intOf s4).toNat)
  case atStart => exact ⟨0, Nat.zero_le _, rfl, by simp [leastW], rfl⟩
  case round =>
    obtain ⟨t, ht, rfl, rfl, rfl⟩ := hrel
    by_cases hlt : t < m
    · obtain ⟨x, hx⟩ : ∃ x, n.ws[t]? = some x := ⟨_, List.getElem?_eq_getElem (by rw [HM.out]; exact hlt)⟩
      obtain ⟨bb, off, rfl, hbB, crow⟩ := HLOW.out.at t x hx
      have HS := Lib.hid (leastW_take n.ws t x hx)
      obtain ⟨q, hq⟩ : ∃ q, leastW (n.ws.take t) = q := ⟨_, rfl⟩
      rw [hq] at HS ⊢
      obtain ⟨mx, hmx⟩ : ∃ mx, max q x = mx := ⟨_, rfl⟩
      rw [hmx] at HS
      have hmx2 : (if q < x then x else q) = mx := by rw [← hmx]; split <;> omega
      clear hx hq
      go_wp2
      all_goals go_roundw
      all_goals first
        | exact ⟨t + 1, by omega, by go_num, by rw [HS.out], trivial⟩
        | (simp [intOf]; omega)
    · obtain rfl : t = m := by omega
      have HS : Hid (leastW (n.ws.take t) = leastW n.ws) := Lib.hid (by rw [List.take_of_length_le (by rw [HM.out]; exact Nat.le_refl _)])
      rw [HS.out]
      go_wp2
      go_ret
      exact ⟨rfl, HB0.out⟩
set_option maxHeartbeats 2000000 in
theorem refMost_at (n : Nd) (w : World) (p : Option Addr) (m c : Nat) (b : Int) (hok : n.ok w) (ht : okW b n.ws) (hwv : n.wv = .slice p m c) (hm : n.ws.length = m) (hb : n.b = b) :
    Calls Try.prog 23 #[n.val] w fun e W' => e = .returned (.int .i64 (wideW b n.ws 0 m)) ∧ Below w.heap.size w W' := by
  have HN := NdIn.new n w hok
  obtain ⟨cs, hcs⟩ : ∃ cs, n.cells.toArray = cs := ⟨_, rfl⟩
  obtain ⟨W0, hW0⟩ : ∃ W0, w.alloc (.cells cs 35) = W0 := ⟨_, rfl⟩
  rw [hcs, hW0] at HN
  have HB0 : Hid (Below w.heap.size w W0) := Lib.hid (by rw [← hW0]; exact (Below.refl _ w).alloc (Nat.le_refl _) _)
  obtain ⟨c0, c31, c32, c33, lg, hlow⟩ := NdBx.of HN hwv
  have HW : Hid (Calls Try.prog 24 #[.agg cs, .int .i64 0, .int .i64 m] W0 fun e Y => e = .returned (.int .i64 (wideW b n.ws 0 m)) ∧ Below W0.heap.size W0 Y) := Lib.hid (by
    have := refWide_at n W0 p m c 0 m b HN.ok ht hwv hm hb (Nat.zero_le _) (Nat.le_refl _)
    rw [show n.val = .agg n.cells.toArray from rfl, hcs] at this
    exact this)
  have HLN := Lib.hid (HN.cells' cs hcs)
  have iN := Lib.hid (nd_infoC hcs)
  rw [show n.val = .agg n.cells.toArray from rfl, hcs]
  clear HN hok hwv hm hb hcs hlow c0 c32 c33 ht
  go_enter Try.func23, Try.ntmps23
  go_wp2_with (first
    | (with_reducible refine wpList_load_at rfl 35 (.tmp 1) rfl _ rfl cs _ HLN.out Try.underlying35 rfl iN.out ?_)
    | (go_at_call 24; refine HW.out.mono ?_; clear HW hW0; rintro e w1 ⟨rfl, hb1⟩; have HB1 := Lib.hid hb1; clear hb1))
  go_ret
  exact ⟨rfl, HB0.out.trans (HB1.out.mono HB0.out.size)⟩
end Go.Proofs.Ythgkjgaebgpplaa
