/- Contract of the document's right: whether a node is right. Written by program (mk_TRight.py). -/
import Derived.Test.YtecnapecmioamaaSRefValid
import Derived.Test.YtecnapecmioamaaTRec
namespace Go.Proofs.Ytecnapecmioamaa
open Go.RowKit Go.Shelf
set_option linter.unusedVariables false
set_option linter.unusedSimpArgs false
attribute [local go_sem] Oper.semAt_some

/-- what lies in a node's box -/
def RBox (n : Nd) (g : Nat) (X : World) : Prop := g < X.heap.size ∧ NdAt X g 0 n
theorem RBox.later {n : Nd} {g : Nat} {X Y : World} (h : RBox n g X) (hb : Below X.heap.size X Y) : RBox n g Y := ⟨Nat.lt_of_lt_of_le h.1 hb.size, h.2.below hb⟩
theorem right_not (n : Nd) : (!wrongN n) = (decide (0 ≤ n.k ∧ n.k ≤ 10) && validS n.s && !decide (10000 < n.ws.length) && !outB 0 1073741824 n.b && !outB 0 1073741824 n.h && !n.ws.any (outB 0 1073741824) && (decide (n.k = 1) || !(decide (0 < n.ws.length) || decide (n.b ≠ 0) || decide (n.h ≠ 0))) && ((decide (n.k ≠ 1) && decide (n.k ≠ 5)) || decide (n.ks.length = 0))) := by
  by_cases hT : hasT n = true
  · have hT' : (decide (0 < n.ws.length) || decide (n.b ≠ 0) || decide (n.h ≠ 0)) = true := by unfold hasT at hT; rw [Bool.or_assoc]; exact hT
    rw [hT']
    unfold wrongN wrongT
    rw [hT]
    by_cases h1 : n.k = 1
    · simp only [h1, if_true, List.any_cons, List.any_nil]
      by_cases hk : n.ks.length = 0 <;> cases validS n.s <;> cases n.ws.any (outB 0 1073741824) <;> cases outB 0 1073741824 n.b <;> cases outB 0 1073741824 n.h <;> by_cases hw : 10000 < n.ws.length <;> simp [hk, hw, Nat.pos_iff_ne_zero]
    · simp only [h1, if_false, decide_false, Bool.false_or, Bool.not_true]
      by_cases h5 : n.k = 5 <;> by_cases hr : 0 ≤ n.k ∧ n.k ≤ 10 <;> simp [h5, hr]
  · have hT0 : hasT n = false := by simpa using hT
    have hT' : (decide (0 < n.ws.length) || decide (n.b ≠ 0) || decide (n.h ≠ 0)) = false := by unfold hasT at hT0; rw [Bool.or_assoc]; exact hT0
    have h3 := hT'
    simp only [Bool.or_eq_false_iff, decide_eq_false_iff_not] at h3
    obtain ⟨⟨hw, hb⟩, hh⟩ := h3
    have hb0 : n.b = 0 := by simpa using hb
    have hh0 : n.h = 0 := by simpa using hh
    have hws : n.ws = [] := List.eq_nil_of_length_eq_zero (by omega)
    have ho : outB 0 1073741824 0 = false := by decide
    rw [hT']
    unfold wrongN wrongT
    rw [hT0, hws, hb0, hh0]
    by_cases h1 : n.k = 1
    · simp only [h1, if_true, List.any_cons, List.any_nil, ho]
      by_cases hk : n.ks.length = 0 <;> cases validS n.s <;> simp [hk, Nat.pos_iff_ne_zero]
    · by_cases h5 : n.k = 5
      · simp only [h1, h5, if_true, if_false]
        by_cases hk : n.ks.length = 0 <;> cases validS n.s <;> simp [hk, Nat.pos_iff_ne_zero, ho]
      · by_cases hr : 0 ≤ n.k ∧ n.k ≤ 10 <;> cases validS n.s <;> simp [h1, h5, hr, ho]
set_option maxRecDepth 100000 in
set_option maxHeartbeats 8000000 in
theorem right_at (n : Nd) (w : World) (kp wp : Option Addr) (km kcap l wcap : Nat) (cs sc : Array Value) (k b h : Int) (d2 d : Bool) (hkv : n.kv = .slice kp km kcap) (hwv : n.wv = .slice wp l wcap) (hl : n.ws.length = l) (hcs : n.cells.toArray = cs) (hsc : n.s.cells.toArray = sc)
    (hk : n.k = k) (hb : n.b = b) (hh : n.h = h) (HW : Hid (Ints w (.slice wp l wcap) n.ws))
    (HV : Hid (∀ X : World, Calls Try.prog 39 #[.agg sc] X fun e W' => e = .returned (.bool d2) ∧ Below X.heap.size X W'))
    (D : Hid (d = (decide (0 ≤ k ∧ k ≤ 10) && d2 && !decide (10000 < l) && !outB 0 1073741824 b && !outB 0 1073741824 h && !n.ws.any (outB 0 1073741824) && (decide (k = 1) || !(decide (0 < l) || decide (b ≠ 0) || decide (h ≠ 0))) && ((decide (k ≠ 1) && decide (k ≠ 5)) || decide (km = 0))))) :
    Calls Try.prog 18 #[.agg cs] w fun e W' => e = .returned (.bool d) ∧ Below w.heap.size w W' := by
  have KB : Hid (RBox n w.heap.size (w.alloc (.cells cs 47))) := Lib.hid (by rw [← hcs]; have h0 := whole_new w n.cells 47 _ rfl; exact ⟨h0.lt, .whole h0⟩)
  have LS : Hid (∀ X, NdAt X w.heap.size 0 n → ∀ j v, sc[j]? = some v → X.cell? ((⟨w.heap.size, 2, none⟩ : Addr).add j) = some v) := Lib.hid fun X h j v hj => by rw [← hsc] at hj; exact h.style j v hj
  have iS : Hid ((Try.prog.info? 44).map (·.size) = some sc.size) := Lib.hid (by rw [← hsc]; exact sty_info' _)
  have hB : Hid (Below w.heap.size w (w.alloc (.cells cs 47))) := Lib.hid ((Below.refl _ w).alloc (Nat.le_refl _) _)
  have C0 : Hid (∀ X, RBox n w.heap.size X → X.cell? ⟨w.heap.size, 0, none⟩ = some (.int .i64 k)) := Lib.hid fun X hX => by have := hX.2 0 _ n.c0; rw [hk] at this; exact this
  have C1 : Hid (∀ X, RBox n w.heap.size X → X.cell? ⟨w.heap.size, 1, none⟩ = some (.slice kp km kcap)) := Lib.hid fun X hX => by have := hX.2 1 _ n.c1; rw [hkv] at this; exact this
  have C31 : Hid (∀ X, RBox n w.heap.size X → X.cell? ⟨w.heap.size, 31, none⟩ = some (.slice wp l wcap)) := Lib.hid fun X hX => by have := hX.2 31 _ n.c31; rw [hwv] at this; exact this
  have C32 : Hid (∀ X, RBox n w.heap.size X → X.cell? ⟨w.heap.size, 32, none⟩ = some (.int .i64 b)) := Lib.hid fun X hX => by have := hX.2 32 _ n.c32; rw [hb] at this; exact this
  have C33 : Hid (∀ X, RBox n w.heap.size X → X.cell? ⟨w.heap.size, 33, none⟩ = some (.int .i64 h)) := Lib.hid fun X hX => by have := hX.2 33 _ n.c33; rw [hh] at this; exact this
  have HLW := Lib.hid hl
  clear hcs hsc hkv hwv hl hk hb hh
  by_cases c0 : k < 0
  · have f0 : decide (k < 0) = true := by simp; omega
    have hd : d = false := by
      rw [D.out]
      rw [decide_eq_false (by omega : ¬ (0 ≤ k ∧ k ≤ 10))]; simp
    clear D HW HLW; subst hd
    go_enter Try.func18, Try.ntmps18
    go_wp2_with (first
      | (refine wpList_load_at rfl 44 (.tmp 5) rfl _ rfl sc _ (LS.out _ KB.out.2) Try.underlying44 rfl iS.out ?_)
      | (go_at_call 39; refine (HV.out _).mono ?_; clear HV; rintro e w1 ⟨rfl, hb1⟩; have e0 := C0.out _ (KB.out.later hb1); have e1 := C1.out _ (KB.out.later hb1); have e31 := C31.out _ (KB.out.later hb1); have e32 := C32.out _ (KB.out.later hb1); have e33 := C33.out _ (KB.out.later hb1); have B1 := Lib.hid (hB.out.trans (hb1.mono hB.out.size)); have z1 := (KB.out.later hb1).1; clear hb1 KB hB C0 C1 C31 C32 C33 LS iS))
    go_ret
    exact ⟨rfl, B1.out⟩
  · have f0 : decide (k < 0) = false := by simp; omega
    by_cases c1 : k > 10
    · have f1 : decide (k > 10) = true := by simp; omega
      have hd : d = false := by
        rw [D.out]
        rw [decide_eq_false (by omega : ¬ (0 ≤ k ∧ k ≤ 10))]; simp
      clear D HW HLW; subst hd
      go_enter Try.func18, Try.ntmps18
      go_wp2_with (first
        | (refine wpList_load_at rfl 44 (.tmp 5) rfl _ rfl sc _ (LS.out _ KB.out.2) Try.underlying44 rfl iS.out ?_)
        | (go_at_call 39; refine (HV.out _).mono ?_; clear HV; rintro e w1 ⟨rfl, hb1⟩; have e0 := C0.out _ (KB.out.later hb1); have e1 := C1.out _ (KB.out.later hb1); have e31 := C31.out _ (KB.out.later hb1); have e32 := C32.out _ (KB.out.later hb1); have e33 := C33.out _ (KB.out.later hb1); have B1 := Lib.hid (hB.out.trans (hb1.mono hB.out.size)); have z1 := (KB.out.later hb1).1; clear hb1 KB hB C0 C1 C31 C32 C33 LS iS))
      go_ret
      exact ⟨rfl, B1.out⟩
    · have f1 : decide (k > 10) = false := by simp; omega
      by_cases c2 : d2 = false
      · subst c2
        have hd : d = false := by
          rw [D.out]
          simp
        clear D HW HLW; subst hd
        go_enter Try.func18, Try.ntmps18
        go_wp2_with (first
          | (refine wpList_load_at rfl 44 (.tmp 5) rfl _ rfl sc _ (LS.out _ KB.out.2) Try.underlying44 rfl iS.out ?_)
          | (go_at_call 39; refine (HV.out _).mono ?_; clear HV; rintro e w1 ⟨rfl, hb1⟩; have e0 := C0.out _ (KB.out.later hb1); have e1 := C1.out _ (KB.out.later hb1); have e31 := C31.out _ (KB.out.later hb1); have e32 := C32.out _ (KB.out.later hb1); have e33 := C33.out _ (KB.out.later hb1); have B1 := Lib.hid (hB.out.trans (hb1.mono hB.out.size)); have z1 := (KB.out.later hb1).1; clear hb1 KB hB C0 C1 C31 C32 C33 LS iS))
        go_ret
        exact ⟨rfl, B1.out⟩
      · obtain rfl : d2 = true := by simpa using c2
        by_cases c3 : 10000 < l
        · have f3 : decide ((l : Int) > 10000) = true := by simp; omega
          have hd : d = false := by
            rw [D.out]
            rw [decide_eq_true c3]; simp
          clear D HW HLW; subst hd
          go_enter Try.func18, Try.ntmps18
          go_wp2_with (first
            | (refine wpList_load_at rfl 44 (.tmp 5) rfl _ rfl sc _ (LS.out _ KB.out.2) Try.underlying44 rfl iS.out ?_)
            | (go_at_call 39; refine (HV.out _).mono ?_; clear HV; rintro e w1 ⟨rfl, hb1⟩; have e0 := C0.out _ (KB.out.later hb1); have e1 := C1.out _ (KB.out.later hb1); have e31 := C31.out _ (KB.out.later hb1); have e32 := C32.out _ (KB.out.later hb1); have e33 := C33.out _ (KB.out.later hb1); have B1 := Lib.hid (hB.out.trans (hb1.mono hB.out.size)); have z1 := (KB.out.later hb1).1; clear hb1 KB hB C0 C1 C31 C32 C33 LS iS))
          go_ret
          exact ⟨rfl, B1.out⟩
        · have f3 : decide ((l : Int) > 10000) = false := by simp; omega
          by_cases c4 : b < 0
          · have f4 : decide (b < 0) = true := by simp; omega
            have hd : d = false := by
              rw [D.out]
              rw [outB_lo c4]; simp
            clear D HW HLW; subst hd
            go_enter Try.func18, Try.ntmps18
            go_wp2_with (first
              | (refine wpList_load_at rfl 44 (.tmp 5) rfl _ rfl sc _ (LS.out _ KB.out.2) Try.underlying44 rfl iS.out ?_)
              | (go_at_call 39; refine (HV.out _).mono ?_; clear HV; rintro e w1 ⟨rfl, hb1⟩; have e0 := C0.out _ (KB.out.later hb1); have e1 := C1.out _ (KB.out.later hb1); have e31 := C31.out _ (KB.out.later hb1); have e32 := C32.out _ (KB.out.later hb1); have e33 := C33.out _ (KB.out.later hb1); have B1 := Lib.hid (hB.out.trans (hb1.mono hB.out.size)); have z1 := (KB.out.later hb1).1; clear hb1 KB hB C0 C1 C31 C32 C33 LS iS))
            go_ret
            exact ⟨rfl, B1.out⟩
          · have f4 : decide (b < 0) = false := by simp; omega
            by_cases c5 : b > 1073741824
            · have f5 : decide (b > 1073741824) = true := by simp; omega
              have hd : d = false := by
                rw [D.out]
                rw [outB_hi c5]; simp
              clear D HW HLW; subst hd
              go_enter Try.func18, Try.ntmps18
              go_wp2_with (first
                | (refine wpList_load_at rfl 44 (.tmp 5) rfl _ rfl sc _ (LS.out _ KB.out.2) Try.underlying44 rfl iS.out ?_)
                | (go_at_call 39; refine (HV.out _).mono ?_; clear HV; rintro e w1 ⟨rfl, hb1⟩; have e0 := C0.out _ (KB.out.later hb1); have e1 := C1.out _ (KB.out.later hb1); have e31 := C31.out _ (KB.out.later hb1); have e32 := C32.out _ (KB.out.later hb1); have e33 := C33.out _ (KB.out.later hb1); have B1 := Lib.hid (hB.out.trans (hb1.mono hB.out.size)); have z1 := (KB.out.later hb1).1; clear hb1 KB hB C0 C1 C31 C32 C33 LS iS))
              go_ret
              exact ⟨rfl, B1.out⟩
            · have f5 : decide (b > 1073741824) = false := by simp; omega
              by_cases c6 : h < 0
              · have f6 : decide (h < 0) = true := by simp; omega
                have hd : d = false := by
                  rw [D.out]
                  rw [outB_lo c6]; simp
                clear D HW HLW; subst hd
                go_enter Try.func18, Try.ntmps18
                go_wp2_with (first
                  | (refine wpList_load_at rfl 44 (.tmp 5) rfl _ rfl sc _ (LS.out _ KB.out.2) Try.underlying44 rfl iS.out ?_)
                  | (go_at_call 39; refine (HV.out _).mono ?_; clear HV; rintro e w1 ⟨rfl, hb1⟩; have e0 := C0.out _ (KB.out.later hb1); have e1 := C1.out _ (KB.out.later hb1); have e31 := C31.out _ (KB.out.later hb1); have e32 := C32.out _ (KB.out.later hb1); have e33 := C33.out _ (KB.out.later hb1); have B1 := Lib.hid (hB.out.trans (hb1.mono hB.out.size)); have z1 := (KB.out.later hb1).1; clear hb1 KB hB C0 C1 C31 C32 C33 LS iS))
                go_ret
                exact ⟨rfl, B1.out⟩
              · have f6 : decide (h < 0) = false := by simp; omega
                by_cases c7 : h > 1073741824
                · have f7 : decide (h > 1073741824) = true := by simp; omega
                  have hd : d = false := by
                    rw [D.out]
                    rw [outB_hi c7]; simp
                  clear D HW HLW; subst hd
                  go_enter Try.func18, Try.ntmps18
                  go_wp2_with (first
                    | (refine wpList_load_at rfl 44 (.tmp 5) rfl _ rfl sc _ (LS.out _ KB.out.2) Try.underlying44 rfl iS.out ?_)
                    | (go_at_call 39; refine (HV.out _).mono ?_; clear HV; rintro e w1 ⟨rfl, hb1⟩; have e0 := C0.out _ (KB.out.later hb1); have e1 := C1.out _ (KB.out.later hb1); have e31 := C31.out _ (KB.out.later hb1); have e32 := C32.out _ (KB.out.later hb1); have e33 := C33.out _ (KB.out.later hb1); have B1 := Lib.hid (hB.out.trans (hb1.mono hB.out.size)); have z1 := (KB.out.later hb1).1; clear hb1 KB hB C0 C1 C31 C32 C33 LS iS))
                  go_ret
                  exact ⟨rfl, B1.out⟩
                · have f7 : decide (h > 1073741824) = false := by simp; omega
                  have HD : Hid (d = (!n.ws.any (outB 0 1073741824) && (decide (k = 1) || !(decide (0 < l) || decide (b ≠ 0) || decide (h ≠ 0))) && ((decide (k ≠ 1) && decide (k ≠ 5)) || decide (km = 0)))) := Lib.hid (by
                    rw [D.out, decide_eq_true (by omega : 0 ≤ k ∧ k ≤ 10), outB_in (by omega) (by omega), outB_in (by omega) (by omega), decide_eq_false c3]
                    simp)
                  clear D
                  have hl10 : l ≤ 10000 := by omega
                  go_enter Try.func18, Try.ntmps18
                  go_wp2_with (first
                    | (refine wpList_load_at rfl 44 (.tmp 5) rfl _ rfl sc _ (LS.out _ KB.out.2) Try.underlying44 rfl iS.out ?_)
                    | (go_at_call 39; refine (HV.out _).mono ?_; clear HV; rintro e w1 ⟨rfl, hb1⟩; have e0 := C0.out _ (KB.out.later hb1); have e1 := C1.out _ (KB.out.later hb1); have e31 := C31.out _ (KB.out.later hb1); have e32 := C32.out _ (KB.out.later hb1); have e33 := C33.out _ (KB.out.later hb1); have B1 := Lib.hid (hB.out.trans (hb1.mono hB.out.size)); have z1 := (KB.out.later hb1).1; clear hb1 KB hB C0 C1 C31 C32 C33 LS iS))
                  have HW1 := Lib.hid (HW.out.below B1.out)
                  clear HW
                  go_loop [4] (fun s4 => ∃ i : Nat, i ≤ l ∧ s4 = .int .i64 i ∧ Hid (∀ j z, j < i → n.ws[j]? = some z → outB 0 1073741824 z = false)) (fun s4 => l - (intOf s4).toNat)
                  case atStart => exact ⟨0, by omega, rfl, Lib.hid fun j z hj => by omega⟩
                  case round =>
                    obtain ⟨i, hi, rfl, HA⟩ := hrel
                    by_cases hlt : i < l
                    · obtain ⟨z, hz⟩ : ∃ z, n.ws[i]? = some z := ⟨_, List.getElem?_eq_getElem (by rw [HLW.out]; exact hlt)⟩
                      obtain ⟨wb, wo, rfl, cz, lz⟩ := ints_at0' HW1.out i z hz
                      have HZ := Lib.hid hz
                      clear hz
                      by_cases z0 : z < 0
                      · have g0 : decide (z < 0) = true := by simpa using z0
                        have hd : d = false := by
                          rw [HD.out, List.any_eq_true.2 ⟨z, List.mem_iff_getElem?.2 ⟨i, HZ.out⟩, outB_lo z0⟩]; rfl
                        clear HD; subst hd
                        go_wp2
                        go_ret
                        exact ⟨rfl, B1.out⟩
                      · have g0 : decide (z < 0) = false := by simpa using z0
                        by_cases z1' : z > 1073741824
                        · have g1 : decide (z > 1073741824) = true := by simpa using z1'
                          have hd : d = false := by
                            rw [HD.out, List.any_eq_true.2 ⟨z, List.mem_iff_getElem?.2 ⟨i, HZ.out⟩, outB_hi z1'⟩]; rfl
                          clear HD; subst hd
                          go_wp2
                          go_ret
                          exact ⟨rfl, B1.out⟩
                        · have g1 : decide (z > 1073741824) = false := by simpa using z1'
                          have HA2 : Hid (∀ j z, j < i + 1 → n.ws[j]? = some z → outB 0 1073741824 z = false) := Lib.hid fun j z' hj hz' => by
                            by_cases hji : j < i
                            · exact HA.out j z' hji hz'
                            · obtain rfl : j = i := by omega
                              rw [HZ.out] at hz'
                              injection hz' with e
                              rw [← e]; exact outB_in (by omega) (by omega)
                          go_wp2
                          go_round
                          case rel => exact ⟨i + 1, by omega, by go_num, HA2⟩
                          case measure => (simp [intOf]; try omega)
                    · obtain rfl : i = l := by omega
                      have HE : Hid (d = ((decide (k = 1) || !(decide (0 < i) || decide (b ≠ 0) || decide (h ≠ 0))) && ((decide (k ≠ 1) && decide (k ≠ 5)) || decide (km = 0)))) := Lib.hid (by
                        rw [HD.out, List.any_eq_false.2 (fun z hz => by
                          obtain ⟨j, hj⟩ := List.mem_iff_getElem?.1 hz
                          rw [HA.out j z (by have := (List.getElem?_eq_some_iff.1 hj).1; rw [HLW.out] at this; exact this) hj]; simp)]
                        simp)
                      clear HD HA HW1
                      by_cases k1 : k = 1
                      · subst k1
                        have hd : Hid (d = decide (km = 0)) := Lib.hid (by rw [HE.out]; simp)
                        clear HE
                        by_cases m0 : km = 0
                        · subst m0
                          go_wp2
                          go_ret
                          exact ⟨by rw [hd.out]; rfl, B1.out⟩
                        · have gm : ((km : Int) == 0) = false := by simpa using m0
                          go_wp2
                          go_ret
                          exact ⟨by rw [hd.out, decide_eq_false m0]; rfl, B1.out⟩
                      · have gk : (k != 1) = true := by simpa using k1
                        by_cases hT : 0 < i ∨ b ≠ 0 ∨ h ≠ 0
                        · have hd : d = false := by
                            rw [HE.out]
                            rcases hT with h1 | h1 | h1 <;> simp [h1, k1]
                          clear HE; subst hd
                          by_cases t0 : 0 < i
                          · have g : decide ((i : Int) > 0) = true := by simp; omega
                            go_wp2
                            go_ret
                            exact ⟨rfl, B1.out⟩
                          · have g : decide ((i : Int) > 0) = false := by simp; omega
                            by_cases t1 : b ≠ 0
                            · have g1 : (b != 0) = true := by simpa using t1
                              go_wp2
                              go_ret
                              exact ⟨rfl, B1.out⟩
                            · have g1 : (b != 0) = false := by simpa using t1
                              have g2 : (h != 0) = true := by simp; omega
                              go_wp2
                              go_ret
                              exact ⟨rfl, B1.out⟩
                        · have g : decide ((i : Int) > 0) = false := by simp; omega
                          have g1 : (b != 0) = false := by simp; omega
                          have g2 : (h != 0) = false := by simp; omega
                          have hE2 : d = (decide (k ≠ 5) || decide (km = 0)) := by
                            rw [HE.out, decide_eq_false k1, decide_eq_false (by omega : ¬ 0 < i), decide_eq_false (by omega : ¬ b ≠ 0), decide_eq_false (by omega : ¬ h ≠ 0), decide_eq_true k1]
                            simp
                          have HE2 := Lib.hid hE2
                          clear HE hE2
                          by_cases k5 : k = 5
                          · have gk5 : (k != 5) = false := by simpa using k5
                            by_cases m0 : km = 0
                            · have gm : ((km : Int) == 0) = true := by simpa using m0
                              go_wp2
                              go_ret
                              exact ⟨by rw [HE2.out, decide_eq_true m0]; simp, B1.out⟩
                            · have gm : ((km : Int) == 0) = false := by simpa using m0
                              go_wp2
                              go_ret
                              exact ⟨by rw [HE2.out, decide_eq_false m0, decide_eq_false (fun h => h k5)]; rfl, B1.out⟩
                          · have gk5 : (k != 5) = true := by simpa using k5
                            go_wp2
                            go_ret
                            exact ⟨by rw [HE2.out, decide_eq_true k5]; rfl, B1.out⟩
theorem right_any (n : Nd) (w : World) (h : n.ok w) : Calls Try.prog 18 #[n.val] w fun e W' => e = .returned (.bool (!wrongN n)) ∧ Below w.heap.size w W' := by
  obtain ⟨kp, kcap, hkv⟩ := h.1.form
  obtain ⟨wp, wcap, hwv⟩ := h.2.1.form
  exact right_at n w kp wp _ kcap _ wcap _ _ n.k n.b n.h (validS n.s) _ hkv hwv rfl rfl rfl rfl rfl rfl (Lib.hid (by rw [← hwv]; exact h.2.1)) (Lib.hid fun X => refValid_any n.s X) (Lib.hid (right_not n))
end Go.Proofs.Ytecnapecmioamaa
