/- Contracts of the document's own Right, Begins, Extent, Span. -/
import Derived.Test.YtncgmfdmkjlmaaaEBeg
namespace Go.Proofs.Ytncgmfdmkjlmaaa
open Go.RowKit Go.Shelf
set_option linter.unusedVariables false
attribute [local go_sem] Oper.semAt_some

theorem lay1E (w : World) (x : Value) (t g : Nat) (hg : g = w.heap.size) : ∀ j u, [x][j]? = some u → (w.alloc (.cells #[x] t)).cell? ((⟨g, 0, none⟩ : Addr).add j) = some u := fun j u hj => by
  rw [add_plainE, Nat.zero_add, (whole_new w [x] t g hg).cellAt j]; exact hj
theorem infoE {e z s b} (h : (Try.prog.info? e).map (fun i => (i.zero, i.size, i.bytes)) = some (some z, s, b)) : ∃ i, Try.prog.info? e = some i ∧ i.zero = some z ∧ i.size = s ∧ i.bytes = b := by
  cases hi : Try.prog.info? e with
  | none => rw [hi] at h; cases h
  | some i => rw [hi] at h; simp at h; exact ⟨i, rfl, h.1, h.2.1, h.2.2⟩
def encIE (zs : List Int) : List Value := zs.map (Value.int .i64)
theorem own_numsE {W : World} {base e n : Nat} {v : Value} {zs : List Int} (h : W.ownsRow base e 1 v n (encIE zs)) (hn : n ≤ 1000000) : Nums .i64 W v zs := by
  have h' := h
  obtain ⟨hl, ⟨rfl, hn⟩ | ⟨g, cap, cur, rfl, hb, hg, hnc, hcm, hcs, htk⟩⟩ := h
  · refine ⟨?_, .inl ⟨none, 0, rfl, by omega, ?_⟩⟩
    · simp [encIE] at hl; omega
    · simp [encIE] at hl; exact List.length_eq_zero_iff.1 (by omega)
  · have hn : n = zs.length := by simp [encIE] at hl; omega
    unfold maxLen at hcm
    refine ⟨by omega, .inr ⟨g, 0, cap, by rw [hn], by omega, by omega, fun j hj => ?_⟩⟩
    have := World.ownsRow.cellAt h' j (by omega)
    rw [Nat.zero_add, this]; simp [encIE, hj]
theorem okB_any {g : Int} {bs : List Int} (h : okB g bs = true) : bs.any (outB 0 1073741824) = false := by
  unfold okB at h; simp only [Bool.and_eq_true, Bool.not_eq_true'] at h; exact h.2.2
set_option maxHeartbeats 1000000 in
theorem refRight_any (g : Int) (p : Option Addr) (m c : Nat) (bs : List Int) (w : World) (hL : LowI w.heap.size w (.slice p m c) bs) (hm : bs.length = m) :
    Calls Try.prog 15 #[.slice p m c, .int .i64 g] w fun e w' => e = .returned (.bool (okB g bs)) ∧ ∃ n, w' = w.drewN n := by
  by_cases k1 : g < 0
  · have hb : Hid (okB g bs = false) := Lib.hid (by
      rw [Bool.eq_false_iff]; intro h; have := (okB_iff.1 h).1; omega)
    clear hL
    go_enter Try.func15, Try.ntmps15
    go_wp2
    go_ret
    exact ⟨by rw [hb.out] <;> rfl, 0, rfl⟩
  · by_cases k2 : 1073741824 < g
    · have hb : Hid (okB g bs = false) := Lib.hid (by
        rw [Bool.eq_false_iff]; intro h; have := (okB_iff.1 h).1; omega)
      clear hL
      go_enter Try.func15, Try.ntmps15
      go_wp2
      go_ret
      exact ⟨by rw [hb.out] <;> rfl, 0, rfl⟩
    · by_cases k3 : 10000 < m
      · have hb : Hid (okB g bs = false) := Lib.hid (by
          rw [Bool.eq_false_iff]; intro h; have := (okB_iff.1 h).2.1; omega)
        clear hL
        have d1 : decide (g < 0) = false := by simp; omega
        have d2 : decide (1073741824 < g) = false := by simp; omega
        go_enter Try.func15, Try.ntmps15
        go_wp2
        go_ret
        exact ⟨by rw [hb.out] <;> rfl, 0, rfl⟩
      · have d1 : decide (g < 0) = false := by simp; omega
        have d2 : decide (1073741824 < g) = false := by simp; omega
        have hmk : m ≤ 10000 := by omega
        have HM := Lib.hid hm
        have HL := Lib.hid hL
        have hh : Hid (okB g bs = !(bs.any (outB 0 1073741824))) := Lib.hid (by
          unfold okB
          rw [show decide (bs.length ≤ 10000) = true by simp; omega, show [g].any (outB 0 1073741824) = false by simp [outB]; omega]; simp)
        clear hL hm
        go_enter Try.func15, Try.ntmps15
        go_wp2
        go_loopw [5] (fun s5 X => ∃ k : Nat, k ≤ m ∧ s5 = .int .i64 (k : Int) ∧ w = X ∧ Hid ((bs.take k).any (outB 0 1073741824) = false)) (fun s5 _ => m - (intOf s5).toNat)
        case atStart => exact ⟨0, Nat.zero_le _, rfl, rfl, Lib.hid (by simp)⟩
        case round =>
          obtain ⟨k, hk, rfl, rfl, HA⟩ := hrel
          by_cases hlt : k < m
          · obtain ⟨x, hx⟩ : ∃ x, bs[k]? = some x := ⟨_, List.getElem?_eq_getElem (by rw [HM.out]; exact hlt)⟩
            obtain ⟨bb, off, rfl, hbB, crow⟩ := HL.out.at k x hx
            have HX := Lib.hid hx
            clear hx
            by_cases q1 : x < 0
            · have hr : Hid (okB g bs = false) := Lib.hid (by rw [hh.out, any_take_hit _ bs k x (by rw [HM.out]; exact hlt) HX.out (outB_lo q1)]; rfl)
              go_wp2
              go_ret
              exact ⟨by rw [hr.out] <;> rfl, 0, rfl⟩
            · by_cases q2 : 1073741824 < x
              · have hr : Hid (okB g bs = false) := Lib.hid (by rw [hh.out, any_take_hit _ bs k x (by rw [HM.out]; exact hlt) HX.out (outB_hi q2)]; rfl)
                have e1 : decide (x < 0) = false := by simp; omega
                go_wp2
                go_ret
                exact ⟨by rw [hr.out] <;> rfl, 0, rfl⟩
              · have HA2 := Lib.hid (any_take_step _ bs k x (by rw [HM.out]; exact hlt) HX.out (outB_in (lo := 0) (hi := 1073741824) (by omega) (by omega)) HA.out)
                have e1 : decide (x < 0) = false := by simp; omega
                have e2 : decide (1073741824 < x) = false := by simp; omega
                go_wp2
                go_roundw
                case rel => exact ⟨k + 1, by omega, by go_num, by first | rfl | trivial, HA2⟩
                case measure => simp [intOf]; omega
          · have hr : Hid (okB g bs = true) := Lib.hid (by
              have := HA.out
              rw [List.take_of_length_le (by have := HM.out; omega)] at this
              rw [hh.out, this]; rfl)
            go_wp2
            go_ret
            exact ⟨by rw [hr.out] <;> rfl, 0, rfl⟩
set_option maxHeartbeats 2000000 in
theorem refBegins_any (g : Int) (p : Option Addr) (m c : Nat) (bs : List Int) (w : World) (hL : LowI w.heap.size w (.slice p m c) bs) (hm : bs.length = m) (hok : okW g bs) :
    Calls Try.prog 18 #[.slice p m c, .int .i64 g] w fun e W' => ∃ v, e = .returned v ∧ W'.ownsRow w.heap.size 2 1 v m (encIE (begsW g bs m)) ∧ Below w.heap.size w W' := by
  obtain ⟨i0, hi0, hz0, hz1, hz2⟩ := infoE Try.infoI64E
  have HZ0 := Lib.hid hz0
  have HZ1 := Lib.hid hz1
  have HZ2 := Lib.hid hz2
  have HI0 := Lib.hid hi0
  have HM := Lib.hid hm
  have HL := Lib.hid hL
  have HOK := Lib.hid hok
  have hmk : m ≤ 10000 := by have := hok.2.1; omega
  have hg1 := hok.1.1
  have hg2 := hok.1.2
  clear hL hm hok hz0 hz1 hz2 hi0
  go_enter Try.func18, Try.ntmps18
  go_wp2
  go_loopw [5, 6, 7] (fun s5 s6 s7 X => ∃ (k : Nat) (lv : Value), k ≤ m ∧ s7 = .int .i64 (k : Int) ∧ s6 = .int .i64 (begW g bs k) ∧ lv = s5 ∧ Hid (X.ownsRow w.heap.size 2 1 lv k (encIE (begsW g bs k))) ∧ Hid (Below w.heap.size w X)) (fun _ _ s7 _ => m - (intOf s7).toNat)
  case atStart => exact ⟨0, _, Nat.zero_le _, rfl, by simp [begW, preW], rfl, Lib.hid (World.ownsRow_nil _ _ _ _), Lib.hid (Below.refl _ _)⟩
  case round =>
    obtain ⟨k, lv, hk, rfl, rfl, rfl, HO, HB⟩ := hrel
    by_cases hlt : k < m
    · obtain ⟨x, hx⟩ : ∃ x, bs[k]? = some x := ⟨_, List.getElem?_eq_getElem (by rw [HM.out]; exact hlt)⟩
      obtain ⟨bb, off, rfl, hbB, crow⟩ := (HL.out.keep (Y := wr) (fun j hj => HB.out.block j hj)).at k x hx
      have hx2 := HOK.out.2.2 x (List.mem_iff_getElem?.2 ⟨k, hx⟩)
      have HS : Hid (begW g bs (k + 1) = begW g bs k + x + g) := Lib.hid (by unfold begW; rw [preW_succ g k bs x hx]; omega)
      have hq := begW_bd HOK.out (k := k) (by have := HM.out; omega)
      have HBS := Lib.hid (begsW_succ g bs k)
      have hz := HB.out.size
      clear hx
      generalize begW g bs k = q at *
      go_wp2_with (at_builtin; refine wpList_append_own_at _ rfl _ _ 22 rfl w.heap.size 2 i0 (.int .i64 0) 1 8 Try.underlying22 HI0.out HZ0.out HZ1.out HZ2.out rfl (by decide) lv k (encIE (begsW g bs k)) rfl (HO.out.alloc _) ⟨wr.heap.size, 0, none⟩ 1 1 [.int .i64 q] rfl rfl (lay1E _ _ _ _ rfl) (by simp [Value.oneCell']) (by unfold maxLen; omega) (by omega) (by simp <;> omega) ?_)
      intro v' w1 hown hgrow _ _
      have hB1 := own_below (HB.out.alloc hz _) (HO.out.alloc _) (Nat.le_refl _) hgrow (by simp <;> omega)
      have hc1 := (hB1.cell (p := ⟨bb, off + k, none⟩) hbB).trans ((HB.out.cell (p := ⟨bb, off + k, none⟩) hbB).symm.trans crow)
      have hl1 : bb < w1.heap.size := by have := hB1.size; omega
      have HB1 := Lib.hid hB1
      have HO1 := Lib.hid hown
      clear hB1 hown hgrow crow
      go_wp2
      go_roundw
      case rel => exact ⟨k + 1, v', by omega, by go_num, by rw [HS.out], rfl, Lib.hid (by rw [HBS.out]; simpa [encIE] using HO1.out), HB1⟩
      case measure => simp [intOf]; omega
    · obtain rfl : k = m := by omega
      have HO1 := HO
      go_wp2
      go_ret
      exact ⟨_, rfl, HO.out, HB.out⟩
set_option maxHeartbeats 2000000 in
theorem refExtent_any (g : Int) (p : Option Addr) (m c : Nat) (bs : List Int) (w : World) (hL : LowI w.heap.size w (.slice p m c) bs) (hm : bs.length = m) (hok : okW g bs) :
    Calls Try.prog 19 #[.slice p m c, .int .i64 g] w fun e W' => e = .returned (.int .i64 (extW g bs)) ∧ W' = w := by
  have HM := Lib.hid hm
  have HL := Lib.hid hL
  have HOK := Lib.hid hok
  have hmk : m ≤ 10000 := by have := hok.2.1; omega
  have hg1 := hok.1.1
  have hg2 := hok.1.2
  clear hL hm hok
  by_cases h0 : m = 0
  · have hv : Hid (extW g bs = 0) := Lib.hid (by unfold extW; rw [if_pos (by rw [HM.out]; exact h0)])
    have hm0 : ((m : Int) == 0) = true := by simp [h0]
    clear h0
    go_enter Try.func19, Try.ntmps19
    go_wp2
    go_ret
    exact ⟨by rw [hv.out] <;> rfl, rfl⟩
  · have hv : Hid (extW g bs = begW g bs m) := Lib.hid (by unfold extW; rw [if_neg (by rw [HM.out]; exact h0), HM.out])
    have hm0 : ((m : Int) == 0) = false := by simp; omega
    clear h0
    go_enter Try.func19, Try.ntmps19
    go_wp2
    go_loopw [5, 6] (fun s5 s6 X => ∃ k : Nat, k ≤ m ∧ s6 = .int .i64 (k : Int) ∧ s5 = .int .i64 (begW g bs k) ∧ Hid (w = X)) (fun _ s6 _ => m - (intOf s6).toNat)
    case atStart => exact ⟨0, Nat.zero_le _, rfl, by simp [begW, preW], Lib.hid rfl⟩
    case round =>
      obtain ⟨k, hk, rfl, rfl, HW⟩ := hrel
      obtain rfl := HW.out
      by_cases hlt : k < m
      · obtain ⟨x, hx⟩ : ∃ x, bs[k]? = some x := ⟨_, List.getElem?_eq_getElem (by rw [HM.out]; exact hlt)⟩
        obtain ⟨bb, off, rfl, hbB, crow⟩ := HL.out.at k x hx
        have hx2 := HOK.out.2.2 x (List.mem_iff_getElem?.2 ⟨k, hx⟩)
        have HS : Hid (begW g bs (k + 1) = begW g bs k + x + g) := Lib.hid (by unfold begW; rw [preW_succ g k bs x hx]; omega)
        have hq := begW_bd HOK.out (k := k) (by have := HM.out; omega)
        clear hx
        generalize begW g bs k = q at *
        go_wp2
        go_roundw
        case rel => exact ⟨k + 1, by omega, by go_num, by rw [HS.out], by first | exact Lib.hid rfl | exact Lib.hid trivial⟩
        case measure => simp [intOf]; omega
      · have hv2 : Hid (extW g bs = begW g bs k) := Lib.hid (by rw [hv.out, show k = m by omega])
        go_wp2
        go_ret
        exact ⟨by rw [hv2.out] <;> rfl, rfl⟩
/-- how wide the first k of some bands are -/
def spanK (g : Int) (bs : List Int) (fr k : Nat) : Int := wideW g bs fr (fr + k)
set_option maxHeartbeats 2000000 in
theorem refSpan_any (g : Int) (p : Option Addr) (m c fr n : Nat) (bs : List Int) (w : World) (hL : LowI w.heap.size w (.slice p m c) bs) (hm : bs.length = m) (hok : okW g bs) (h1 : fr + n ≤ m) :
    Calls Try.prog 20 #[.slice p m c, .int .i64 g, .int .i64 (fr : Int), .int .i64 (n : Int)] w fun e W' => e = .returned (.int .i64 (wideW g bs fr (fr + n))) ∧ W' = w := by
  have HM := Lib.hid hm
  have HL := Lib.hid hL
  have HOK := Lib.hid hok
  have hmk : m ≤ 10000 := by have := hok.2.1; omega
  have hg1 := hok.1.1
  have hg2 := hok.1.2
  clear hL hm hok
  go_enter Try.func20, Try.ntmps20
  go_wp2
  go_loopw [9, 10] (fun s9 s10 X => ∃ k : Nat, k ≤ n ∧ s10 = .int .i64 (k : Int) ∧ s9 = .int .i64 (spanK g bs fr k) ∧ Hid (w = X)) (fun _ s10 _ => n - (intOf s10).toNat)
  case atStart => exact ⟨0, Nat.zero_le _, rfl, by simp [spanK, wideW_self], Lib.hid rfl⟩
  case round =>
    obtain ⟨k, hk, rfl, rfl, HW⟩ := hrel
    obtain rfl := HW.out
    by_cases hlt : k < n
    · obtain ⟨x, hx⟩ : ∃ x, bs[fr + k]? = some x := ⟨_, List.getElem?_eq_getElem (by rw [HM.out]; omega)⟩
      obtain ⟨bb, off, rfl, hbB, crow⟩ := HL.out.at (fr + k) x hx
      have hx2 := HOK.out.2.2 x (List.mem_iff_getElem?.2 ⟨fr + k, hx⟩)
      have hq := wideW_bd HOK.out (s := fr) (e := fr + k) (by have := HM.out; omega)
      have hadd : IntKind.i64.wrap ((fr : Int) + (k : Int)) = ((fr + k : Nat) : Int) := by simp [IntKind.wrap, IntKind.bits, IntKind.signed]; omega
      by_cases hk0 : k = 0
      · have HS : Hid (spanK g bs fr (k + 1) = spanK g bs fr k + x) := Lib.hid (by
          subst hk0; unfold spanK; rw [show fr + (0 + 1) = fr + 1 by omega, wideW_one (by simpa using hx), show fr + 0 = fr by omega, wideW_self]; omega)
        have hq2 : 0 ≤ spanK g bs fr k ∧ spanK g bs fr k ≤ 21474836480000 := hq
        have hk1 : decide (0 < (k : Int)) = false := by simp; omega
        have hk2 : decide (0 < k) = false := by simp; omega
        clear hx hk0 hq
        generalize spanK g bs fr k = q at *
        go_wp2
        go_roundw
        case rel => exact ⟨k + 1, by omega, by go_num, by rw [HS.out], by first | exact Lib.hid rfl | exact Lib.hid trivial⟩
        case measure => simp [intOf]; omega
      · have HS : Hid (spanK g bs fr (k + 1) = spanK g bs fr k + x + g) := Lib.hid (by
          unfold spanK
          rw [show fr + (k + 1) = (fr + k) + 1 by omega, wideW_lt (by omega), wideW_lt (by omega), preW_succ g (fr + k) bs x hx]; omega)
        have hq2 : 0 ≤ spanK g bs fr k ∧ spanK g bs fr k ≤ 21474836480000 := hq
        have hk1 : decide (0 < (k : Int)) = true := by simp; omega
        have hk2 : decide (0 < k) = true := by simp; omega
        clear hx hk0 hq
        generalize spanK g bs fr k = q at *
        go_wp2
        go_roundw
        case rel => exact ⟨k + 1, by omega, by go_num, by rw [HS.out], by first | exact Lib.hid rfl | exact Lib.hid trivial⟩
        case measure => simp [intOf]; omega
    · have hv2 : Hid (wideW g bs fr (fr + n) = spanK g bs fr k) := Lib.hid (by unfold spanK; rw [show k = n by omega])
      go_wp2
      go_ret
      exact ⟨by rw [hv2.out] <;> rfl, rfl⟩
end Go.Proofs.Ytncgmfdmkjlmaaa
