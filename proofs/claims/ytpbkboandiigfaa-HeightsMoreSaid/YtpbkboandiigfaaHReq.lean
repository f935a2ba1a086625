/- Contracts of slices.Clone at lengths, and of heights.requested. -/
import Derived.Test.YtpbkboandiigfaaHP
import Derived.Test.YtpbkboandiigfaaHBase
import Derived.Test.YtpbkboandiigfaaSpMem
import Derived.Lib.AppendZeros
import Derived.Maps.AppendAt
namespace Go.Proofs.Ytpbkboandiigfaa
open Go.RowKit Go.Shelf Go.Maps
set_option linter.unusedVariables false
set_option linter.unusedSimpArgs false
attribute [local go_sem] Oper.semAt_some

theorem Try.infoI64H : (Try.prog.info? 2).map (fun i => (i.zero, i.size, i.bytes)) = some (some (.int .i64 0), 1, 8) := by kernel_rfl
set_option maxRecDepth 100000 in
set_option maxHeartbeats 4000000 in
theorem clone_ints (x : Addr) (m c : Nat) (zs : List Int) (W : World) (hz : ∀ j z, zs[j]? = some z → W.cell? (x.add j) = some (.int .i64 z)) (hl : zs.length = m) (hm : m ≤ 1000000) :
    Calls Try.prog 31 #[.slice (some x) m c] W fun e X => ∃ G cap sp, e = .returned (.slice (some ⟨G, 0, none⟩) m cap) ∧ IRow X G zs sp ∧ W.heap.size ≤ G ∧ m ≤ cap ∧ cap ≤ 9223372036854775807 ∧ Below W.heap.size W X := by
  cases hi : Try.prog.info? 2 with
  | none => have := Try.infoI64H; rw [hi] at this; cases this
  | some i =>
    have h := Try.infoI64H
    rw [hi] at h
    simp only [Option.map_some, Option.some.injEq, Prod.mk.injEq] at h
    obtain ⟨hiz, hs, hby⟩ := h
    have hb0 : Below W.heap.size W (W.alloc (.cells #[] 2)) := (Below.refl _ W).alloc (Nat.le_refl _) _
    have hcell : ∀ j u, (zs.map (Value.int .i64))[j]? = some u → (W.alloc (.cells #[] 2)).cell? (x.add j) = some u := fun j u hu => by
      rw [List.getElem?_map] at hu
      obtain ⟨z, hz1, rfl⟩ := Option.map_eq_some_iff.1 hu
      exact (hb0.cell (p := x.add j) (cell_lt (hz j z hz1))).trans (hz j z hz1)
    have hown : (W.alloc (.cells #[] 2)).ownsRow W.heap.size 2 1 (.slice (some ⟨W.heap.size, 0, none⟩) 0 0) 0 [] := ⟨rfl, .inr ⟨W.heap.size, 0, #[], rfl, Nat.le_refl _, heap_alloc_new W _, Nat.le_refl _, by unfold maxLen; omega, rfl, rfl⟩⟩
    obtain ⟨v', w', hr, ho, hg, hnil, hat⟩ := run_append_own_at (P := Try.prog) (W.alloc (.cells #[] 2)) W.heap.size 22 22 2 i _ 1 8 Try.underlying22 hi hiz hs hby rfl (by decide) (.slice (some ⟨W.heap.size, 0, none⟩) 0 0) 0 [] hown x m c (zs.map (Value.int .i64)) (by simp [hl]) hcell
        (fun u hu => by obtain ⟨x, _, rfl⟩ := List.mem_map.1 hu; rfl) (by unfold maxLen; omega) (by omega) (by simp)
    have HB : Hid (Below W.heap.size W w') := Lib.hid (hb0.grown hg (by simp) (fun j e => (hown.lt j e).1))
    have HR : Hid (∃ G cap sp, v' = .slice (some ⟨G, 0, none⟩) m cap ∧ IRow w' G zs sp ∧ W.heap.size ≤ G ∧ m ≤ cap ∧ cap ≤ 9223372036854775807) := Lib.hid (by
      rcases ho.2 with ⟨rfl, hn⟩ | ⟨g, cap, cur, rfl, hbg, hgg, hnc, hcm, hcs, htk⟩
      · have := hnil.1 rfl
        cases this.1
      · rw [Nat.zero_add] at hnc htk ⊢
        unfold maxLen at hcm
        refine ⟨g, cap, cur.toList.drop (m * 1), rfl, ?_, hbg, hnc, by omega⟩
        show w'.heap[g]? = _
        rw [hgg]
        have e : cur.toList = zs.map (Value.int .i64) ++ cur.toList.drop (m * 1) := by
          conv => lhs; rw [← List.take_append_drop (m * 1) cur.toList]
          rw [List.nil_append] at htk
          rw [htk]
        rw [← e])
    clear hz hcell hown ho hg hnil hat hi hiz hs hby hb0
    have hq : (binOp BinOp.eql 22 (.slice (some x) m c) (.slice none 0 0)).run Try.prog W = .ok (.bool false) W := by first | rfl | kernel_rfl | simp [binOp]
    go_enter Try.func31, Try.ntmps31
    go_wp2_with (at_builtin; refine Lib.wpList_append_run _ rfl _ _ _ _ rfl _ _ rfl rfl _ _ hr ?_)
    go_ret
    obtain ⟨G, cap, sp, rfl, h1, h2, h3, h4⟩ := HR.out
    exact ⟨G, cap, sp, rfl, h1, h2, h3, h4, HB.out⟩
set_option maxRecDepth 100000 in
theorem clone_nil (W : World) : Calls Try.prog 31 #[.slice none 0 0] W fun e X => e = .returned (.slice none 0 0) ∧ X = W := by
  have hq : (binOp BinOp.eql 22 (.slice none 0 0) (.slice none 0 0)).run Try.prog W = .ok (.bool true) W := by first | rfl | kernel_rfl | simp [binOp]
  go_enter Try.func31, Try.ntmps31
  go_wp2
  go_ret
  exact ⟨rfl, rfl⟩
/-- numbers, the first so many of them without -1 -/
def reqS (ws : List Int) (k : Nat) : List Int := reqP (ws.take k) ++ ws.drop k
theorem reqS_len (ws : List Int) (k : Nat) : (reqS ws k).length = ws.length := by simp [reqS, reqP]; omega
theorem reqS_zero (ws : List Int) : reqS ws 0 = ws := by simp [reqS, reqP]
theorem reqS_end (ws : List Int) : reqS ws ws.length = reqP ws := by simp [reqS]
theorem reqS_get (ws : List Int) (k i : Nat) : (reqS ws k)[i]? = (ws[i]?).map fun w => if i < k ∧ w = -1 then 0 else w := by
  unfold reqS reqP
  by_cases h : i < k
  · by_cases hi : i < ws.length
    · rw [List.getElem?_append_left (by simp; omega), List.getElem?_map, List.getElem?_take_of_lt h]
      simp [h]
    · rw [List.getElem?_eq_none (by simp; omega), List.getElem?_eq_none (by omega)]; rfl
  · by_cases hk : k ≤ ws.length
    · rw [List.getElem?_append_right (by simp; omega), List.length_map, List.length_take, Nat.min_eq_left hk, List.getElem?_drop, show k + (i - k) = i by omega]
      simp [h]
    · rw [List.getElem?_eq_none (by simp; omega), List.getElem?_eq_none (by omega)]; rfl
theorem reqS_not (ws : List Int) (k : Nat) (w : Int) (h : ws[k]? = some w) (hw : w ≠ -1) : reqS ws (k + 1) = reqS ws k := by
  apply List.ext_getElem?
  intro i
  rw [reqS_get, reqS_get]
  cases hi : ws[i]? with
  | none => rfl
  | some x =>
    simp only [Option.map_some, Option.some.injEq]
    by_cases e : i = k
    · subst e; rw [h] at hi; injection hi with hi; subst hi; simp [hw]
    · by_cases h1 : i < k
      · simp [h1, show i < k + 1 by omega]
      · simp [h1, show ¬ i < k + 1 by omega]
theorem reqS_yes (ws : List Int) (k : Nat) (h : ws[k]? = some (-1)) : (reqS ws k).set k 0 = reqS ws (k + 1) := by
  have hk := (List.getElem?_eq_some_iff.1 h).1
  apply List.ext_getElem?
  intro i
  by_cases e : i = k
  · subst e
    rw [List.getElem?_set_self (by rw [reqS_len]; exact hk), reqS_get, h]
    simp
  · rw [List.getElem?_set_ne (Ne.symm e), reqS_get, reqS_get]
    by_cases h1 : i < k
    · simp [h1, show i < k + 1 by omega]
    · simp [h1, show ¬ i < k + 1 by omega]
/-- what heights.requested answers: the requested heights in a block of their own -/
def ReqPost (ws : List Int) (W : World) : Ending → World → Prop := fun e X => (∃ G cap sp, e = .returned (.slice (some ⟨G, 0, none⟩) ws.length cap) ∧ IRow X G (reqP ws) sp ∧ W.heap.size ≤ G ∧ ws.length ≤ cap ∧ cap ≤ 9223372036854775807) ∧ Below W.heap.size W X
set_option maxRecDepth 100000 in
set_option maxHeartbeats 4000000 in
theorem req_some (x : Addr) (m c : Nat) (ws : List Int) (W : World) (hz : ∀ j z, ws[j]? = some z → W.cell? (x.add j) = some (.int .i64 z)) (hl : ws.length = m) (hm : m ≤ 1000000) :
    Calls Try.prog 19 #[.slice (some x) m c] W (ReqPost ws W) := by
  have HCL := Lib.hid (clone_ints x m c ws W hz hl hm)
  have HL := Lib.hid hl
  clear hz
  unfold ReqPost
  rw [hl]
  clear hl
  go_enter Try.func19, Try.ntmps19
  go_wp2_with fail
  refine HCL.out.mono ?_
  rintro e w1 ⟨G, cap, sp, rfl, hg, hG, hc1, hc2, hb1⟩
  have K0 : Hid (IRow w1 G (reqS ws 0) sp) := Lib.hid (by rw [reqS_zero]; exact hg)
  have HB1 := Lib.hid hb1
  have HG := Lib.hid hG
  clear HCL hg hb1 hG
  go_wp2
  go_loopw [10] (fun s10 X => ∃ j : Nat, j ≤ m ∧ s10 = .int .i64 (j : Int) ∧ Hid (IRow X G (reqS ws j) sp) ∧ Hid (Upd [G] w1 X)) (fun s10 _ => m - (intOf s10).toNat)
  case atStart => exact ⟨0, Nat.zero_le _, rfl, K0, Lib.hid (Upd.refl _ _)⟩
  case round =>
    clear K0
    obtain ⟨j, hj, rfl, HI, HU⟩ := hrel
    by_cases hlt : j < m
    · obtain ⟨y, hx⟩ : ∃ y, ws[j]? = some y := ⟨_, List.getElem?_eq_getElem (by rw [HL.out]; exact hlt)⟩
      have hq := HI.out.cell j (by rw [reqS_len, HL.out]; exact hlt)
      rw [reqS_get, hx] at hq
      simp only [Option.map_some, Option.getD_some, Nat.lt_irrefl, false_and, if_false] at hq
      have hf := HI.out.free j
      have lG := HI.out.lt
      by_cases h1 : y = -1
      · subst h1
        have KN : Hid (IRow (wr.setCell ⟨G, j, none⟩ (.int .i64 0)) G (reqS ws (j + 1)) sp) := Lib.hid (by rw [← reqS_yes ws j hx]; exact HI.out.set j 0 (by rw [reqS_len, HL.out]; exact hlt))
        have UN : Hid (Upd [G] w1 (wr.setCell ⟨G, j, none⟩ (.int .i64 0))) := Lib.hid (HU.out.trans (Upd.set wr G j _ (by simp)))
        clear hx HI HU
        go_wp2
        go_roundw
        case rel => exact ⟨j + 1, by omega, by go_num, KN, UN⟩
        case measure => simp [intOf]; omega
      · have KN : Hid (IRow wr G (reqS ws (j + 1)) sp) := Lib.hid (by rw [reqS_not ws j y hx h1]; exact HI.out)
        have hne : (y == -1) = false := by simpa using h1
        clear hx HI
        go_wp2
        go_roundw
        case rel => exact ⟨j + 1, by omega, by go_num, KN, HU⟩
        case measure => simp [intOf]; omega
    · obtain rfl : m = j := by omega
      have KN : Hid (IRow wr G (reqP ws) sp) := Lib.hid (by have h := HI.out; rw [← HL.out, reqS_end] at h; exact h)
      clear HI
      go_wp2
      go_ret
      exact ⟨⟨G, cap, sp, rfl, KN.out, HG.out, hc1, hc2⟩, HB1.out.trans (HU.out.below HB1.out.size (by simpa using HG.out))⟩
theorem req_nil (W : World) : Calls Try.prog 19 #[.slice none 0 0] W fun e X => e = .returned (.slice none 0 0) ∧ X = W := by
  have HCL := Lib.hid (clone_nil W)
  go_enter Try.func19, Try.ntmps19
  go_wp2_with fail
  refine HCL.out.mono ?_
  rintro e w1 ⟨rfl, rfl⟩
  clear HCL
  go_wp2
  go_loopw [10] (fun s10 X => s10 = .int .i64 0 ∧ Hid (X = w1)) (fun _ _ => 0)
  case atStart => exact ⟨rfl, Lib.hid rfl⟩
  case round =>
    obtain ⟨rfl, HX⟩ := hrel
    go_wp2
    go_ret
    exact ⟨rfl, HX.out⟩
end Go.Proofs.Ytpbkboandiigfaa
