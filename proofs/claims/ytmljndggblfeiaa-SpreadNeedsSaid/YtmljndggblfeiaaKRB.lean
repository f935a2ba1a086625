/- Contract of columns.RightBands. -/
import Derived.Test.YtmljndggblfeiaaKLaw
import Derived.Test.YtmljndggblfeiaaSlice
namespace Go.Proofs.Ytmljndggblfeiaa
open Go.RowKit Go.Shelf
set_option linter.unusedVariables false
set_option linter.unusedSimpArgs false
attribute [local go_sem] Oper.semAt_some

/-- a band, moved within its bounds -/
def bndB (b : Ba) : Ba :=
  ⟨max (min b.mn 1125899906842623) 0, max (min b.mx 1125899906842623) (max (min b.mn 1125899906842623) 0), max (min b.sh 10000000) (-1), if max (min b.sh 10000000) (-1) = -1 then max (min b.wt 1073741824) (-1) else -1⟩
theorem bndB_iff (b : Ba) : decide (b ≠ bndB b) = !baB b := by
  have h : b = bndB b ↔ baB b = true := by
    obtain ⟨mn, mx, sh, wt⟩ := b
    unfold bndB baB
    dsimp only
    simp only [Ba.mk.injEq, decide_eq_true_eq]
    split <;> omega
  by_cases e : b = bndB b
  · rw [h.1 e]; simp only [ne_eq, decide_not, Bool.not_true, Bool.not_eq_false', decide_eq_true_eq]; exact e
  · have : baB b = false := by cases q : baB b; rfl; exact absurd (h.2 q) e
    rw [this]; simp only [ne_eq, decide_not, Bool.not_false, Bool.not_eq_true', decide_eq_false_iff_not]; exact e
set_option maxHeartbeats 2000000 in
theorem bounded_any (b : Ba) (W : World) :
    Calls Try.prog 26 #[b.val] W fun e W' => e = .returned (bndB b).val ∧ Below W.heap.size W W' := by
  obtain ⟨mn, mx, sh, wt⟩ := b
  obtain ⟨v1, h1⟩ : ∃ v, max (min mn 1125899906842623) 0 = v := ⟨_, rfl⟩
  have C1 := Lib.hid (fun X => h1 ▸ clamp_any mn 0 1125899906842623 X)
  obtain ⟨v2, h2⟩ : ∃ v, max (min mx 1125899906842623) v1 = v := ⟨_, rfl⟩
  have C2 := Lib.hid (fun X => h2 ▸ clamp_any mx v1 1125899906842623 X)
  obtain ⟨v3, h3⟩ : ∃ v, max (min sh 10000000) (-1) = v := ⟨_, rfl⟩
  have C3 := Lib.hid (fun X => h3 ▸ clamp_any sh (-1) 10000000 X)
  obtain ⟨v4, h4⟩ : ∃ v, max (min wt 1073741824) (-1) = v := ⟨_, rfl⟩
  have C4 := Lib.hid (fun X => h4 ▸ clamp_any wt (-1) 1073741824 X)
  obtain ⟨o, ho⟩ : ∃ o, bndB ⟨mn, mx, sh, wt⟩ = o := ⟨_, rfl⟩
  have hcase : (v3 = -1 ∧ Hid (o = ⟨v1, v2, -1, v4⟩)) ∨ ((v3 == -1) = false ∧ Hid (o = ⟨v1, v2, v3, -1⟩)) := by
    have e : o = ⟨v1, v2, v3, if v3 = -1 then v4 else -1⟩ := by rw [← ho]; unfold bndB; dsimp only; rw [h1, h2, h3, h4]
    by_cases q : v3 = -1
    · exact .inl ⟨q, Lib.hid (by rw [e, if_pos q, q])⟩
    · exact .inr ⟨by simpa using q, Lib.hid (by rw [e, if_neg q])⟩
  rw [ho]
  clear ho h1 h2 h3 h4
  unfold Ba.val
  dsimp only
  rcases hcase with ⟨rfl, HO⟩ | ⟨hq, HO⟩
  all_goals
    go_enter Try.func26, Try.ntmps26
    go_wp2_with fail
    refine (C1.out _).mono ?_
    rintro e w' ⟨rfl, rfl⟩
    clear C1
    go_wp2_with fail
    refine (C2.out _).mono ?_
    rintro e w' ⟨rfl, rfl⟩
    clear C2
    go_wp2_with fail
    refine (C3.out _).mono ?_
    rintro e w' ⟨rfl, rfl⟩
    clear C3
    go_wp2_with fail
    refine (C4.out _).mono ?_
    rintro e w' ⟨rfl, rfl⟩
    clear C4
    go_wp2
    refine bodyPost_ret (results_baK (g := W.heap.size + 1) rfl rfl (whole_new _ [_, _, _, _] 39 _ (by simp))) rfl ⟨by rw [HO.out], ?_⟩
    repeat (first | exact Below.refl _ _ | refine Below.alloc ?_ (by simp <;> omega) _)
set_option maxHeartbeats 2000000 in
theorem bwrong_any (b : Ba) (W : World) :
    Calls Try.prog 25 #[b.val] W fun e W' => e = .returned (.bool (!baB b)) ∧ Below W.heap.size W W' := by
  rw [← bndB_iff]
  have HB := Lib.hid (fun X => bounded_any b X)
  obtain ⟨q, hq⟩ : ∃ q, decide (b ≠ bndB b) = q := ⟨_, rfl⟩
  rw [hq]
  have HQ := Lib.hid hq
  clear hq
  generalize bndB b = o at *
  obtain ⟨mn, mx, sh, wt⟩ := b
  obtain ⟨on, ox, os, ot⟩ := o
  unfold Ba.val at *
  dsimp only at *
  have KV : Hid (Whole (W.alloc (.cells #[.int .i64 mn, .int .i64 mx, .int .i64 sh, .int .i64 wt] 39)) W.heap.size 39 [.int .i64 mn, .int .i64 mx, .int .i64 sh, .int .i64 wt]) := Lib.hid (whole_new W [.int .i64 mn, .int .i64 mx, .int .i64 sh, .int .i64 wt] 39 _ rfl)
  go_enter Try.func25, Try.ntmps25
  go_wp2
  refine region_held_atC (S := fun X => Hid (Below (W.heap.size + 1) (W.alloc (.cells #[.int .i64 mn, .int .i64 mx, .int .i64 sh, .int .i64 wt] 39)) X)) (by kernel_rfl) (fun w2 hw2 => ?_)
  have SV : Hid (Below (W.heap.size + 1) (W.alloc (.cells #[.int .i64 mn, .int .i64 mx, .int .i64 sh, .int .i64 wt] 39)) w2) := Lib.hid (hw2 ▸ below_dn _ _ _)
  clear hw2
  try simp only [Act.put, List.setIfInBounds_toArray, List.set_cons_succ, List.set_cons_zero]
  refine wpAnyH_takeC (i := 0) (v := .agg #[.int .i64 mn, .int .i64 mx, .int .i64 sh, .int .i64 wt]) (some 3) rfl rfl (by kernel_rfl) (by kernel_rfl) (by kernel_rfl) (fun _ _ _ h => h) (Or.inl ⟨by rfl, ?_⟩) SV ?_
  · intro X hX; have kx := KV.out.below hX.out (by simp); have o0 := kx.cellAt 0; have o1 := kx.cellAt 1; have o2 := kx.cellAt 2; have o3 := kx.cellAt 3; have lX := kx.lt; clear kx; go_simp
  try simp only [Act.put, List.setIfInBounds_toArray, List.set_cons_succ, List.set_cons_zero]
  refine wpAnyH_takeC (i := 1) (v := .agg #[.int .i64 mn, .int .i64 mx, .int .i64 sh, .int .i64 wt]) (some 4) rfl rfl (by kernel_rfl) (by kernel_rfl) (by kernel_rfl) (fun _ _ _ h => h) (Or.inl ⟨by rfl, ?_⟩) SV ?_
  · intro X hX; have kx := KV.out.below hX.out (by simp); have o0 := kx.cellAt 0; have o1 := kx.cellAt 1; have o2 := kx.cellAt 2; have o3 := kx.cellAt 3; have lX := kx.lt; clear kx; go_simp
  try simp only [Act.put, List.setIfInBounds_toArray, List.set_cons_succ, List.set_cons_zero]
  refine wpAnyH_all (rs := [2]) (by kernel_rfl) (by simp) ?_
  intro ii hii
  obtain rfl : ii = 2 := by simpa using hii
  clear hii
  refine wpOp_step rfl (fun K hK => ?_)
  go_simp
  refine (HB.out _).mono ?_
  rintro e w3 ⟨rfl, hb3⟩
  have SX : Hid (Below (W.heap.size + 1) (W.alloc (.cells #[.int .i64 mn, .int .i64 mx, .int .i64 sh, .int .i64 wt] 39)) w3) := Lib.hid (SV.out.trans (hb3.mono (by have := SV.out.size; simpa using this)))
  refine hK _ _ ⟨SX, ?_⟩
  clear hK K hb3 SV
  have SV := SX
  try simp only [Act.put, List.setIfInBounds_toArray, List.set_cons_succ, List.set_cons_zero]
  refine wpAnyH_takeC (i := 3) (v := .bool q) (some 6) rfl rfl (by kernel_rfl) (by kernel_rfl) (by kernel_rfl) (fun _ _ _ h => h) (Or.inl ⟨by rfl, ?_⟩) SV ?_
  · intro X hX; go_simp; rw [← HQ.out]; by_cases e0 : mn = on <;> by_cases e1 : mx = ox <;> by_cases e2 : sh = os <;> by_cases e3 : wt = ot <;> simp [e0, e1, e2, e3]
  try simp only [Act.put, List.setIfInBounds_toArray, List.set_cons_succ, List.set_cons_zero]
  refine wpAnyH_takeC (i := 4) (v := .bool q) (some 2) rfl rfl (by kernel_rfl) (by kernel_rfl) (by kernel_rfl) (fun _ _ _ h => h) (Or.inl ⟨by rfl, ?_⟩) SV ?_
  · intro X hX; go_simp
  refine wpAnyH_done (by kernel_rfl) ?_ _
  go_wp2
  go_ret
  exact ⟨rfl, ((Below.refl _ _).alloc (Nat.le_refl _) _).trans (SV.out.mono (by omega))⟩
set_option maxHeartbeats 400000 in
theorem rightBands_any (sv : Value) (bs : List Ba) (W : World) (hI : RowsK Ba.cells 4 W sv bs) :
    Calls Try.prog 11 #[sv] W fun e W' => e = .returned (.bool (decide (bs.length ≤ 10000) && bs.all baB)) ∧ Below W.heap.size W W' := by
  have eg : ∀ args w, (callFunc 25 args).run Try.prog w = .ok (.enter 25 args) w := enters_of Try.func25 (by kernel_rfl) rfl
  obtain ⟨pp, cc, rfl⟩ := hI.slice
  have hcall : Calls Try.prog 24 #[.slice pp bs.length cc, .func (.func 25) #[] #[]] W fun e W' => e = .returned (.bool (bs.any fun r => !baB r)) ∧ Below W.heap.size W W' := by
    obtain ⟨hm, ⟨a, cap, e, rfl⟩ | ⟨b, off, cap, e, hlt, hc⟩⟩ := hI
    · injection e with e1 e2 e3
      subst e1 e3
      have hN : Calls Try.prog 42 #[.slice pp 0 cc, .func (.func 25) #[] #[]] W (IdxPost false W) := by
        go_enter Try.func42, Try.ntmps42
        go_wp2
        refine wp_loop_rounds 1 ?_
        rw [rounds_succ]
        go_wp2
        go_ret
        exact ⟨-1, rfl, rfl, rfl⟩
      have HC := Lib.hid hN
      clear hN
      go_enter Try.func24, Try.ntmps24
      go_wp2_with fail
      refine HC.out.mono ?_
      rintro e w' ⟨i, rfl, hi, rfl⟩
      have HI := Lib.hid hi
      clear hi
      go_wp2
      go_ret
      refine ⟨?_, Below.refl _ _⟩
      have := HI.out
      first | (rw [this]; rfl) | (simp [this]; done) | (simp; simpa using this)
    · injection e with e1 e2 e3
      subst e1 e3
      have h := AnyQ.slices_ContainsFunc Try.containsB 4 Try.isAgg39 Try.sizeOf39 Ba.cells (fun _ => rfl) (fun r => !baB r) 25 #[] eg b off bs.length cc bs W (fun X r hX => (bwrong_any r X).mono fun _ _ ⟨he, hb⟩ => ⟨he, hX.trans (hb.mono hX.size)⟩) (Nat.le_refl _) hm hlt hc
      rw [List.take_length] at h
      exact h
  rw [any_notK] at hcall
  obtain ⟨b, hb⟩ : ∃ b, bs.all baB = b := ⟨_, rfl⟩
  have hm := hI.1
  obtain ⟨m, hml⟩ : ∃ m, bs.length = m := ⟨_, rfl⟩
  rw [hb, hml] at hcall
  rw [hb, hml]
  rw [hml] at hm
  have HC := Lib.hid hcall
  clear hcall hb hI hml
  by_cases h1 : m ≤ 10000
  · have hd : Hid (decide (m ≤ 10000) = true) := Lib.hid (by simpa using h1)
    go_enter Try.func11, Try.ntmps11
    go_wp2_with fail
    refine HC.out.mono ?_
    rintro e w' ⟨rfl, hb1⟩
    have HB := Lib.hid hb1
    clear hb1
    go_wp2
    go_ret
    exact ⟨by first | (rw [hd.out]; cases b <;> rfl) | (simp [h1]; done) | (cases b <;> simp [h1]), HB.out⟩
  · have hd : Hid (decide (m ≤ 10000) = false) := Lib.hid (by simpa using h1)
    clear HC
    go_enter Try.func11, Try.ntmps11
    go_wp2
    go_ret
    exact ⟨by first | (rw [hd.out]; rfl) | (simp [h1]; done), Below.refl _ _⟩
end Go.Proofs.Ytmljndggblfeiaa
