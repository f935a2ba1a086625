/- Contracts of columns.computed, allComputed, rightNeed, and the closures that Right and chosen go by. -/
import Derived.Test.YtejbngjeleiacaaKMem
import Derived.Test.YtejbngjeleiacaaShelf
namespace Go.Proofs.Ytejbngjeleiacaa
open Go.RowKit Go.Shelf
set_option linter.unusedVariables false
set_option linter.unusedSimpArgs false

set_option maxHeartbeats 1000000 in
theorem comp_any (s : Sz) (W : World) :
    Calls Try.prog 79 #[s.val] W fun e W' => e = .returned (.bool (szB s)) ∧ Below W.heap.size W W' := by
  obtain ⟨k, n⟩ := s
  obtain ⟨q, hq⟩ : ∃ q, [n].any (outB 0 1073741824) = q := ⟨_, rfl⟩
  have HV := Lib.hid (fun sv X hI => hq ▸ within_any 0 1073741824 sv [n] X hI)
  have hqi : (!q) = (decide (0 ≤ n) && decide (n ≤ 1073741824)) := by rw [← hq]; exact within_one 0 1073741824 n
  obtain ⟨b, hb⟩ : ∃ b, szB ⟨k, n⟩ = b := ⟨_, rfl⟩
  have hcase : (k = 0 ∧ 0 < n ∧ Hid (b = false)) ∨ (k = 0 ∧ ¬ 0 < n ∧ ¬ 10000000 < n ∧ Hid (b = !q)) ∨ (k = 2 ∧ 10000000 < n ∧ Hid (b = false)) ∨ (k = 2 ∧ ¬ 10000000 < n ∧ Hid (b = !q)) ∨ (k = 1 ∧ Hid (b = !q)) ∨ ((k == 0) = false ∧ (k == 1) = false ∧ (k == 2) = false ∧ Hid (b = false)) := by
    rw [hqi, ← hb]
    by_cases h0 : k = 0
    · subst h0
      by_cases h : 0 < n
      · exact .inl ⟨rfl, h, Lib.hid (by simp [szB, mostS]; omega)⟩
      · exact .inr (.inl ⟨rfl, h, by omega, Lib.hid (by rw [Bool.eq_iff_iff]; simp [szB, mostS]; omega)⟩)
    · by_cases h2 : k = 2
      · subst h2
        by_cases h : 10000000 < n
        · exact .inr (.inr (.inl ⟨rfl, h, Lib.hid (by simp [szB, mostS]; omega)⟩))
        · exact .inr (.inr (.inr (.inl ⟨rfl, h, Lib.hid (by rw [Bool.eq_iff_iff]; simp [szB, mostS]; omega)⟩)))
      · by_cases h1 : k = 1
        · subst h1
          exact .inr (.inr (.inr (.inr (.inl ⟨rfl, Lib.hid (by rw [Bool.eq_iff_iff]; simp [szB, mostS])⟩))))
        · refine .inr (.inr (.inr (.inr (.inr ⟨by simpa using h0, by simpa using h1, by simpa using h2, Lib.hid ?_⟩))))
          simp [szB, mostS, h0, h1, h2]; omega
  unfold Sz.val
  dsimp only
  rw [hb]
  clear hb hqi hq
  rcases hcase with ⟨rfl, h1, HB⟩ | ⟨rfl, h1, h2, HB⟩ | ⟨rfl, h1, HB⟩ | ⟨rfl, h1, HB⟩ | ⟨rfl, HB⟩ | ⟨h0, h1, h2, HB⟩
  · clear HV
    go_enter Try.func79, Try.ntmps79
    go_wp2
    go_ret
    exact ⟨by rw [HB.out]; rfl, (Below.refl _ _).alloc (Nat.le_refl _) _⟩
  · go_enter Try.func79, Try.ntmps79
    go_wp2_with fail
    refine (HV.out _ _ (Ints.whole (t := 2) (whole_new _ _ _ _ (by simp)) rfl (by simp))).mono ?_
    rintro e w2 ⟨rfl, hb2⟩
    have HB2 := Lib.hid hb2
    clear hb2
    go_wp2
    go_ret
    exact ⟨by rw [HB.out]; rfl, (((Below.refl _ _).alloc (Nat.le_refl _) _).alloc (by simp) _).trans (HB2.out.mono (by simp <;> omega))⟩
  · clear HV
    go_enter Try.func79, Try.ntmps79
    go_wp2
    go_ret
    exact ⟨by rw [HB.out]; rfl, (Below.refl _ _).alloc (Nat.le_refl _) _⟩
  · go_enter Try.func79, Try.ntmps79
    go_wp2_with fail
    refine (HV.out _ _ (Ints.whole (t := 2) (whole_new _ _ _ _ (by simp)) rfl (by simp))).mono ?_
    rintro e w2 ⟨rfl, hb2⟩
    have HB2 := Lib.hid hb2
    clear hb2
    go_wp2
    go_ret
    exact ⟨by rw [HB.out]; rfl, (((Below.refl _ _).alloc (Nat.le_refl _) _).alloc (by simp) _).trans (HB2.out.mono (by simp <;> omega))⟩
  · go_enter Try.func79, Try.ntmps79
    go_wp2_with fail
    refine (HV.out _ _ (Ints.whole (t := 2) (whole_new _ _ _ _ (by simp)) rfl (by simp))).mono ?_
    rintro e w2 ⟨rfl, hb2⟩
    have HB2 := Lib.hid hb2
    clear hb2
    go_wp2
    go_ret
    exact ⟨by rw [HB.out]; rfl, (((Below.refl _ _).alloc (Nat.le_refl _) _).alloc (by simp) _).trans (HB2.out.mono (by simp <;> omega))⟩
  · clear HV
    go_enter Try.func79, Try.ntmps79
    go_wp2
    go_ret
    exact ⟨by rw [HB.out]; rfl, (Below.refl _ _).alloc (Nat.le_refl _) _⟩
set_option maxHeartbeats 400000 in
theorem wrongS_any (s : Sz) (W : World) :
    Calls Try.prog 78 #[s.val] W fun e W' => e = .returned (.bool (!szB s)) ∧ Below W.heap.size W W' := by
  have HR := Lib.hid (fun X => comp_any s X)
  obtain ⟨b, hb⟩ : ∃ b, szB s = b := ⟨_, rfl⟩
  rw [hb] at HR ⊢
  clear hb
  unfold Sz.val at *
  go_enter Try.func78, Try.ntmps78
  go_wp2_with fail
  refine (HR.out _).mono ?_
  rintro e w' ⟨rfl, hb1⟩
  have HB := Lib.hid hb1
  clear hb1
  go_wp2
  go_ret
  exact ⟨by first | rfl | (simp; done), ((Below.refl _ _).alloc (Nat.le_refl _) _).trans (HB.out.mono (by simp))⟩
theorem any_notK {α : Type} (p : α → Bool) (zs : List α) : (zs.any fun r => !p r) = !(zs.all p) := by
  induction zs with
  | nil => rfl
  | cons a l ih => rw [List.any_cons, List.all_cons, ih]; cases p a <;> rfl
set_option maxHeartbeats 400000 in
theorem allComp_any (sv : Value) (zs : List Sz) (W : World) (hI : RowsK Sz.cells 2 W sv zs) :
    Calls Try.prog 57 #[sv] W fun e W' => e = .returned (.bool (zs.all szB)) ∧ Below W.heap.size W W' := by
  have eg : ∀ args w, (callFunc 78 args).run Try.prog w = .ok (.enter 78 args) w := enters_of Try.func78 (by kernel_rfl) rfl
  have hcall : Calls Try.prog 77 #[sv, .func (.func 78) #[] #[]] W fun e W' => e = .returned (.bool (zs.any fun r => !szB r)) ∧ Below W.heap.size W W' := by
    obtain ⟨hm, ⟨a, cap, rfl, rfl⟩ | ⟨b, off, cap, rfl, hlt, hc⟩⟩ := hI
    · have hN : Calls Try.prog 94 #[.slice a 0 cap, .func (.func 78) #[] #[]] W (IdxPost false W) := by
        go_enter Try.func94, Try.ntmps94
        go_wp2
        refine wp_loop_rounds 1 ?_
        rw [rounds_succ]
        go_wp2
        go_ret
        exact ⟨-1, rfl, rfl, rfl⟩
      have HC := Lib.hid hN
      clear hN
      go_enter Try.func77, Try.ntmps77
      go_wp2_with fail
      refine HC.out.mono ?_
      rintro e w' ⟨i, rfl, hi, rfl⟩
      have HI := Lib.hid hi
      clear hi
      go_wp2
      go_ret
      refine ⟨?_, Below.refl _ _⟩
      have := HI.out
      first | (rw [this]; rfl) | (simp [this]; done) | (simp; simpa using this)
    · have h := AnyQ.slices_ContainsFunc Try.containsZ 2 Try.isAgg39 Try.sizeOf39 Sz.cells (fun _ => rfl) (fun r => !szB r) 78 #[] eg b off zs.length cap zs W (fun X r hX => (wrongS_any r X).mono fun _ _ ⟨he, hb⟩ => ⟨he, hX.trans (hb.mono hX.size)⟩) (Nat.le_refl _) hm hlt hc
      rw [List.take_length] at h
      exact h
  rw [any_notK] at hcall
  obtain ⟨b, hb⟩ : ∃ b, zs.all szB = b := ⟨_, rfl⟩
  rw [hb] at hcall ⊢
  have HC := Lib.hid hcall
  clear hcall hb
  go_enter Try.func57, Try.ntmps57
  go_wp2_with fail
  refine HC.out.mono ?_
  rintro e w' ⟨rfl, hb1⟩
  have HB := Lib.hid hb1
  clear hb1
  go_wp2
  go_ret
  exact ⟨by cases b <;> rfl, HB.out⟩
end Go.Proofs.Ytejbngjeleiacaa
