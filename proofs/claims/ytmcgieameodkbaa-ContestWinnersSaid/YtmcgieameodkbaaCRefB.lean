/- The document's own Wins. Written by mk_CRef2.py. -/
import Derived.Test.YtmcgieameodkbaaCTwo
namespace Go.Proofs.Ytmcgieameodkbaa
open Go.RowKit Go.Shelf Go.Sort
set_option linter.unusedVariables false
set_option linter.unusedSimpArgs false

theorem cmpS_class {a b : Si} (h : clsI a.st ≠ clsI b.st) : decide (cmpS a b < 0) = decide (clsI a.st < clsI b.st) := by
  unfold cmpS rankL
  refine decide_eq_decide.2 ?_
  rw [cmpL_cons]; omega
theorem cmpS_wd {a b : Si} (h : clsI a.st = clsI b.st) (k : a.wd ≠ b.wd) : decide (cmpS a b < 0) = decide (b.wd < a.wd) := by
  unfold cmpS rankL
  refine decide_eq_decide.2 ?_
  rw [cmpL_cons, cmpL_cons]; omega
theorem cmpS_st {a b : Si} (h : clsI a.st = clsI b.st) (k : a.wd = b.wd) (k2 : a.st ≠ b.st) : decide (cmpS a b < 0) = decide (a.st < b.st) := by
  unfold cmpS rankL
  refine decide_eq_decide.2 ?_
  rw [cmpL_cons, cmpL_cons, cmpL_cons]; omega
theorem cmpS_bb {a b : Si} (k : a.wd = b.wd) (k2 : a.st = b.st) (k3 : a.bb ≠ b.bb) : decide (cmpS a b < 0) = decide (a.bb < b.bb) := by
  unfold cmpS rankL
  refine decide_eq_decide.2 ?_
  rw [cmpL_cons, cmpL_cons, cmpL_cons, cmpL_cons, k, k2]; omega
theorem cmpS_ro {a b : Si} (k : a.wd = b.wd) (k2 : a.st = b.st) (k3 : a.bb = b.bb) (k4 : a.ro ≠ b.ro) : decide (cmpS a b < 0) = decide (a.ro < b.ro) := by
  unfold cmpS rankL
  refine decide_eq_decide.2 ?_
  rw [cmpL_cons, cmpL_cons, cmpL_cons, cmpL_cons, cmpL_cons, k, k2, k3]; omega
theorem cmpS_cl {a b : Si} (k : a.wd = b.wd) (k2 : a.st = b.st) (k3 : a.bb = b.bb) (k4 : a.ro = b.ro) (k5 : a.cl ≠ b.cl) : decide (cmpS a b < 0) = decide (a.cl < b.cl) := by
  unfold cmpS rankL
  refine decide_eq_decide.2 ?_
  rw [cmpL_cons, cmpL_cons, cmpL_cons, cmpL_cons, cmpL_cons, cmpL_cons, k, k2, k3, k4]; omega
theorem cmpS_co {a b : Si} (k : a.wd = b.wd) (k2 : a.st = b.st) (k3 : a.bb = b.bb) (k4 : a.ro = b.ro) (k5 : a.cl = b.cl) : decide (cmpS a b < 0) = decide (a.co < b.co) := by
  unfold cmpS rankL
  refine decide_eq_decide.2 ?_
  have e : ¬ (cmpL [] [] < 0) := by simp [cmpL]
  rw [cmpL_cons, cmpL_cons, cmpL_cons, cmpL_cons, cmpL_cons, cmpL_cons, cmpL_cons, k, k2, k3, k4, k5]; omega
set_option maxRecDepth 100000 in
set_option maxHeartbeats 8000000 in
theorem refWins_any (a b : Si) (W : World) :
    Calls Try.prog 15 #[a.val, b.val] W fun e W' => e = .returned (.bool (decide (cmpS a b < 0))) ∧ Below W.heap.size W W' := by
  have p1 := @cmpS_class a b
  have p2 := @cmpS_wd a b
  have p3 := @cmpS_st a b
  have p4 := @cmpS_bb a b
  have p5 := @cmpS_ro a b
  have p6 := @cmpS_cl a b
  have p7 := @cmpS_co a b
  generalize decide (cmpS a b < 0) = q at *
  obtain ⟨st, wd, co, bb, ro, cl⟩ := a
  obtain ⟨st', wd', co', bb', ro', cl'⟩ := b
  unfold Si.val
  dsimp only at *
  by_cases a1 : st = 1
  · subst a1
    by_cases b1 : st' = 1
    · subst b1
      by_cases k1 : wd = wd'
      · subst k1
        by_cases k3 : bb = bb'
        · subst k3
          by_cases k4 : ro = ro'
          · subst k4
            by_cases k5 : cl = cl'
            · subst k5
              have HV := Lib.hid (p7 rfl rfl rfl rfl rfl)
              clear p1 p2 p3 p4 p5 p6 p7
              go_enter Try.func15, Try.ntmps15
              go_wp2
              go_ret
              exact ⟨by first | (rw [HV.out] <;> first | rfl | (simp; done) | (simp; omega)), (((Below.refl _ _).alloc (Nat.le_refl _) _).alloc (by simp) _)⟩
            · have n5 : (cl == cl') = false := by simpa using k5
              have HV := Lib.hid (p6 rfl rfl rfl rfl k5)
              clear p1 p2 p3 p4 p5 p6 p7
              go_enter Try.func15, Try.ntmps15
              go_wp2
              go_ret
              exact ⟨by first | (rw [HV.out] <;> first | rfl | (simp; done) | (simp; omega)), (((Below.refl _ _).alloc (Nat.le_refl _) _).alloc (by simp) _)⟩
          · have n4 : (ro == ro') = false := by simpa using k4
            have HV := Lib.hid (p5 rfl rfl rfl k4)
            clear p1 p2 p3 p4 p5 p6 p7
            go_enter Try.func15, Try.ntmps15
            go_wp2
            go_ret
            exact ⟨by first | (rw [HV.out] <;> first | rfl | (simp; done) | (simp; omega)), (((Below.refl _ _).alloc (Nat.le_refl _) _).alloc (by simp) _)⟩
        · have n3 : (bb == bb') = false := by simpa using k3
          have HV := Lib.hid (p4 rfl rfl k3)
          clear p1 p2 p3 p4 p5 p6 p7
          go_enter Try.func15, Try.ntmps15
          go_wp2
          go_ret
          exact ⟨by first | (rw [HV.out] <;> first | rfl | (simp; done) | (simp; omega)), (((Below.refl _ _).alloc (Nat.le_refl _) _).alloc (by simp) _)⟩
      · have n1 : (wd == wd') = false := by simpa using k1
        have HV := Lib.hid (p2 rfl k1)
        clear p1 p2 p3 p4 p5 p6 p7
        go_enter Try.func15, Try.ntmps15
        go_wp2
        go_ret
        exact ⟨by first | (rw [HV.out] <;> first | rfl | (simp; done) | (simp; omega)), (((Below.refl _ _).alloc (Nat.le_refl _) _).alloc (by simp) _)⟩
    · have c1 : (st' == 1) = false := by simpa using b1
      have hx : clsI st' = 2 ∨ clsI st' = 1 := by unfold clsI; rw [if_neg b1]; split <;> simp
      have hc : clsI 1 ≠ clsI st' := by rw [show clsI 1 = 0 from rfl]; omega
      have hd : decide (clsI 1 < clsI st') = true := by rw [show clsI 1 = 0 from rfl]; simp; omega
      clear hx
      have HV := Lib.hid ((p1 hc).trans hd)
      clear p1 p2 p3 p4 p5 p6 p7
      go_enter Try.func15, Try.ntmps15
      go_wp2
      go_ret
      exact ⟨by first | (rw [HV.out] <;> first | rfl | (simp; done) | (simp; omega)), (((Below.refl _ _).alloc (Nat.le_refl _) _).alloc (by simp) _)⟩
  · have d1 : (st == 1) = false := by simpa using a1
    by_cases b1 : st' = 1
    · subst b1
      have hx : clsI st = 2 ∨ clsI st = 1 := by unfold clsI; rw [if_neg a1]; split <;> simp
      have hc : clsI st ≠ clsI 1 := by rw [show clsI 1 = 0 from rfl]; omega
      have hd : decide (clsI st < clsI 1) = false := by rw [show clsI 1 = 0 from rfl]; simp; omega
      clear hx
      have HV := Lib.hid ((p1 hc).trans hd)
      clear p1 p2 p3 p4 p5 p6 p7
      go_enter Try.func15, Try.ntmps15
      go_wp2
      go_ret
      exact ⟨by first | (rw [HV.out] <;> first | rfl | (simp; done) | (simp; omega)), (((Below.refl _ _).alloc (Nat.le_refl _) _).alloc (by simp) _)⟩
    · have c1 : (st' == 1) = false := by simpa using b1
      by_cases a0 : st = 0
      · subst a0
        by_cases b0 : st' = 0
        · subst b0
          by_cases k1 : wd = wd'
          · subst k1
            by_cases k3 : bb = bb'
            · subst k3
              by_cases k4 : ro = ro'
              · subst k4
                by_cases k5 : cl = cl'
                · subst k5
                  have HV := Lib.hid (p7 rfl rfl rfl rfl rfl)
                  clear p1 p2 p3 p4 p5 p6 p7
                  go_enter Try.func15, Try.ntmps15
                  go_wp2
                  go_ret
                  exact ⟨by first | (rw [HV.out] <;> first | rfl | (simp; done) | (simp; omega)), (((Below.refl _ _).alloc (Nat.le_refl _) _).alloc (by simp) _)⟩
                · have n5 : (cl == cl') = false := by simpa using k5
                  have HV := Lib.hid (p6 rfl rfl rfl rfl k5)
                  clear p1 p2 p3 p4 p5 p6 p7
                  go_enter Try.func15, Try.ntmps15
                  go_wp2
                  go_ret
                  exact ⟨by first | (rw [HV.out] <;> first | rfl | (simp; done) | (simp; omega)), (((Below.refl _ _).alloc (Nat.le_refl _) _).alloc (by simp) _)⟩
              · have n4 : (ro == ro') = false := by simpa using k4
                have HV := Lib.hid (p5 rfl rfl rfl k4)
                clear p1 p2 p3 p4 p5 p6 p7
                go_enter Try.func15, Try.ntmps15
                go_wp2
                go_ret
                exact ⟨by first | (rw [HV.out] <;> first | rfl | (simp; done) | (simp; omega)), (((Below.refl _ _).alloc (Nat.le_refl _) _).alloc (by simp) _)⟩
            · have n3 : (bb == bb') = false := by simpa using k3
              have HV := Lib.hid (p4 rfl rfl k3)
              clear p1 p2 p3 p4 p5 p6 p7
              go_enter Try.func15, Try.ntmps15
              go_wp2
              go_ret
              exact ⟨by first | (rw [HV.out] <;> first | rfl | (simp; done) | (simp; omega)), (((Below.refl _ _).alloc (Nat.le_refl _) _).alloc (by simp) _)⟩
          · have n1 : (wd == wd') = false := by simpa using k1
            have HV := Lib.hid (p2 rfl k1)
            clear p1 p2 p3 p4 p5 p6 p7
            go_enter Try.func15, Try.ntmps15
            go_wp2
            go_ret
            exact ⟨by first | (rw [HV.out] <;> first | rfl | (simp; done) | (simp; omega)), (((Below.refl _ _).alloc (Nat.le_refl _) _).alloc (by simp) _)⟩
        · have c0 : (st' == 0) = false := by simpa using b0
          have hv : clsI st' = 1 := by unfold clsI; rw [if_neg b1, if_neg b0]
          have hc : clsI 0 ≠ clsI st' := by rw [hv]; decide
          have hd : decide (clsI 0 < clsI st') = false := by rw [hv]; decide
          clear hv
          have HV := Lib.hid ((p1 hc).trans hd)
          clear p1 p2 p3 p4 p5 p6 p7
          go_enter Try.func15, Try.ntmps15
          go_wp2
          go_ret
          exact ⟨by first | (rw [HV.out] <;> first | rfl | (simp; done) | (simp; omega)), (((Below.refl _ _).alloc (Nat.le_refl _) _).alloc (by simp) _)⟩
      · have d0 : (st == 0) = false := by simpa using a0
        have hv : clsI st = 1 := by unfold clsI; rw [if_neg a1, if_neg a0]
        by_cases b0 : st' = 0
        · subst b0
          have hc : clsI st ≠ clsI 0 := by rw [hv]; decide
          have hd : decide (clsI st < clsI 0) = true := by rw [hv]; decide
          clear hv
          have HV := Lib.hid ((p1 hc).trans hd)
          clear p1 p2 p3 p4 p5 p6 p7
          go_enter Try.func15, Try.ntmps15
          go_wp2
          go_ret
          exact ⟨by first | (rw [HV.out] <;> first | rfl | (simp; done) | (simp; omega)), (((Below.refl _ _).alloc (Nat.le_refl _) _).alloc (by simp) _)⟩
        · have c0 : (st' == 0) = false := by simpa using b0
          have hv' : clsI st' = 1 := by unfold clsI; rw [if_neg b1, if_neg b0]
          have hcc : clsI st = clsI st' := hv.trans hv'.symm
          clear hv hv'
          by_cases k1 : wd = wd'
          · subst k1
            by_cases k2 : st = st'
            · subst k2
              by_cases k3 : bb = bb'
              · subst k3
                by_cases k4 : ro = ro'
                · subst k4
                  by_cases k5 : cl = cl'
                  · subst k5
                    have HV := Lib.hid (p7 rfl rfl rfl rfl rfl)
                    clear p1 p2 p3 p4 p5 p6 p7
                    go_enter Try.func15, Try.ntmps15
                    go_wp2
                    go_ret
                    exact ⟨by first | (rw [HV.out] <;> first | rfl | (simp; done) | (simp; omega)), (((Below.refl _ _).alloc (Nat.le_refl _) _).alloc (by simp) _)⟩
                  · have n5 : (cl == cl') = false := by simpa using k5
                    have HV := Lib.hid (p6 rfl rfl rfl rfl k5)
                    clear p1 p2 p3 p4 p5 p6 p7
                    go_enter Try.func15, Try.ntmps15
                    go_wp2
                    go_ret
                    exact ⟨by first | (rw [HV.out] <;> first | rfl | (simp; done) | (simp; omega)), (((Below.refl _ _).alloc (Nat.le_refl _) _).alloc (by simp) _)⟩
                · have n4 : (ro == ro') = false := by simpa using k4
                  have HV := Lib.hid (p5 rfl rfl rfl k4)
                  clear p1 p2 p3 p4 p5 p6 p7
                  go_enter Try.func15, Try.ntmps15
                  go_wp2
                  go_ret
                  exact ⟨by first | (rw [HV.out] <;> first | rfl | (simp; done) | (simp; omega)), (((Below.refl _ _).alloc (Nat.le_refl _) _).alloc (by simp) _)⟩
              · have n3 : (bb == bb') = false := by simpa using k3
                have HV := Lib.hid (p4 rfl rfl k3)
                clear p1 p2 p3 p4 p5 p6 p7
                go_enter Try.func15, Try.ntmps15
                go_wp2
                go_ret
                exact ⟨by first | (rw [HV.out] <;> first | rfl | (simp; done) | (simp; omega)), (((Below.refl _ _).alloc (Nat.le_refl _) _).alloc (by simp) _)⟩
            · have n2 : (st == st') = false := by simpa using k2
              have HV := Lib.hid (p3 hcc rfl k2)
              clear p1 p2 p3 p4 p5 p6 p7
              go_enter Try.func15, Try.ntmps15
              go_wp2
              go_ret
              exact ⟨by first | (rw [HV.out] <;> first | rfl | (simp; done) | (simp; omega)), (((Below.refl _ _).alloc (Nat.le_refl _) _).alloc (by simp) _)⟩
          · have n1 : (wd == wd') = false := by simpa using k1
            have HV := Lib.hid (p2 hcc k1)
            clear p1 p2 p3 p4 p5 p6 p7
            go_enter Try.func15, Try.ntmps15
            go_wp2
            go_ret
            exact ⟨by first | (rw [HV.out] <;> first | rfl | (simp; done) | (simp; omega)), (((Below.refl _ _).alloc (Nat.le_refl _) _).alloc (by simp) _)⟩
end Go.Proofs.Ytmcgieameodkbaa
