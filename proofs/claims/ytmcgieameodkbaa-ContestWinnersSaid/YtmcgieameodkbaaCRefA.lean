/- The document's own Right. Written by mk_CRef2.py. -/
import Derived.Test.YtmcgieameodkbaaCTwo
namespace Go.Proofs.Ytmcgieameodkbaa
open Go.RowKit Go.Shelf Go.Sort
set_option linter.unusedVariables false
set_option linter.unusedSimpArgs false

set_option maxHeartbeats 4000000 in
theorem refRight_any (s : Si) (W : World) :
    Calls Try.prog 13 #[s.val] W fun e W' => e = .returned (.bool (rightS s)) ∧ Below W.heap.size W W' := by
  obtain ⟨st, wd, co, bb, ro, cl⟩ := s
  have hiff := rightS_iff ⟨st, wd, co, bb, ro, cl⟩
  dsimp only at hiff
  obtain ⟨mo, hmo⟩ : ∃ mo, mostW st = mo := ⟨_, rfl⟩
  rw [hmo] at hiff
  have hm : (0 ≤ st → st ≤ 1 → mo = 0) ∧ (1 < st → mo = 1073741824) ∧ mo ≤ 1073741824 ∧ 0 ≤ mo := by
    rw [← hmo]; unfold mostW
    refine ⟨fun h1 h2 => ?_, fun h1 => ?_, ?_, ?_⟩ <;> (split <;> (try split) <;> omega)
  obtain ⟨m1, m2, m3, m4⟩ := hm
  clear hmo
  unfold Si.val
  dsimp only
  by_cases k1 : st < 0
  · skip
    have HB : Hid (rightS ⟨st, wd, co, bb, ro, cl⟩ = false) := Lib.hid (by
      cases hq : rightS ⟨st, wd, co, bb, ro, cl⟩ with
      | false => rfl
      | true => have h := hiff.1 hq; omega)
    clear hiff m1 m2 m3 m4
    go_enter Try.func13, Try.ntmps13
    go_wp2
    go_ret
    exact ⟨by rw [HB.out]; first | rfl | (simp; done) | (simp; omega), (((Below.refl _ _).alloc (Nat.le_refl _) _).alloc (by simp) _)⟩
  · skip
    by_cases k2 : 9 < st
    · skip
      have HB : Hid (rightS ⟨st, wd, co, bb, ro, cl⟩ = false) := Lib.hid (by
        cases hq : rightS ⟨st, wd, co, bb, ro, cl⟩ with
        | false => rfl
        | true => have h := hiff.1 hq; omega)
      clear hiff m1 m2 m3 m4
      go_enter Try.func13, Try.ntmps13
      go_wp2
      go_ret
      exact ⟨by rw [HB.out]; first | rfl | (simp; done) | (simp; omega), (((Below.refl _ _).alloc (Nat.le_refl _) _).alloc (by simp) _)⟩
    · skip
      by_cases k3 : wd < 0
      · skip
        have HB : Hid (rightS ⟨st, wd, co, bb, ro, cl⟩ = false) := Lib.hid (by
          cases hq : rightS ⟨st, wd, co, bb, ro, cl⟩ with
          | false => rfl
          | true => have h := hiff.1 hq; omega)
        clear hiff m1 m2 m3 m4
        go_enter Try.func13, Try.ntmps13
        go_wp2
        go_ret
        exact ⟨by rw [HB.out]; first | rfl | (simp; done) | (simp; omega), (((Below.refl _ _).alloc (Nat.le_refl _) _).alloc (by simp) _)⟩
      · skip
        by_cases k4 : 1073741824 < wd
        · skip
          have HB : Hid (rightS ⟨st, wd, co, bb, ro, cl⟩ = false) := Lib.hid (by
            cases hq : rightS ⟨st, wd, co, bb, ro, cl⟩ with
            | false => rfl
            | true => have h := hiff.1 hq; omega)
          clear hiff m1 m2 m3 m4
          go_enter Try.func13, Try.ntmps13
          go_wp2
          go_ret
          exact ⟨by rw [HB.out]; first | rfl | (simp; done) | (simp; omega), (((Below.refl _ _).alloc (Nat.le_refl _) _).alloc (by simp) _)⟩
        · skip
          by_cases k5 : st ≤ 1
          · by_cases k6 : wd = 0
            · subst k6
              by_cases kb : bb < 0
              · skip
                have HB : Hid (rightS ⟨st, 0, co, bb, ro, cl⟩ = false) := Lib.hid (by
                  cases hq : rightS ⟨st, 0, co, bb, ro, cl⟩ with
                  | false => rfl
                  | true => have h := hiff.1 hq; omega)
                clear hiff m1 m2 m3 m4
                go_enter Try.func13, Try.ntmps13
                go_wp2
                go_ret
                exact ⟨by rw [HB.out]; first | rfl | (simp; done) | (simp; omega), (((Below.refl _ _).alloc (Nat.le_refl _) _).alloc (by simp) _)⟩
              · skip
                by_cases kb2 : 5 < bb
                · skip
                  have HB : Hid (rightS ⟨st, 0, co, bb, ro, cl⟩ = false) := Lib.hid (by
                    cases hq : rightS ⟨st, 0, co, bb, ro, cl⟩ with
                    | false => rfl
                    | true => have h := hiff.1 hq; omega)
                  clear hiff m1 m2 m3 m4
                  go_enter Try.func13, Try.ntmps13
                  go_wp2
                  go_ret
                  exact ⟨by rw [HB.out]; first | rfl | (simp; done) | (simp; omega), (((Below.refl _ _).alloc (Nat.le_refl _) _).alloc (by simp) _)⟩
                · skip
                  by_cases kr : ro < 0
                  · skip
                    have HB : Hid (rightS ⟨st, 0, co, bb, ro, cl⟩ = false) := Lib.hid (by
                      cases hq : rightS ⟨st, 0, co, bb, ro, cl⟩ with
                      | false => rfl
                      | true => have h := hiff.1 hq; omega)
                    clear hiff m1 m2 m3 m4
                    go_enter Try.func13, Try.ntmps13
                    go_wp2
                    go_ret
                    exact ⟨by rw [HB.out]; first | rfl | (simp; done) | (simp; omega), (((Below.refl _ _).alloc (Nat.le_refl _) _).alloc (by simp) _)⟩
                  · skip
                    by_cases kr2 : 1000000 < ro
                    · skip
                      have HB : Hid (rightS ⟨st, 0, co, bb, ro, cl⟩ = false) := Lib.hid (by
                        cases hq : rightS ⟨st, 0, co, bb, ro, cl⟩ with
                        | false => rfl
                        | true => have h := hiff.1 hq; omega)
                      clear hiff m1 m2 m3 m4
                      go_enter Try.func13, Try.ntmps13
                      go_wp2
                      go_ret
                      exact ⟨by rw [HB.out]; first | rfl | (simp; done) | (simp; omega), (((Below.refl _ _).alloc (Nat.le_refl _) _).alloc (by simp) _)⟩
                    · skip
                      by_cases kc : cl < 0
                      · skip
                        have HB : Hid (rightS ⟨st, 0, co, bb, ro, cl⟩ = false) := Lib.hid (by
                          cases hq : rightS ⟨st, 0, co, bb, ro, cl⟩ with
                          | false => rfl
                          | true => have h := hiff.1 hq; omega)
                        clear hiff m1 m2 m3 m4
                        go_enter Try.func13, Try.ntmps13
                        go_wp2
                        go_ret
                        exact ⟨by rw [HB.out]; first | rfl | (simp; done) | (simp; omega), (((Below.refl _ _).alloc (Nat.le_refl _) _).alloc (by simp) _)⟩
                      · skip
                        by_cases kc2 : 1000000 < cl
                        · skip
                          have HB : Hid (rightS ⟨st, 0, co, bb, ro, cl⟩ = false) := Lib.hid (by
                            cases hq : rightS ⟨st, 0, co, bb, ro, cl⟩ with
                            | false => rfl
                            | true => have h := hiff.1 hq; omega)
                          clear hiff m1 m2 m3 m4
                          go_enter Try.func13, Try.ntmps13
                          go_wp2
                          go_ret
                          exact ⟨by rw [HB.out]; first | rfl | (simp; done) | (simp; omega), (((Below.refl _ _).alloc (Nat.le_refl _) _).alloc (by simp) _)⟩
                        · skip
                          have HB : Hid (rightS ⟨st, 0, co, bb, ro, cl⟩ = true) := Lib.hid (hiff.2 (by have := m1; have := m2; omega))
                          clear hiff m1 m2 m3 m4
                          go_enter Try.func13, Try.ntmps13
                          go_wp2
                          go_ret
                          exact ⟨by rw [HB.out]; first | rfl | (simp; done) | (simp; omega), (((Below.refl _ _).alloc (Nat.le_refl _) _).alloc (by simp) _)⟩
            · have k7 : (wd != 0) = true := by simpa using k6
              have HB : Hid (rightS ⟨st, wd, co, bb, ro, cl⟩ = false) := Lib.hid (by
                cases hq : rightS ⟨st, wd, co, bb, ro, cl⟩ with
                | false => rfl
                | true => have h := hiff.1 hq; omega)
              clear hiff m1 m2 m3 m4
              go_enter Try.func13, Try.ntmps13
              go_wp2
              go_ret
              exact ⟨by rw [HB.out]; first | rfl | (simp; done) | (simp; omega), (((Below.refl _ _).alloc (Nat.le_refl _) _).alloc (by simp) _)⟩
          · have k8 : 1 < st := by omega
            by_cases kb : bb < 0
            · skip
              have HB : Hid (rightS ⟨st, wd, co, bb, ro, cl⟩ = false) := Lib.hid (by
                cases hq : rightS ⟨st, wd, co, bb, ro, cl⟩ with
                | false => rfl
                | true => have h := hiff.1 hq; omega)
              clear hiff m1 m2 m3 m4
              go_enter Try.func13, Try.ntmps13
              go_wp2
              go_ret
              exact ⟨by rw [HB.out]; first | rfl | (simp; done) | (simp; omega), (((Below.refl _ _).alloc (Nat.le_refl _) _).alloc (by simp) _)⟩
            · skip
              by_cases kb2 : 5 < bb
              · skip
                have HB : Hid (rightS ⟨st, wd, co, bb, ro, cl⟩ = false) := Lib.hid (by
                  cases hq : rightS ⟨st, wd, co, bb, ro, cl⟩ with
                  | false => rfl
                  | true => have h := hiff.1 hq; omega)
                clear hiff m1 m2 m3 m4
                go_enter Try.func13, Try.ntmps13
                go_wp2
                go_ret
                exact ⟨by rw [HB.out]; first | rfl | (simp; done) | (simp; omega), (((Below.refl _ _).alloc (Nat.le_refl _) _).alloc (by simp) _)⟩
              · skip
                by_cases kr : ro < 0
                · skip
                  have HB : Hid (rightS ⟨st, wd, co, bb, ro, cl⟩ = false) := Lib.hid (by
                    cases hq : rightS ⟨st, wd, co, bb, ro, cl⟩ with
                    | false => rfl
                    | true => have h := hiff.1 hq; omega)
                  clear hiff m1 m2 m3 m4
                  go_enter Try.func13, Try.ntmps13
                  go_wp2
                  go_ret
                  exact ⟨by rw [HB.out]; first | rfl | (simp; done) | (simp; omega), (((Below.refl _ _).alloc (Nat.le_refl _) _).alloc (by simp) _)⟩
                · skip
                  by_cases kr2 : 1000000 < ro
                  · skip
                    have HB : Hid (rightS ⟨st, wd, co, bb, ro, cl⟩ = false) := Lib.hid (by
                      cases hq : rightS ⟨st, wd, co, bb, ro, cl⟩ with
                      | false => rfl
                      | true => have h := hiff.1 hq; omega)
                    clear hiff m1 m2 m3 m4
                    go_enter Try.func13, Try.ntmps13
                    go_wp2
                    go_ret
                    exact ⟨by rw [HB.out]; first | rfl | (simp; done) | (simp; omega), (((Below.refl _ _).alloc (Nat.le_refl _) _).alloc (by simp) _)⟩
                  · skip
                    by_cases kc : cl < 0
                    · skip
                      have HB : Hid (rightS ⟨st, wd, co, bb, ro, cl⟩ = false) := Lib.hid (by
                        cases hq : rightS ⟨st, wd, co, bb, ro, cl⟩ with
                        | false => rfl
                        | true => have h := hiff.1 hq; omega)
                      clear hiff m1 m2 m3 m4
                      go_enter Try.func13, Try.ntmps13
                      go_wp2
                      go_ret
                      exact ⟨by rw [HB.out]; first | rfl | (simp; done) | (simp; omega), (((Below.refl _ _).alloc (Nat.le_refl _) _).alloc (by simp) _)⟩
                    · skip
                      by_cases kc2 : 1000000 < cl
                      · skip
                        have HB : Hid (rightS ⟨st, wd, co, bb, ro, cl⟩ = false) := Lib.hid (by
                          cases hq : rightS ⟨st, wd, co, bb, ro, cl⟩ with
                          | false => rfl
                          | true => have h := hiff.1 hq; omega)
                        clear hiff m1 m2 m3 m4
                        go_enter Try.func13, Try.ntmps13
                        go_wp2
                        go_ret
                        exact ⟨by rw [HB.out]; first | rfl | (simp; done) | (simp; omega), (((Below.refl _ _).alloc (Nat.le_refl _) _).alloc (by simp) _)⟩
                      · skip
                        have HB : Hid (rightS ⟨st, wd, co, bb, ro, cl⟩ = true) := Lib.hid (hiff.2 (by have := m1; have := m2; omega))
                        clear hiff m1 m2 m3 m4
                        go_enter Try.func13, Try.ntmps13
                        go_wp2
                        go_ret
                        exact ⟨by rw [HB.out]; first | rfl | (simp; done) | (simp; omega), (((Below.refl _ _).alloc (Nat.le_refl _) _).alloc (by simp) _)⟩

end Go.Proofs.Ytmcgieameodkbaa
