/- Claims appended to an own list. Written by mk_CoEd.py. -/
import Derived.Test.YtceippgkmoijdaaCoRw
import Derived.Maps.AppendAt
import Derived.Lib.AppendZeros
namespace Go.Proofs.Ytceippgkmoijdaa
open Go.RowKit Go.Shelf Go.Maps
set_option linter.unusedVariables false
set_option linter.unusedSimpArgs false
attribute [local go_sem] Oper.semAt_some

theorem own_rowsCl {X : World} {base k : Nat} {v : Value} {ys : List Cl} (h : X.ownsRow base 108 7 v k (ys.flatMap Cl.cells)) (hk : ys.length = k) (hm : k ≤ 9223372036854775807) : RowsK Cl.cells 7 X v ys := by
  subst hk
  refine ⟨hm, ?_⟩
  rcases h.2 with ⟨rfl, h0⟩ | ⟨g, cap, cur, rfl, hb, hg, hnc, hcm, hcs, htk⟩
  · exact .inl ⟨none, 0, rfl, List.length_eq_zero_iff.1 h0⟩
  · refine .inr ⟨g, 0, cap, rfl, (Array.getElem?_eq_some_iff.1 hg).1, fun j hj i v hv => ?_⟩
    have hi : i < 7 := (List.getElem?_eq_some_iff.1 hv).1
    have hf := flat_getK Cl.cells 7 Cl.cells_len ys j i hi hj
    rw [← htk, List.getElem?_take_of_lt (by have := Nat.mul_le_mul_right 7 (show j + 1 ≤ ys.length by omega); omega)] at hf
    rw [show 0 + j * 7 + i = j * 7 + i by omega]
    simp [World.cell?, hg]
    rw [← hv, ← hf]; simp
/-- stretches appended to a list of its own -/
theorem run_appCl (W : World) (B : Nat) (v : Value) (n : Nat) (ys zs : List Cl) (hown : W.ownsRow B 108 7 v n (ys.flatMap Cl.cells)) (p : Option Addr) (m c : Nat) (hz : RowsK Cl.cells 7 W (.slice p m c) zs) (hn : n ≤ 1000000) (hm : m ≤ 1000000) (hB : B ≤ W.heap.size) :
    ∃ v' w', (Builtin.append_ #[87, 87] 87 #[v, .slice p m c]).run Try.prog W = .ok v' w' ∧ w'.ownsRow B 108 7 v' (n + m) ((ys ++ zs).flatMap Cl.cells) ∧ Below B W w' := by
  cases hi : Try.prog.info? 108 with
  | none => have := Try.infoClA; rw [hi] at this; cases this
  | some i =>
    have h := Try.infoClA
    rw [hi] at h
    simp only [Option.map_some, Option.some.injEq, Prod.mk.injEq] at h
    obtain ⟨hiz, hs, hby⟩ := h
    have hl := hz.len
    have key : ∀ ad : Addr, p = some ad → (∀ j u, (zs.flatMap Cl.cells)[j]? = some u → W.cell? (ad.add j) = some u) → ∃ v' w', (Builtin.append_ #[87, 87] 87 #[v, .slice p m c]).run Try.prog W = .ok v' w' ∧ w'.ownsRow B 108 7 v' (n + m) ((ys ++ zs).flatMap Cl.cells) ∧ Below B W w' := fun ad e hcell => by
      obtain ⟨v', w', hr, ho, hg, -, hat⟩ := run_append_own_at (P := Try.prog) W B 87 87 108 i _ 7 56 Try.underlying87 hi hiz hs hby rfl (by decide) v n (ys.flatMap Cl.cells) hown ad m c (zs.flatMap Cl.cells) (by rw [flat_lenL Cl.cells_len, hl]) hcell
        (fun u hu => by obtain ⟨x, _, hx⟩ := List.mem_flatMap.1 hu; have := Cl.one x; rw [Array.all_eq_true_iff_forall_mem] at this; exact this u (by simpa using hx)) (by unfold maxLen; omega) (by omega) hB
      exact ⟨v', w', by rw [e]; exact hr, by rw [List.flatMap_append]; exact ho, (Below.refl _ _).grown hg hB (fun j e => (hown.lt j e).1)⟩
    by_cases h0 : m = 0
    · subst h0
      obtain rfl : zs = [] := List.eq_nil_of_length_eq_zero hl
      cases p with
      | some ad => exact key ad rfl (fun j u hu => by simp at hu)
      | none =>
        rcases hown.2 with ⟨rfl, rfl⟩ | ⟨g, cap, cur, rfl, hb, hg, hnc, hcm, hcs, htk⟩
        · refine ⟨.slice none 0 0, W, ?_, by simpa using hown, Below.refl _ _⟩
          simp [Builtin.append_, run_underlying Try.underlying87, sizeOf, typeInfo, hi, Builtin.lenOf, Builtin.firstCells, loadCells, loadCellsFrom]
        · refine ⟨.slice (some ⟨g, 0, none⟩) n cap, W, ?_, by simpa using hown, Below.refl _ _⟩
          have h63 : ¬ (9223372036854775807 < (n : Int)) := by omega
          simp [Builtin.append_, run_underlying Try.underlying87, sizeOf, typeInfo, hi, Builtin.lenOf, Builtin.firstCells, loadCells, loadCellsFrom, hnc, storeCells]
    · obtain ⟨b, off, hp, lb, hc⟩ := hz.at 0 _ (List.getElem?_eq_getElem (by omega : 0 < zs.length))
      refine key _ hp fun j u hu => ?_
      have hj : j < zs.length * 7 := by have := (List.getElem?_eq_some_iff.1 hu).1; rwa [flat_lenL Cl.cells_len] at this
      have hd : j / 7 < zs.length := by omega
      have e : j = j / 7 * 7 + j % 7 := by omega
      obtain ⟨b', off', hp', _, hc'⟩ := hz.at (j / 7) _ (List.getElem?_eq_getElem hd)
      rw [hp] at hp'
      simp only [Option.some.injEq, Addr.mk.injEq] at hp'
      obtain ⟨rfl, rfl, -⟩ := hp'
      have hf := flat_getK Cl.cells 7 Cl.cells_len zs (j / 7) (j % 7) (by omega) hd
      rw [← e, hu] at hf
      have hx : zs[j / 7]! = zs[j / 7] := by simp [List.getElem!_eq_getElem?_getD, List.getElem?_eq_getElem hd]
      rw [hx] at hf
      have := hc' (j % 7) u hf.symm
      rw [add_plainC, show off + j = off + j / 7 * 7 + j % 7 by omega]
      exact this
end Go.Proofs.Ytceippgkmoijdaa
