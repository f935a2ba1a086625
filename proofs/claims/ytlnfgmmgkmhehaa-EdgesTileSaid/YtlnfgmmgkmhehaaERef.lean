/- Contracts of the document's own Right, Begins, Extent, Span. -/
import Derived.Test.YtlnfgmmgkmhehaaEBeg
namespace Go.Proofs.Ytlnfgmmgkmhehaa
open Go.RowKit Go.Shelf
set_option linter.unusedVariables false
attribute [local go_sem] Oper.semAt_some

theorem lay1E (w : World) (x : Value) (t g : Nat) (hg : g = w.heap.size) : ∀ j u, [x][j]? = some u → (w.alloc (.cells #[x] t)).cell? ((⟨g, 0, none⟩ : Addr).add j) = some u := fun j u hj => by
  rw [add_plainE, Nat.zero_add, (whole_new w [x] t g hg).cellAt j]; exact hj
theorem infoE {e z s b} (h : (Try.prog.info? e).map (fun i => (i.zero, i.size, i.bytes)) = some (some z, s, b)) : ∃ i, Try.prog.info? e = some i ∧ i.zero = some z ∧ i.size = s ∧ i.bytes = b := by
  cases hi : Try.prog.info? e with
  | none => rw [hi] at h; cases h
  | some i => rw [hi] at h; simp at h; exact ⟨i, rfl, h.1, h.2.1, h.2.2⟩
def encIE (zs : List Int) : List Value := zs.map (Value.int .i64)
theorem own_numsE {W : World} {base e n : Nat} {v : Value} {zs : List Int} (h : W.ownsRow base e 1 v n (encIE zs)) (hn : n ≤ 1000000) : Nums .i64 W v zs := by
  have h' := h
  obtain ⟨hl, ⟨rfl, hn⟩ | ⟨g, cap, cur, rfl, hb, hg, hnc, hcm, hcs, htk⟩⟩ := h
  · refine ⟨?_, .inl ⟨none, 0, rfl, by omega, ?_⟩⟩
    · simp [encIE] at hl; omega
    · simp [encIE] at hl; exact List.length_eq_zero_iff.1 (by omega)
  · have hn : n = zs.length := by simp [encIE] at hl; omega
    unfold maxLen at hcm
    refine ⟨by omega, .inr ⟨g, 0, cap, by rw [hn], by omega, by omega, fun j hj => ?_⟩⟩
    have := World.ownsRow.cellAt h' j (by omega)
    rw [Nat.zero_add, this]; simp [encIE, hj]
theorem okB_any {g : Int} {bs : List Int} (h : okB g bs = true) : bs.any (outB 0 1073741824) = false := by
  unfold okB at h; simp only [Bool.and_eq_true, Bool.not_eq_true'] at h; exact h.2.2
/-- how wide the first k of some bands are -/
def spanK (g : Int) (bs : List Int) (fr k : Nat) : Int := wideW g bs fr (fr + k)
end Go.Proofs.Ytlnfgmmgkmhehaa
