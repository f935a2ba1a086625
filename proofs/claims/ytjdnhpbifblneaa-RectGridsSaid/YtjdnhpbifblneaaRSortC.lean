/- Corners, sorted: the contract of slices.SortFunc at them; and what adding up group by group comes to. -/
import Derived.Test.YtjdnhpbifblneaaRAll
namespace Go.Proofs.Ytjdnhpbifblneaa
open Go.RowKit Go.Shelf Go.Sort Go.Lib
set_option linter.unusedVariables false

theorem encC_get (l : List Cor) (k : Nat) (c : Cor) (h : l[k]? = some c) (i : Nat) (v : Value) (hv : c.cells[i]? = some v) : (encC l)[k * 2 + i]? = some v := by
  induction l generalizing k with
  | nil => simp at h
  | cons a l ih =>
    have hi2 : i < 2 := by have := (List.getElem?_eq_some_iff.1 hv).1; simpa [Cor.cells] using this
    rw [encC, List.flatMap_cons]
    cases k with
    | zero =>
      simp at h; subst h
      rw [List.getElem?_append_left (by simp [Cor.cells]; omega)]; simpa using hv
    | succ k =>
      rw [List.getElem?_append_right (by simp [Cor.cells]; omega), show (k + 1) * 2 + i - a.cells.length = k * 2 + i by simp [Cor.cells]; omega]
      exact ih k (by simpa using h)
theorem encC_len (l : List Cor) : (encC l).length = l.length * 2 := by
  induction l with
  | nil => rfl
  | cons a l ih => rw [encC, List.flatMap_cons, List.length_append]; rw [encC] at ih; rw [ih]; simp [Cor.cells]; omega
theorem flat_enc (d : Array Cor) : flatK Cor.cells 2 d = (encC d.toList).toArray := by
  refine ext_get! (by simp [encC_len]) fun t ht => ?_
  have ht' : t < d.size * 2 := by simpa using ht
  rw [get_flatK _ _ _ _ ht']
  have hk : t / 2 < d.size := by omega
  have hc : d.toList[t / 2]? = some d[t / 2]! := by rw [getElem!_pos d _ hk]; simp [hk]
  have hv : (d[t / 2]!).cells[t % 2]? = some ((d[t / 2]!).cells[t % 2]!) := by
    have : t % 2 < (d[t / 2]!).cells.length := by simp [Cor.cells]; omega
    rw [getElem!_pos (d[t / 2]!).cells (t % 2) this, List.getElem?_eq_getElem this]
  have h := encC_get d.toList (t / 2) _ hc (t % 2) _ hv
  rw [show t / 2 * 2 + t % 2 = t by omega] at h
  have hlt : t < (encC d.toList).length := by rw [encC_len]; simpa using ht'
  rw [getElem!_pos (encC d.toList).toArray t (by simpa using hlt)]
  rw [List.getElem?_eq_getElem hlt] at h
  simpa using h.symm

theorem cmpN_neg (i j : Nat) : cmpN i j < 0 ↔ i < j := by unfold cmpN; split <;> (try split) <;> omega
theorem cmpN_zero (i j : Nat) : cmpN i j = 0 ↔ i = j := by unfold cmpN; split <;> (try split) <;> omega
/-- one corner comes ahead of another -/
theorem corCmp_neg (a b : Cor) : corCmp a b < 0 ↔ (a.i.1 < b.i.1 ∨ (a.i.1 = b.i.1 ∧ a.j.1 < b.j.1)) := by
  unfold corCmp orI
  by_cases h : cmpN a.i.1 b.i.1 = 0
  · rw [if_pos h]
    have := (cmpN_zero _ _).1 h
    have k := cmpN_neg a.j.1 b.j.1
    omega
  · rw [if_neg h]
    have : ¬ (a.i.1 = b.i.1) := fun e => h ((cmpN_zero _ _).2 e)
    have k := cmpN_neg a.i.1 b.i.1
    omega
theorem cor_swo : SWO (ltOf corCmp) := by
  refine ⟨fun x => ?_, fun x y z h1 h2 => ?_, fun x y z h1 h2 => ?_⟩
  · simp only [ltOf, decide_eq_false_iff_not, corCmp_neg]; omega
  · simp only [ltOf, decide_eq_true_eq, corCmp_neg] at *; omega
  · simp only [ltOf, decide_eq_false_iff_not, corCmp_neg] at *; omega
theorem cor_lays (blk off size : Nat) (w : World) : CmpLays Try.prog 29 #[] Cor.cells 2 corCmp blk off size w := fun _ _ _ _ x y => corCmp_any x y _

/-- corners in their order -/
def SortedC (cs : List Cor) : Prop := ∀ (i j : Nat) (a b : Cor), i < j → cs[i]? = some a → cs[j]? = some b → ¬ corCmp b a < 0
theorem sortC_own (base g cap : Nat) (cs : List Cor) (cur : Array Value) (W : World) (hb : base ≤ g) (hg : W.heap[g]? = some (.cells cur 59 (0, 0))) (hnc : cs.length ≤ cap) (hcm : cap ≤ maxLen) (hcs : cur.size = cap * 2) (htk : cur.toList.take (cs.length * 2) = encC cs) (h2 : cs.length < 4611686018427387904) :
    Calls Try.prog 28 #[.slice (some ⟨g, 0, none⟩) cs.length cap, .func (.func 29) #[] #[]] W fun e W' => e = .returned (.tuple #[]) ∧ ∃ ds : List Cor, ds.Perm cs ∧ SortedC ds ∧ (∃ cur', W'.heap[g]? = some (.cells cur' 59 (0, 0)) ∧ cur'.toList.take (cs.length * 2) = encC ds) ∧ W.grownBy W' (some g) := by
  have eg : ∀ args w, (callFunc 29 args).run Try.prog w = .ok (.enter 29 args) w := enters_of Try.func29 (by kernel_rfl) rfl
  have hlt : g < W.heap.size := (Array.getElem?_eq_some_iff.1 hg).1
  have hH : HoldsK Cor.cells 2 W g 0 cs.toArray := by
    intro j hj
    rw [flat_enc] at hj ⊢
    have hj' : j < (encC cs).length := by simpa using hj
    have hj2 : j < cs.length * 2 := by rw [encC_len] at hj'; exact hj'
    refine ⟨?_, by simp [World.frozen?, hg]⟩
    have h1 : (cur.toList.take (cs.length * 2))[j]? = (encC cs)[j]? := by rw [htk]
    rw [List.getElem?_take_of_lt hj2] at h1
    simp only [World.cell?, hg, Nat.zero_add]
    simp only [Option.isSome_none, Bool.false_eq_true, if_false]
    rw [← Array.getElem?_toList, h1]
    simp [hj']
  have h := AnyQ.slices_SortFunc Try.sortC 2 Try.isAgg59 Try.sizeOf59 Cor.cells (fun _ => rfl) (fun x v hv => by simp [Cor.cells] at hv; rcases hv with rfl | rfl <;> rfl) corCmp cor_swo 29 #[] g 0 cap cs.toArray W eg (cor_lays _ _ _ _) hH hlt (by simpa using h2)
  refine (show Calls Try.prog 28 _ _ _ from h).mono ?_
  rintro e W' ⟨he, d', n, os, hp, hs, rfl⟩
  have hsz : d'.size = cs.length := by simpa using hp.1
  refine ⟨he, d'.toList, ?_, ?_, ⟨putCells id 0 (flatK Cor.cells 2 d') cur, ?_, ?_⟩, ?_⟩
  · have := hp.2.2
    rw [show cs.toArray.size = d'.size from hp.1.symm, Array.extract_size, hp.1, Array.extract_size] at this
    simpa using this
  · intro i j a b hij ha hb
    have hj : j < d'.size := by have := (List.getElem?_eq_some_iff.1 hb).1; simpa using this
    have := hs i j (Nat.zero_le _) hij (by rw [hsz] at hj; simpa using hj)
    simp only [ltOf, decide_eq_false_iff_not] at this
    rw [getElem!_pos d' i (by omega), getElem!_pos d' j hj] at this
    rw [Array.getElem?_toList, Array.getElem?_eq_getElem (by omega)] at ha
    rw [Array.getElem?_toList, Array.getElem?_eq_getElem hj] at hb
    cases ha; cases hb; exact this
  · unfold sortWorldK
    rw [heap_grow_old _ _ (by simpa [putRowK] using hlt)]
    simp [putRowK, putRow, mapBlock, Sort.ahead, Array.getElem?_modify, hg, onCells]
  · apply List.ext_getElem?
    intro j
    have hl : (encC d'.toList).length = cs.length * 2 := by rw [encC_len]; simp [hsz]
    by_cases hj : j < cs.length * 2
    · rw [List.getElem?_take_of_lt hj, Array.getElem?_toList, flat_enc]
      have hjj : j < (encC d'.toList).length := by omega
      simp [putCells, hjj, show j < cur.size by omega]
    · rw [List.getElem?_take_eq_none (by omega), List.getElem?_eq_none (by omega)]
  · refine ⟨rfl, rfl, rfl, by simp [sortWorldK, putRowK], fun k hk hne => ?_⟩
    unfold sortWorldK
    rw [heap_grow_old _ _ (by simpa [putRowK] using hk)]
    have : g ≠ k := fun e => hne (by rw [e])
    simp [putRowK, putRow, mapBlock, Sort.ahead, Array.getElem?_modify, this]
end Go.Proofs.Ytjdnhpbifblneaa
