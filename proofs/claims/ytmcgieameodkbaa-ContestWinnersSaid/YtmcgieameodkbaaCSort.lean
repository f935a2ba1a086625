/- Sides, sorted: the contract of slices.SortFunc at them. -/
import Derived.Test.YtmcgieameodkbaaCShown
namespace Go.Proofs.Ytmcgieameodkbaa
open Go.RowKit Go.Shelf Go.Sort Go.Lib
set_option linter.unusedVariables false
set_option linter.unusedSimpArgs false

/-- right sides -/
abbrev FS := { s : Si // Fit s }
instance : Inhabited FS := ⟨⟨⟨0, 0, 0, 0, 0, 0⟩, by refine ⟨by decide +kernel, ?_, ?_⟩ <;> decide⟩⟩
def FS.cells (x : FS) : List Value := x.1.cells
/-- their cells, one behind the other -/
def encF (l : List FS) : List Value := l.flatMap FS.cells
def cmpF (a b : FS) : Int := cmpS a.1 b.1
theorem fs_swo : SWO (ltOf cmpF) := by
  refine ⟨fun x => ?_, fun x y z h1 h2 => ?_, fun x y z h1 h2 => ?_⟩
  · simp only [ltOf, decide_eq_false_iff_not]; exact cmpS_irr x.1
  · simp only [ltOf, decide_eq_true_eq] at *; exact cmpS_trans h1 h2
  · simp only [ltOf, decide_eq_false_iff_not] at *
    exact cmpS_le h2 h1
theorem fs_lays (blk off size : Nat) (w : World) : CmpLays Try.prog 26 #[] FS.cells 6 cmpF blk off size w := fun _ _ _ _ x y => (order_any x.1 y.1 x.2 y.2 _).mono fun _ _ h => ⟨h.1, h.2.grow⟩
theorem encF_get (l : List FS) (k : Nat) (c : FS) (h : l[k]? = some c) (i : Nat) (v : Value) (hv : c.cells[i]? = some v) : (encF l)[k * 6 + i]? = some v := by
  induction l generalizing k with
  | nil => simp at h
  | cons a l ih =>
    have hi2 : i < 6 := by have := (List.getElem?_eq_some_iff.1 hv).1; simpa [FS.cells, Si.cells] using this
    rw [encF, List.flatMap_cons]
    cases k with
    | zero =>
      simp at h; subst h
      rw [List.getElem?_append_left (by simp [FS.cells, Si.cells]; omega)]; simpa using hv
    | succ k =>
      rw [List.getElem?_append_right (by simp [FS.cells, Si.cells]; omega), show (k + 1) * 6 + i - a.cells.length = k * 6 + i by simp [FS.cells, Si.cells]; omega]
      exact ih k (by simpa using h)
theorem encF_len (l : List FS) : (encF l).length = l.length * 6 := by
  induction l with
  | nil => rfl
  | cons a l ih => rw [encF, List.flatMap_cons, List.length_append]; rw [encF] at ih; rw [ih]; simp [FS.cells, Si.cells]; omega
theorem flat_encF (d : Array FS) : flatK FS.cells 6 d = (encF d.toList).toArray := by
  refine ext_get! (by simp [encF_len]) fun t ht => ?_
  have ht' : t < d.size * 6 := by simpa using ht
  rw [get_flatK _ _ _ _ ht']
  have hk : t / 6 < d.size := by omega
  have hc : d.toList[t / 6]? = some d[t / 6]! := by rw [getElem!_pos d _ hk]; simp [hk]
  have hv : (d[t / 6]!).cells[t % 6]? = some ((d[t / 6]!).cells[t % 6]!) := by
    have : t % 6 < (d[t / 6]!).cells.length := by simp [FS.cells, Si.cells]; omega
    rw [getElem!_pos (d[t / 6]!).cells (t % 6) this, List.getElem?_eq_getElem this]
  have h := encF_get d.toList (t / 6) _ hc (t % 6) _ hv
  rw [show t / 6 * 6 + t % 6 = t by omega] at h
  have hlt : t < (encF d.toList).length := by rw [encF_len]; simpa using ht'
  rw [getElem!_pos (encF d.toList).toArray t (by simpa using hlt)]
  rw [List.getElem?_eq_getElem hlt] at h
  simpa using h.symm

/-- corners in their order -/
def SortedF (cs : List FS) : Prop := ∀ (i j : Nat) (a b : FS), i < j → cs[i]? = some a → cs[j]? = some b → ¬ cmpF b a < 0
theorem sortF_own (base g cap : Nat) (cs : List FS) (cur : Array Value) (W : World) (hb : base ≤ g) (hg : W.heap[g]? = some (.cells cur 26 (0, 0))) (hnc : cs.length ≤ cap) (hcm : cap ≤ maxLen) (hcs : cur.size = cap * 6) (htk : cur.toList.take (cs.length * 6) = encF cs) (h2 : cs.length < 4611686018427387904) :
    Calls Try.prog 41 #[.slice (some ⟨g, 0, none⟩) cs.length cap, .func (.func 26) #[] #[]] W fun e W' => e = .returned (.tuple #[]) ∧ ∃ ds : List FS, ds.Perm cs ∧ SortedF ds ∧ (∃ cur', (W'.heap[g]? = some (.cells cur' 26 (0, 0)) ∧ cur'.size = cap * 6) ∧ cur'.toList.take (cs.length * 6) = encF ds) ∧ W.grownBy W' (some g) := by
  have eg : ∀ args w, (callFunc 26 args).run Try.prog w = .ok (.enter 26 args) w := enters_of Try.func26 (by kernel_rfl) rfl
  have hlt : g < W.heap.size := (Array.getElem?_eq_some_iff.1 hg).1
  have hH : HoldsK FS.cells 6 W g 0 cs.toArray := by
    intro j hj
    rw [flat_encF] at hj ⊢
    have hj' : j < (encF cs).length := by simpa using hj
    have hj2 : j < cs.length * 6 := by rw [encF_len] at hj'; exact hj'
    refine ⟨?_, by simp [World.frozen?, hg]⟩
    have h1 : (cur.toList.take (cs.length * 6))[j]? = (encF cs)[j]? := by rw [htk]
    rw [List.getElem?_take_of_lt hj2] at h1
    simp only [World.cell?, hg, Nat.zero_add]
    simp only [Option.isSome_none, Bool.false_eq_true, if_false]
    rw [← Array.getElem?_toList, h1]
    simp [hj']
  have h := AnyQ.slices_SortFunc Try.sortS 6 Try.isAgg26 Try.sizeOf26 FS.cells (fun _ => rfl) (fun x v hv => by simp [FS.cells, Si.cells] at hv; rcases hv with rfl | rfl | rfl | rfl | rfl | rfl <;> rfl) cmpF fs_swo 26 #[] g 0 cap cs.toArray W eg (fs_lays _ _ _ _) hH hlt (by simpa using h2)
  refine (show Calls Try.prog 41 _ _ _ from h).mono ?_
  rintro e W' ⟨he, d', n, os, hp, hs, rfl⟩
  have hsz : d'.size = cs.length := by simpa using hp.1
  refine ⟨he, d'.toList, ?_, ?_, ⟨putCells id 0 (flatK FS.cells 6 d') cur, ⟨?_, ?_⟩, ?_⟩, ?_⟩
  · have := hp.2.2
    rw [show cs.toArray.size = d'.size from hp.1.symm, Array.extract_size, hp.1, Array.extract_size] at this
    simpa using this
  · intro i j a b hij ha hb
    have hj : j < d'.size := by have := (List.getElem?_eq_some_iff.1 hb).1; simpa using this
    have := hs i j (Nat.zero_le _) hij (by rw [hsz] at hj; simpa using hj)
    simp only [ltOf, decide_eq_false_iff_not] at this
    rw [getElem!_pos d' i (by omega), getElem!_pos d' j hj] at this
    rw [Array.getElem?_toList, Array.getElem?_eq_getElem (by omega)] at ha
    rw [Array.getElem?_toList, Array.getElem?_eq_getElem hj] at hb
    cases ha; cases hb; exact this
  · unfold sortWorldK
    rw [heap_grow_old _ _ (by simpa [putRowK] using hlt)]
    simp [putRowK, putRow, mapBlock, Sort.ahead, Array.getElem?_modify, hg, onCells]
  · simp [putCells, hcs]
  · apply List.ext_getElem?
    intro j
    have hl : (encF d'.toList).length = cs.length * 6 := by rw [encF_len]; simp [hsz]
    by_cases hj : j < cs.length * 6
    · rw [List.getElem?_take_of_lt hj, Array.getElem?_toList, flat_encF]
      have hjj : j < (encF d'.toList).length := by omega
      simp [putCells, hjj, show j < cur.size by omega]
    · rw [List.getElem?_take_eq_none (by omega), List.getElem?_eq_none (by omega)]
  · refine ⟨rfl, rfl, rfl, by simp [sortWorldK, putRowK], fun k hk hne => ?_⟩
    unfold sortWorldK
    rw [heap_grow_old _ _ (by simpa [putRowK] using hk)]
    have : g ≠ k := fun e => hne (by rw [e])
    simp [putRowK, putRow, mapBlock, Sort.ahead, Array.getElem?_modify, this]
end Go.Proofs.Ytmcgieameodkbaa
