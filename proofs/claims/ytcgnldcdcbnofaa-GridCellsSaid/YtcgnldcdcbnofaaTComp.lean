/- Contract of tree.Computed. -/
import Derived.Test.YtcgnldcdcbnofaaTCopy
import Derived.Test.YtcgnldcdcbnofaaTAlike
namespace Go.Proofs.Ytcgnldcdcbnofaa
open Go.RowKit Go.Shelf
set_option linter.unusedVariables false
attribute [local go_sem] Oper.semAt_some

theorem Try.infoInt64 : (Try.prog.info? 2).map (fun i => (i.zero, i.size, i.bytes)) = some (some (.int .i64 0), 1, 8) := by kernel_rfl
theorem there_style {Y : World} {g t : Nat} {n : Nd} (h : Whole Y g t n.cells) (s : Sty) : Y.there g 2 s.cells.toArray.size := fun j hj => by
  have hj' : j < 29 := by simpa [Sty.cells, styCells] using hj
  refine ⟨?_, h.free _⟩
  rw [h.cellAt, List.getElem?_eq_getElem (by rw [n.len]; omega)]; rfl
/-- a node, computed, its slices laid anew -/
def copyN (n : Nd) (kv wv : Value) : Nd := { n with s := compS n.s, kv := kv, wv := wv }
theorem copy_load {n : Nd} {kv wv : Value} {W : World} {g t : Nat} (h : Whole W g t (({ n with s := compS n.s } : Nd).cells.set 1 kv)) : ∀ j v, (copyN n kv wv).cells.toArray[j]? = some v → (W.setCell ⟨g, 31, none⟩ wv).cell? ((⟨g, 0, none⟩ : Addr).add j) = some v := by
  have h2 : Whole (W.setCell ⟨g, 31, none⟩ wv) g t (copyN n kv wv).cells := h.set 31 wv
  exact (NdAt.whole h2).load
theorem copy_size (n : Nd) (kv wv : Value) : (copyN n kv wv).cells.toArray.size = 34 := by simp [Nd.len]
theorem copy_fill (ds : Array Value) (h : ds.size = 34) : Array.foldl (fun (cs : Array Value) (x : Value × Nat) => cs.setIfInBounds x.snd x.fst) #[.int .i64 0, .slice none 0 0, .int .i64 0, .int .i64 0, .int .i64 0, .int .i64 0, .int .i64 0, .int .i64 0, .int .i64 0, .int .i64 0, .int .i64 0, .int .i64 0, .int .u32 0, .int .i64 0, .int .i64 0, .int .u32 0, .int .i64 0, .int .i64 0, .int .u32 0, .int .i64 0, .int .i64 0, .int .u32 0, .int .i64 0, .int .i64 0, .int .i64 0, .bool false, .bool false, .int .i64 0, .int .i64 0, .bool false, .bool false, .slice none 0 0, .int .i64 0, .int .i64 0] ds.zipIdx 0 34 = ds := by
  have h2 := fill_row Nd.zero.cells.toArray ds (by rw [h]; exact nd_size0)
  rw [h] at h2
  exact h2
theorem copy_ok {n : Nd} {Z W1 W2 U : World} {g : Nat} {p1 p2 : Option Addr} {l1 c1 l2 c2 : Nat} (h : n.ok U) (i1 : Ints W1 (.slice p1 l1 c1) n.ks) (a1 : ∀ L, L < Z.heap.size → Apart L (.slice p1 l1 c1) n.ks) (hz : g < Z.heap.size)
    (i2 : Ints W2 (.slice p2 l2 c2) n.ws) (a2 : ∀ L, L < (W1.setCell ⟨g, 1, none⟩ (.slice p1 l1 c1)).heap.size → Apart L (.slice p2 l2 c2) n.ws) (hg : g < (W1.setCell ⟨g, 1, none⟩ (.slice p1 l1 c1)).heap.size)
    (b2 : Below (W1.setCell ⟨g, 1, none⟩ (.slice p1 l1 c1)).heap.size (W1.setCell ⟨g, 1, none⟩ (.slice p1 l1 c1)) W2) (k1 : CapOk (.slice p1 l1 c1)) (k2 : CapOk (.slice p2 l2 c2)) :
    (copyN n (.slice p1 l1 c1) (.slice p2 l2 c2)).ok (W2.setCell ⟨g, 31, none⟩ (.slice p2 l2 c2)) :=
  ⟨((i1.setApart ⟨g, 1, none⟩ (.slice p1 l1 c1) (a1 g hz)).below b2).setApart ⟨g, 31, none⟩ (.slice p2 l2 c2) (a1 g hz), i2.setApart ⟨g, 31, none⟩ (.slice p2 l2 c2) (a2 g hg), k1, k2⟩
def CompPost (ns : List Nd) (w : World) (e : Ending) (W' : World) : Prop := (∃ v ns', e = .returned (.tuple #[v, .int .i64 0]) ∧ CompPg ns ns' ∧ PageAt W' v ns') ∧ Below w.heap.size w W'
/-- where the computed nodes lie -/
def CompLaid (ns : List Nd) (w : World) (e : Ending) (W' : World) : Prop := (∃ L c ns', e = .returned (.tuple #[.slice (some ⟨L, 0, none⟩) ns'.length c, .int .i64 0]) ∧ CompPg ns ns' ∧ Laid W' L c ns'.length ns' ∧ w.heap.size ≤ L ∧ ns'.length ≤ c ∧ c ≤ maxLen) ∧ Below w.heap.size w W'
theorem CompLaid.post {ns : List Nd} {w W' : World} {e : Ending} (h : CompLaid ns w e W') (hn : ns.length ≤ 65536) : CompPost ns w e W' := by
  obtain ⟨⟨L, c, ns', rfl, h1, h2, _⟩, h3⟩ := h
  exact ⟨⟨_, ns', rfl, h1, h2.page (by have := h1.len; omega)⟩, h3⟩
end Go.Proofs.Ytcgnldcdcbnofaa
