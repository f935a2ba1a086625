/- Sizes and needs as arguments: opened; the law's Cut. -/
/- What the laws of columns share: the answer of Bands in one contract; slices cut. -/
import Derived.Test.YtmljndggblfeiaaKShown
namespace Go.Proofs.Ytmljndggblfeiaa
open Go.ChangeShapes Go.WideShapes Go.ChangeAt Go.RowKit Go.Joins Go.Shelf
set_option linter.unusedVariables false
set_option linter.unusedSimpArgs false
attribute [local go_sem] Oper.semAt_some

theorem Try.cellsSz : Try.prog.cellsOf 35 = 2 := by kernel_rfl
theorem Try.cellsNe : Try.prog.cellsOf 37 = 9 := by kernel_rfl
theorem Try.cellsPl : Try.prog.cellsOf 33 = 5 := by kernel_rfl
theorem Try.cellsI64K : Try.prog.cellsOf 2 = 1 := by kernel_rfl
theorem Try.cellsIntK : Try.prog.cellsOf 3 = 1 := by kernel_rfl
section
variable {H : Type} {P : Program} {enc : TypeId × Value → H} {w : World} {base : Nat} {spare : Nat → Bool} {held : Bool}
theorem mapM_invK {α β : Type} {f : α → Option β} {a : α} {l : List α} {ys : List β} (h : (a :: l).mapM f = some ys) : ∃ y zs, f a = some y ∧ l.mapM f = some zs ∧ ys = y :: zs := by
  rw [List.mapM_cons] at h
  cases hf : f a with
  | none => simp [hf] at h
  | some y =>
    cases hl : l.mapM f with
    | none => simp [hf, hl] at h
    | some zs => simp [hf, hl] at h; exact ⟨y, zs, rfl, rfl, h.symm⟩
theorem mapM_endK {α β : Type} {f : α → Option β} {ys : List β} (h : ([] : List α).mapM f = some ys) : ys = [] := by simpa using h.symm
theorem trod_struct_invK {t : TypeId} {fs : Array Field} {fuel : Nat} {cs : List Value} {x : DataW H × List MemPlace} (ht : P.underlying t = some (.struct fs)) (h : DataW.trod enc P w base spare held fuel t cs = some x) :
    cs.length = P.cellsOf t ∧ ∃ n xs, x = (.agg (xs.map (·.1)), xs.flatMap (·.2)) ∧ fs.toList.mapM (fun f => DataW.trod enc P w base spare held n f.type ((cs.drop f.offset).take (P.cellsOf f.type))) = some xs := by
  cases fuel with
  | zero => simp [DataW.trod] at h
  | succ n =>
    unfold DataW.trod at h
    rw [ht] at h
    dsimp only at h
    split at h
    · rename_i hl
      obtain ⟨xs, h1, h2⟩ := Option.map_eq_some_iff.1 h
      exact ⟨hl, n, xs, h2.symm, h1⟩
    · cases h
end
section
variable {H : Type} {enc : TypeId × Value → H} {w : World} {base : Nat} {spare : Nat → Bool} {held : Bool}
theorem list2K {l : List Value} (h : l.length = 2) : ∃ c0 c1, l = [c0, c1] := by
  match l, h with
  | [c0, c1], _ => exact ⟨c0, c1, rfl⟩
theorem list9K {l : List Value} (h : l.length = 9) : ∃ c0 c1 c2 c3 c4 c5 c6 c7 c8, l = [c0, c1, c2, c3, c4, c5, c6, c7, c8] := by
  match l, h with
  | [c0, c1, c2, c3, c4, c5, c6, c7, c8], _ => exact ⟨c0, c1, c2, c3, c4, c5, c6, c7, c8, rfl⟩
theorem size_cells {fuel : Nat} {cs : List Value} {x : DataW H × List MemPlace} (h : DataW.trod enc Try.prog w base spare held fuel 35 cs = some x) : ∃ q : Sz, cs = q.cells ∧ q.wf := by
  obtain ⟨hl, n, xs, rfl, hm⟩ := trod_struct_invK Try.underlying35 h
  rw [Try.cellsSz] at hl
  obtain ⟨c0, c1, rfl⟩ := list2K hl
  obtain ⟨y0, z0, h0, hm1, rfl⟩ := mapM_invK hm
  obtain ⟨y1, z1, h1, hm2, rfl⟩ := mapM_invK hm1
  obtain rfl := mapM_endK hm2
  simp [Try.cellsIntK, Try.cellsI64K] at h0 h1
  obtain ⟨k, e0, rfl, w0⟩ := DataW.trod_int Try.underlying3 h0
  obtain ⟨m, e1, rfl, w1⟩ := DataW.trod_int Try.underlying2 h1
  simp at e0 e1
  subst e0 e1
  exact ⟨⟨k, m⟩, rfl, w0, w1⟩
theorem place_cells {fuel : Nat} {c0 c1 c2 c3 c4 : Value} {x : DataW H × List MemPlace} (h : DataW.trod enc Try.prog w base spare held fuel 33 [c0, c1, c2, c3, c4] = some x) :
    ∃ a b c d e : Int, c0 = .int .i64 a ∧ c1 = .int .i64 b ∧ c2 = .int .i64 c ∧ c3 = .int .i64 d ∧ c4 = .int .i64 e ∧ fit64 a ∧ fit64 b ∧ fit64 c ∧ fit64 d ∧ fit64 e := by
  obtain ⟨hl, n, xs, rfl, hm⟩ := trod_struct_invK Try.underlying33 h
  obtain ⟨y0, z0, h0, hm1, rfl⟩ := mapM_invK hm
  obtain ⟨y1, z1, h1, hm2, rfl⟩ := mapM_invK hm1
  obtain ⟨y2, z2, h2, hm3, rfl⟩ := mapM_invK hm2
  obtain ⟨y3, z3, h3, hm4, rfl⟩ := mapM_invK hm3
  obtain ⟨y4, z4, h4, hm5, rfl⟩ := mapM_invK hm4
  obtain rfl := mapM_endK hm5
  simp [Try.cellsIntK, Try.cellsI64K] at h0 h1 h2 h3 h4
  obtain ⟨a, e0, rfl, w0⟩ := DataW.trod_int Try.underlying3 h0
  obtain ⟨b, e1, rfl, w1⟩ := DataW.trod_int Try.underlying3 h1
  obtain ⟨c, e2, rfl, w2⟩ := DataW.trod_int Try.underlying3 h2
  obtain ⟨d, e3, rfl, w3⟩ := DataW.trod_int Try.underlying3 h3
  obtain ⟨e, e4, rfl, w4⟩ := DataW.trod_int Try.underlying3 h4
  simp at e0 e1 e2 e3 e4
  exact ⟨a, b, c, d, e, e0, e1, e2, e3, e4, w0, w1, w2, w3, w4⟩
set_option maxRecDepth 100000 in
theorem need_cells {fuel : Nat} {cs : List Value} {x : DataW H × List MemPlace} (h : DataW.trod enc Try.prog w base spare held fuel 37 cs = some x) : ∃ q : Ne, cs = q.cells ∧ q.wf := by
  obtain ⟨hl, n, xs, rfl, hm⟩ := trod_struct_invK Try.underlying37 h
  rw [Try.cellsNe] at hl
  obtain ⟨c0, c1, c2, c3, c4, c5, c6, c7, c8, rfl⟩ := list9K hl
  obtain ⟨y0, z0, h0, hm1, rfl⟩ := mapM_invK hm
  obtain ⟨y1, z1, h1, hm2, rfl⟩ := mapM_invK hm1
  obtain ⟨y2, z2, h2, hm3, rfl⟩ := mapM_invK hm2
  obtain ⟨y3, z3, h3, hm4, rfl⟩ := mapM_invK hm3
  obtain rfl := mapM_endK hm4
  simp [Try.cellsPl, Try.cellsI64K, Try.cellsSz] at h0 h1 h2 h3
  obtain ⟨a, b, c, d, e, rfl, rfl, rfl, rfl, rfl, w0, w1, w2, w3, w4⟩ := place_cells h0
  obtain ⟨f, e1, rfl, w5⟩ := DataW.trod_int Try.underlying2 h1
  obtain ⟨g, e2, rfl, w6⟩ := DataW.trod_int Try.underlying2 h2
  obtain ⟨⟨k, m⟩, e3, w7⟩ := size_cells h3
  simp [Sz.cells] at e1 e2 e3
  obtain ⟨e3, e4⟩ := e3
  subst e1 e2 e3 e4
  exact ⟨⟨a, b, c, d, e, f, g, ⟨k, m⟩⟩, rfl, w0, w1, w2, w3, w4, w5, w6, w7⟩
/-- sizes as an argument -/
def SizeArg (W : World) (a : Option Addr) (len cap : Nat) (zs : List Sz) : Prop := RowArg Sz.cells Sz.wf 2 W a len cap zs
/-- needs as an argument -/
def NeedArg (W : World) (a : Option Addr) (len cap : Nat) (zs : List Ne) : Prop := RowArg Ne.cells Ne.wf 9 W a len cap zs
theorem open_sizes {a : Option Addr} {len cap fuel : Nat} {y : DataW H × List MemPlace} (h : DataW.trod enc Try.prog w base spare held fuel 65 [.slice a len cap] = some y) : ∃ zs, SizeArg w a len cap zs :=
  open_rowsK Try.underlying65 Try.cellsSz Sz.cells_len (fun h => size_cells h) h
theorem open_needs {a : Option Addr} {len cap fuel : Nat} {y : DataW H × List MemPlace} (h : DataW.trod enc Try.prog w base spare held fuel 23 [.slice a len cap] = some y) : ∃ zs, NeedArg w a len cap zs :=
  open_rowsK Try.underlying23 Try.cellsNe Ne.cells_len (fun h => need_cells h) h
end
end Go.Proofs.Ytmljndggblfeiaa

namespace Go.Proofs.Ytmljndggblfeiaa
open Go.RowKit Go.Shelf
set_option linter.unusedVariables false
set_option linter.unusedSimpArgs false
attribute [local go_sem] Oper.semAt_some

/-- the bands that Bands answers -/
def ansB (zs : List Sz) (ns : List Ne) : List Ba := if rightK zs ns then bandsB zs ns else []
/-- the error that Bands answers -/
def errB (zs : List Sz) (ns : List Ne) : Int := if rightK zs ns then 0 else 130
theorem ansB_ok {zs : List Sz} {ns : List Ne} (h : rightK zs ns = true) : ansB zs ns = bandsB zs ns := by simp [ansB, h]
theorem errB_ok {zs : List Sz} {ns : List Ne} (h : rightK zs ns = true) : errB zs ns = 0 := by simp [errB, h]
theorem ansB_bad {zs : List Sz} {ns : List Ne} (h : rightK zs ns = false) : ansB zs ns = [] := by simp [ansB, h]
theorem errB_bad {zs : List Sz} {ns : List Ne} (h : rightK zs ns = false) : errB zs ns = 130 := by simp [errB, h]
theorem RowsK.take {α : Type} [Inhabited α] {cells : α → List Value} {n : Nat} {W : World} {p : Option Addr} {m c : Nat} {zs : List α} (h : RowsK cells n W (.slice p m c) zs) (k : Nat) (hk : k ≤ m) : RowsK cells n W (.slice p k c) (zs.take k) := by
  have hl := h.len
  have ht : (zs.take k).length = k := by rw [List.length_take]; omega
  refine ⟨by have := h.1; omega, ?_⟩
  obtain ⟨hm, ⟨a, cap, e, rfl⟩ | ⟨b, off, cap, e, hlt, hc⟩⟩ := h
  · injection e with e1 e2 e3
    subst e2
    obtain rfl : k = 0 := by omega
    exact .inl ⟨p, c, rfl, rfl⟩
  · injection e with e1 e2 e3
    subst e1 e3
    refine .inr ⟨b, off, c, by rw [ht], hlt, fun j hj i v hv => hc j (by omega) i v ?_⟩
    have e : (zs.take k)[j]! = zs[j]! := by simp [List.getElem!_eq_getElem?_getD, List.getElem?_take, (by omega : j < k)]
    rw [e] at hv; exact hv
end Go.Proofs.Ytmljndggblfeiaa
