/- Framings, four lines, edges as arguments: opened. -/
import Derived.Test.YtceippgkmoijdaaCoShn
import Derived.Deep.Slices
import Derived.ProofKit
import Derived.OpenShut
namespace Go.Proofs.Ytceippgkmoijdaa
open Go.ChangeShapes Go.WideShapes Go.ChangeAt Go.RowKit Go.Joins Go.Shelf
set_option linter.unusedVariables false
set_option linter.unusedSimpArgs false
attribute [local go_sem] Oper.semAt_some

theorem Try.zLine : Try.prog.cellsOf 27 = 3 := by kernel_rfl
theorem Try.zFour : Try.prog.cellsOf 28 = 12 := by kernel_rfl
theorem Try.zInt : Try.prog.cellsOf 3 = 1 := by kernel_rfl
theorem Try.zI64 : Try.prog.cellsOf 2 = 1 := by kernel_rfl
theorem Try.zU32 : Try.prog.cellsOf 25 = 1 := by kernel_rfl
section
variable {H : Type} {P : Program} {enc : TypeId × Value → H} {w : World} {base : Nat} {spare : Nat → Bool} {held : Bool}
theorem mapM_invZ {α β : Type} {f : α → Option β} {a : α} {l : List α} {ys : List β} (h : (a :: l).mapM f = some ys) : ∃ y zs, f a = some y ∧ l.mapM f = some zs ∧ ys = y :: zs := by
  rw [List.mapM_cons] at h
  cases hf : f a with
  | none => simp [hf] at h
  | some y =>
    cases hl : l.mapM f with
    | none => simp [hf, hl] at h
    | some zs => simp [hf, hl] at h; exact ⟨y, zs, rfl, rfl, h.symm⟩
theorem mapM_endZ {α β : Type} {f : α → Option β} {ys : List β} (h : ([] : List α).mapM f = some ys) : ys = [] := by simpa using h.symm
theorem trod_struct_invZ {t : TypeId} {fs : Array Field} {fuel : Nat} {cs : List Value} {x : DataW H × List MemPlace} (ht : P.underlying t = some (.struct fs)) (h : DataW.trod enc P w base spare held fuel t cs = some x) :
    cs.length = P.cellsOf t ∧ ∃ n xs, x = (.agg (xs.map (·.1)), xs.flatMap (·.2)) ∧ fs.toList.mapM (fun f => DataW.trod enc P w base spare held n f.type ((cs.drop f.offset).take (P.cellsOf f.type))) = some xs := by
  cases fuel with
  | zero => simp [DataW.trod] at h
  | succ n =>
    unfold DataW.trod at h
    rw [ht] at h
    dsimp only at h
    split at h
    · rename_i hl
      obtain ⟨xs, h1, h2⟩ := Option.map_eq_some_iff.1 h
      exact ⟨hl, n, xs, h2.symm, h1⟩
    · cases h
theorem trod_array_invZ {t e : TypeId} {m fuel : Nat} {cs : List Value} {x : DataW H × List MemPlace} (ht : P.underlying t = some (.array m e)) (h : DataW.trod enc P w base spare held fuel t cs = some x) :
    cs.length = P.cellsOf t ∧ ∃ n xs, x = (.agg (xs.map (·.1)), xs.flatMap (·.2)) ∧ (List.range m).mapM (fun i => DataW.trod enc P w base spare held n e ((cs.drop (i * P.cellsOf e)).take (P.cellsOf e))) = some xs := by
  cases fuel with
  | zero => simp [DataW.trod] at h
  | succ n =>
    unfold DataW.trod at h
    rw [ht] at h
    dsimp only at h
    split at h
    · rename_i hl
      obtain ⟨xs, h1, h2⟩ := Option.map_eq_some_iff.1 h
      exact ⟨hl, n, xs, h2.symm, h1⟩
    · cases h
end
def fitZ (n : Int) : Prop := (Lit.int .i64 n).wf = true
theorem fitZ.i64 {a : Int} (h : fitZ a) : I64 a := by
  have h' : (decide (-9223372036854775808 ≤ a) && decide (a ≤ 9223372036854775807)) = true := h
  simp at h'
  exact h'
theorem hueZ {a : Int} (h : (Lit.int .u32 a).wf = true) : 0 ≤ a ∧ a ≤ 4294967295 := by
  have h' : (decide (0 ≤ a) && decide (a ≤ 4294967295)) = true := h
  simp at h'
  exact h'
/-- the numbers of lines fit -/
def Li.fit (l : Li) : Prop := I64 l.st ∧ I64 l.wd ∧ 0 ≤ l.co ∧ l.co ≤ 4294967295
def Fr.fit (f : Fr) : Prop := ∀ l ∈ f.list, l.fit
theorem Fr.fit.hue {f : Fr} (h : f.fit) : f.hue := fun x hx => (h x hx).2.2
def Rn.fit (r : Rn) : Prop := I64 r.fr ∧ I64 r.to ∧ r.ln.fit
section
variable {H : Type} {enc : TypeId × Value → H} {w : World} {base : Nat} {spare : Nat → Bool} {held : Bool}
theorem listZ3 {l : List Value} (h : l.length = 3) : ∃ c0 c1 c2, l = [c0, c1, c2] := by
  match l, h with
  | [c0, c1, c2], _ => exact ⟨c0, c1, c2, rfl⟩
set_option maxRecDepth 100000 in
theorem line_cells {fuel : Nat} {cs : List Value} {x : DataW H × List MemPlace} (h : DataW.trod enc Try.prog w base spare held fuel 27 cs = some x) : ∃ q : Li, cs = q.cells ∧ q.fit := by
  obtain ⟨hl, n, xs, rfl, hm⟩ := trod_struct_invZ Try.underlying27 h
  rw [Try.zLine] at hl
  obtain ⟨c0, c1, c2, rfl⟩ := listZ3 hl
  obtain ⟨y0, z0, h0, hm1, rfl⟩ := mapM_invZ hm
  obtain ⟨y1, z1, h1, hm2, rfl⟩ := mapM_invZ hm1
  obtain ⟨y2, z2, h2, hm3, rfl⟩ := mapM_invZ hm2
  obtain rfl := mapM_endZ hm3
  simp [Try.zInt, Try.zI64, Try.zU32] at h0 h1 h2
  obtain ⟨k, e0, rfl, w0⟩ := DataW.trod_int Try.underlying3 h0
  obtain ⟨m, e1, rfl, w1⟩ := DataW.trod_int Try.underlying2 h1
  obtain ⟨c, e2, rfl, w2⟩ := DataW.trod_int Try.underlying25 h2
  simp at e0 e1 e2
  subst e0 e1 e2
  exact ⟨⟨k, m, c⟩, rfl, fitZ.i64 w0, fitZ.i64 w1, hueZ w2⟩
set_option maxRecDepth 100000 in
theorem four_cells {fuel : Nat} {cs : List Value} {x : DataW H × List MemPlace} (h : DataW.trod enc Try.prog w base spare held fuel 28 cs = some x) : ∃ q : Fr, cs = q.cells ∧ q.fit := by
  obtain ⟨hl, n, xs, rfl, hm⟩ := trod_array_invZ Try.underlying28 h
  rw [Try.zFour] at hl
  rw [show List.range 4 = [0, 1, 2, 3] from rfl] at hm
  obtain ⟨y0, z0, h0, hm1, rfl⟩ := mapM_invZ hm
  obtain ⟨y1, z1, h1, hm2, rfl⟩ := mapM_invZ hm1
  obtain ⟨y2, z2, h2, hm3, rfl⟩ := mapM_invZ hm2
  obtain ⟨y3, z3, h3, hm4, rfl⟩ := mapM_invZ hm3
  obtain rfl := mapM_endZ hm4
  simp only [Try.zLine] at h0 h1 h2 h3
  obtain ⟨q0, e0, f0⟩ := line_cells h0
  obtain ⟨q1, e1, f1⟩ := line_cells h1
  obtain ⟨q2, e2, f2⟩ := line_cells h2
  obtain ⟨q3, e3, f3⟩ := line_cells h3
  refine ⟨⟨q0, q1, q2, q3⟩, ?_, fun l hl' => ?_⟩
  · unfold Fr.cells
    dsimp only
    rw [← e0, ← e1, ← e2, ← e3]
    have s1 := List.take_append_drop 3 cs
    have s2 := List.take_append_drop 3 (cs.drop 3)
    have s3 := List.take_append_drop 3 (cs.drop 6)
    have s4 : (cs.drop 9).take 3 = cs.drop 9 := List.take_of_length_le (by rw [List.length_drop]; omega)
    simp only [List.drop_drop, Nat.reduceAdd] at s2 s3
    simp only [Nat.reduceMul, List.drop_zero, List.append_assoc]
    rw [s4, s3, s2, s1]
  · simp only [Fr.list, List.mem_cons, List.not_mem_nil, or_false] at hl'
    rcases hl' with rfl | rfl | rfl | rfl <;> assumption
set_option maxRecDepth 100000 in
theorem open_lines4 {r : Reach} {b0 : Nat} {v : Value} {d : DataW H} {p : List MemPlace} (hv : Value.okWide Try.prog w r b0 28 v) (h : DataW.Trod enc Try.prog w base spare held 28 v d p) :
    ∃ q : Fr, v = q.val ∧ q.fit := by
  obtain ⟨cs, rfl, hsz⟩ : ∃ cs, v = .agg cs ∧ cs.size = Try.prog.cellsOf 28 := by
    simp only [Value.okWide, Try.underlying28] at hv
    obtain ⟨cs, h1, h2, _⟩ := hv
    exact ⟨cs, h1, h2⟩
  obtain ⟨fuel, hf⟩ := h
  obtain ⟨q, hq, hok⟩ := four_cells (cs := cs.toList) (by simpa [Value.cells] using hf)
  exact ⟨q, by unfold Fr.val; rw [← hq], hok⟩
end
theorem Try.zRun : Try.prog.cellsOf 81 = 14 := by kernel_rfl
theorem Try.zSide : Try.prog.cellsOf 54 = 6 := by kernel_rfl
theorem Try.zEdge : Try.prog.cellsOf 56 = 10 := by kernel_rfl
theorem Try.zBool : Try.prog.cellsOf 4 = 1 := by kernel_rfl
theorem Try.zPl : Try.prog.cellsOf 52 = 5 := by kernel_rfl
theorem Try.zFm : Try.prog.cellsOf 30 = 20 := by kernel_rfl
theorem Try.zSl1 : Try.prog.cellsOf 22 = 1 := by kernel_rfl
theorem Try.zSl2 : Try.prog.cellsOf 23 = 1 := by kernel_rfl
theorem Try.zSl3 : Try.prog.cellsOf 24 = 1 := by kernel_rfl
def Ed.fit (e : Ed) : Prop := EdOk e ∧ (0 ≤ e.won.co ∧ e.won.co ≤ 4294967295)
/-- a slice of structs that came in -/
def RA {α : Type} [Inhabited α] (cells : α → List Value) (wf : α → Prop) (n : Nat) (W : World) (v : Value) (zs : List α) : Prop := ∃ a len cap, v = .slice a len cap ∧ RowArg cells wf n W a len cap zs
/-- places that came in -/
def PA (W : World) (v : Value) (L : List Pz) : Prop := ∃ a len cap, v = .slice a len cap ∧ PsAt W v L ∧ L.length = len ∧ len ≤ cap ∧ cap ≤ maxLen ∧ (∀ p ∈ L, p.ok) ∧ ((a = none ∧ len = 0 ∧ cap = 0) ∨ ∃ g off m, a = some ⟨g, off, m⟩)
/-- a framing that came in -/
structure FmArg (W : World) (f : Fm) (v : FmV) : Prop where
  r64 : I64 f.rows
  c64 : I64 f.cols
  ps : PA W v.pv f.ps
  cs : RA Fr.cells Fr.fit 12 W v.cv f.cs
  rr : RA Rn.cells Rn.fit 14 W v.rv f.rr
  rg : RA Rn.cells Rn.fit 14 W v.gv f.rg
  cr : RA Rn.cells Rn.fit 14 W v.kv f.cr
  cg : RA Rn.cells Rn.fit 14 W v.hv f.cg
  tb : f.tb.fit
section
variable {H : Type} {enc : TypeId × Value → H} {w : World} {base : Nat} {spare : Nat → Bool} {held : Bool}
set_option maxRecDepth 100000 in
theorem run_cells {fuel : Nat} {cs : List Value} {x : DataW H × List MemPlace} (h : DataW.trod enc Try.prog w base spare held fuel 81 cs = some x) : ∃ q : Rn, cs = q.cells ∧ q.fit := by
  obtain ⟨hl, n, xs, rfl, hm⟩ := trod_struct_invZ Try.underlying81 h
  rw [Try.zRun] at hl
  obtain ⟨y0, z0, h0, hm1, rfl⟩ := mapM_invZ hm
  obtain ⟨y1, z1, h1, hm2, rfl⟩ := mapM_invZ hm1
  obtain ⟨y2, z2, h2, hm3, rfl⟩ := mapM_invZ hm2
  obtain rfl := mapM_endZ hm3
  dsimp only at h0 h1 h2
  rw [Try.zInt] at h0 h1
  rw [Try.zFour] at h2
  obtain ⟨k, e0, _, w0⟩ := DataW.trod_int Try.underlying3 h0
  obtain ⟨m, e1, _, w1⟩ := DataW.trod_int Try.underlying3 h1
  obtain ⟨q, e2, hq⟩ := four_cells h2
  refine ⟨⟨k, m, q⟩, ?_, fitZ.i64 w0, fitZ.i64 w1, hq⟩
  have s1 := List.take_append_drop 1 cs
  have s2 := List.take_append_drop 1 (cs.drop 1)
  have s3 : (cs.drop 2).take 12 = cs.drop 2 := List.take_of_length_le (by rw [List.length_drop]; omega)
  simp only [List.drop_drop, Nat.reduceAdd] at s2
  rw [List.drop_zero] at e0
  rw [s3] at e2
  rw [← s1, ← s2, e0, e1, e2]
  rfl
set_option maxRecDepth 100000 in
theorem side_cellsZ {fuel : Nat} {cs : List Value} {x : DataW H × List MemPlace} (h : DataW.trod enc Try.prog w base spare held fuel 54 cs = some x) : ∃ q : Si, cs = q.cells ∧ I64 q.wd ∧ (0 ≤ q.co ∧ q.co ≤ 4294967295) := by
  obtain ⟨hl, n, xs, rfl, hm⟩ := trod_struct_invZ Try.underlying54 h
  rw [Try.zSide] at hl
  obtain ⟨y0, z0, h0, hm1, rfl⟩ := mapM_invZ hm
  obtain ⟨y1, z1, h1, hm2, rfl⟩ := mapM_invZ hm1
  obtain ⟨y2, z2, h2, hm3, rfl⟩ := mapM_invZ hm2
  obtain ⟨y3, z3, h3, hm4, rfl⟩ := mapM_invZ hm3
  obtain rfl := mapM_endZ hm4
  dsimp only at h0 h1 h2 h3
  rw [Try.zInt] at h1 h2 h3
  rw [Try.zLine] at h0
  obtain ⟨q, e0, hq⟩ := line_cells h0
  obtain ⟨k1, e1, _, w1⟩ := DataW.trod_int Try.underlying3 h1
  obtain ⟨k2, e2, _, w2⟩ := DataW.trod_int Try.underlying3 h2
  obtain ⟨k3, e3, _, w3⟩ := DataW.trod_int Try.underlying3 h3
  refine ⟨⟨q.st, q.wd, q.co, k1, k2, k3⟩, ?_, hq.2.1, hq.2.2⟩
  have s1 := List.take_append_drop 3 cs
  have s2 := List.take_append_drop 1 (cs.drop 3)
  have s3 := List.take_append_drop 1 (cs.drop 4)
  have s4 : (cs.drop 5).take 1 = cs.drop 5 := List.take_of_length_le (by rw [List.length_drop]; omega)
  simp only [List.drop_drop, Nat.reduceAdd] at s2 s3
  rw [List.drop_zero] at e0
  rw [s4] at e3
  rw [← s1, ← s2, ← s3, e0, e1, e2, e3]
  rfl
set_option maxRecDepth 100000 in
theorem edge_cells {fuel : Nat} {cs : List Value} {x : DataW H × List MemPlace} (h : DataW.trod enc Try.prog w base spare held fuel 56 cs = some x) : ∃ q : Ed, cs = q.cells ∧ q.fit := by
  obtain ⟨hl, n, xs, rfl, hm⟩ := trod_struct_invZ Try.underlying56 h
  rw [Try.zEdge] at hl
  obtain ⟨y0, z0, h0, hm1, rfl⟩ := mapM_invZ hm
  obtain ⟨y1, z1, h1, hm2, rfl⟩ := mapM_invZ hm1
  obtain ⟨y2, z2, h2, hm3, rfl⟩ := mapM_invZ hm2
  obtain ⟨y3, z3, h3, hm4, rfl⟩ := mapM_invZ hm3
  obtain ⟨y4, z4, h4, hm5, rfl⟩ := mapM_invZ hm4
  obtain rfl := mapM_endZ hm5
  dsimp only at h0 h1 h2 h3 h4
  rw [Try.zInt] at h0 h1 h4
  rw [Try.zBool] at h2
  rw [Try.zSide] at h3
  obtain ⟨k0, e0, _, w0⟩ := DataW.trod_int Try.underlying3 h0
  obtain ⟨k1, e1, _, w1⟩ := DataW.trod_int Try.underlying3 h1
  obtain ⟨b, e2, _⟩ := DataW.trod_bool Try.underlying4 h2
  obtain ⟨q, e3, hq1, hq2⟩ := side_cellsZ h3
  obtain ⟨k4, e4, _, w4⟩ := DataW.trod_int Try.underlying3 h4
  refine ⟨⟨k0, k1, b, q, k4⟩, ?_, ⟨fitZ.i64 w0, fitZ.i64 w1, hq1⟩, hq2⟩
  have s1 := List.take_append_drop 1 cs
  have s2 := List.take_append_drop 1 (cs.drop 1)
  have s3 := List.take_append_drop 1 (cs.drop 2)
  have s4 := List.take_append_drop 6 (cs.drop 3)
  have s5 : (cs.drop 9).take 1 = cs.drop 9 := List.take_of_length_le (by rw [List.length_drop]; omega)
  simp only [List.drop_drop, Nat.reduceAdd] at s2 s3 s4
  rw [List.drop_zero] at e0
  rw [s5] at e4
  rw [← s1, ← s2, ← s3, ← s4, e0, e1, e2, e3, e4]
  rfl
set_option maxRecDepth 100000 in
theorem place_cellsZ {fuel : Nat} {cs : List Value} {y : DataW H × List MemPlace} (h : DataW.trod enc Try.prog w base spare held fuel 52 cs = some y) : ∃ q : Pz, cs = q.cells ∧ q.ok := by
  obtain ⟨xs, n, _, _, hl, hlen, hf⟩ := DataW.trod_struct Try.underlying52 h
  rw [Try.zPl] at hl
  match cs, hl, xs, hlen with
  | [c0, c1, c2, c3, c4], _, [y0, y1, y2, y3, y4], _ =>
    have k1 := Try.zInt
    have h0 := hf 0 _ rfl
    have h1 := hf 1 _ rfl
    have h2 := hf 2 _ rfl
    have h3 := hf 3 _ rfl
    have h4 := hf 4 _ rfl
    simp [k1] at h0 h1 h2 h3 h4
    obtain ⟨a0, e0, _, w0⟩ := DataW.trod_int Try.underlying3 h0
    obtain ⟨a1, e1, _, w1⟩ := DataW.trod_int Try.underlying3 h1
    obtain ⟨a2, e2, _, w2⟩ := DataW.trod_int Try.underlying3 h2
    obtain ⟨a3, e3, _, w3⟩ := DataW.trod_int Try.underlying3 h3
    obtain ⟨a4, e4, _, w4⟩ := DataW.trod_int Try.underlying3 h4
    simp at e0 e1 e2 e3 e4
    subst e0 e1 e2 e3 e4
    exact ⟨⟨a0, a1, a2, a3, a4⟩, rfl, fitZ.i64 w0, fitZ.i64 w1, fitZ.i64 w2, fitZ.i64 w3, fitZ.i64 w4⟩
set_option maxRecDepth 100000 in
theorem open_PA {fuel : Nat} {cs : List Value} {y : DataW H × List MemPlace} (h : DataW.trod enc Try.prog w base spare held fuel 22 cs = some y) : ∃ v L, cs = [v] ∧ PA w v L := by
  rcases Go.Deep.open_slice Try.underlying22 h with ⟨hcs, _⟩ | ⟨x, len, cap, m, n, D, Pl, hcs, _, hl, hm, hmm, _, hx⟩
  · exact ⟨_, [], hcs, none, 0, 0, rfl, ⟨by simp, .inl ⟨none, 0, rfl, rfl⟩⟩, rfl, by omega, by unfold maxLen; omega, by simp, .inl ⟨rfl, rfl, rfl⟩⟩
  · have hm' := hm
    unfold maxLen at hm
    have hlm : len ≤ m := by rw [hmm]; split <;> omega
    rw [Try.zPl] at hx
    have each : ∀ i, i < len → ∃ q : Pz, q.ok ∧ ∀ k u, q.cells[k]? = some u → w.cell? (x.add (i * 5 + k)) = some u := by
      intro i hi
      obtain ⟨cs, h1, h2⟩ := hx i (by omega)
      obtain ⟨q, rfl, hq⟩ := place_cellsZ h2
      obtain ⟨_, _, hc⟩ := World.cells?_some h1
      refine ⟨q, hq, fun k v hv => ?_⟩
      have hk : k < 5 := by have := (List.getElem?_eq_some_iff.1 hv).1; simpa [Pz.cells] using this
      have := hc k hk
      rw [hv] at this
      rw [Go.Deep.add_add] at this
      exact this
    obtain ⟨q, hq⟩ := @Go.Deep.choose_lt Pz ⟨⟨0, 0, 0, 0, 0⟩⟩ _ _ each
    refine ⟨_, (List.range len).map q, hcs, some x, len, cap, rfl, ⟨by simp; omega, ?_⟩, by simp, hl, hm', ?_, .inr ⟨x.1, x.2, x.3, rfl⟩⟩
    · obtain ⟨g, off, sp⟩ := x
      by_cases h0 : len = 0
      · subst h0; exact .inl ⟨_, cap, rfl, rfl⟩
      · right
        have c0 := (hq 0 (by omega)).2 0 _ rfl
        have hs : sp = none := by simpa [Addr.add] using World.cell?_spot c0
        subst hs
        refine ⟨g, off, cap, by simp, fun j z hz => ?_⟩
        have hj : j < len := by have := (List.getElem?_eq_some_iff.1 hz).1; simpa using this
        have e : z = q j := by simp [hj] at hz; exact hz.symm
        subst e
        have a0 := (hq j hj).2 0 _ rfl
        have a1 := (hq j hj).2 1 _ rfl
        have a2 := (hq j hj).2 2 _ rfl
        have a3 := (hq j hj).2 3 _ rfl
        have a4 := (hq j hj).2 4 _ rfl
        rw [add_plainC] at a0 a1 a2 a3 a4
        simp only [Nat.add_assoc] at *
        exact ⟨a0, a1, a2, a3, a4⟩
    · intro p hp
      obtain ⟨i, hi, rfl⟩ := List.mem_map.1 hp
      exact (hq i (List.mem_range.1 hi)).1
theorem open_RA {α : Type} [Inhabited α] {cells : α → List Value} {wf : α → Prop} {n T E : Nat} (hT : Try.prog.underlying T = some (.slice E)) (hE : Try.prog.cellsOf E = n) (hn : ∀ a, (cells a).length = n)
    (one : ∀ {fuel : Nat} {cs : List Value} {x : DataW H × List MemPlace}, DataW.trod enc Try.prog w base spare held fuel E cs = some x → ∃ q : α, cs = cells q ∧ wf q)
    {fuel : Nat} {cs : List Value} {y : DataW H × List MemPlace} (h : DataW.trod enc Try.prog w base spare held fuel T cs = some y) : ∃ v zs, cs = [v] ∧ RA cells wf n w v zs := by
  have hf : ∃ a l c, cs = [.slice a l c] := by
    rcases Go.Deep.open_slice hT h with ⟨hcs, _⟩ | ⟨x, l, c, m, nn, D, Pl, hcs, _⟩
    · exact ⟨_, _, _, hcs⟩
    · exact ⟨_, _, _, hcs⟩
  obtain ⟨a, l, c, rfl⟩ := hf
  obtain ⟨zs, hz⟩ := open_rowsK hT hE hn one h
  exact ⟨_, zs, rfl, a, l, c, rfl, hz⟩
theorem open_runs {fuel : Nat} {cs : List Value} {y : DataW H × List MemPlace} (h : DataW.trod enc Try.prog w base spare held fuel 24 cs = some y) : ∃ v zs, cs = [v] ∧ RA Rn.cells Rn.fit 14 w v zs :=
  open_RA Try.underlying24 Try.zRun Rn.cells_len (fun h => run_cells h) h
theorem open_cellsZ {fuel : Nat} {cs : List Value} {y : DataW H × List MemPlace} (h : DataW.trod enc Try.prog w base spare held fuel 23 cs = some y) : ∃ v zs, cs = [v] ∧ RA Fr.cells Fr.fit 12 w v zs :=
  open_RA Try.underlying23 Try.zFour Fr.cells_len (fun h => four_cells h) h
theorem list_parts20 (cs : List Value) (h : cs.length = 20) : cs = cs.take 1 ++ ((cs.drop 1).take 1 ++ ((cs.drop 2).take 1 ++ ((cs.drop 3).take 1 ++ ((cs.drop 4).take 1 ++ ((cs.drop 5).take 1 ++ ((cs.drop 6).take 1 ++ ((cs.drop 7).take 1 ++ (cs.drop 8).take 12))))))) := by
  have e1 : (cs.drop 8).take 12 = cs.drop 8 := List.take_of_length_le (by rw [List.length_drop]; omega)
  have s1 := List.take_append_drop 1 cs
  have s2 := List.take_append_drop 1 (cs.drop 1)
  have s3 := List.take_append_drop 1 (cs.drop 2)
  have s4 := List.take_append_drop 1 (cs.drop 3)
  have s5 := List.take_append_drop 1 (cs.drop 4)
  have s6 := List.take_append_drop 1 (cs.drop 5)
  have s7 := List.take_append_drop 1 (cs.drop 6)
  have s8 := List.take_append_drop 1 (cs.drop 7)
  simp only [List.drop_drop, Nat.reduceAdd] at s2 s3 s4 s5 s6 s7 s8
  rw [e1, s8, s7, s6, s5, s4, s3, s2, s1]
set_option maxRecDepth 100000 in
theorem fm_cells {n : Nat} {cs : List Value} {y : DataW H × List MemPlace} (hl : cs.length = 20) (h : DataW.trod enc Try.prog w base spare held n 30 cs = some y) : ∃ (f : Fm) (v : FmV), cs = f.cells v ∧ FmArg w f v := by
  obtain ⟨_, n, xs, _, hm⟩ := trod_struct_invZ Try.underlying30 h
  obtain ⟨y0, z0, h0, hm_0, rfl⟩ := mapM_invZ hm
  obtain ⟨y1, z1, h1, hm_1, rfl⟩ := mapM_invZ hm_0
  obtain ⟨y2, z2, h2, hm_2, rfl⟩ := mapM_invZ hm_1
  obtain ⟨y3, z3, h3, hm_3, rfl⟩ := mapM_invZ hm_2
  obtain ⟨y4, z4, h4, hm_4, rfl⟩ := mapM_invZ hm_3
  obtain ⟨y5, z5, h5, hm_5, rfl⟩ := mapM_invZ hm_4
  obtain ⟨y6, z6, h6, hm_6, rfl⟩ := mapM_invZ hm_5
  obtain ⟨y7, z7, h7, hm_7, rfl⟩ := mapM_invZ hm_6
  obtain ⟨y8, z8, h8, hm_8, rfl⟩ := mapM_invZ hm_7
  clear hm hm_0 hm_1 hm_2 hm_3 hm_4 hm_5 hm_6 hm_7 hm_8
  dsimp only at h0 h1 h2 h3 h4 h5 h6 h7 h8
  rw [Try.zInt] at h0 h1
  rw [Try.zSl1] at h2
  rw [Try.zSl2] at h3
  rw [Try.zSl3] at h4 h5 h6 h7
  rw [Try.zFour] at h8
  rw [List.drop_zero] at h0
  obtain ⟨r, e0, _, w0⟩ := DataW.trod_int Try.underlying3 h0
  obtain ⟨c, e1, _, w1⟩ := DataW.trod_int Try.underlying3 h1
  obtain ⟨pv, ps, e2, i2⟩ := open_PA h2
  obtain ⟨cv, zs, e3, i3⟩ := open_cellsZ h3
  obtain ⟨rv, rr, e4, i4⟩ := open_runs h4
  obtain ⟨gv, rg, e5, i5⟩ := open_runs h5
  obtain ⟨kv, cr, e6, i6⟩ := open_runs h6
  obtain ⟨hv, cg, e7, i7⟩ := open_runs h7
  obtain ⟨tb, e8, i8⟩ := four_cells h8
  refine ⟨⟨r, c, ps, zs, rr, rg, cr, cg, tb⟩, ⟨pv, cv, rv, gv, kv, hv⟩, ?_, ⟨fitZ.i64 w0, fitZ.i64 w1, i2, i3, i4, i5, i6, i7, i8⟩⟩
  rw [list_parts20 cs hl, e0, e1, e2, e3, e4, e5, e6, e7, e8]
  rfl
set_option maxRecDepth 100000 in
theorem open_fm {r : Reach} {b0 : Nat} {v : Value} {d : DataW H} {p : List MemPlace} (hv : Value.okWide Try.prog w r b0 30 v) (h : DataW.Trod enc Try.prog w base spare held 30 v d p) :
    ∃ q : Fm × FmV, v = q.1.val q.2 ∧ FmArg w q.1 q.2 := by
  obtain ⟨cs, rfl, hsz⟩ := okWide_struct Try.underlying30 hv
  obtain ⟨fuel, hf⟩ := h
  obtain ⟨f, v, hq, hok⟩ := fm_cells (cs := cs.toList) (by rw [← Try.zFm]; simpa [Value.cells] using hsz) (by simpa [Value.cells] using hf)
  exact ⟨(f, v), by unfold Fm.val; rw [← hq], hok⟩
def EdgeArg (W : World) (a : Option Addr) (len cap : Nat) (zs : List Ed) : Prop := RowArg Ed.cells Ed.fit 10 W a len cap zs
theorem open_edges {a : Option Addr} {len cap fuel : Nat} {y : DataW H × List MemPlace} (h : DataW.trod enc Try.prog w base spare held fuel 31 [.slice a len cap] = some y) : ∃ zs, EdgeArg w a len cap zs :=
  open_rowsK Try.underlying31 Try.zEdge Ed.cells_len (fun h => edge_cells h) h
end
end Go.Proofs.Ytceippgkmoijdaa
