/- A node as an argument, or in a row: opened. -/
/- A page as an argument: opened. -/
/- What the statements on pages share: a page is cut. -/
/- What the statements of layer 5 share: a page is cut, then fixed. -/
import Derived.Test.YtecnapecmioamaaTNode
import Derived.Test.YtecnapecmioamaaSOpen
import Derived.Deep.Slices
import Derived.Test.YtecnapecmioamaaTPure
import Derived.Test.YtecnapecmioamaaTOrder
import Derived.Test.YtecnapecmioamaaTCut
import Derived.Test.YtecnapecmioamaaFFacts
import Derived.Test.YtecnapecmioamaaFShown
namespace Go.Proofs.Ytecnapecmioamaa
open Go.ChangeShapes Go.WideShapes Go.ChangeAt Go.RowKit Go.Joins Go.Shelf
set_option linter.unusedVariables false
set_option linter.unusedSimpArgs false

section
variable {H : Type} {enc : TypeId × Value → H} {w : World} {base : Nat} {spare : Nat → Bool} {held : Bool}
set_option maxRecDepth 100000 in
set_option maxHeartbeats 2000000 in
theorem sty_cells {n : Nat} {l : List Value} {y : DataW H × List MemPlace} (hl : l.length = 29) (h : DataW.trod enc Try.prog w base spare held n 44 l = some y) : ∃ q : Sty, l = q.cells := by
  obtain ⟨c0, c1, c2, c3, c4, c5, c6, c7, c8, c9, c10, c11, c12, c13, c14, c15, c16, c17, c18, c19, c20, c21, c22, c23, c24, c25, c26, c27, c28, rfl⟩ := list29 (l := l) hl
  obtain ⟨n, xs, hx, hm⟩ := trod_struct_inv Try.underlying44 h
  obtain ⟨y0, z0, h0, hm_0, rfl⟩ := mapM_inv hm
  obtain ⟨y1, z1, h1, hm_1, rfl⟩ := mapM_inv hm_0
  obtain ⟨y2, z2, h2, hm_2, rfl⟩ := mapM_inv hm_1
  obtain ⟨y3, z3, h3, hm_3, rfl⟩ := mapM_inv hm_2
  obtain ⟨y4, z4, h4, hm_4, rfl⟩ := mapM_inv hm_3
  obtain ⟨y5, z5, h5, hm_5, rfl⟩ := mapM_inv hm_4
  obtain ⟨y6, z6, h6, hm_6, rfl⟩ := mapM_inv hm_5
  obtain ⟨y7, z7, h7, hm_7, rfl⟩ := mapM_inv hm_6
  obtain ⟨y8, z8, h8, hm_8, rfl⟩ := mapM_inv hm_7
  obtain ⟨y9, z9, h9, hm_9, rfl⟩ := mapM_inv hm_8
  obtain ⟨y10, z10, h10, hm_10, rfl⟩ := mapM_inv hm_9
  obtain ⟨y11, z11, h11, hm_11, rfl⟩ := mapM_inv hm_10
  obtain rfl := mapM_end hm_11
  simp [Try.cellsSize, Try.cellsPads, Try.cellsLines, Try.cellsInt, Try.cellsBool, Try.cellsGaps, Value.cells] at h0 h1 h2 h3 h4 h5 h6 h7 h8 h9 h10 h11
  obtain ⟨wk, wn, rfl, rfl, rfl, a0, a1⟩ := open_size h0
  obtain ⟨hk, hn, rfl, rfl, rfl, a2, a3⟩ := open_size h1
  obtain ⟨u0, u1, u2, u3, n2, hx2, p0, p1, p2, p3⟩ := trod_array4 Try.underlying37 Try.cellsI64 h2
  obtain ⟨q0, e0, rfl, b0⟩ := DataW.trod_int Try.underlying2 p0
  obtain ⟨q1, e1, rfl, b1⟩ := DataW.trod_int Try.underlying2 p1
  obtain ⟨q2, e2, rfl, b2⟩ := DataW.trod_int Try.underlying2 p2
  obtain ⟨q3, e3, rfl, b3⟩ := DataW.trod_int Try.underlying2 p3
  obtain ⟨n3, xs3, rfl, hm3⟩ := trod_array_inv Try.underlying41 h3
  rw [show List.range 4 = [0, 1, 2, 3] from rfl] at hm3
  obtain ⟨l0, t0, g0, hm3_6, rfl⟩ := mapM_inv hm3
  obtain ⟨l1, t1, g1, hm3_7, rfl⟩ := mapM_inv hm3_6
  obtain ⟨l2, t2, g2, hm3_8, rfl⟩ := mapM_inv hm3_7
  obtain ⟨l3, t3, g3, hm3_9, rfl⟩ := mapM_inv hm3_8
  obtain rfl := mapM_end hm3_9
  simp [Try.cellsLine] at g0 g1 g2 g3
  obtain ⟨s0, w0, k0, rfl, rfl, rfl, rfl, f0, f1, f2⟩ := open_line g0
  obtain ⟨s1, w1, k1, rfl, rfl, rfl, rfl, f3, f4, f5⟩ := open_line g1
  obtain ⟨s2, w2, k2, rfl, rfl, rfl, rfl, f6, f7, f8⟩ := open_line g2
  obtain ⟨s3, w3, k3, rfl, rfl, rfl, rfl, f9, f10, f11⟩ := open_line g3
  obtain ⟨cs, e4, rfl, b4⟩ := DataW.trod_int Try.underlying3 h4
  obtain ⟨rs, e5, rfl, b5⟩ := DataW.trod_int Try.underlying3 h5
  obtain ⟨al, e6, rfl, b6⟩ := DataW.trod_int Try.underlying3 h6
  obtain ⟨fx, e7, rfl⟩ := DataW.trod_bool Try.underlying4 h7
  obtain ⟨cl, e8, rfl⟩ := DataW.trod_bool Try.underlying4 h8
  obtain ⟨n9, xs9, rfl, hm9⟩ := trod_array_inv Try.underlying42 h9
  rw [show List.range 2 = [0, 1] from rfl] at hm9
  obtain ⟨m0, t4, g4, hm9_10, rfl⟩ := mapM_inv hm9
  obtain ⟨m1, t5, g5, hm9_11, rfl⟩ := mapM_inv hm9_10
  obtain rfl := mapM_end hm9_11
  simp [Try.cellsI64] at g4 g5
  obtain ⟨ga, e9, rfl, b9⟩ := DataW.trod_int Try.underlying2 g4
  obtain ⟨gb, e10, rfl, b10⟩ := DataW.trod_int Try.underlying2 g5
  obtain ⟨hd, e11, rfl⟩ := DataW.trod_bool Try.underlying4 h10
  obtain ⟨bl, e12, rfl⟩ := DataW.trod_bool Try.underlying4 h11
  simp at e0 e1 e2 e3 e4 e5 e6 e7 e8 e9 e10 e11 e12
  subst e0 e1 e2 e3 e4 e5 e6 e7 e8 e9 e10 e11 e12
  refine ⟨⟨wk, wn, hk, hn, fun k => if k = 0 then ⟨q0, s0, w0, k0⟩ else if k = 1 then ⟨q1, s1, w1, k1⟩ else if k = 2 then ⟨q2, s2, w2, k2⟩ else ⟨q3, s3, w3, k3⟩, cs, rs, al, fx, cl, ga, gb, hd, bl⟩, rfl⟩
theorem open_ints {t e : TypeId} {fuel : Nat} {cs : List Value} {y : DataW H × List MemPlace} (ht : Try.prog.underlying t = some (.slice e)) (he : Try.prog.underlying e = some (.int .i64)) (hc : Try.prog.cellsOf e = 1) (h : DataW.trod enc Try.prog w base spare held fuel t cs = some y) :
    ∃ v zs, cs = [v] ∧ Ints w v zs ∧ CapOk v := by
  rcases Go.Deep.open_slice1 ht hc h with ⟨rfl, _⟩ | ⟨a, len, cap, m, n, V, D, Pl, rfl, _, hl, hm, hmm, _, hx⟩
  · exact ⟨_, [], rfl, ⟨by simp, .inl ⟨none, 0, rfl, rfl⟩⟩, ⟨none, 0, 0, rfl, by omega, by omega⟩⟩
  · unfold maxLen at hm
    have hlm : len ≤ m := by rw [hmm]; split <;> omega
    have each : ∀ i, i < len → ∃ z : Int, w.cell? (a.add i) = some (.int .i64 z) := fun i hi => by
      obtain ⟨h1, h2⟩ := hx i (by omega)
      obtain ⟨z, e0, _, _⟩ := DataW.trod_int he h2
      simp at e0
      exact ⟨z, by rw [h1, e0]⟩
    obtain ⟨q, hq⟩ := Go.Deep.choose_lt each
    obtain ⟨b, off, sp⟩ := a
    refine ⟨_, (List.range len).map q, rfl, ⟨by simp; omega, ?_⟩, ⟨_, len, cap, rfl, hl, hm⟩⟩
    by_cases h0 : len = 0
    · subst h0; exact .inl ⟨_, cap, rfl, rfl⟩
    · have c0 := hq 0 (by omega)
      have hs : sp = none := by simpa [Addr.add] using World.cell?_spot c0
      subst hs
      refine .inr ⟨b, off, cap, by simp, fun j hj => ?_⟩
      simp at hj
      have := hq j hj
      rw [add_plain] at this
      rw [this]; simp [hj]
theorem list_parts (cs : List Value) (h : cs.length = 34) : cs = cs.take 1 ++ ((cs.drop 1).take 1 ++ ((cs.drop 2).take 29 ++ ((cs.drop 31).take 1 ++ ((cs.drop 32).take 1 ++ (cs.drop 33).take 1)))) := by
  have e1 : (cs.drop 33).take 1 = cs.drop 33 := List.take_of_length_le (by rw [List.length_drop]; omega)
  have s1 := List.take_append_drop 1 cs
  have s2 := List.take_append_drop 1 (cs.drop 1)
  have s3 := List.take_append_drop 29 (cs.drop 2)
  have s4 := List.take_append_drop 1 (cs.drop 31)
  have s5 := List.take_append_drop 1 (cs.drop 32)
  simp only [List.drop_drop, Nat.reduceAdd] at s2 s3 s4 s5
  rw [e1, s5, s4, s3, s2, s1]
theorem Try.cellsNd : Try.prog.cellsOf 47 = 34 := by kernel_rfl
set_option maxRecDepth 100000 in
theorem node_cells {n : Nat} {cs : List Value} {y : DataW H × List MemPlace} (hl : cs.length = 34) (h : DataW.trod enc Try.prog w base spare held n 47 cs = some y) : ∃ q : Nd, cs = q.cells ∧ q.ok w := by
  obtain ⟨n, xs, _, hm⟩ := trod_struct_inv Try.underlying47 h
  obtain ⟨y0, z0, h0, hm_0, rfl⟩ := mapM_inv hm
  obtain ⟨y1, z1, h1, hm_1, rfl⟩ := mapM_inv hm_0
  obtain ⟨y2, z2, h2, hm_2, rfl⟩ := mapM_inv hm_1
  obtain ⟨y3, z3, h3, hm_3, rfl⟩ := mapM_inv hm_2
  obtain ⟨y4, z4, h4, hm_4, rfl⟩ := mapM_inv hm_3
  obtain ⟨y5, z5, h5, hm_5, rfl⟩ := mapM_inv hm_4
  clear hm hm_0 hm_1 hm_2 hm_3 hm_4 hm_5
  have k29 : Try.prog.cellsOf 34 = 1 := by kernel_rfl
  have k47 : Try.prog.cellsOf 45 = 1 := by kernel_rfl
  dsimp only at h0 h1 h2 h3 h4 h5
  rw [Try.cellsInt] at h0
  rw [k29] at h1
  rw [Try.cellsSty] at h2
  rw [k47] at h3
  rw [Try.cellsI64] at h4 h5
  rw [List.drop_zero] at h0
  obtain ⟨k, e0, _, _⟩ := DataW.trod_int Try.underlying3 h0
  obtain ⟨kv, ks, e1, i1, c1⟩ := open_ints Try.underlying34 Try.underlying3 Try.cellsInt h1
  obtain ⟨s, e2⟩ := sty_cells (by rw [List.length_take, List.length_drop]; omega) h2
  obtain ⟨wv, ws, e3, i3, c3⟩ := open_ints Try.underlying45 Try.underlying2 Try.cellsI64 h3
  obtain ⟨b, e4, _, _⟩ := DataW.trod_int Try.underlying2 h4
  obtain ⟨hh, e5, _, _⟩ := DataW.trod_int Try.underlying2 h5
  refine ⟨⟨k, kv, ks, s, wv, ws, b, hh⟩, ?_, i1, i3, c1, c3⟩
  rw [list_parts cs hl, e0, e1, e2, e3, e4, e5]
  rfl
set_option maxRecDepth 100000 in
theorem open_node {r : Reach} {b0 : Nat} {v : Value} {d : DataW H} {p : List MemPlace} (hv : Value.okWide Try.prog w r b0 47 v) (h : DataW.Trod enc Try.prog w base spare held 47 v d p) :
    ∃ q : Nd, v = q.val ∧ q.ok w := by
  obtain ⟨cs, rfl, hsz⟩ := okWide_struct Try.underlying47 hv
  obtain ⟨fuel, hf⟩ := h
  obtain ⟨q, hq, hok⟩ := node_cells (by rw [← Try.cellsNd]; simpa [Value.cells] using hsz) hf
  exact ⟨q, by unfold Nd.val; rw [← hq]; simp [Value.cells], hok⟩
end
end Go.Proofs.Ytecnapecmioamaa

namespace Go.Proofs.Ytecnapecmioamaa
open Go.ChangeShapes Go.WideShapes Go.ChangeAt Go.RowKit Go.Joins Go.Shelf
set_option linter.unusedVariables false
set_option linter.unusedSimpArgs false

section
variable {H : Type} {enc : TypeId × Value → H} {w : World} {base : Nat} {spare : Nat → Bool} {held : Bool}
instance : Inhabited Nd := ⟨Nd.zero⟩
theorem open_nodes {a : Option Addr} {len cap fuel : Nat} {y : DataW H × List MemPlace} (h : DataW.trod enc Try.prog w base spare held fuel 22 [.slice a len cap] = some y) : ∃ ns, PageAt w (.slice a len cap) ns ∧ len ≤ cap ∧ cap ≤ 9223372036854775807 ∧ ns.length = len := by
  rcases Go.Deep.open_slice Try.underlying22 h with ⟨hcs, _⟩ | ⟨x, l, c, m, n, D, Pl, hcs, _, hl, hm, hmm, _, hx⟩
  · simp at hcs
    obtain ⟨rfl, rfl, rfl⟩ := hcs
    exact ⟨[], ⟨by simp, fun n h => (by cases h), .inl ⟨none, 0, rfl, rfl⟩⟩, by omega, by omega, rfl⟩
  · simp at hcs
    obtain ⟨rfl, rfl, rfl⟩ := hcs
    unfold maxLen at hm
    have hlm : len ≤ m := by rw [hmm]; split <;> omega
    rw [Try.cellsNd] at hx
    have each : ∀ i, i < len → ∃ q : Nd, q.ok w ∧ ∀ k v, q.cells[k]? = some v → w.cell? (x.add (i * 34 + k)) = some v := by
      intro i hi
      obtain ⟨cs, h1, h2⟩ := hx i (by omega)
      obtain ⟨_, h3, hc⟩ := World.cells?_some h1
      obtain ⟨q, rfl, hok⟩ := node_cells h3 h2
      refine ⟨q, hok, fun k v hv => ?_⟩
      have hk : k < 34 := by have := (List.getElem?_eq_some_iff.1 hv).1; rwa [q.len] at this
      have := hc k hk
      rw [hv] at this
      rw [Go.Deep.add_add] at this
      exact this
    obtain ⟨q, hq⟩ := Go.Deep.choose_lt each
    refine ⟨(List.range len).map q, ⟨by simp; omega, fun nd hnd => ?_, ?_⟩, hl, hm, by simp⟩
    · obtain ⟨i, hi, rfl⟩ := List.mem_map.1 hnd
      exact (hq i (by simpa using hi)).1
    · obtain ⟨g, off, sp⟩ := x
      by_cases h0 : len = 0
      · subst h0; exact .inl ⟨_, cap, rfl, rfl⟩
      · right
        have c0 := (hq 0 (by omega)).2 0 _ (Nd.c0 _)
        have hs : sp = none := by simpa [Addr.add] using World.cell?_spot c0
        subst hs
        refine ⟨g, off, cap, by simp, fun i nd hi j v hj => ?_⟩
        obtain ⟨hlt, he⟩ := List.getElem?_eq_some_iff.1 hi
        simp at hlt he
        subst he
        have := (hq i hlt).2 j v hj
        rw [add_plain] at this
        rw [show off + i * 34 + j = off + (i * 34 + j) by omega]
        exact this
end
end Go.Proofs.Ytecnapecmioamaa

namespace Go.Proofs.Ytecnapecmioamaa
open Go.RowKit Go.Shelf
set_option linter.unusedVariables false

def CutPost (ms : List Nd) (w : World) (e : Ending) (W' : World) : Prop := ∃ q c, e = .returned (.slice q ms.length c) ∧ PageAt W' (.slice q ms.length c) ms ∧ Below w.heap.size w W'
theorem cut_post (lv : Value) (ns : List Nd) (w : World) (hP : PageAt w lv ns) : Calls Try.prog 5 #[lv] w (CutPost (cutP ns) w) :=
  (cut_any lv ns w hP).mono fun e W' ⟨v, he, hp, hb⟩ => by
    obtain ⟨q, c, rfl⟩ := hp.form
    exact ⟨q, c, he, hp, hb⟩
theorem cutP_both (ns : List Nd) : ∀ n ∈ cutP ns, n.ks.length ≤ 70000 ∧ n.ws.length ≤ 70000 := fun n hn => by
  obtain ⟨a, _, rfl⟩ := List.mem_map.1 hn
  constructor <;> simp [cutN] <;> omega
theorem cutP_len (ns : List Nd) : (cutP ns).length ≤ 150 := by simp [cutP]; omega
end Go.Proofs.Ytecnapecmioamaa

namespace Go.Proofs.Ytecnapecmioamaa
open Go.RowKit Go.Shelf
set_option linter.unusedVariables false

def FixForm (ms : List Nd) (w : World) (e : Ending) (W' : World) : Prop := ∃ q c ns', e = .returned (.tuple #[.slice q ns'.length c, .int .i64 0]) ∧ PageAt W' (.slice q ns'.length c) ns' ∧ ns'.map Nd.bare = fixPg ms ∧ Below w.heap.size w W'
theorem fix_form (lv : Value) (ms : List Nd) (w : World) (hP : PageAt w lv ms) (hK : ∀ n ∈ ms, n.ks.length ≤ 70000 ∧ n.ws.length ≤ 70000) (F : Fine ms) : Calls Try.prog 6 #[lv] w (FixForm ms w) :=
  (fixF_good lv ms w hP hK F).mono fun e W' ⟨⟨v, ns', he, hp, hb⟩, hB⟩ => by
    obtain ⟨q, c, rfl⟩ := hp.form
    exact ⟨q, c, ns', he, hp, hb, hB⟩
theorem kids_bare (ns : List Nd) : kidsOf (ns.map Nd.bare) = kidsOf ns := by
  unfold kidsOf
  rw [List.flatMap_map]; rfl
end Go.Proofs.Ytecnapecmioamaa
