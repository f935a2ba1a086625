/- A side as an argument, and some sides: opened, and shut again; their first sixty. -/
import Derived.Test.YtmcgieameodkbaaCWins
import Derived.Lib.SmallJoins
import Derived.ProofKit
import Derived.OpenShut
import Derived.Deep.Slices
namespace Go.Proofs.Ytmcgieameodkbaa
open Go.ChangeShapes Go.WideShapes Go.ChangeAt Go.RowKit Go.Joins Go.Shelf
set_option linter.unusedVariables false
set_option linter.unusedSimpArgs false

theorem Try.cellsSide : Try.prog.cellsOf 26 = 6 := by kernel_rfl
theorem Try.cellsLineC : Try.prog.cellsOf 24 = 3 := by kernel_rfl
theorem Try.cellsI64C : Try.prog.cellsOf 2 = 1 := by kernel_rfl
theorem Try.cellsIntC : Try.prog.cellsOf 3 = 1 := by kernel_rfl
theorem Try.cellsU32C : Try.prog.cellsOf 22 = 1 := by kernel_rfl
def fit64 (n : Int) : Prop := (Lit.int .i64 n).wf = true
/-- each of its numbers fits -/
def Si.wf (s : Si) : Prop := (fit64 s.st ∧ fit64 s.wd ∧ (Lit.int .u32 s.co).wf = true) ∧ fit64 s.bb ∧ fit64 s.ro ∧ fit64 s.cl
theorem Si.wf.hue {s : Si} (h : s.wf) : s.hue := bounds_u32 h.1.2.2
def litC {H : Type} (n : Int) : DataW H := .lit (.int .i64 n)
def Si.data {H : Type} (s : Si) : DataW H := .agg [.agg [litC s.st, litC s.wd, .lit (.int .u32 s.co)], litC s.bb, litC s.ro, litC s.cl]
section
variable {H : Type} {P : Program} {enc : TypeId × Value → H} {w : World} {base : Nat} {spare : Nat → Bool} {held : Bool}
theorem mapM_invC {α β : Type} {f : α → Option β} {a : α} {l : List α} {ys : List β} (h : (a :: l).mapM f = some ys) : ∃ y zs, f a = some y ∧ l.mapM f = some zs ∧ ys = y :: zs := by
  rw [List.mapM_cons] at h
  cases hf : f a with
  | none => simp [hf] at h
  | some y =>
    cases hl : l.mapM f with
    | none => simp [hf, hl] at h
    | some zs => simp [hf, hl] at h; exact ⟨y, zs, rfl, rfl, h.symm⟩
theorem mapM_mkC {α β : Type} {f : α → Option β} {a : α} {l : List α} {y : β} {zs : List β} (h : f a = some y) (h' : l.mapM f = some zs) : (a :: l).mapM f = some (y :: zs) := by
  rw [List.mapM_cons, h, h']; rfl
theorem mapM_endC {α β : Type} {f : α → Option β} {ys : List β} (h : ([] : List α).mapM f = some ys) : ys = [] := by simpa using h.symm
theorem trod_struct_invC {t : TypeId} {fs : Array Field} {fuel : Nat} {cs : List Value} {x : DataW H × List MemPlace} (ht : P.underlying t = some (.struct fs)) (h : DataW.trod enc P w base spare held fuel t cs = some x) :
    ∃ n xs, x = (.agg (xs.map (·.1)), xs.flatMap (·.2)) ∧ fs.toList.mapM (fun f => DataW.trod enc P w base spare held n f.type ((cs.drop f.offset).take (P.cellsOf f.type))) = some xs := by
  cases fuel with
  | zero => simp [DataW.trod] at h
  | succ n =>
    unfold DataW.trod at h
    rw [ht] at h
    dsimp only at h
    split at h
    · obtain ⟨xs, h1, h2⟩ := Option.map_eq_some_iff.1 h
      exact ⟨n, xs, h2.symm, h1⟩
    · cases h
theorem trod_struct_mkC {t : TypeId} {fs : Array Field} {n : Nat} {cs : List Value} {xs : List (DataW H × List MemPlace)} (ht : P.underlying t = some (.struct fs)) (hl : cs.length = P.cellsOf t)
    (h : fs.toList.mapM (fun f => DataW.trod enc P w base spare held n f.type ((cs.drop f.offset).take (P.cellsOf f.type))) = some xs) : DataW.trod enc P w base spare held (n + 1) t cs = some (.agg (xs.map (·.1)), xs.flatMap (·.2)) := by
  unfold DataW.trod
  rw [ht]
  dsimp only
  rw [if_pos hl, h]; rfl
end
section
variable {H : Type} {enc : TypeId × Value → H} {w : World} {base : Nat} {spare : Nat → Bool} {held : Bool}
theorem open_lineC {n : Nat} {c0 c1 c2 : Value} {x : DataW H × List MemPlace} (h : DataW.trod enc Try.prog w base spare held n 24 [c0, c1, c2] = some x) :
    ∃ s v c, c0 = .int .i64 s ∧ c1 = .int .i64 v ∧ c2 = .int .u32 c ∧ x = (.agg [litC s, litC v, .lit (.int .u32 c)], []) ∧ fit64 s ∧ fit64 v ∧ (Lit.int .u32 c).wf = true := by
  obtain ⟨n, xs, rfl, hm⟩ := trod_struct_invC Try.underlying24 h
  obtain ⟨y0, z0, h0, hm_3, rfl⟩ := mapM_invC hm
  obtain ⟨y1, z1, h1, hm_4, rfl⟩ := mapM_invC hm_3
  obtain ⟨y2, z2, h2, hm_5, rfl⟩ := mapM_invC hm_4
  obtain rfl := mapM_endC hm_5
  simp [Try.cellsIntC, Try.cellsI64C, Try.cellsU32C] at h0 h1 h2
  obtain ⟨k, e0, rfl, w0⟩ := DataW.trod_int Try.underlying3 h0
  obtain ⟨m, e1, rfl, w1⟩ := DataW.trod_int Try.underlying2 h1
  obtain ⟨c, e2, rfl, w2⟩ := DataW.trod_int Try.underlying22 h2
  simp at e0 e1 e2
  exact ⟨k, m, c, e0, e1, e2, rfl, w0, w1, w2⟩
theorem list6 {l : List Value} (h : l.length = 6) : ∃ c0 c1 c2 c3 c4 c5, l = [c0, c1, c2, c3, c4, c5] := by
  match l, h with
  | [c0, c1, c2, c3, c4, c5], _ => exact ⟨c0, c1, c2, c3, c4, c5, rfl⟩
set_option maxRecDepth 100000 in
theorem side_cells {fuel : Nat} {cs : List Value} {x : DataW H × List MemPlace} (h : DataW.trod enc Try.prog w base spare held fuel 26 cs = some x) : ∃ q : Si, cs = q.cells ∧ x = (q.data, []) ∧ q.wf := by
  obtain ⟨_, _, _, _, _, _, hl, _⟩ := trod_struct4 Try.underlying26 h
  rw [Try.cellsSide] at hl
  obtain ⟨c0, c1, c2, c3, c4, c5, rfl⟩ := list6 hl
  obtain ⟨n, xs, rfl, hm⟩ := trod_struct_invC Try.underlying26 h
  obtain ⟨y0, z0, h0, hm_3, rfl⟩ := mapM_invC hm
  obtain ⟨y1, z1, h1, hm_4, rfl⟩ := mapM_invC hm_3
  obtain ⟨y2, z2, h2, hm_5, rfl⟩ := mapM_invC hm_4
  obtain ⟨y3, z3, h3, hm_6, rfl⟩ := mapM_invC hm_5
  obtain rfl := mapM_endC hm_6
  simp [Try.cellsIntC, Try.cellsLineC] at h0 h1 h2 h3
  obtain ⟨s, v, c, rfl, rfl, rfl, rfl, w0, w1, w2⟩ := open_lineC h0
  obtain ⟨k, e0, rfl, w3⟩ := DataW.trod_int Try.underlying3 h1
  obtain ⟨m, e1, rfl, w4⟩ := DataW.trod_int Try.underlying3 h2
  obtain ⟨p, e2, rfl, w5⟩ := DataW.trod_int Try.underlying3 h3
  simp at e0 e1 e2
  subst e0 e1 e2
  exact ⟨⟨s, v, c, k, m, p⟩, rfl, rfl, ⟨w0, w1, w2⟩, w3, w4, w5⟩
theorem open_side {r : Reach} {b0 : Nat} {v : Value} {d : DataW H} {p : List MemPlace} (hv : Value.okWide Try.prog w r b0 26 v) (h : DataW.Trod enc Try.prog w base spare held 26 v d p) :
    ∃ q : Si, v = q.val ∧ d = q.data ∧ p = [] ∧ q.wf := by
  obtain ⟨cs, rfl, hsz⟩ := okWide_struct Try.underlying26 hv
  obtain ⟨l⟩ := cs
  obtain ⟨fuel, hf⟩ := h
  obtain ⟨q, h1, h2, h3⟩ := side_cells (by simpa [Value.cells] using hf)
  subst h1
  obtain ⟨rfl, rfl⟩ := Prod.mk.inj h2
  exact ⟨q, rfl, rfl, rfl, h3⟩
set_option maxRecDepth 100000 in
theorem shut_side (q : Si) (hq : q.wf) : DataW.Trod enc Try.prog w base spare held 26 q.val q.data [] := by
  obtain ⟨⟨a0, a1, a2⟩, a3, a4, a5⟩ := hq
  refine ⟨3, ?_⟩
  refine trod_struct_mkC (xs := [(.agg [litC q.st, litC q.wd, .lit (.int .u32 q.co)], []), (litC q.bb, []), (litC q.ro, []), (litC q.cl, [])]) Try.underlying26 (by simp [Try.cellsSide, Value.cells, Si.val]) ?_
  refine mapM_mkC (by
    simp [Try.cellsLineC, Value.cells, Si.val]
    exact trod_struct_mkC (xs := [(litC q.st, []), (litC q.wd, []), (.lit (.int .u32 q.co), [])]) Try.underlying24 Try.cellsLineC.symm
      (mapM_mkC (by simp [Try.cellsIntC]; exact trod_int_mk 0 Try.underlying3 a0) (mapM_mkC (by simp [Try.cellsI64C]; exact trod_int_mk 0 Try.underlying2 a1) (mapM_mkC (by simp [Try.cellsU32C]; exact trod_int_mk 0 Try.underlying22 a2) rfl)))) ?_
  refine mapM_mkC (by simp [Try.cellsIntC, Value.cells, Si.val]; exact trod_int_mk 1 Try.underlying3 a3) ?_
  refine mapM_mkC (by simp [Try.cellsIntC, Value.cells, Si.val]; exact trod_int_mk 1 Try.underlying3 a4) ?_
  exact mapM_mkC (by simp [Try.cellsIntC, Value.cells, Si.val]; exact trod_int_mk 1 Try.underlying3 a5) rfl
/-- the sides of a slice that is an argument -/
def SideRow (W : World) (a : Option Addr) (len cap : Nat) (zs : List Si) : Prop :=
  (∀ s ∈ zs, s.wf) ∧ ((a = none ∧ len = 0 ∧ cap = 0 ∧ zs = []) ∨ ∃ x, a = some x ∧ len ≤ cap ∧ cap ≤ maxLen ∧ zs.length = len ∧ ∀ j, j < len → ∀ i v, (zs[j]!).cells[i]? = some v → W.cell? (x.add (j * 6 + i)) = some v)
theorem open_sides {a : Option Addr} {len cap fuel : Nat} {y : DataW H × List MemPlace} (h : DataW.trod enc Try.prog w base spare held fuel 33 [.slice a len cap] = some y) : ∃ zs, SideRow w a len cap zs := by
  rcases Go.Deep.open_slice Try.underlying33 h with ⟨hcs, _⟩ | ⟨x, l, c, m, n, D, Pl, hcs, _, hl, hm, hmm, _, hx⟩
  · simp at hcs
    obtain ⟨rfl, rfl, rfl⟩ := hcs
    exact ⟨[], by simp, .inl ⟨rfl, rfl, rfl, rfl⟩⟩
  · simp at hcs
    obtain ⟨rfl, rfl, rfl⟩ := hcs
    have hlm : len ≤ m := by rw [hmm]; split <;> omega
    rw [Try.cellsSide] at hx
    have each : ∀ i, i < len → ∃ q : Si, q.wf ∧ ∀ k v, q.cells[k]? = some v → w.cell? (x.add (i * 6 + k)) = some v := by
      intro i hi
      obtain ⟨cs, h1, h2⟩ := hx i (by omega)
      obtain ⟨q, rfl, _, hw⟩ := side_cells h2
      obtain ⟨_, _, hc⟩ := World.cells?_some h1
      refine ⟨q, hw, fun k v hv => ?_⟩
      have hk : k < 6 := by have := (List.getElem?_eq_some_iff.1 hv).1; simpa [Si.cells] using this
      have := hc k hk
      rw [hv] at this
      rw [Go.Deep.add_add] at this
      exact this
    obtain ⟨q, hq⟩ := Go.Deep.choose_lt each
    refine ⟨(List.range len).map q, ?_, .inr ⟨x, rfl, hl, hm, by simp, fun j hj k v hv => ?_⟩⟩
    · intro s hs
      simp at hs
      obtain ⟨i, hi, rfl⟩ := hs
      exact (hq i hi).1
    · refine (hq j hj).2 k v ?_
      have e : ((List.range len).map q)[j]! = q j := by simp [hj]
      rw [e] at hv; exact hv
end
theorem cut_none (W : World) : Calls Try.prog 17 #[.slice none 0 0] W fun e W' => e = .returned (.slice none 0 0) ∧ W' = W := by
  go_enter Try.func17, Try.ntmps17
  go_wp2
  go_ret
  exact ⟨rfl, rfl⟩
theorem cut_some (g off n cap : Nat) (m : Option Nat) (W : World) (hn : n ≤ cap) (hc : cap ≤ 9223372036854775807) : Calls Try.prog 17 #[.slice (some ⟨g, off, m⟩) n cap] W fun e W' => e = .returned (.slice (some ⟨g, off, m⟩) (min n 60) cap) ∧ W' = W := by
  by_cases h : n ≤ 60
  · rw [Nat.min_eq_left h]
    have hm : min (n : Int) 60 = n := by omega
    go_enter Try.func17, Try.ntmps17
    go_wp2
    go_ret
    exact ⟨rfl, rfl⟩
  · rw [Nat.min_eq_right (by omega)]
    have hm : min (n : Int) 60 = 60 := by omega
    have hc' : 60 ≤ cap := by omega
    go_enter Try.func17, Try.ntmps17
    go_wp2
    go_ret
    exact ⟨rfl, rfl⟩

/-- the law's cut of an argument -/
theorem cut_any {W : World} {a : Option Addr} {len cap : Nat} {zs : List Si} (h : SideRow W a len cap zs) :
    ∃ p, Sides W (.slice p (min len 60) cap) (zs.take 60) ∧ (zs.take 60).length = min len 60 ∧ min len 60 ≤ cap ∧ cap ≤ 9223372036854775807 ∧ ∀ X, Calls Try.prog 17 #[.slice a len cap] X fun e X' => e = .returned (.slice p (min len 60) cap) ∧ X = X' := by
  rcases h.2 with ⟨rfl, rfl, rfl, rfl⟩ | ⟨x, rfl, hl, hm, hz, hc⟩
  · exact ⟨none, ⟨by simp, .inl ⟨none, 0, rfl, rfl⟩⟩, by simp, by simp, by simp, fun X => (cut_none X).mono fun _ _ h => ⟨h.1, h.2.symm⟩⟩
  · unfold maxLen at hm
    obtain ⟨g, off, m⟩ := x
    have ht : (zs.take 60).length = min len 60 := by rw [List.length_take, hz, Nat.min_comm]
    refine ⟨some ⟨g, off, m⟩, ?_, ht, by omega, by omega, fun X => (cut_some g off len cap m X hl (by omega)).mono fun _ _ h => ⟨h.1, h.2.symm⟩⟩
    refine ⟨by omega, ?_⟩
    by_cases h0 : len = 0
    · subst h0
      have : zs = [] := List.length_eq_zero_iff.1 hz
      subst this
      exact .inl ⟨some ⟨g, off, m⟩, cap, rfl, rfl⟩
    · right
      have c0 := hc 0 (by omega) 0 (.int .i64 (zs[0]!).st) rfl
      have hs : m = none := by simpa [Addr.add] using World.cell?_spot c0
      subst hs
      refine ⟨g, off, cap, by rw [ht], ?_, fun j hj i v hv => ?_⟩
      · simpa [Addr.add] using cell_lt c0
      · have hj' : j < len := by omega
        have hj6 : j < 60 := by omega
        have e : (zs.take 60)[j]! = zs[j]! := by simp [List.getElem!_eq_getElem?_getD, List.getElem?_take, hj6]
        rw [e] at hv
        have := hc j hj' i v hv
        rw [add_plainC] at this
        rw [show off + j * 6 + i = off + (j * 6 + i) by omega]
        exact this
end Go.Proofs.Ytmcgieameodkbaa
