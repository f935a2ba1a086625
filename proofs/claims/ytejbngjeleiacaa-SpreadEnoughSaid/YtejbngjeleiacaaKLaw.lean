/- The law's shown and Cut, its arguments opened, and the document's Same of two lists that have the same bands. -/
/- Sizes and needs as arguments: opened; the law's Cut. -/
/- What the laws of columns share: the answer of Bands in one contract; slices cut. -/
import Derived.Test.YtejbngjeleiacaaKBands
namespace Go.Proofs.Ytejbngjeleiacaa
open Go.ChangeShapes Go.WideShapes Go.ChangeAt Go.RowKit Go.Joins Go.Shelf
set_option linter.unusedVariables false
set_option linter.unusedSimpArgs false
attribute [local go_sem] Oper.semAt_some

theorem band_eql (a b c d : Int) (X : World) : (binOp .neq 43 (.agg #[.int .i64 a, .int .i64 b, .int .i64 c, .int .i64 d]) (.agg #[.int .i64 a, .int .i64 b, .int .i64 c, .int .i64 d])).run Try.prog X = .ok (.bool false) X := by go_simp
set_option maxRecDepth 100000 in
set_option maxHeartbeats 2000000 in
theorem ksame_any (v1 v2 : Value) (L : List Ba) (w : World) (h1 : RowsK Ba.cells 4 w v1 L) (h2 : RowsK Ba.cells 4 w v2 L) :
    Calls Try.prog 13 #[v1, v2] w fun e w' => e = .returned (.bool true) ∧ Below w.heap.size w w' := by
  obtain ⟨p1, c1, rfl⟩ := h1.slice
  obtain ⟨p2, c2, rfl⟩ := h2.slice
  have hmm := h1.1
  obtain ⟨m, hm⟩ : ∃ m, L.length = m := ⟨_, rfl⟩
  rw [hm] at h1 h2 hmm ⊢
  have HM := Lib.hid hm
  have H1 := Lib.hid h1
  have H2 := Lib.hid h2
  clear h1 h2 hm
  go_enter Try.func13, Try.ntmps13
  go_wp2
  go_loopw [5] (fun s5 X => ∃ k : Nat, k ≤ m ∧ s5 = .int .i64 (k : Int) ∧ Hid (Below w.heap.size w X)) (fun s5 _ => m - (intOf s5).toNat)
  case atStart => exact ⟨0, Nat.zero_le _, rfl, Lib.hid (Below.refl _ _)⟩
  case round =>
    obtain ⟨k, hk, rfl, HB⟩ := hrel
    by_cases hlt : k < m
    · obtain ⟨q, hq⟩ : ∃ q, L[k]? = some q := ⟨_, List.getElem?_eq_getElem (by rw [HM.out]; exact hlt)⟩
      obtain ⟨g1, o1, rfl, l1, ha⟩ := (H1.out.below HB.out).at k q hq
      obtain ⟨g2, o2, rfl, l2, hb⟩ := (H2.out.below HB.out).at k q hq
      obtain ⟨x, y, u, v⟩ := q
      have a0 : wr.cell? ⟨g1, o1 + k * 4, none⟩ = some (.int .i64 x) := ha 0 _ rfl
      have a1 : wr.cell? ⟨g1, o1 + k * 4 + 1, none⟩ = some (.int .i64 y) := ha 1 _ rfl
      have a2 : wr.cell? ⟨g1, o1 + k * 4 + 2, none⟩ = some (.int .i64 u) := ha 2 _ rfl
      have a3 : wr.cell? ⟨g1, o1 + k * 4 + 3, none⟩ = some (.int .i64 v) := ha 3 _ rfl
      have b0 : wr.cell? ⟨g2, o2 + k * 4, none⟩ = some (.int .i64 x) := hb 0 _ rfl
      have b1 : wr.cell? ⟨g2, o2 + k * 4 + 1, none⟩ = some (.int .i64 y) := hb 1 _ rfl
      have b2 : wr.cell? ⟨g2, o2 + k * 4 + 2, none⟩ = some (.int .i64 u) := hb 2 _ rfl
      have b3 : wr.cell? ⟨g2, o2 + k * 4 + 3, none⟩ = some (.int .i64 v) := hb 3 _ rfl
      have hneq := band_eql x y u v
      clear hq ha hb
      go_wp2
      go_quiet (fail)
      go_wp2
      go_roundw
      case rel => exact ⟨k + 1, by omega, by go_num, Lib.hid (HB.out.trans (below_dn _ _ _))⟩
      case measure => simp [intOf]; omega
    · go_wp2
      go_ret
      exact ⟨rfl, HB.out⟩
theorem shown_bands : bandsB [⟨1, 100⟩, ⟨0, 0⟩] [⟨0, 0, 0, 0, 1, 30, 300, ⟨0, 0⟩⟩, ⟨0, 0, 1, 0, 1, 30, 300, ⟨0, 0⟩⟩] = [⟨30, 100, -1, 100⟩, ⟨30, 300, -1, -1⟩] := by decide
theorem shown_right : rightK [⟨1, 100⟩, ⟨0, 0⟩] [⟨0, 0, 0, 0, 1, 30, 300, ⟨0, 0⟩⟩, ⟨0, 0, 1, 0, 1, 30, 300, ⟨0, 0⟩⟩] = true := by decide
theorem shown_wrong : rightK [⟨0, 1⟩] [] = false := by decide
end Go.Proofs.Ytejbngjeleiacaa

namespace Go.Proofs.Ytejbngjeleiacaa
open Go.ChangeShapes Go.WideShapes Go.ChangeAt Go.RowKit Go.Joins Go.Shelf
set_option linter.unusedVariables false
set_option linter.unusedSimpArgs false
attribute [local go_sem] Oper.semAt_some

theorem Try.cellsSz : Try.prog.cellsOf 39 = 2 := by kernel_rfl
theorem Try.cellsNe : Try.prog.cellsOf 41 = 9 := by kernel_rfl
theorem Try.cellsPl : Try.prog.cellsOf 37 = 5 := by kernel_rfl
theorem Try.cellsI64K : Try.prog.cellsOf 2 = 1 := by kernel_rfl
theorem Try.cellsIntK : Try.prog.cellsOf 3 = 1 := by kernel_rfl
section
variable {H : Type} {P : Program} {enc : TypeId × Value → H} {w : World} {base : Nat} {spare : Nat → Bool} {held : Bool}
theorem mapM_invK {α β : Type} {f : α → Option β} {a : α} {l : List α} {ys : List β} (h : (a :: l).mapM f = some ys) : ∃ y zs, f a = some y ∧ l.mapM f = some zs ∧ ys = y :: zs := by
  rw [List.mapM_cons] at h
  cases hf : f a with
  | none => simp [hf] at h
  | some y =>
    cases hl : l.mapM f with
    | none => simp [hf, hl] at h
    | some zs => simp [hf, hl] at h; exact ⟨y, zs, rfl, rfl, h.symm⟩
theorem mapM_endK {α β : Type} {f : α → Option β} {ys : List β} (h : ([] : List α).mapM f = some ys) : ys = [] := by simpa using h.symm
theorem trod_struct_invK {t : TypeId} {fs : Array Field} {fuel : Nat} {cs : List Value} {x : DataW H × List MemPlace} (ht : P.underlying t = some (.struct fs)) (h : DataW.trod enc P w base spare held fuel t cs = some x) :
    cs.length = P.cellsOf t ∧ ∃ n xs, x = (.agg (xs.map (·.1)), xs.flatMap (·.2)) ∧ fs.toList.mapM (fun f => DataW.trod enc P w base spare held n f.type ((cs.drop f.offset).take (P.cellsOf f.type))) = some xs := by
  cases fuel with
  | zero => simp [DataW.trod] at h
  | succ n =>
    unfold DataW.trod at h
    rw [ht] at h
    dsimp only at h
    split at h
    · rename_i hl
      obtain ⟨xs, h1, h2⟩ := Option.map_eq_some_iff.1 h
      exact ⟨hl, n, xs, h2.symm, h1⟩
    · cases h
end
section
variable {H : Type} {enc : TypeId × Value → H} {w : World} {base : Nat} {spare : Nat → Bool} {held : Bool}
theorem list2K {l : List Value} (h : l.length = 2) : ∃ c0 c1, l = [c0, c1] := by
  match l, h with
  | [c0, c1], _ => exact ⟨c0, c1, rfl⟩
theorem list9K {l : List Value} (h : l.length = 9) : ∃ c0 c1 c2 c3 c4 c5 c6 c7 c8, l = [c0, c1, c2, c3, c4, c5, c6, c7, c8] := by
  match l, h with
  | [c0, c1, c2, c3, c4, c5, c6, c7, c8], _ => exact ⟨c0, c1, c2, c3, c4, c5, c6, c7, c8, rfl⟩
theorem size_cells {fuel : Nat} {cs : List Value} {x : DataW H × List MemPlace} (h : DataW.trod enc Try.prog w base spare held fuel 39 cs = some x) : ∃ q : Sz, cs = q.cells ∧ q.wf := by
  obtain ⟨hl, n, xs, rfl, hm⟩ := trod_struct_invK Try.underlying39 h
  rw [Try.cellsSz] at hl
  obtain ⟨c0, c1, rfl⟩ := list2K hl
  obtain ⟨y0, z0, h0, hm1, rfl⟩ := mapM_invK hm
  obtain ⟨y1, z1, h1, hm2, rfl⟩ := mapM_invK hm1
  obtain rfl := mapM_endK hm2
  simp [Try.cellsIntK, Try.cellsI64K] at h0 h1
  obtain ⟨k, e0, rfl, w0⟩ := DataW.trod_int Try.underlying3 h0
  obtain ⟨m, e1, rfl, w1⟩ := DataW.trod_int Try.underlying2 h1
  simp at e0 e1
  subst e0 e1
  exact ⟨⟨k, m⟩, rfl, w0, w1⟩
theorem place_cells {fuel : Nat} {c0 c1 c2 c3 c4 : Value} {x : DataW H × List MemPlace} (h : DataW.trod enc Try.prog w base spare held fuel 37 [c0, c1, c2, c3, c4] = some x) :
    ∃ a b c d e : Int, c0 = .int .i64 a ∧ c1 = .int .i64 b ∧ c2 = .int .i64 c ∧ c3 = .int .i64 d ∧ c4 = .int .i64 e ∧ fit64 a ∧ fit64 b ∧ fit64 c ∧ fit64 d ∧ fit64 e := by
  obtain ⟨hl, n, xs, rfl, hm⟩ := trod_struct_invK Try.underlying37 h
  obtain ⟨y0, z0, h0, hm1, rfl⟩ := mapM_invK hm
  obtain ⟨y1, z1, h1, hm2, rfl⟩ := mapM_invK hm1
  obtain ⟨y2, z2, h2, hm3, rfl⟩ := mapM_invK hm2
  obtain ⟨y3, z3, h3, hm4, rfl⟩ := mapM_invK hm3
  obtain ⟨y4, z4, h4, hm5, rfl⟩ := mapM_invK hm4
  obtain rfl := mapM_endK hm5
  simp [Try.cellsIntK, Try.cellsI64K] at h0 h1 h2 h3 h4
  obtain ⟨a, e0, rfl, w0⟩ := DataW.trod_int Try.underlying3 h0
  obtain ⟨b, e1, rfl, w1⟩ := DataW.trod_int Try.underlying3 h1
  obtain ⟨c, e2, rfl, w2⟩ := DataW.trod_int Try.underlying3 h2
  obtain ⟨d, e3, rfl, w3⟩ := DataW.trod_int Try.underlying3 h3
  obtain ⟨e, e4, rfl, w4⟩ := DataW.trod_int Try.underlying3 h4
  simp at e0 e1 e2 e3 e4
  exact ⟨a, b, c, d, e, e0, e1, e2, e3, e4, w0, w1, w2, w3, w4⟩
set_option maxRecDepth 100000 in
theorem need_cells {fuel : Nat} {cs : List Value} {x : DataW H × List MemPlace} (h : DataW.trod enc Try.prog w base spare held fuel 41 cs = some x) : ∃ q : Ne, cs = q.cells ∧ q.wf := by
  obtain ⟨hl, n, xs, rfl, hm⟩ := trod_struct_invK Try.underlying41 h
  rw [Try.cellsNe] at hl
  obtain ⟨c0, c1, c2, c3, c4, c5, c6, c7, c8, rfl⟩ := list9K hl
  obtain ⟨y0, z0, h0, hm1, rfl⟩ := mapM_invK hm
  obtain ⟨y1, z1, h1, hm2, rfl⟩ := mapM_invK hm1
  obtain ⟨y2, z2, h2, hm3, rfl⟩ := mapM_invK hm2
  obtain ⟨y3, z3, h3, hm4, rfl⟩ := mapM_invK hm3
  obtain rfl := mapM_endK hm4
  simp [Try.cellsPl, Try.cellsI64K, Try.cellsSz] at h0 h1 h2 h3
  obtain ⟨a, b, c, d, e, rfl, rfl, rfl, rfl, rfl, w0, w1, w2, w3, w4⟩ := place_cells h0
  obtain ⟨f, e1, rfl, w5⟩ := DataW.trod_int Try.underlying2 h1
  obtain ⟨g, e2, rfl, w6⟩ := DataW.trod_int Try.underlying2 h2
  obtain ⟨⟨k, m⟩, e3, w7⟩ := size_cells h3
  simp [Sz.cells] at e1 e2 e3
  obtain ⟨e3, e4⟩ := e3
  subst e1 e2 e3 e4
  exact ⟨⟨a, b, c, d, e, f, g, ⟨k, m⟩⟩, rfl, w0, w1, w2, w3, w4, w5, w6, w7⟩
/-- sizes as an argument -/
def SizeArg (W : World) (a : Option Addr) (len cap : Nat) (zs : List Sz) : Prop := RowArg Sz.cells Sz.wf 2 W a len cap zs
/-- needs as an argument -/
def NeedArg (W : World) (a : Option Addr) (len cap : Nat) (zs : List Ne) : Prop := RowArg Ne.cells Ne.wf 9 W a len cap zs
theorem open_sizes {a : Option Addr} {len cap fuel : Nat} {y : DataW H × List MemPlace} (h : DataW.trod enc Try.prog w base spare held fuel 45 [.slice a len cap] = some y) : ∃ zs, SizeArg w a len cap zs :=
  open_rowsK Try.underlying45 Try.cellsSz Sz.cells_len (fun h => size_cells h) h
theorem open_needs {a : Option Addr} {len cap fuel : Nat} {y : DataW H × List MemPlace} (h : DataW.trod enc Try.prog w base spare held fuel 23 [.slice a len cap] = some y) : ∃ zs, NeedArg w a len cap zs :=
  open_rowsK Try.underlying23 Try.cellsNe Ne.cells_len (fun h => need_cells h) h
end
set_option maxHeartbeats 2000000 in
theorem cut_k (p q : Option Addr) (n cap n' cap' : Nat) (W : World) (hn : n ≤ cap) (hc : cap ≤ 9223372036854775807) (hn' : n' ≤ cap') (hc' : cap' ≤ 9223372036854775807)
    (hp : (p = none ∧ n = 0 ∧ cap = 0) ∨ ∃ g off m, p = some ⟨g, off, m⟩) (hq : (q = none ∧ n' = 0 ∧ cap' = 0) ∨ ∃ g off m, q = some ⟨g, off, m⟩) :
    Calls Try.prog 16 #[.slice p n cap, .slice q n' cap'] W fun e W' => e = .returned (.tuple #[.slice p (min n 40) cap, .slice q (min n' 100) cap']) ∧ Below W.heap.size W W' := by
  have h1 : (min (n : Int) 40) = ((min n 40 : Nat) : Int) := by omega
  have h2 : (min (n' : Int) 100) = ((min n' 100 : Nat) : Int) := by omega
  have h3 : min n 40 ≤ cap := by omega
  have h4 : min n' 100 ≤ cap' := by omega
  generalize min n 40 = k at *
  generalize min n' 100 = k' at *
  rcases hp with ⟨rfl, rfl, rfl⟩ | ⟨g, off, m, rfl⟩ <;> rcases hq with ⟨rfl, rfl, rfl⟩ | ⟨g', off', m', rfl⟩
  all_goals
    go_enter Try.func16, Try.ntmps16
    go_wp2
    go_quiet (fail)
    go_wp2
    exact bodyPost_ret (results_twoK rfl rfl rfl) rfl ⟨by first | rfl | (simp; omega), by first | exact below_dn _ _ _ | exact Below.refl _ _⟩
end Go.Proofs.Ytejbngjeleiacaa

namespace Go.Proofs.Ytejbngjeleiacaa
open Go.RowKit Go.Shelf
set_option linter.unusedVariables false
set_option linter.unusedSimpArgs false
attribute [local go_sem] Oper.semAt_some

/-- the bands that Bands answers -/
def ansB (zs : List Sz) (ns : List Ne) : List Ba := if rightK zs ns then bandsB zs ns else []
/-- the error that Bands answers -/
def errB (zs : List Sz) (ns : List Ne) : Int := if rightK zs ns then 0 else 130
theorem ansB_ok {zs : List Sz} {ns : List Ne} (h : rightK zs ns = true) : ansB zs ns = bandsB zs ns := by simp [ansB, h]
theorem errB_ok {zs : List Sz} {ns : List Ne} (h : rightK zs ns = true) : errB zs ns = 0 := by simp [errB, h]
theorem ansB_bad {zs : List Sz} {ns : List Ne} (h : rightK zs ns = false) : ansB zs ns = [] := by simp [ansB, h]
theorem errB_bad {zs : List Sz} {ns : List Ne} (h : rightK zs ns = false) : errB zs ns = 130 := by simp [errB, h]
theorem bandsK_any (p q : Option Addr) (m c m' c' : Nat) (zs : List Sz) (ns : List Ne) (W : World) (hz : RowsK Sz.cells 2 W (.slice p m c) zs) (hn : RowsK Ne.cells 9 W (.slice q m' c') ns) :
    Calls Try.prog 17 #[.slice p m c, .slice q m' c'] W fun e W' => ∃ a k, e = .returned (.tuple #[.slice a (ansB zs ns).length k, .int .i64 (errB zs ns)]) ∧ RowsK Ba.cells 4 W' (.slice a (ansB zs ns).length k) (ansB zs ns) ∧ Below W.heap.size W W' := by
  cases hr : rightK zs ns with
  | false =>
    rw [ansB_bad hr, errB_bad hr]
    refine (bands_bad p q m c m' c' zs ns W hz hn hr).mono ?_
    rintro e W' ⟨rfl, hb⟩
    exact ⟨none, 0, rfl, RowsK.none, hb⟩
  | true =>
    rw [ansB_ok hr, errB_ok hr]
    refine (bands_ok p q m c m' c' zs ns W hz hn hr).mono ?_
    rintro e W' ⟨G, rfl, _, hbs, hb⟩
    have hl : (bandsB zs ns).length = m := by rw [bandsB_len]; exact hz.len
    have hm : m ≤ 9223372036854775807 := by have := hz.1; rw [hz.len] at this; exact this
    exact ⟨some ⟨G, 0, none⟩, m, by rw [hl], by rw [hl]; exact hbs.rows hl m hm, hb⟩
theorem RowsK.take {α : Type} [Inhabited α] {cells : α → List Value} {n : Nat} {W : World} {p : Option Addr} {m c : Nat} {zs : List α} (h : RowsK cells n W (.slice p m c) zs) (k : Nat) (hk : k ≤ m) : RowsK cells n W (.slice p k c) (zs.take k) := by
  have hl := h.len
  have ht : (zs.take k).length = k := by rw [List.length_take]; omega
  refine ⟨by have := h.1; omega, ?_⟩
  obtain ⟨hm, ⟨a, cap, e, rfl⟩ | ⟨b, off, cap, e, hlt, hc⟩⟩ := h
  · injection e with e1 e2 e3
    subst e2
    obtain rfl : k = 0 := by omega
    exact .inl ⟨p, c, rfl, rfl⟩
  · injection e with e1 e2 e3
    subst e1 e3
    refine .inr ⟨b, off, c, by rw [ht], hlt, fun j hj i v hv => hc j (by omega) i v ?_⟩
    have e : (zs.take k)[j]! = zs[j]! := by simp [List.getElem!_eq_getElem?_getD, List.getElem?_take, (by omega : j < k)]
    rw [e] at hv; exact hv
end Go.Proofs.Ytejbngjeleiacaa
