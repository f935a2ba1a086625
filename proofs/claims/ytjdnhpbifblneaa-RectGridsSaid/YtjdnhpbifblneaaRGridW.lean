/- What the law on grids needs: numbers as an argument, a grid that grows, lists of rectangles that are appended. -/
import Derived.Test.YtjdnhpbifblneaaRGrid
import Derived.Test.YtjdnhpbifblneaaRTilesA
import Derived.Test.YtjdnhpbifblneaaRAlone
import Derived.Test.YtjdnhpbifblneaaRRefTiles
import Derived.Deep.Strs
namespace Go.Proofs.Ytjdnhpbifblneaa
open Go.ChangeShapes Go.WideShapes Go.ChangeAt Go.RowKit Go.Joins Go.Shelf Go.Deep
set_option linter.unusedVariables false
set_option linter.unusedSimpArgs false

section
variable {H : Type} {enc : TypeId × Value → H} {w : World} {base : Nat} {spare : Nat → Bool} {held : Bool}
set_option maxRecDepth 100000 in
theorem open_ints64 {a : Option Addr} {len cap fuel : Nat} {y : DataW H × List MemPlace} (h : DataW.trod enc Try.prog w base spare held fuel 31 [.slice a len cap] = some y) : ∃ zs, Ints w (.slice a len cap) zs ∧ zs.length = len ∧ len ≤ cap ∧ cap ≤ maxLen := by
  rcases Go.Deep.open_slice1 Try.underlying31 (by kernel_rfl) h with ⟨hcs, _⟩ | ⟨x, l, c, m, n, V, D, Pl, hcs, _, hl, hm, hmm, _, hx⟩
  · simp at hcs
    obtain ⟨rfl, rfl, rfl⟩ := hcs
    exact ⟨[], ⟨by simp, .inl ⟨none, 0, rfl, rfl⟩⟩, rfl, by omega, by unfold maxLen; omega⟩
  · simp at hcs
    obtain ⟨rfl, rfl, rfl⟩ := hcs
    have hm' := hm
    unfold maxLen at hm
    have hlm : len ≤ m := by rw [hmm]; split <;> omega
    have each : ∀ i, i < len → ∃ z : Int, w.cell? (x.add i) = some (.int .i64 z) := by
      intro i hi
      obtain ⟨c0, t0⟩ := hx i (by omega)
      obtain ⟨z, e0, _, _⟩ := DataW.trod_int Try.underlying2 t0
      simp at e0
      exact ⟨z, by rw [c0, e0]⟩
    obtain ⟨q, hq⟩ := Go.Deep.choose_lt each
    obtain ⟨g, off, sp⟩ := x
    by_cases h0 : len = 0
    · subst h0; exact ⟨[], ⟨by simp, .inl ⟨_, cap, rfl, rfl⟩⟩, rfl, hl, hm'⟩
    · have c0 := hq 0 (by omega)
      have hs : sp = none := by simpa [Addr.add] using World.cell?_spot c0
      subst hs
      refine ⟨(List.range len).map q, ⟨by simp; omega, .inr ⟨g, off, cap, by simp, fun j hj => ?_⟩⟩, by simp, hl, hm'⟩
      have hj' : j < len := by simpa using hj
      have a0 := hq j hj'
      rw [add_plain] at a0
      rw [a0]; simp [hj']
end
theorem ints_takeR {W : World} {a : Option Addr} {l c : Nat} {zs : List Int} (h : Ints W (.slice a l c) zs) (hl : zs.length = l) (k : Nat) (hk : k ≤ l) : Ints W (.slice a k c) (zs.take k) := by
  have hlk : (zs.take k).length = k := by rw [List.length_take]; omega
  obtain ⟨h1, ⟨a', c', e, rfl⟩ | ⟨b, off, c', e, hc⟩⟩ := h
  · injection e with e1 e2 e3
    subst e1 e3
    simp at hl
    refine ⟨by omega, .inl ⟨a, c, ?_, by simp⟩⟩
    rw [show k = 0 by omega]
  · injection e with e1 e2 e3
    subst e1 e3
    refine ⟨by omega, .inr ⟨b, off, c, by rw [hlk], fun j hj => ?_⟩⟩
    rw [hlk] at hj
    have := hc j (by omega)
    rwa [List.getElem?_take_of_lt hj]
theorem ints_cellR {X : World} {q : Option Addr} {n c : Nat} {zs : List Int} (h : Ints X (.slice q n c) zs) (j : Nat) (z : Int) (hz : zs[j]? = some z) : ∃ b o, q = some ⟨b, o, none⟩ ∧ b < X.heap.size ∧ X.cell? ⟨b, o + j, none⟩ = some (.int .i64 z) := by
  have hj := (List.getElem?_eq_some_iff.1 hz).1
  obtain ⟨_, ⟨a, cap', e, rfl⟩ | ⟨g, off, cap', e, hc⟩⟩ := h
  · simp at hj
  · injection e with e1 e2 e3
    have h1 := hc j hj
    rw [hz] at h1
    exact ⟨g, off, e1, cell_lt h1, h1⟩
/-- how long a band is -/
def bandP (z : Int) : Int := 1 + Int.tmod (IntKind.u64.wrap z) 1000
theorem band_facts (z : Int) : ∃ zu t, IntKind.u64.wrap z = zu ∧ Int.tmod zu 1000 = t ∧ 0 ≤ zu ∧ 0 ≤ t ∧ t ≤ 999 ∧ IntKind.i64.wrap t = t ∧ bandP z = 1 + t := by
  have h0 : 0 ≤ IntKind.u64.wrap z := by simp [IntKind.wrap, IntKind.bits, IntKind.signed]; omega
  refine ⟨_, _, rfl, rfl, h0, Int.tmod_nonneg _ h0, ?_, ?_, rfl⟩
  · have := Int.tmod_lt_of_pos (IntKind.u64.wrap z) (show (0 : Int) < 1000 by omega); omega
  · have h1 := Int.tmod_nonneg 1000 h0
    have h2 := Int.tmod_lt_of_pos (IntKind.u64.wrap z) (show (0 : Int) < 1000 by omega)
    simp [IntKind.wrap, IntKind.bits, IntKind.signed] at *; omega
theorem band_in {l : List Int} : ∀ n ∈ l.map bandP, 1 ≤ n ∧ n ≤ 1000 := fun n hn => by
  obtain ⟨z, _, rfl⟩ := List.mem_map.1 hn
  obtain ⟨zu, t, _, _, _, h1, h2, _, h3⟩ := band_facts z
  omega
theorem sum_in {l : List Int} (h : ∀ n ∈ l, 1 ≤ n ∧ n ≤ 1000) : (l.length : Int) ≤ l.sum ∧ l.sum ≤ 1000 * (l.length : Int) := by
  induction l with
  | nil => simp
  | cons n l ih =>
    have h1 := h n (by simp)
    have h2 := ih (fun k hk => h k (by simp [hk]))
    rw [List.sum_cons, List.length_cons]
    omega
theorem take_snoc {l : List Int} {i : Nat} {z : Int} (h : l[i]? = some z) : (l.map bandP).take (i + 1) = (l.map bandP).take i ++ [bandP z] := by
  rw [List.take_add_one, List.getElem?_map, h]; rfl
theorem row_snoc (y h n : Int) : ∀ (ns : List Int) (x : Int), rowR x y h (ns ++ [n]) = rowR x y h ns ++ [⟨x + ns.sum, y, n, h⟩]
  | [], x => by simp [rowR]
  | m :: ns, x => by
    show rowR x y h (m :: (ns ++ [n])) = _
    rw [rowR, row_snoc y h n ns (x + m), rowR, List.sum_cons, Int.add_assoc]; rfl
theorem grid_snoc (x h : Int) (along : List Int) : ∀ (hs : List Int) (y : Int), gridR x y along (hs ++ [h]) = gridR x y along hs ++ rowR x (y + hs.sum) h along
  | [], y => by simp [gridR]
  | m :: hs, y => by
    show gridR x y along (m :: (hs ++ [h])) = _
    rw [gridR, grid_snoc x h along hs (y + m), gridR, List.sum_cons, Int.add_assoc, List.append_assoc]
theorem flat_len : ∀ l : List R, (l.flatMap R.cells).length = l.length * 4
  | [] => rfl
  | q :: l => by rw [List.flatMap_cons, List.length_append, flat_len l, List.length_cons]; show 4 + _ = _; omega
theorem flat_take : ∀ (l : List R) (n : Nat), (l.take n).flatMap R.cells = (l.flatMap R.cells).take (n * 4)
  | l, 0 => by simp
  | [], n + 1 => by simp
  | q :: l, n + 1 => by
    rw [List.take_succ_cons, List.flatMap_cons, List.flatMap_cons, flat_take l n, List.take_append, show q.cells.length = 4 from rfl, List.take_of_length_le (show q.cells.length ≤ (n + 1) * 4 by show 4 ≤ _; omega), show (n + 1) * 4 - 4 = n * 4 by omega]
theorem flat_drop : ∀ (l : List R) (n : Nat), (l.drop n).flatMap R.cells = (l.flatMap R.cells).drop (n * 4)
  | l, 0 => by simp
  | [], n + 1 => by simp
  | q :: l, n + 1 => by
    rw [List.drop_succ_cons, List.flatMap_cons, flat_drop l n, List.drop_append, show q.cells.length = 4 from rfl, List.drop_of_length_le (show q.cells.length ≤ (n + 1) * 4 by show 4 ≤ _; omega), show (n + 1) * 4 - 4 = n * 4 by omega, List.nil_append]
theorem flat_one (l : List R) : ∀ u ∈ l.flatMap R.cells, u.oneCell' = true := fun u hu => by
  obtain ⟨q, _, hq⟩ := List.mem_flatMap.1 hu
  simp [R.cells] at hq
  rcases hq with rfl | rfl | rfl | rfl <;> rfl
theorem add_at (b o k j : Nat) : ((⟨b, o, none⟩ : Addr).add k).add j = ⟨b, o + k + j, none⟩ := by
  rw [add_plain, add_plain]
theorem add_one (b o j : Nat) : (⟨b, o, none⟩ : Addr).add j = ⟨b, o + j, none⟩ := add_plain b o j
/-- a list of rectangles that grows -/
structure GW (w : World) (v : Value) (L : List R) (X : World) : Prop where
  lo : Below w.heap.size w X
  ow : X.ownsRow w.heap.size 23 4 v L.length (L.flatMap R.cells)
theorem GW.nil (w X : World) (h : Below w.heap.size w X) : GW w (.slice none 0 0) [] X := ⟨h, World.ownsRow_nil _ _ _ _⟩
theorem GW.below {w X Y : World} {v : Value} {L : List R} (h : GW w v L X) (hb : Below X.heap.size X Y) : GW w v L Y := ⟨h.lo.trans (hb.mono h.lo.size), own_later h.ow hb⟩
theorem GW.push {w X Y : World} {v v' : Value} {L : List R} {q : R} {o : Obj} (h : GW w v L X) (ho : Y.ownsRow w.heap.size 23 4 v' (L.length + 1) (L.flatMap R.cells ++ [.int .i64 q.x, .int .i64 q.y, .int .i64 q.w, .int .i64 q.h])) (hg : (X.alloc o).grownBy Y v.ownBlock) : GW w v' (L ++ [q]) Y := by
  have hA := h.below ((Below.refl _ _).alloc (Nat.le_refl _) o)
  refine ⟨own_below hA.lo hA.ow (Nat.le_refl _) hg hA.lo.size, ?_⟩
  rw [List.flatMap_append, List.length_append]
  simpa [R.cells] using ho
theorem GW.form {w X : World} {v : Value} {L : List R} (h : GW w v L X) : ∃ p c, v = .slice p L.length c ∧ (p = none → L.length = 0 ∧ c = 0) ∧ L.length ≤ c := by
  rcases h.ow.2 with ⟨e, h0⟩ | ⟨g, cap, cur, e, _, _, hnc, _⟩
  · exact ⟨none, 0, by rw [e, h0], fun _ => ⟨h0, rfl⟩, by omega⟩
  · exact ⟨_, cap, e, (fun h => by cases h), hnc⟩
theorem GW.cell {w X : World} {p : Option Addr} {n c : Nat} {L : List R} (h : GW w (.slice p n c) L X) (hp : 0 < L.length) : ∃ b, p = some ⟨b, 0, none⟩ ∧ b < X.heap.size ∧ ∀ j u, (L.flatMap R.cells)[j]? = some u → X.cell? ⟨b, j, none⟩ = some u := by
  have hc := fun g hg => h.ow.cells (g := g) hg
  have hl := fun g hg => h.ow.lt g hg
  rcases h.ow.2 with ⟨e, h0⟩ | ⟨g, cap, cur, e, _⟩
  · omega
  · injection e with e1 e2 e3
    subst e1
    refine ⟨g, rfl, (hl g rfl).2, fun j u hu => ?_⟩
    have := hc g rfl j u hu
    rwa [add_one, Nat.zero_add] at this
theorem Try.infoR : (Try.prog.info? 23).map (fun i => (i.zero, i.size, i.bytes)) = some (some (.agg #[.int .i64 0, .int .i64 0, .int .i64 0, .int .i64 0]), 4, 32) := by kernel_rfl
theorem app_rects {base m c : Nat} {X : World} {v : Value} {L M : List R} {a : Addr} (hown : X.ownsRow base 23 4 v L.length (L.flatMap R.cells)) (hm : M.length = m) (hnews : ∀ j u, (M.flatMap R.cells)[j]? = some u → X.cell? (a.add j) = some u) (hs : L.length + m ≤ 1000) (hb : base ≤ X.heap.size) :
    ∃ v' X', (Builtin.append_ #[24, 24] 24 #[v, .slice (some a) m c]).run Try.prog X = .ok v' X' ∧ X'.ownsRow base 23 4 v' (L ++ M).length ((L ++ M).flatMap R.cells) ∧ X.grownBy X' v.ownBlock := by
  obtain ⟨i0, hi, hz0, hz1, hz2⟩ := info_parts Try.infoR
  obtain ⟨v', X', h1, h2, h3, _, _⟩ := run_append_own_at (P := Try.prog) X base 24 24 23 i0 (.agg #[.int .i64 0, .int .i64 0, .int .i64 0, .int .i64 0]) 4 32 Try.underlying24 hi hz0 hz1 hz2 rfl (by decide) v L.length _ hown a m c (M.flatMap R.cells) (by rw [flat_len, hm]) hnews (flat_one M) (by unfold maxLen; omega) (by omega) hb
  refine ⟨v', X', h1, ?_, h3⟩
  rw [List.length_append, hm, List.flatMap_append]
  exact h2
theorem make_rects (n : Nat) (hn : n ≤ 1000) (w : World) : ∃ cs : Array Value, cs.size = n * 4 ∧ (Instr.makeSlice 24 (.int .i64 0) (.int .i64 n)).run Try.prog w = .ok (.slice (some ⟨w.heap.size, 0, none⟩) 0 n) (w.alloc (.cells cs 23)) := by
  obtain ⟨i0, hi, hz0, hz1, hz2⟩ := info_parts Try.infoR
  have hr := run_make (P := Try.prog) w 24 23 i0 _ Try.underlying24 hi hz0 .i64 .i64 0 n (by omega) (by omega) (by rw [hz2]; omega) (by omega)
  simp only [Int.toNat_natCast, Int.toNat_zero, hz1] at hr
  exact ⟨_, by simp [madeCells], hr⟩
theorem made_own {w : World} {cs : Array Value} {n base : Nat} (hc : cs.size = n * 4) (hn : n ≤ 1000) (hb : base ≤ w.heap.size) : (w.alloc (.cells cs 23)).ownsRow base 23 4 (.slice (some ⟨w.heap.size, 0, none⟩) 0 n) ([] : List R).length (([] : List R).flatMap R.cells) := by
  refine ⟨rfl, .inr ⟨w.heap.size, n, cs, rfl, hb, ?_, Nat.zero_le _, by unfold maxLen; omega, hc, rfl⟩⟩
  have := whole_new w cs.toList 23 _ rfl
  simpa [Whole] using this
theorem exec_sliceR_l {P : Program} {w : World} {a : Act} {o : Oper} (t : TypeId) (x lo : Operand) (ho : o.op = .slice t x (some lo) none none) (e : TypeId) (ht : P.underlying t = some (.slice e)) (hs : (sizeOf e).run P w = .ok 4 w)
    (p : Option Addr) (m c fr : Nat) (hx : a.eval x = .slice p m c) (hl : a.eval lo = .int .i64 fr) (h1 : fr ≤ m) :
    (execOp a.eval o).run P w = .ok (.value (.slice (if c = fr then p else p.map (·.add (fr * 4))) (m - fr) (c - fr))) w := by
  have he : P.elem t = e := by simp [Program.elem, ht]
  have ht' : P.underlying t = some (.slice (P.elem t)) := by rw [he]; exact ht
  unfold execOp
  simp only [ho, hx, Option.map_some, Option.map_none, hl]
  simp [run_sliceAt_slice (P := P) w t _ _ _ _ ht', run_slice_l (P := P) w t p m c ht' .i64 (fr : Int) (by omega) (by omega), he, hs, sliced, Result.andThen]
theorem exec_sliceR_h {P : Program} {w : World} {a : Act} {o : Oper} (t : TypeId) (x hi : Operand) (ho : o.op = .slice t x none (some hi) none) (e : TypeId) (ht : P.underlying t = some (.slice e)) (hs : (sizeOf e).run P w = .ok 4 w)
    (p : Option Addr) (m c to : Nat) (hx : a.eval x = .slice p m c) (hh : a.eval hi = .int .i64 to) (h2 : to ≤ c) :
    (execOp a.eval o).run P w = .ok (.value (.slice p to c)) w := by
  have he : P.elem t = e := by simp [Program.elem, ht]
  have ht' : P.underlying t = some (.slice (P.elem t)) := by rw [he]; exact ht
  unfold execOp
  simp only [ho, hx, Option.map_some, Option.map_none, hh]
  simp [run_sliceAt_slice (P := P) w t _ _ _ _ ht', run_slice_h (P := P) w t p m c ht' .i64 (to : Int) (by omega) (by omega), he, hs, sliced, Result.andThen]
  intro _; cases p <;> simp [go_sem]
end Go.Proofs.Ytjdnhpbifblneaa
