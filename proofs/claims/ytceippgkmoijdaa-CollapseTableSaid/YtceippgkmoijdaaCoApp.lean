/- slices.Clone at claim. Written by mk_CoCln.py. -/
/- Sides that are appended to a list of one's own. Written by mk_CoApp.py. -/
import Derived.Test.YtceippgkmoijdaaLst
import Derived.Lib.AppendZeros
import Derived.Maps.AppendAt
import Derived.Laws.AppendOwn
import Derived.Laws.NewBlocks
import Derived.Laws.Tables
namespace Go.Proofs.Ytceippgkmoijdaa
open Go.RowKit Go.Shelf Go.Maps
set_option linter.unusedVariables false
set_option linter.unusedSimpArgs false
attribute [local go_sem] Oper.semAt_some

theorem Try.infoClA : (Try.prog.info? 108).map (fun i => (i.zero, i.size, i.bytes)) = some (some (.agg #[.int .i64 0, .int .i64 0, .int .u32 0, .int .i64 0, .int .i64 0, .int .i64 0, .int .i64 0]), 7, 56) := by kernel_rfl
theorem Cl.one (s : Cl) : s.cells.toArray.all (·.oneCell') = true := by simp [Cl.cells, Si.cells, Value.oneCell']
/-- claims are what a block begins with -/
def CRow (X : World) (G : Nat) (cs : List Cl) (sp : List Value) : Prop := Whole X G 108 (cs.flatMap Cl.cells ++ sp)
set_option maxRecDepth 100000 in
set_option maxHeartbeats 4000000 in
theorem clone_cl (b off m c : Nat) (zs : List Cl) (W : World) (hz : RowsK Cl.cells 7 W (.slice (some ⟨b, off, none⟩) m c) zs) (hm : m ≤ 1000000) :
    Calls Try.prog 89 #[.slice (some ⟨b, off, none⟩) m c] W fun e X => ∃ G cap sp, e = .returned (.slice (some ⟨G, 0, none⟩) m cap) ∧ CRow X G zs sp ∧ W.heap.size ≤ G ∧ m ≤ cap ∧ cap ≤ 9223372036854775807 ∧ Below W.heap.size W X := by
  cases hi : Try.prog.info? 108 with
  | none => have := Try.infoClA; rw [hi] at this; cases this
  | some i =>
    have h := Try.infoClA
    rw [hi] at h
    simp only [Option.map_some, Option.some.injEq, Prod.mk.injEq] at h
    obtain ⟨hiz, hs, hby⟩ := h
    have hl := hz.len
    have hb0 : Below W.heap.size W (W.alloc (.cells #[] 108)) := (Below.refl _ W).alloc (Nat.le_refl _) _
    have hz2 := hz.below hb0
    have hcell : ∀ j u, (zs.flatMap Cl.cells)[j]? = some u → (W.alloc (.cells #[] 108)).cell? ((⟨b, off, none⟩ : Addr).add j) = some u := fun j u hu => by
      have hj : j < zs.length * 7 := by have := (List.getElem?_eq_some_iff.1 hu).1; rwa [flat_lenL Cl.cells_len] at this
      have hd : j / 7 < zs.length := by omega
      have e : j = j / 7 * 7 + j % 7 := by omega
      obtain ⟨b', off', hp', _, hc'⟩ := hz2.at (j / 7) _ (List.getElem?_eq_getElem hd)
      simp only [Option.some.injEq, Addr.mk.injEq] at hp'
      obtain ⟨rfl, rfl, -⟩ := hp'
      have hf := flat_getK Cl.cells 7 Cl.cells_len zs (j / 7) (j % 7) (by omega) hd
      rw [← e, hu] at hf
      have hx : zs[j / 7]! = zs[j / 7] := by simp [List.getElem!_eq_getElem?_getD, List.getElem?_eq_getElem hd]
      rw [hx] at hf
      have := hc' (j % 7) u hf.symm
      rw [add_plainC, show off + j = off + j / 7 * 7 + j % 7 by omega]
      exact this
    have hown : (W.alloc (.cells #[] 108)).ownsRow W.heap.size 108 7 (.slice (some ⟨W.heap.size, 0, none⟩) 0 0) 0 [] := ⟨rfl, .inr ⟨W.heap.size, 0, #[], rfl, Nat.le_refl _, heap_alloc_new W _, Nat.le_refl _, by unfold maxLen; omega, rfl, rfl⟩⟩
    obtain ⟨v', w', hr, ho, hg, hnil, hat⟩ := run_append_own_at (P := Try.prog) (W.alloc (.cells #[] 108)) W.heap.size 87 87 108 i _ 7 56 Try.underlying87 hi hiz hs hby rfl (by decide) (.slice (some ⟨W.heap.size, 0, none⟩) 0 0) 0 [] hown ⟨b, off, none⟩ m c (zs.flatMap Cl.cells) (by rw [flat_lenL Cl.cells_len, hl]) hcell
        (fun u hu => by obtain ⟨x, _, hx⟩ := List.mem_flatMap.1 hu; have := Cl.one x; rw [Array.all_eq_true_iff_forall_mem] at this; exact this u (by simpa using hx)) (by unfold maxLen; omega) (by omega) (by simp)
    have HB : Hid (Below W.heap.size W w') := Lib.hid (hb0.grown hg (by simp) (fun j e => (hown.lt j e).1))
    have HR : Hid (∃ G cap sp, v' = .slice (some ⟨G, 0, none⟩) m cap ∧ CRow w' G zs sp ∧ W.heap.size ≤ G ∧ m ≤ cap ∧ cap ≤ 9223372036854775807) := Lib.hid (by
      rcases ho.2 with ⟨rfl, hn⟩ | ⟨g, cap, cur, rfl, hbg, hgg, hnc, hcm, hcs, htk⟩
      · have := hnil.1 rfl
        cases this.1
      · rw [Nat.zero_add] at hnc htk ⊢
        unfold maxLen at hcm
        refine ⟨g, cap, cur.toList.drop (m * 7), rfl, ?_, hbg, hnc, by omega⟩
        show w'.heap[g]? = _
        rw [hgg]
        have e : cur.toList = zs.flatMap Cl.cells ++ cur.toList.drop (m * 7) := by
          conv => lhs; rw [← List.take_append_drop (m * 7) cur.toList]
          rw [List.nil_append] at htk
          rw [htk]
        rw [← e])
    clear hz hz2 hcell hown ho hg hnil hat hi hiz hs hby hb0
    have hq : (binOp BinOp.eql 87 (.slice (some ⟨b, off, none⟩) m c) (.slice none 0 0)).run Try.prog W = .ok (.bool false) W := by first | rfl | kernel_rfl | simp [binOp]
    go_enter Try.func89, Try.ntmps89
    go_wp2_with (at_builtin; refine Lib.wpList_append_run _ rfl _ _ _ _ rfl _ _ rfl rfl _ _ hr ?_)
    go_ret
    obtain ⟨G, cap, sp, rfl, h1, h2, h3, h4⟩ := HR.out
    exact ⟨G, cap, sp, rfl, h1, h2, h3, h4, HB.out⟩
end Go.Proofs.Ytceippgkmoijdaa

namespace Go.Proofs.Ytceippgkmoijdaa
open Go.RowKit Go.Shelf Go.Sort Go.Lib
set_option linter.unusedVariables false
set_option linter.unusedSimpArgs false

theorem Try.infoSide3 : (Try.prog.info? 54).map (fun i => (i.zero, i.size, i.bytes)) = some (some (.agg #[.int .i64 0, .int .i64 0, .int .u32 0, .int .i64 0, .int .i64 0, .int .i64 0]), 6, 48) := by kernel_rfl
theorem info_threeC {t : Nat} {z : Option Value} {s b : Nat} (h : (Try.prog.info? t).map (fun i => (i.zero, i.size, i.bytes)) = some (z, s, b)) : ∃ i, Try.prog.info? t = some i ∧ i.zero = z ∧ i.size = s ∧ i.bytes = b := by
  cases hi : Try.prog.info? t with
  | none => rw [hi] at h; cases h
  | some i =>
    rw [hi] at h
    simp only [Option.map_some, Option.some.injEq, Prod.mk.injEq] at h
    exact ⟨i, rfl, h.1, h.2.1, h.2.2⟩
theorem Sides.news {W : World} {a : Addr} {m c : Nat} {zs : List Si} (h : Sides W (.slice (some a) m c) zs) : ∀ j u, (zs.flatMap Si.cells)[j]? = some u → W.cell? (a.add j) = some u := by
  intro j u hj
  have hlen : ∀ l : List Si, (l.flatMap Si.cells).length = l.length * 6 := fun l => by
    induction l with
    | nil => rfl
    | cons x l ih => rw [List.flatMap_cons, List.length_append, ih]; simp [Si.cells]; omega
  have hjl := (List.getElem?_eq_some_iff.1 hj).1
  rw [hlen] at hjl
  have hq : j / 6 < zs.length := by omega
  have e : j = j / 6 * 6 + j % 6 := by omega
  obtain ⟨b, off, e1, _, hc⟩ := h.at (j / 6) zs[j / 6] (List.getElem?_eq_getElem hq)
  injection e1 with e1
  subst e1
  rw [e, flat_get zs (j / 6) (j % 6) (by omega) hq] at hj
  have e2 : zs[j / 6]! = zs[j / 6] := getElem!_pos zs _ hq
  rw [e2] at hj
  have := hc (j % 6) u hj
  rw [add_plainC, show off + j = off + j / 6 * 6 + j % 6 by omega]; exact this
theorem flat_lenC (l : List Si) : (l.flatMap Si.cells).length = l.length * 6 := by
  induction l with
  | nil => rfl
  | cons x l ih => rw [List.flatMap_cons, List.length_append, ih]; simp [Si.cells]; omega
theorem flat_oneC (l : List Si) : ∀ u ∈ l.flatMap Si.cells, u.oneCell' = true := by
  intro u hu
  obtain ⟨s, _, hs⟩ := List.mem_flatMap.1 hu
  simp [Si.cells] at hs
  rcases hs with rfl | rfl | rfl | rfl | rfl | rfl <;> rfl
set_option maxRecDepth 100000 in
theorem append_sides (X : World) (base : Nat) (ty : TypeId) (v : Value) (n : Nat) (xs : List Value) (hown : X.ownsRow base 54 6 v n xs) (A : Option Addr) (m c : Nat) (zs : List Si) (hz : Sides X (.slice A m c) zs) (hm : zs.length = m) (hn : n + m ≤ 1000) (hbase : base ≤ X.heap.size) :
    ∃ v' X', (Builtin.append_ #[132, 132] ty #[v, .slice A m c]).run Try.prog X = .ok v' X' ∧ X'.ownsRow base 54 6 v' (n + m) (xs ++ zs.flatMap Si.cells) ∧ X.grownBy X' v.ownBlock ∧ (v'.ownBlock = v.ownBlock ∨ v'.ownBlock = some X.heap.size) := by
  obtain ⟨i0, hi, hz0, hz1, hz2⟩ := info_threeC Try.infoSide3
  cases A with
  | some a =>
    obtain ⟨v', X', h1, h2, h3, _, h5⟩ := run_append_own_at (P := Try.prog) (w := X) base 132 ty 54 i0 _ 6 48 Try.underlying132 hi hz0 hz1 hz2 rfl (by decide) v n xs hown a m c (zs.flatMap Si.cells) (by rw [flat_lenC, hm]) hz.news (flat_oneC zs) (by unfold maxLen; omega) (by omega) hbase
    exact ⟨v', X', h1, h2, h3, h5⟩
  | none =>
    have h0 : zs = [] := by
      obtain ⟨_, ⟨_, _, _, h⟩ | ⟨_, _, _, e, _⟩⟩ := hz
      · exact h
      · injection e with e1; cases e1
    subst h0
    obtain rfl : 0 = m := hm
    refine ⟨v, X, ?_, by simpa using hown, ⟨rfl, rfl, rfl, Nat.le_refl _, fun _ _ _ => rfl⟩, .inl rfl⟩
    rcases hown.2 with ⟨rfl, _⟩ | ⟨g, cap, cur, rfl, _, _, hnc, _⟩
    · simp [Builtin.append_, run_underlying Try.underlying132, sizeOf, typeInfo, hi, Builtin.lenOf, Builtin.firstCells]
    · simp [Builtin.append_, run_underlying Try.underlying132, sizeOf, typeInfo, hi, Builtin.lenOf, Builtin.firstCells, hnc, storeCells]
theorem wp_append_runC {P : Program} {o : Oper} {a : Act} {w X : World} {K : Act → World → Prop} {Q : Exit → Act → World → Prop} (dst : Option Tmp) (hd : o.dst = dst) (s x : Operand) (t : TypeId) (ho : o.op = .call { callee := .builtin .append, args := #[s, x], argTypes := #[t, t] })
    (v v2 r : Value) (hs : a.eval s = v) (hx : a.eval x = v2) (hr : (Builtin.append_ #[t, t] o.type #[v, v2]).run P w = .ok r X) (h : K (a.put dst r) X) : o.wp P a w K Q := by
  subst hd
  unfold Oper.wp execOp
  simp only [ho, resolve, invoke, builtin, Sem.run_bind, Sem.run_pure, Result.andThen_ok, List.map_toArray, List.map_cons, List.map_nil, hs, hx, hr]
  exact h
/-- one side more -/
theorem wpList_appS {w : World} {ops : Array Oper} {rest : List Oper} {o : Oper} {a : Act} {Q : Exit → Act → World → Prop} (dst : Option Tmp) (hd : o.dst = dst) (hgd : o.guard = none) (s x : Operand) (ho : o.op = .call { callee := .builtin .append, args := #[s, x], argTypes := #[132, 132] })
    (base : Nat) (v : Value) (n : Nat) (xs : List Value) (hs : a.eval s = v) (hown : w.ownsRow base 54 6 v n xs) (A : Option Addr) (m c : Nat) (zs : List Si) (hx : a.eval x = .slice A m c) (hz : Sides w (.slice A m c) zs) (hm : zs.length = m) (hn : n + m ≤ 1000) (hbase : base ≤ w.heap.size)
    (h : ∀ v' w', w'.ownsRow base 54 6 v' (n + m) (xs ++ zs.flatMap Si.cells) → w.grownBy w' v.ownBlock → (v'.ownBlock = v.ownBlock ∨ v'.ownBlock = some w.heap.size) → wpList Try.prog ops Q rest (a.put dst v') w') : wpList Try.prog ops Q (o :: rest) a w := by
  obtain ⟨v', X', hr, h1, h2, h3⟩ := append_sides w base o.type v n xs hown A m c zs hz hm hn hbase
  exact wpList_plain hgd fun K hK => wp_append_runC dst hd s x _ ho _ _ _ hs hx hr (hK _ _ (h v' X' h1 h2 h3))
theorem sides_one {W : World} {g t : Nat} {a : Si} (h : Whole W g t a.cells) : Sides W (.slice (some ⟨g, 0, none⟩) 1 1) [a] :=
  ⟨by simp, .inr ⟨g, 0, 1, rfl, h.lt, fun j hj i v hv => by
    obtain rfl : j = 0 := by simpa using hj
    have := h.cellAt i
    rw [show 0 + 0 * 6 + i = i by omega, this]; exact hv⟩⟩
theorem own_sidesC {W : World} {base : Nat} {v : Value} {zs : List Si} (h : W.ownsRow base 54 6 v zs.length (zs.flatMap Si.cells)) (hl : zs.length ≤ 9223372036854775807) : Sides W v zs := by
  refine ⟨hl, ?_⟩
  rcases h.2 with ⟨rfl, hn⟩ | ⟨g, cap, cur, rfl, hb, hgg, hnc, hcm, hcs, htk⟩
  · exact .inl ⟨none, 0, by rw [], List.length_eq_zero_iff.1 hn⟩
  · refine .inr ⟨g, 0, cap, rfl, (Array.getElem?_eq_some_iff.1 hgg).1, fun j hj i v hv => ?_⟩
    have hi : i < 6 := by have := (List.getElem?_eq_some_iff.1 hv).1; simpa [Si.cells] using this
    have h1 := flat_get zs j i hi hj
    rw [hv] at h1
    rw [← htk, List.getElem?_take_of_lt (by omega)] at h1
    rw [show 0 + j * 6 + i = j * 6 + i by omega]
    simp only [World.cell?, hgg]
    simp only [Option.isSome_none, Bool.false_eq_true, if_false]
    rw [← Array.getElem?_toList]; exact h1
theorem own_formC {W : World} {base n : Nat} {v : Value} {xs : List Value} (h : W.ownsRow base 54 6 v n xs) : ∃ p c, v = .slice p n c ∧ n ≤ c ∧ c ≤ 9223372036854775807 := by
  rcases h.2 with ⟨rfl, rfl⟩ | ⟨g, cap, cur, rfl, _, _, hnc, hcm, _⟩
  · exact ⟨none, 0, rfl, Nat.le_refl _, by omega⟩
  · exact ⟨_, cap, rfl, hnc, by unfold maxLen at hcm; omega⟩
end Go.Proofs.Ytceippgkmoijdaa
