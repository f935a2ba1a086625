/- Sides that are appended to a list of one's own, in whatever order the operations come; one side more, in plain data. -/
import Derived.Test.YtmcgieameodkbaaCFirst
namespace Go.Proofs.Ytmcgieameodkbaa
open Go.RowKit Go.Shelf Go.Sort Go.Lib
set_option linter.unusedVariables false
set_option linter.unusedSimpArgs false

theorem Sides.news {W : World} {a : Addr} {m c : Nat} {zs : List Si} (h : Sides W (.slice (some a) m c) zs) : ∀ j u, (zs.flatMap Si.cells)[j]? = some u → W.cell? (a.add j) = some u := by
  intro j u hj
  have hlen : ∀ l : List Si, (l.flatMap Si.cells).length = l.length * 6 := fun l => by
    induction l with
    | nil => rfl
    | cons x l ih => rw [List.flatMap_cons, List.length_append, ih]; simp [Si.cells]; omega
  have hjl := (List.getElem?_eq_some_iff.1 hj).1
  rw [hlen] at hjl
  have hq : j / 6 < zs.length := by omega
  have e : j = j / 6 * 6 + j % 6 := by omega
  obtain ⟨b, off, e1, _, hc⟩ := h.at (j / 6) zs[j / 6] (List.getElem?_eq_getElem hq)
  injection e1 with e1
  subst e1
  rw [e, flat_get zs (j / 6) (j % 6) (by omega) hq] at hj
  have e2 : zs[j / 6]! = zs[j / 6] := getElem!_pos zs _ hq
  rw [e2] at hj
  have := hc (j % 6) u hj
  rw [add_plainC, show off + j = off + j / 6 * 6 + j % 6 by omega]; exact this
theorem flat_lenC (l : List Si) : (l.flatMap Si.cells).length = l.length * 6 := by
  induction l with
  | nil => rfl
  | cons x l ih => rw [List.flatMap_cons, List.length_append, ih]; simp [Si.cells]; omega
theorem flat_oneC (l : List Si) : ∀ u ∈ l.flatMap Si.cells, u.oneCell' = true := by
  intro u hu
  obtain ⟨s, _, hs⟩ := List.mem_flatMap.1 hu
  simp [Si.cells] at hs
  rcases hs with rfl | rfl | rfl | rfl | rfl | rfl <;> rfl
set_option maxRecDepth 100000 in
theorem append_sides (X : World) (base : Nat) (ty : TypeId) (v : Value) (n : Nat) (xs : List Value) (hown : X.ownsRow base 26 6 v n xs) (A : Option Addr) (m c : Nat) (zs : List Si) (hz : Sides X (.slice A m c) zs) (hm : zs.length = m) (hn : n + m ≤ 1000) (hbase : base ≤ X.heap.size) :
    ∃ v' X', (Builtin.append_ #[33, 33] ty #[v, .slice A m c]).run Try.prog X = .ok v' X' ∧ X'.ownsRow base 26 6 v' (n + m) (xs ++ zs.flatMap Si.cells) ∧ X.grownBy X' v.ownBlock ∧ (v'.ownBlock = v.ownBlock ∨ v'.ownBlock = some X.heap.size) := by
  obtain ⟨i0, hi, hz0, hz1, hz2⟩ := info_threeC Try.infoSide3
  cases A with
  | some a =>
    obtain ⟨v', X', h1, h2, h3, _, h5⟩ := run_append_own_at (P := Try.prog) (w := X) base 33 ty 26 i0 _ 6 48 Try.underlying33 hi hz0 hz1 hz2 rfl (by decide) v n xs hown a m c (zs.flatMap Si.cells) (by rw [flat_lenC, hm]) hz.news (flat_oneC zs) (by unfold maxLen; omega) (by omega) hbase
    exact ⟨v', X', h1, h2, h3, h5⟩
  | none =>
    have h0 : zs = [] := by
      obtain ⟨_, ⟨_, _, _, h⟩ | ⟨_, _, _, e, _⟩⟩ := hz
      · exact h
      · injection e with e1; cases e1
    subst h0
    obtain rfl : 0 = m := hm
    refine ⟨v, X, ?_, by simpa using hown, ⟨rfl, rfl, rfl, Nat.le_refl _, fun _ _ _ => rfl⟩, .inl rfl⟩
    rcases hown.2 with ⟨rfl, _⟩ | ⟨g, cap, cur, rfl, _, _, hnc, _⟩
    · simp [Builtin.append_, run_underlying Try.underlying33, sizeOf, typeInfo, hi, Builtin.lenOf, Builtin.firstCells]
    · simp [Builtin.append_, run_underlying Try.underlying33, sizeOf, typeInfo, hi, Builtin.lenOf, Builtin.firstCells, hnc, storeCells]
/-- a list that grows, and blocks that stay -/
structure ST (W4 : World) (base : Nat) (v : Value) (n : Nat) (xs : List Value) (PB : List (Nat × Nat × List Value)) (X : World) : Prop where
  lo : Below W4.heap.size W4 X
  hb : W4.heap.size ≤ base
  hx : base ≤ X.heap.size
  own : X.ownsRow base 26 6 v n xs
  pb : ∀ q ∈ PB, Whole X q.1 q.2.1 q.2.2 ∧ v.ownBlock ≠ some q.1
theorem ST.below {W4 : World} {base n : Nat} {v : Value} {xs : List Value} {PB : List (Nat × Nat × List Value)} {X Y : World} (h : ST W4 base v n xs PB X) (hb : Below X.heap.size X Y) : ST W4 base v n xs PB Y :=
  ⟨h.lo.trans (hb.mono h.lo.size), h.hb, Nat.le_trans h.hx hb.size, h.own.kept (row := none) ⟨hb.os, hb.tape, hb.output, hb.size, fun k hk _ => hb.block k hk⟩ (by cases hv : v.ownBlock <;> simp), fun q hq => ⟨(h.pb q hq).1.below hb (h.pb q hq).1.lt, (h.pb q hq).2⟩⟩
theorem ST.put {W4 : World} {base n : Nat} {v : Value} {xs : List Value} {PB : List (Nat × Nat × List Value)} {X : World} (h : ST W4 base v n xs PB X) (t : Nat) (ys : List Value) : ST W4 base v n xs ((X.heap.size, t, ys) :: PB) (X.alloc (.cells ys.toArray t)) := by
  have h1 := h.below ((Below.refl _ X).alloc (Nat.le_refl _) (.cells ys.toArray t))
  refine ⟨h1.lo, h1.hb, h1.hx, h1.own, fun q hq => ?_⟩
  rcases List.mem_cons.1 hq with rfl | hq
  · exact ⟨whole_new X ys t _ rfl, fun e => by have := (h.own.lt _ e).2; simp at this⟩
  · exact h1.pb q hq
set_option maxRecDepth 100000 in
theorem ST.made {W4 : World} {base : Nat} {PB : List (Nat × Nat × List Value)} {X : World} (h : ST W4 base (.slice none 0 0) 0 [] PB X) (zc : Array Value) (k : Nat) (hz : zc.size = k * 6) (hk : k ≤ maxLen) : ST W4 base (.slice (some ⟨X.heap.size, 0, none⟩) 0 k) 0 [] PB (X.alloc (.cells zc 26)) := by
  have h1 := h.below ((Below.refl _ X).alloc (Nat.le_refl _) (.cells zc 26))
  refine ⟨h1.lo, h1.hb, h1.hx, World.ownsRow_made X zc k h.hx hk hz, fun q hq => ⟨(h1.pb q hq).1, fun e => ?_⟩⟩
  have := (h.pb q hq).1.lt
  simp [Value.ownBlock] at e; omega
theorem ST.app {W4 : World} {base n m : Nat} {v v' : Value} {xs ys : List Value} {PB : List (Nat × Nat × List Value)} {X Y : World} (h : ST W4 base v n xs PB X) (ho : Y.ownsRow base 26 6 v' m ys) (hg : X.grownBy Y v.ownBlock) (hat : v'.ownBlock = v.ownBlock ∨ v'.ownBlock = some X.heap.size) : ST W4 base v' m ys PB Y := by
  refine ⟨h.lo.grown hg h.lo.size (fun k e => by have := (h.own.lt k e).1; have := h.hb; omega), h.hb, Nat.le_trans h.hx hg.size, ho, fun q hq => ⟨(h.pb q hq).1.grown hg (h.pb q hq).2, fun e => ?_⟩⟩
  rcases hat with k | k
  · exact (h.pb q hq).2 (k ▸ e)
  · rw [k] at e; have := (h.pb q hq).1.lt; simp at e; omega
theorem wp_append_runC {P : Program} {o : Oper} {a : Act} {w X : World} {K : Act → World → Prop} {Q : Exit → Act → World → Prop} (dst : Option Tmp) (hd : o.dst = dst) (s x : Operand) (t : TypeId) (ho : o.op = .call { callee := .builtin .append, args := #[s, x], argTypes := #[t, t] })
    (v v2 r : Value) (hs : a.eval s = v) (hx : a.eval x = v2) (hr : (Builtin.append_ #[t, t] o.type #[v, v2]).run P w = .ok r X) (h : K (a.put dst r) X) : o.wp P a w K Q := by
  subst hd
  unfold Oper.wp execOp
  simp only [ho, resolve, invoke, builtin, Sem.run_bind, Sem.run_pure, Result.andThen_ok, List.map_toArray, List.map_cons, List.map_nil, hs, hx, hr]
  exact h
/-- one side more -/
theorem winF_snoc (b : Si) (zs : List Si) (s : Si) : winF b (zs ++ [s]) = if cmpS s (winF b zs) < 0 then s else winF b zs := by unfold winF; rw [List.foldl_append]; rfl
theorem more_facts (zs : List Si) (s : Si) (h1 : (winR zs).2 = 0) (h2 : (winR (zs ++ [s])).2 = 0) :
    ((winR (zs ++ [s])).1 = s ∨ ((winR (zs ++ [s])).1 = (winR zs).1 ∧ ¬ (s.st = 1 ∧ (winR zs).1.st ≠ 1))) := by
  cases zs with
  | nil => simp [winR] at h1
  | cons a r =>
    have ha : (a :: r).all rightS = true := by
      cases hq : (a :: r).all rightS with
      | true => rfl
      | false => simp only [winR, hq] at h1; simp at h1
    have hb : (a :: (r ++ [s])).all rightS = true := by
      cases hq : (a :: (r ++ [s])).all rightS with
      | true => rfl
      | false => simp only [List.cons_append, winR, hq] at h2; simp at h2
    rw [List.cons_append, winR_some ha, winR_some hb]
    dsimp only
    rw [winF_snoc]
    by_cases hl : cmpS s (winF a r) < 0
    · rw [if_pos hl]; exact .inl rfl
    · rw [if_neg hl]
      refine .inr ⟨rfl, fun ⟨k1, k2⟩ => hl ?_⟩
      unfold cmpS rankL
      rw [cmpL_cons]
      left
      rw [show clsI s.st = 0 by rw [k1]; rfl]
      unfold clsI; rw [if_neg k2]; split <;> omega
end Go.Proofs.Ytmcgieameodkbaa
