/- Places and heights that grow side by side, in whatever order the operations come; one cell more, in plain data. -/
import Derived.Test.YtpbkboandiigfaaHApp
namespace Go.Proofs.Ytpbkboandiigfaa
open Go.RowKit Go.Shelf Go.Maps
set_option linter.unusedVariables false
set_option linter.unusedSimpArgs false

theorem Ints.newsH {W : World} {a : Addr} {m c : Nat} {zs : List Int} (h : Ints W (.slice (some a) m c) zs) (hm : zs.length = m) : ∀ j u, (zs.map (Value.int .i64))[j]? = some u → W.cell? (a.add j) = some u := by
  intro j u hj
  rw [List.getElem?_map] at hj
  obtain ⟨z, hz, rfl⟩ := Option.map_eq_some_iff.1 hj
  have hjl := (List.getElem?_eq_some_iff.1 hz).1
  obtain ⟨_, ⟨a', c', e, he⟩ | ⟨b, off, c', e, hc⟩⟩ := h
  · rw [he] at hjl; simp at hjl
  · injection e with e1 e2 e3
    injection e1 with e1
    subst e1
    have := hc j hjl
    rw [hz, Option.getD_some] at this
    rw [add_plainC]; exact this
set_option maxRecDepth 100000 in
theorem append_intsH (X : World) (base : Nat) (ty : TypeId) (v : Value) (n : Nat) (xs : List Value) (hown : X.ownsRow base 2 1 v n xs) (A : Option Addr) (m c : Nat) (zs : List Int) (hz : Ints X (.slice A m c) zs) (hm : zs.length = m) (hn : n + m ≤ 1000) (hbase : base ≤ X.heap.size) :
    ∃ v' X', (Builtin.append_ #[22, 22] ty #[v, .slice A m c]).run Try.prog X = .ok v' X' ∧ X'.ownsRow base 2 1 v' (n + m) (xs ++ zs.map (Value.int .i64)) ∧ X.grownBy X' v.ownBlock ∧ (v'.ownBlock = v.ownBlock ∨ v'.ownBlock = some X.heap.size) := by
  obtain ⟨i0, hi, hz0, hz1, hz2⟩ := info_partsH Try.infoI64N
  cases A with
  | some a =>
    obtain ⟨v', X', h1, h2, h3, _, h5⟩ := run_append_own_at (P := Try.prog) (w := X) base 22 ty 2 i0 _ 1 8 Try.underlying22 hi hz0 hz1 hz2 rfl (by decide) v n xs hown a m c (zs.map (Value.int .i64)) (by simp [hm]) (hz.newsH hm) (fun u hu => by obtain ⟨z, _, rfl⟩ := List.mem_map.1 hu; rfl) (by unfold maxLen; omega) (by omega) hbase
    exact ⟨v', X', h1, h2, h3, h5⟩
  | none =>
    have h0 : zs = [] := by
      obtain ⟨_, ⟨_, _, _, h⟩ | ⟨_, _, _, e, _⟩⟩ := hz
      · exact h
      · injection e with e1; cases e1
    subst h0
    obtain rfl : 0 = m := hm
    refine ⟨v, X, ?_, by simpa using hown, ⟨rfl, rfl, rfl, Nat.le_refl _, fun _ _ _ => rfl⟩, .inl rfl⟩
    rcases hown.2 with ⟨rfl, _⟩ | ⟨g, cap, cur, rfl, _, _, hnc, _⟩
    · simp [Builtin.append_, run_underlying Try.underlying22, sizeOf, typeInfo, hi, Builtin.lenOf, Builtin.firstCells]
    · simp [Builtin.append_, run_underlying Try.underlying22, sizeOf, typeInfo, hi, Builtin.lenOf, Builtin.firstCells, hnc, storeCells]
set_option maxRecDepth 100000 in
theorem append_plcH (X : World) (base : Nat) (ty : TypeId) (v : Value) (n : Nat) (xs : List Value) (hown : X.ownsRow base 35 5 v n xs) (g : Nat) (p : Pc) (hk : Whole X g 35 p.cells) (hn : n + 1 ≤ 1000) (hbase : base ≤ X.heap.size) :
    ∃ v' X', (Builtin.append_ #[23, 23] ty #[v, .slice (some ⟨g, 0, none⟩) 1 1]).run Try.prog X = .ok v' X' ∧ X'.ownsRow base 35 5 v' (n + 1) (xs ++ p.cells) ∧ X.grownBy X' v.ownBlock ∧ (v'.ownBlock = v.ownBlock ∨ v'.ownBlock = some X.heap.size) := by
  obtain ⟨i0, hi, hz0, hz1, hz2⟩ := info_threeN Try.infoPcH
  obtain ⟨v', X', h1, h2, h3, _, h5⟩ := run_append_own_at (P := Try.prog) (w := X) base 23 ty 35 i0 _ 5 40 Try.underlying23 hi hz0 hz1 hz2 rfl (by decide) v n xs hown ⟨g, 0, none⟩ 1 1 p.cells rfl
    (fun j u hj => by rw [add_plainC, Nat.zero_add]; exact (hk.cellAt j).trans hj) (fun u hu => by simp [Pc.cells] at hu; rcases hu with rfl | rfl | rfl | rfl | rfl <;> rfl) (by unfold maxLen; omega) (by omega) hbase
  exact ⟨v', X', h1, h2, h3, h5⟩
theorem TwoG.apps {W X Y : World} {B : Nat} {ps : List Pc} {hs zs : List Int} {v1 v2 v' : Value} (h : TwoG W B ps hs v1 v2 X) (hB : W.heap.size ≤ B) (ho : Y.ownsRow B 2 1 v' (hs.length + zs.length) (hs.map (Value.int .i64) ++ zs.map (Value.int .i64))) (hg : X.grownBy Y v2.ownBlock) (ha : v'.ownBlock = v2.ownBlock ∨ v'.ownBlock = some X.heap.size) :
    TwoG W B ps (hs ++ zs) v1 v' Y where
  lo := h.lo.grown hg h.lo.size (fun j e => by have := (h.o2.lt j e).1; omega)
  sz := Nat.le_trans h.sz hg.size
  o2 := by simpa using ho
  o1 := h.o1.kept hg (by
    cases e : v1.ownBlock with
    | none => exact .inl rfl
    | some g => exact .inr fun he => h.ne g e he.symm)
  ne := fun g e1 e2 => by
    rcases ha with ha | ha
    · rw [ha] at e2; exact h.ne g e1 e2
    · rw [ha] at e2; injection e2 with e2; have := (h.o1.lt g e1).2; omega
theorem blk_lt {X : World} {g : Nat} {o : Obj} (h : X.heap[g]? = some o) : g < X.heap.size := (Array.getElem?_eq_some_iff.1 h).1
/-- the two lists, and blocks that stay -/
structure MS (W : World) (B : Nat) (ps : List Pc) (hs : List Int) (v1 v2 : Value) (PB : List (Nat × Obj)) (X : World) : Prop where
  g : TwoG W B ps hs v1 v2 X
  hb : W.heap.size ≤ B
  pb : ∀ q ∈ PB, X.heap[q.1]? = some q.2 ∧ v1.ownBlock ≠ some q.1 ∧ v2.ownBlock ≠ some q.1
theorem MS.lo {W : World} {B : Nat} {ps : List Pc} {hs : List Int} {v1 v2 : Value} {PB : List (Nat × Obj)} {X : World} (h : MS W B ps hs v1 v2 PB X) : Below W.heap.size W X := h.g.lo
theorem MS.below {W : World} {B : Nat} {ps : List Pc} {hs : List Int} {v1 v2 : Value} {PB : List (Nat × Obj)} {X Y : World} (h : MS W B ps hs v1 v2 PB X) (hb : Below X.heap.size X Y) : MS W B ps hs v1 v2 PB Y :=
  ⟨h.g.below hb, h.hb, fun q hq => ⟨(hb.block q.1 (blk_lt (h.pb q hq).1)).trans (h.pb q hq).1, (h.pb q hq).2⟩⟩
theorem MS.put {W : World} {B : Nat} {ps : List Pc} {hs : List Int} {v1 v2 : Value} {PB : List (Nat × Obj)} {X : World} (h : MS W B ps hs v1 v2 PB X) (t : Nat) (ys : List Value) : MS W B ps hs v1 v2 ((X.heap.size, .cells ys.toArray t (0, 0)) :: PB) (X.alloc (.cells ys.toArray t)) := by
  have h1 := h.below ((Below.refl _ X).alloc (Nat.le_refl _) (.cells ys.toArray t))
  refine ⟨h1.g, h1.hb, fun q hq => ?_⟩
  rcases List.mem_cons.1 hq with rfl | hq
  · exact ⟨whole_new X ys t _ rfl, fun e => by have := (h.g.o1.lt _ e).2; simp at this, fun e => by have := (h.g.o2.lt _ e).2; simp at this⟩
  · exact h1.pb q hq
set_option maxRecDepth 100000 in
theorem MS.made {W : World} {B : Nat} {ps : List Pc} {v1 : Value} {PB : List (Nat × Obj)} {X : World} (h : MS W B ps [] v1 (.slice none 0 0) PB X) (zc : Array Value) (k : Nat) (hz : zc.size = k) (hk : k ≤ maxLen) : MS W B ps [] v1 (.slice (some ⟨X.heap.size, 0, none⟩) 0 k) PB (X.alloc (.cells zc 2)) := by
  have h1 := h.below ((Below.refl _ X).alloc (Nat.le_refl _) (.cells zc 2))
  refine ⟨⟨h1.g.lo, h1.g.sz, h1.g.o1, World.ownsRow_made X zc k h.g.sz hk (by omega), fun g e1 e2 => ?_⟩, h1.hb, fun q hq => ⟨(h1.pb q hq).1, (h1.pb q hq).2.1, fun e => ?_⟩⟩
  · have := (h.g.o1.lt g e1).2
    simp [Value.ownBlock] at e2; omega
  · have := blk_lt (h.pb q hq).1
    simp [Value.ownBlock] at e; omega
theorem MS.app1 {W : World} {B : Nat} {ps : List Pc} {hs : List Int} {v1 v2 v' : Value} {PB : List (Nat × Obj)} {X Y : World} {p : Pc} (h : MS W B ps hs v1 v2 PB X) (ho : Y.ownsRow B 35 5 v' (ps.length + 1) (ps.flatMap Pc.cells ++ p.cells)) (hg : X.grownBy Y v1.ownBlock) (ha : v'.ownBlock = v1.ownBlock ∨ v'.ownBlock = some X.heap.size) : MS W B (ps ++ [p]) hs v' v2 PB Y :=
  ⟨h.g.app1 h.hb ho hg ha, h.hb, fun q hq => ⟨(hg.block q.1 (blk_lt (h.pb q hq).1) (fun e => (h.pb q hq).2.1 e.symm)).trans (h.pb q hq).1, fun e => by
    rcases ha with k | k
    · exact (h.pb q hq).2.1 (k ▸ e)
    · rw [k] at e; have := blk_lt (h.pb q hq).1; simp at e; omega, (h.pb q hq).2.2⟩⟩
theorem MS.app2 {W : World} {B : Nat} {ps : List Pc} {hs zs : List Int} {v1 v2 v' : Value} {PB : List (Nat × Obj)} {X Y : World} (h : MS W B ps hs v1 v2 PB X) (ho : Y.ownsRow B 2 1 v' (hs.length + zs.length) (hs.map (Value.int .i64) ++ zs.map (Value.int .i64))) (hg : X.grownBy Y v2.ownBlock) (ha : v'.ownBlock = v2.ownBlock ∨ v'.ownBlock = some X.heap.size) : MS W B ps (hs ++ zs) v1 v' PB Y :=
  ⟨h.g.apps h.hb ho hg ha, h.hb, fun q hq => ⟨(hg.block q.1 (blk_lt (h.pb q hq).1) (fun e => (h.pb q hq).2.2 e.symm)).trans (h.pb q hq).1, (h.pb q hq).2.1, fun e => by
    rcases ha with k | k
    · exact (h.pb q hq).2.2 (k ▸ e)
    · rw [k] at e; have := blk_lt (h.pb q hq).1; simp at e; omega⟩⟩
theorem wp_append_runH {P : Program} {o : Oper} {a : Act} {w X : World} {K : Act → World → Prop} {Q : Exit → Act → World → Prop} (dst : Option Tmp) (hd : o.dst = dst) (s x : Operand) (t : TypeId) (ho : o.op = .call { callee := .builtin .append, args := #[s, x], argTypes := #[t, t] })
    (v v2 r : Value) (hs : a.eval s = v) (hx : a.eval x = v2) (hr : (Builtin.append_ #[t, t] o.type #[v, v2]).run P w = .ok r X) (h : K (a.put dst r) X) : o.wp P a w K Q := by
  subst hd
  unfold Oper.wp execOp
  simp only [ho, resolve, invoke, builtin, Sem.run_bind, Sem.run_pure, Result.andThen_ok, List.map_toArray, List.map_cons, List.map_nil, hs, hx, hr]
  exact h
/-! one cell of one row more -/
/-- a cell of one row -/
def pcB (r : Int) : Pc := ⟨0, r, 0, 1, 1⟩
theorem right_snoc {ws : List Int} {ps : List Pc} {hs : List Int} {gap : Int} {r h : Int} (hl : hs.length = ps.length) (h1 : 0 ≤ r) (h2 : r < ws.length) (h3 : 0 ≤ h) (h4 : h ≤ 1125899906842623) : rightH ws (ps ++ [pcB r]) (hs ++ [h]) gap = rightH ws ps hs gap := by
  unfold rightH
  have e : htZ (ps ++ [pcB r]) (hs ++ [h]) = htZ ps hs ++ [(pcB r).ht h] := by
    unfold htZ; rw [List.zipWith_append (by omega)]; rfl
  have hb : htB ws.length ((pcB r).ht h) = true := by
    rw [htB_iff]
    simp only [pcB, Pc.ht]
    omega
  rw [e, List.all_append, List.length_append, List.length_append, hl]
  simp [hb]
theorem least_snoc {ws : List Int} {ps : List Pc} {hs : List Int} {gap : Int} {r : Nat} {h : Int} (hl : hs.length = ps.length) (ho : ∀ p ∈ ps, p.rs = 1) (hr : rightH ws (ps ++ [pcB r]) (hs ++ [h]) gap = true) (h2 : r < ws.length) :
    leastP ws (htZ (ps ++ [pcB r]) (hs ++ [h])) gap = (leastP ws (htZ ps hs) gap).set r (max ((leastP ws (htZ ps hs) gap)[r]?.getD 0) h) := by
  have e : htZ (ps ++ [pcB r]) (hs ++ [h]) = htZ ps hs ++ [(pcB r).ht h] := by
    unfold htZ; rw [List.zipWith_append (by omega)]; rfl
  obtain ⟨x1, x2, x3, x4, x5⟩ := rightH_iff hr
  rw [e] at x5
  have ho' : ∀ s ∈ htZ ps hs, s.rs = 1 := fun s hs' => by
    obtain ⟨k, hk⟩ := List.mem_iff_getElem?.1 hs'
    obtain ⟨p, x, h1, _, rfl⟩ := htZ_get ps hs k s hk
    exact ho p (List.mem_of_getElem? h1)
  have ho2 : ∀ s ∈ htZ ps hs ++ [(pcB r).ht h], s.rs = 1 := fun s hs' => by
    rcases List.mem_append.1 hs' with h | h
    · exact ho' s h
    · obtain rfl : s = _ := by simpa using h
      rfl
  unfold leastP
  rw [e, htL_ones _ (by omega) _ ho2, htL_ones _ (by omega) _ ho', List.foldl_append]
  have hm := meetsH_ok (gap := gap) (htZ ps hs) (reqP_len ws) (req_okW x4) (fun s hs' => x5 s (by simp [hs']))
  have := meet_one (x5 ((pcB r).ht h) (by simp)) rfl hm.1 hm.2
  exact this
end Go.Proofs.Ytpbkboandiigfaa
