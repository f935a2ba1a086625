/- Contract of the document's Tiles. Written by mk_RRefTiles.py. -/
import Derived.Test.YtlnfgmmgkmhehaaQTile0
namespace Go.Proofs.Ytlnfgmmgkmhehaa.RR
open Go.RowKit Go.Shelf Go.Lib
set_option linter.unusedVariables false
set_option linter.unusedSimpArgs false
attribute [local go_sem] Oper.semAt_some

theorem wpAnyH_takeD {P : Program} {md : Region.Mode} {ops : Array Oper} {Q : Exit → Act → World → Prop} {S : World → Prop} {i : Nat} {oi : Oper} {v : Value} {fuel : Nat} {listed : Array Bool} {a : Act} {w : World} (dst : Option Tmp) (hi : ops[i]? = some oi) (hd : oi.dst = dst)
    (hs : Region.noSelect ops = true) (hf : Region.free md ops listed i = true) (hr : (Region.ready md ops listed).contains i = true)
    (hQ : ∀ c a w, Q (.panic c) (a.put dst v) w → Q (.panic c) a w) (hy : YieldsIf P ops S oi v a) (hS : S w)
    (h : wpAnyH P md ops Q S fuel (listed.setIfInBounds i true) (a.put dst v) w) : wpAnyH P md ops Q S (fuel + 1) listed a w := by
  subst hd
  exact wpAnyH_take hi hs hf hr hQ hy hS h
theorem region_still_tailF {P : Program} {id : Nat} {Q : Exit → Act → World → Prop} {a : Act} {w : World} {l : List Oper} (n : Nat) (hm : P.follows .mixedOrders = true) (hB : Region.lexTailB .any l.toArray n = true)
    (h : ∀ w2 : World, w.drew = w2 → wpStill P l.toArray w2 (fun a' => wpList P l.toArray Q (l.drop n) a' w2) (l.take n) a) : (Code.region id l.toArray true).wp P Q a w :=
  wp_region_still_tail n hm hB (h _ rfl)
theorem wp_append_run {P : Program} {o : Oper} {a : Act} {w X : World} {K : Act → World → Prop} {Q : Exit → Act → World → Prop} (s x : Operand) (t : TypeId) (ho : o.op = .call { callee := .builtin .append, args := #[s, x], argTypes := #[t, t] })
    (v v2 r : Value) (hs : a.eval s = v) (hx : a.eval x = v2) (hr : (Builtin.append_ #[t, t] o.type #[v, v2]).run P w = .ok r X) (h : K (a.put o.dst r) X) : o.wp P a w K Q := by
  unfold Oper.wp execOp
  simp only [ho, resolve, invoke, builtin, Sem.run_bind, Sem.run_pure, Result.andThen_ok, List.map_toArray, List.map_cons, List.map_nil, hs, hx, hr]
  exact h
theorem wp_append_runD {P : Program} {o : Oper} {a : Act} {w X : World} {K : Act → World → Prop} {Q : Exit → Act → World → Prop} (dst : Option Tmp) (hd : o.dst = dst) (s x : Operand) (t : TypeId) (ho : o.op = .call { callee := .builtin .append, args := #[s, x], argTypes := #[t, t] })
    (v v2 r : Value) (hs : a.eval s = v) (hx : a.eval x = v2) (hr : (Builtin.append_ #[t, t] o.type #[v, v2]).run P w = .ok r X) (h : K (a.put dst r) X) : o.wp P a w K Q := by
  subst hd
  exact wp_append_run s x t ho v v2 r hs hx hr h
theorem at_worldQ {a : Act} {W : World} {Q : Exit → Act → World → Prop} (p : World → Prop) (h : p W) (k : ∀ X, p X → Q .normal a X) : Q .normal a W := k W h
theorem all_stepT (zs : List R) (k : Nat) (q : R) (h : zs[k]? = some q) (hq : rightB q = true) (ht : (zs.take k).all rightB = true) : (zs.take (k + 1)).all rightB = true := by
  rw [List.take_add_one, h, List.all_append, ht]; simp [hq]
theorem rect_eql (p q : R) (X : World) : (binOp .neq 38 p.val q.val).run Try.prog X = .ok (.bool (!decide (p = q))) X := by
  obtain ⟨a, b, c, d⟩ := p
  obtain ⟨a', b', c', d'⟩ := q
  unfold R.val
  dsimp only
  by_cases h1 : a = a'
  · by_cases h2 : b = b'
    · by_cases h3 : c = c'
      · by_cases h4 : d = d'
        · subst h1 h2 h3 h4; go_simp
        · subst h1 h2 h3; go_simp
      · subst h1 h2; go_simp
    · subst h1; go_simp
  · go_simp
/-- what lies while tiles are looked at: the box of r, and the places along and down -/
structure TW (w : World) (r : R) (vx vy : Value) (xs ys : List Int) (X : World) : Prop where
  lo : Below w.heap.size w X
  bx : Whole X w.heap.size 38 r.cells
  ox : X.ownsRow w.heap.size 2 1 vx xs.length (xs.map (Value.int .i64))
  oy : X.ownsRow w.heap.size 2 1 vy ys.length (ys.map (Value.int .i64))
  tw : Two vx vy
theorem TW.grown {w X Y : World} {r : R} {vx vy : Value} {xs ys : List Int} {row : Option Nat} (h : TW w r vx vy xs ys X) (hg : X.grownBy Y row) (hr : NoCells X row) (hl : ∀ b, row = some b → w.heap.size ≤ b) : TW w r vx vy xs ys Y :=
  ⟨h.lo.grown hg h.lo.size hl, h.bx.grown hg (h.bx.ne hr), own_grown h.ox hg hr, own_grown h.oy hg hr, h.tw⟩
theorem TW.below {w X Y : World} {r : R} {vx vy : Value} {xs ys : List Int} (h : TW w r vx vy xs ys X) (hb : Below X.heap.size X Y) : TW w r vx vy xs ys Y :=
  ⟨h.lo.trans (hb.mono h.lo.size), h.bx.below hb h.bx.lt, own_later h.ox hb, own_later h.oy hb, h.tw⟩
theorem TW.alloc {w X : World} {r : R} {vx vy : Value} {xs ys : List Int} (h : TW w r vx vy xs ys X) (o : Obj) : TW w r vx vy xs ys (X.alloc o) := h.below ((Below.refl _ _).alloc (Nat.le_refl _) _)
theorem TW.pushX {w X Y : World} {r : R} {vx vy v' : Value} {xs ys zs : List Int} {o : Obj} (h : TW w r vx vy xs ys X) (ho : Y.ownsRow w.heap.size 2 1 v' (xs.length + zs.length) (xs.map (Value.int .i64) ++ zs.map (Value.int .i64))) (hg : (X.alloc o).grownBy Y vx.ownBlock)
    (hf : v'.ownBlock = vx.ownBlock ∨ v'.ownBlock = some (X.alloc o).heap.size) : TW w r v' vy (xs ++ zs) ys Y := by
  have hA := h.alloc o
  refine ⟨own_below hA.lo hA.ox (Nat.le_refl _) hg hA.lo.size, hA.bx.grown hg (whole_own hA.bx hA.ox (by decide)), by rw [List.length_append, List.map_append]; exact ho, hA.oy.kept hg h.tw.kept, ?_⟩
  rcases hf with hf | hf
  · exact h.tw.elim (fun k => .inl ⟨hf.trans k.1, k.2⟩) (fun k => .inr (by rw [hf]; exact k))
  · refine .inr fun e' => ?_
    have := (hA.oy.lt _ (e'.symm.trans hf)).2
    omega
theorem TW.pushY {w X Y : World} {r : R} {vx vy v' : Value} {xs ys zs : List Int} {o : Obj} (h : TW w r vx vy xs ys X) (ho : Y.ownsRow w.heap.size 2 1 v' (ys.length + zs.length) (ys.map (Value.int .i64) ++ zs.map (Value.int .i64))) (hg : (X.alloc o).grownBy Y vy.ownBlock)
    (hf : v'.ownBlock = vy.ownBlock ∨ v'.ownBlock = some (X.alloc o).heap.size) : TW w r vx v' xs (ys ++ zs) Y := by
  have hA := h.alloc o
  refine ⟨own_below hA.lo hA.oy (Nat.le_refl _) hg hA.lo.size, hA.bx.grown hg (whole_own hA.bx hA.oy (by decide)), hA.ox.kept hg h.tw.symm.kept, by rw [List.length_append, List.map_append]; exact ho, ?_⟩
  rcases hf with hf | hf
  · exact h.tw.elim (fun k => .inl ⟨k.1, hf.trans k.2⟩) (fun k => .inr (by rw [hf]; exact k))
  · refine .inr fun e' => ?_
    have := (hA.ox.lt _ (e'.trans hf)).2
    omega
theorem TW.pushX2 {w X Y : World} {r : R} {vx vy v' : Value} {xs ys : List Int} {a b : Int} {o : Obj} (h : TW w r vx vy xs ys X) (ho : Y.ownsRow w.heap.size 2 1 v' (xs.length + 2) (xs.map (Value.int .i64) ++ [.int .i64 a, .int .i64 b])) (hg : (X.alloc o).grownBy Y vx.ownBlock)
    (hf : v'.ownBlock = vx.ownBlock ∨ v'.ownBlock = some (X.alloc o).heap.size) : TW w r v' vy (xs ++ [a, b]) ys Y := h.pushX (zs := [a, b]) ho hg hf
theorem TW.pushY2 {w X Y : World} {r : R} {vx vy v' : Value} {xs ys : List Int} {a b : Int} {o : Obj} (h : TW w r vx vy xs ys X) (ho : Y.ownsRow w.heap.size 2 1 v' (ys.length + 2) (ys.map (Value.int .i64) ++ [.int .i64 a, .int .i64 b])) (hg : (X.alloc o).grownBy Y vy.ownBlock)
    (hf : v'.ownBlock = vy.ownBlock ∨ v'.ownBlock = some (X.alloc o).heap.size) : TW w r vx v' xs (ys ++ [a, b]) Y := h.pushY (zs := [a, b]) ho hg hf
/-- a rectangle of the list, in memory -/
def CellsIn (w : World) (p : Option Addr) (zs : List R) : Prop := ∀ (k : Nat) (q : R), zs[k]? = some q → ∃ b off, p = some ⟨b, off, none⟩ ∧ b < w.heap.size ∧
  w.cell? ⟨b, off + k * 4, none⟩ = some (.int .i64 q.x) ∧ w.cell? ⟨b, off + k * 4 + 1, none⟩ = some (.int .i64 q.y) ∧ w.cell? ⟨b, off + k * 4 + 2, none⟩ = some (.int .i64 q.w) ∧ w.cell? ⟨b, off + k * 4 + 3, none⟩ = some (.int .i64 q.h)
theorem Rects.cellsIn {w : World} {p : Option Addr} {m c : Nat} {zs : List R} (h : Rects w (.slice p m c) zs) : CellsIn w p zs := by
  intro k q hq
  have hk := (List.getElem?_eq_some_iff.1 hq).1
  obtain ⟨_, ⟨a, cap, e, rfl⟩ | ⟨b, off, cap, e, hlt, hc⟩⟩ := h
  · simp at hk
  · injection e with e1 e2 e3
    have hc' : ∀ i v, q.cells[i]? = some v → w.cell? ⟨b, off + k * 4 + i, none⟩ = some v := fun i v hv => hc k hk i v (by rw [show zs[k]! = q by simp [List.getElem!_eq_getElem?_getD, hq]]; exact hv)
    exact ⟨b, off, e1, hlt, hc' 0 _ rfl, hc' 1 _ rfl, hc' 2 _ rfl, hc' 3 _ rfl⟩
theorem Rects.len {w : World} {p : Option Addr} {m c : Nat} {zs : List R} (h : Rects w (.slice p m c) zs) : zs.length = m := by
  obtain ⟨_, ⟨a, cap, e, rfl⟩ | ⟨b, off, cap, e, hlt, hc⟩⟩ := h <;> (injection e with e1 e2 e3; simp [e2])
theorem docX_skip (r : R) (zs : List R) (k : Nat) (q : R) (h : zs[k]? = some q) (he : emptyB q = true) : docX r (zs.take (k + 1)) = docX r (zs.take k) ∧ docY r (zs.take (k + 1)) = docY r (zs.take k) := by
  unfold docX docY
  rw [List.take_add_one, h]
  simp [List.filter_append, he]
theorem docX_next (r : R) (zs : List R) (k : Nat) (q : R) (h : zs[k]? = some q) (he : emptyB q = false) : docX r (zs.take (k + 1)) = docX r (zs.take k) ++ [q.x, q.x + q.w] ∧ docY r (zs.take (k + 1)) = docY r (zs.take k) ++ [q.y, q.y + q.h] := by
  unfold docX docY
  rw [List.take_add_one, h]
  simp [List.filter_append, he, edgX, edgY]
theorem docX_len (r : R) (zs : List R) : (docX r zs).length ≤ 2 * zs.length + 1 ∧ (docY r zs).length ≤ 2 * zs.length + 1 := by
  have hf := List.length_filter_le (fun q => !emptyB q) zs
  unfold docX docY
  rw [List.length_cons, List.length_cons, edges_len edgX (fun _ => rfl), edges_len edgY (fun _ => rfl)]
  omega
theorem own_cellI {X : World} {base n : Nat} {v : Value} {zs : List Int} {e : Nat} (h : X.ownsRow base e 1 v n (zs.map (Value.int .i64))) (hn : zs.length = n) : ∃ p c, v = .slice p n c ∧ ∀ j z, zs[j]? = some z → ∃ b, p = some ⟨b, 0, none⟩ ∧ b < X.heap.size ∧ X.cell? ⟨b, j, none⟩ = some (.int .i64 z) := by
  have h' := h
  rcases h.2 with ⟨rfl, h0⟩ | ⟨g, cap, cur, rfl, hb, hg, _⟩
  · exact ⟨none, 0, by rw [h0], fun j z hz => by have := (List.getElem?_eq_some_iff.1 hz).1; omega⟩
  · refine ⟨_, cap, rfl, fun j z hz => ⟨g, rfl, (Array.getElem?_eq_some_iff.1 hg).1, ?_⟩⟩
    have := World.ownsRow.cellAt h' j (by have := (List.getElem?_eq_some_iff.1 hz).1; omega)
    rw [this, List.getElem?_map, hz]; rfl
theorem own_one (W : World) (z : Int) (base : Nat) (hb : base ≤ W.heap.size) (e : Nat) : (W.alloc (.cells #[.int .i64 z] e)).ownsRow base e 1 (.slice (some ⟨W.heap.size, 0, none⟩) 1 1) [z].length ([z].map (Value.int .i64)) := by
  refine ⟨rfl, .inr ⟨W.heap.size, 1, #[.int .i64 z], rfl, hb, ?_, Nat.le_refl _, by unfold maxLen; omega, rfl, rfl⟩⟩
  exact whole_new W [.int .i64 z] e _ rfl
/-- no two of the first k meet what has points -/
def ApartL (zs : List R) (k : Nat) : Prop := (∀ q ∈ zs.take k, emptyB q = false → True) ∧ (zs.take k).Pairwise fun p q => emptyB q = false → emptyB (meetP p q) = true
theorem apart_next {zs : List R} {k : Nat} {q : R} (h : (zs.take k).Pairwise fun p q => emptyB q = false → emptyB (meetP p q) = true) (hq : zs[k]? = some q) (hn : emptyB q = false → ∀ (j : Nat) (p : R), j < k → zs[j]? = some p → emptyB (meetP p q) = true) : (zs.take (k + 1)).Pairwise fun p q => emptyB q = false → emptyB (meetP p q) = true := by
  rw [List.take_add_one, hq]
  refine List.pairwise_append.2 ⟨h, by simp, fun p hp q' hq' he => ?_⟩
  simp at hq'
  subst hq'
  obtain ⟨j, hj⟩ := List.mem_iff_getElem?.1 hp
  have hjk : j < k := by have := (List.getElem?_eq_some_iff.1 hj).1; rw [List.length_take] at this; omega
  rw [List.getElem?_take_of_lt hjk] at hj
  exact hn he j p hjk hj
theorem within_next {r : R} {zs : List R} {k : Nat} {q : R} (h : ∀ q ∈ zs.take k, emptyB q = false → meetP r q = q) (hq : zs[k]? = some q) (hn : emptyB q = false → meetP r q = q) : ∀ q ∈ zs.take (k + 1), emptyB q = false → meetP r q = q := by
  intro p hp
  rw [List.take_add_one, hq, List.mem_append] at hp
  rcases hp with hp | hp
  · exact h p hp
  · simp at hp; subst hp; exact hn
theorem pair_bad {zs : List R} {j k : Nat} {p q : R} (hjk : j < k) (hp : zs[j]? = some p) (hq : zs[k]? = some q) (he : emptyB q = false) (hm : emptyB (meetP p q) = false) : ¬ zs.Pairwise fun p q => emptyB q = false → emptyB (meetP p q) = true := by
  intro h
  have hk := (List.getElem?_eq_some_iff.1 hq).1
  have := List.pairwise_iff_getElem.1 h j k (by omega) hk hjk
  rw [(List.getElem?_eq_some_iff.1 hp).2, (List.getElem?_eq_some_iff.1 hq).2] at this
  rw [this he] at hm; cases hm
set_option maxRecDepth 100000 in
set_option maxHeartbeats 1000000 in
theorem refTiles_wrong (x y u v : Int) (hr : rightB ⟨x, y, u, v⟩ = false) (sv : Value) (w : World) :
    Calls Try.prog 8 #[.agg #[.int .i64 x, .int .i64 y, .int .i64 u, .int .i64 v], sv] w fun e W' => e = .returned (.tuple #[.bool false, .int .i64 20]) ∧ Below w.heap.size w W' := by
  have RR := Lib.hid (fun X => hr ▸ refRight_any x y u v X)
  have kr0 := whole_new w [.int .i64 x, .int .i64 y, .int .i64 u, .int .i64 v] 38 w.heap.size rfl
  clear hr
  go_enter Try.func8, Try.ntmps8
  have c0 := kr0.cellAt 0
  have c1 := kr0.cellAt 1
  have c2 := kr0.cellAt 2
  have c3 := kr0.cellAt 3
  go_wp2_with fail
  refine (RR.out _).mono ?_
  rintro e w1 ⟨rfl, hb1⟩
  have HB1 := Lib.hid (((Below.refl w.heap.size w).alloc (Nat.le_refl _) (.cells #[.int .i64 x, .int .i64 y, .int .i64 u, .int .i64 v] 38)).trans (hb1.mono (by simp <;> omega)))
  clear hb1 c0 c1 c2 c3 kr0
  go_wp2
  go_ret2
  exact ⟨rfl, HB1.out⟩
set_option maxRecDepth 100000 in
set_option maxHeartbeats 4000000 in
theorem refTiles_wrong2 (x y u v : Int) (hr : rightB ⟨x, y, u, v⟩ = true) (p : Option Addr) (m cap : Nat) (zs : List R) (w : World) (hI : Rects w (.slice p m cap) zs) (hl : m ≤ 400) (hw : zs.all rightB = false) :
    Calls Try.prog 8 #[.agg #[.int .i64 x, .int .i64 y, .int .i64 u, .int .i64 v], .slice p m cap] w fun e W' => e = .returned (.tuple #[.bool false, .int .i64 20]) ∧ Below w.heap.size w W' := by
  have RR := Lib.hid (fun X => hr ▸ refRight_any x y u v X)
  have kr0 := whole_new w [.int .i64 x, .int .i64 y, .int .i64 u, .int .i64 v] 38 w.heap.size rfl
  have HC := Lib.hid hI.cellsIn
  have HM := Lib.hid hI.len
  have HR := Lib.hid hr
  have HI := Lib.hid hI
  clear hr hI
  have HW := Lib.hid hw
  clear hw
  go_enter Try.func8, Try.ntmps8
  have c0 := kr0.cellAt 0
  have c1 := kr0.cellAt 1
  have c2 := kr0.cellAt 2
  have c3 := kr0.cellAt 3
  go_wp2_with fail
  refine (RR.out _).mono ?_
  rintro e w1 ⟨rfl, hb1⟩
  have HB1 := Lib.hid (((Below.refl w.heap.size w).alloc (Nat.le_refl _) (.cells #[.int .i64 x, .int .i64 y, .int .i64 u, .int .i64 v] 38)).trans (hb1.mono (by simp <;> omega)))
  have HK1 := Lib.hid (kr0.below hb1 kr0.lt)
  clear hb1 c0 c1 c2 c3 kr0 RR
  go_wp2
  go_loopw [7] (fun s7 X => ∃ k : Nat, k ≤ m ∧ s7 = .int .i64 (k : Int) ∧ Hid (Below w.heap.size w X) ∧ Hid (Whole X w.heap.size 38 [.int .i64 x, .int .i64 y, .int .i64 u, .int .i64 v]) ∧ Hid ((zs.take k).all rightB = true)) (fun s7 _ => m - (intOf s7).toNat)
  case atStart => exact ⟨0, Nat.zero_le _, rfl, HB1, HK1, Lib.hid rfl⟩
  case round =>
    clear HB1 HK1
    obtain ⟨k, hk, rfl, HB, HK, HA⟩ := hrel
    by_cases hlt : k < m
    · obtain ⟨q, hq⟩ : ∃ q, zs[k]? = some q := ⟨_, List.getElem?_eq_getElem (by rw [HM.out]; exact hlt)⟩
      obtain ⟨b, off, rfl, lb, q0, q1, q2, q3⟩ := HC.out k q hq
      have lw := HB.out.size
      have e0 := (HB.out.cell (p := ⟨b, off + k * 4, none⟩) lb).trans q0
      have e1 := (HB.out.cell (p := ⟨b, off + k * 4 + 1, none⟩) lb).trans q1
      have e2 := (HB.out.cell (p := ⟨b, off + k * 4 + 2, none⟩) lb).trans q2
      have e3 := (HB.out.cell (p := ⟨b, off + k * 4 + 3, none⟩) lb).trans q3
      have lb1 : b < wr.heap.size := by omega
      have HQ := Lib.hid hq
      obtain ⟨qx, qy, qw, qh⟩ := q
      dsimp only at e0 e1 e2 e3
      obtain ⟨t, ht⟩ : ∃ t, rightB ⟨qx, qy, qw, qh⟩ = t := ⟨_, rfl⟩
      have RQ := Lib.hid (fun X => ht ▸ refRight_any qx qy qw qh X)
      have HT := Lib.hid ht
      clear q0 q1 q2 q3 hq ht
      go_wp2_with (go_at_call 20; refine (RQ.out _).mono ?_; clear RQ; rintro e w2 ⟨rfl, hb2⟩; have HB2 := Lib.hid (HB.out.trans (hb2.mono lw)); have HK2 := Lib.hid (HK.out.below hb2 HK.out.lt); clear hb2 HB HK e0 e1 e2 e3; refine Hid.out ?_)
      refine Lib.hid ?_
      cases t with
      | false =>
        clear HT HQ HA
        go_wp2
        go_ret2
        exact ⟨rfl, HB2.out⟩
      | true =>
        have HA2 := Lib.hid (all_stepT zs k _ HQ.out HT.out HA.out)
        go_wp2
        go_roundw
        case rel => exact ⟨k + 1, by omega, by go_num, HB2, HK2, HA2⟩
        case measure => simp [intOf]; omega
    · obtain rfl : k = m := by omega
      exfalso
      have := HA.out
      rw [List.take_of_length_le (by rw [HM.out]; exact Nat.le_refl _), HW.out] at this
      cases this
set_option maxRecDepth 100000 in
set_option maxHeartbeats 4000000 in
theorem refTiles_good (x y u v : Int) (hr : rightB ⟨x, y, u, v⟩ = true) (p : Option Addr) (m cap : Nat) (zs : List R) (w : World) (hI : Rects w (.slice p m cap) zs) (hl : m ≤ 400) (hls : ∀ q ∈ zs, rightB q = true) :
    Calls Try.prog 8 #[.agg #[.int .i64 x, .int .i64 y, .int .i64 u, .int .i64 v], .slice p m cap] w fun e W' => e = .returned (.tuple #[.bool (tilesB ⟨x, y, u, v⟩ zs), .int .i64 0]) ∧ Below w.heap.size w W' := by
  have RR := Lib.hid (fun X => hr ▸ refRight_any x y u v X)
  have kr0 := whole_new w [.int .i64 x, .int .i64 y, .int .i64 u, .int .i64 v] 38 w.heap.size rfl
  have HC := Lib.hid hI.cellsIn
  have HM := Lib.hid hI.len
  have HR := Lib.hid hr
  have HI := Lib.hid hI
  clear hr hI
  have HLS := Lib.hid hls
  have hm0 : zs.length ≤ 400 := by rw [HM.out]; exact hl
  have HDOC := Lib.hid (tiles_doc ⟨x, y, u, v⟩ zs hm0 HR.out hls)
  obtain ⟨tb, htb⟩ : ∃ tb, tilesB ⟨x, y, u, v⟩ zs = tb := ⟨_, rfl⟩
  rw [htb] at HDOC ⊢
  have hr8 := (rightB_iff _).1 HR.out
  dsimp only at hr8
  obtain ⟨⟨r1, r2⟩, ⟨r3, r4⟩, ⟨r5, r6⟩, r7, r8⟩ := hr8
  clear hls hm0 htb
  go_enter Try.func8, Try.ntmps8
  have c0 := kr0.cellAt 0
  have c1 := kr0.cellAt 1
  have c2 := kr0.cellAt 2
  have c3 := kr0.cellAt 3
  go_wp2_with fail
  refine (RR.out _).mono ?_
  rintro e w1 ⟨rfl, hb1⟩
  have HB1 := Lib.hid (((Below.refl w.heap.size w).alloc (Nat.le_refl _) (.cells #[.int .i64 x, .int .i64 y, .int .i64 u, .int .i64 v] 38)).trans (hb1.mono (by simp <;> omega)))
  have HK1 := Lib.hid (kr0.below hb1 kr0.lt)
  clear hb1 c0 c1 c2 c3 kr0 RR
  go_wp2
  go_loopw [7] (fun s7 X => ∃ k : Nat, k ≤ m ∧ s7 = .int .i64 (k : Int) ∧ Hid (Below w.heap.size w X) ∧ Hid (Whole X w.heap.size 38 [.int .i64 x, .int .i64 y, .int .i64 u, .int .i64 v]) ∧ Hid ((zs.take k).all rightB = true)) (fun s7 _ => m - (intOf s7).toNat)
  case atStart => exact ⟨0, Nat.zero_le _, rfl, HB1, HK1, Lib.hid rfl⟩
  case round =>
    clear HB1 HK1
    obtain ⟨k, hk, rfl, HB, HK, HA⟩ := hrel
    by_cases hlt : k < m
    · obtain ⟨q, hq⟩ : ∃ q, zs[k]? = some q := ⟨_, List.getElem?_eq_getElem (by rw [HM.out]; exact hlt)⟩
      obtain ⟨b, off, rfl, lb, q0, q1, q2, q3⟩ := HC.out k q hq
      have lw := HB.out.size
      have e0 := (HB.out.cell (p := ⟨b, off + k * 4, none⟩) lb).trans q0
      have e1 := (HB.out.cell (p := ⟨b, off + k * 4 + 1, none⟩) lb).trans q1
      have e2 := (HB.out.cell (p := ⟨b, off + k * 4 + 2, none⟩) lb).trans q2
      have e3 := (HB.out.cell (p := ⟨b, off + k * 4 + 3, none⟩) lb).trans q3
      have lb1 : b < wr.heap.size := by omega
      have HQ := Lib.hid hq
      obtain ⟨qx, qy, qw, qh⟩ := q
      dsimp only at e0 e1 e2 e3
      obtain ⟨t, ht⟩ : ∃ t, rightB ⟨qx, qy, qw, qh⟩ = t := ⟨_, rfl⟩
      have RQ := Lib.hid (fun X => ht ▸ refRight_any qx qy qw qh X)
      have HT := Lib.hid ht
      clear q0 q1 q2 q3 hq ht
      go_wp2_with (go_at_call 20; refine (RQ.out _).mono ?_; clear RQ; rintro e w2 ⟨rfl, hb2⟩; have HB2 := Lib.hid (HB.out.trans (hb2.mono lw)); have HK2 := Lib.hid (HK.out.below hb2 HK.out.lt); clear hb2 HB HK e0 e1 e2 e3; refine Hid.out ?_)
      refine Lib.hid ?_
      have htt : t = true := by rw [← HT.out]; exact HLS.out _ (List.mem_iff_getElem?.2 ⟨k, HQ.out⟩)
      subst htt
      have HA2 := Lib.hid (all_stepT zs k _ HQ.out HT.out HA.out)
      go_wp2
      go_roundw
      case rel => exact ⟨k + 1, by omega, by go_num, HB2, HK2, HA2⟩
      case measure => simp [intOf]; omega
    · obtain rfl : k = m := by omega
      clear HA
      obtain ⟨i8, hi8, hz0, hz1, hz2⟩ := info_parts Try.infoI64
      have HZ0 := Lib.hid hz0
      have HZ1 := Lib.hid hz1
      have HZ2 := Lib.hid hz2
      have b0 := HK.out.cellAt 0
      have b1 := HK.out.cellAt 1
      have lbx := HK.out.lt
      have hwl := HB.out.size
      have TW0 : Hid (TW w ⟨x, y, u, v⟩ (.slice (some ⟨wr.heap.size, 0, none⟩) 1 1) (.slice (some ⟨wr.heap.size + 1, 0, none⟩) 1 1) [x] [y] ((wr.alloc (.cells #[.int .i64 x] 2)).alloc (.cells #[.int .i64 y] 2))) := Lib.hid (by
        refine ⟨(HB.out.alloc hwl _).alloc (by simp <;> omega) _, (HK.out.alloc _).alloc _, own_later (own_one wr x w.heap.size hwl 2) ((Below.refl _ _).alloc (Nat.le_refl _) _), ?_, .inr (by simp [Value.ownBlock])⟩
        have h := own_one (wr.alloc (.cells #[.int .i64 x] 2)) y w.heap.size (by simp <;> omega) 2
        simpa using h)
      clear hz0 hz1 hz2 HB HK
      go_wp2
      clear b0 b1 lbx hwl
      go_loopw [11, 9, 10] (fun s11 s9 s10 X => ∃ i : Nat, i ≤ k ∧ s11 = .int .i64 (i : Int) ∧ Hid (TW w ⟨x, y, u, v⟩ s9 s10 (docX ⟨x, y, u, v⟩ (zs.take i)) (docY ⟨x, y, u, v⟩ (zs.take i)) X) ∧ Hid (∀ q ∈ zs.take i, emptyB q = false → meetP ⟨x, y, u, v⟩ q = q) ∧ Hid ((zs.take i).Pairwise fun p q => emptyB q = false → emptyB (meetP p q) = true)) (fun s11 _ _ _ => k - (intOf s11).toNat)
      case atStart => exact ⟨0, Nat.zero_le _, rfl, TW0, Lib.hid (by simp), Lib.hid (by simp)⟩
      case round =>
        clear TW0
        obtain ⟨i, hi, rfl, HT, HV, HP⟩ := hrel
        by_cases hlt : i < k
        · obtain ⟨q, hq⟩ : ∃ q, zs[i]? = some q := ⟨_, List.getElem?_eq_getElem (by rw [HM.out]; exact hlt)⟩
          obtain ⟨b, off, rfl, lb, q0, q1, q2, q3⟩ := HC.out i q hq
          have hqr := HLS.out q (List.mem_iff_getElem?.2 ⟨i, hq⟩)
          have HQ := Lib.hid hq
          have HQR := Lib.hid hqr
          have hr9 := (rightB_iff _).1 hqr
          obtain ⟨qx, qy, qw, qh⟩ := q
          dsimp only at q0 q1 q2 q3 hr9
          obtain ⟨⟨s1, s2⟩, ⟨s3, s4⟩, ⟨s5, s6⟩, s7, s8⟩ := hr9
          have hwx : IntKind.i64.wrap (qx + qw) = qx + qw := by simp [IntKind.wrap, IntKind.bits, IntKind.signed]; omega
          have hwy : IntKind.i64.wrap (qy + qh) = qy + qh := by simp [IntKind.wrap, IntKind.bits, IntKind.signed]; omega
          have NN := Lib.hid (fun X => none_any qx qy qw qh X)
          have lw := HT.out.lo.size
          have e0 := (HT.out.lo.cell (p := ⟨b, off + i * 4, none⟩) lb).trans q0
          have e1 := (HT.out.lo.cell (p := ⟨b, off + i * 4 + 1, none⟩) lb).trans q1
          have e2 := (HT.out.lo.cell (p := ⟨b, off + i * 4 + 2, none⟩) lb).trans q2
          have e3 := (HT.out.lo.cell (p := ⟨b, off + i * 4 + 3, none⟩) lb).trans q3
          have lb1 : b < wr.heap.size := by omega
          have HQC := Lib.hid (show _ ∧ _ ∧ _ ∧ _ ∧ _ from ⟨lb, q0, q1, q2, q3⟩)
          clear q0 q1 q2 q3 hq hqr
          obtain ⟨px, nx, cx, rfl⟩ := own_slice HT.out.ox
          obtain ⟨py, ny, cy, rfl⟩ := own_slice HT.out.oy
          obtain ⟨t, ht⟩ : ∃ t, emptyB ⟨qx, qy, qw, qh⟩ = t := ⟨_, rfl⟩
          rw [ht] at NN
          have HE := Lib.hid ht
          clear ht
          go_wp2_with (go_at_call 21; refine (NN.out _).mono ?_; clear NN; rintro e w2 ⟨rfl, hb2⟩; have HT2 := Lib.hid (HT.out.below hb2); clear hb2 HT e0 e1 e2 e3 lb1 lw; refine Hid.out ?_)
          refine Lib.hid ?_
          cases t with
          | true =>
            obtain ⟨hd1, hd2⟩ := docX_skip ⟨x, y, u, v⟩ zs i _ HQ.out HE.out
            have H3 := HT2
            rw [← hd1, ← hd2] at H3
            have HV3 := Lib.hid (within_next HV.out HQ.out (fun h => by rw [HE.out] at h; cases h))
            have HP3 := Lib.hid (apart_next HP.out HQ.out (fun h => by rw [HE.out] at h; cases h))
            clear HT2 HV HP hd1 hd2 HQC
            go_wp2
            go_roundw
            case rel => exact ⟨i + 1, by omega, by go_num, H3, HV3, HP3⟩
            case measure => simp [intOf]; omega
          | false =>
            obtain ⟨M, hM⟩ : ∃ M, meetP ⟨x, y, u, v⟩ ⟨qx, qy, qw, qh⟩ = M := ⟨_, rfl⟩
            have HMT := Lib.hid (fun X => show Calls Try.prog 22 #[.agg #[.int .i64 x, .int .i64 y, .int .i64 u, .int .i64 v], .agg #[.int .i64 qx, .int .i64 qy, .int .i64 qw, .int .i64 qh]] X (fun e W' => e = .returned (.tuple #[.agg #[.int .i64 M.x, .int .i64 M.y, .int .i64 M.w, .int .i64 M.h], .int .i64 0]) ∧ Below X.heap.size X W') from by
              have h := refMeet_any ⟨x, y, u, v⟩ ⟨qx, qy, qw, qh⟩ X
              unfold meetR at h
              rw [HR.out, HQR.out, hM] at h
              exact h)
            have HMM := Lib.hid hM
            clear hM
            generalize w2 = wr at HT2 ⊢
            have b0 : wr.cell? ⟨w.heap.size, 0, none⟩ = some (.int .i64 x) := HT2.out.bx.cellAt 0
            have b1 : wr.cell? ⟨w.heap.size, 1, none⟩ = some (.int .i64 y) := HT2.out.bx.cellAt 1
            have b2 : wr.cell? ⟨w.heap.size, 2, none⟩ = some (.int .i64 u) := HT2.out.bx.cellAt 2
            have b3 : wr.cell? ⟨w.heap.size, 3, none⟩ = some (.int .i64 v) := HT2.out.bx.cellAt 3
            have lbx := HT2.out.bx.lt
            obtain ⟨lb, q0, q1, q2, q3⟩ := HQC.out
            have lw := HT2.out.lo.size
            have e0 := (HT2.out.lo.cell (p := ⟨b, off + i * 4, none⟩) lb).trans q0
            have e1 := (HT2.out.lo.cell (p := ⟨b, off + i * 4 + 1, none⟩) lb).trans q1
            have e2 := (HT2.out.lo.cell (p := ⟨b, off + i * 4 + 2, none⟩) lb).trans q2
            have e3 := (HT2.out.lo.cell (p := ⟨b, off + i * 4 + 3, none⟩) lb).trans q3
            have lb1 : b < wr.heap.size := by omega
            clear q0 q1 q2 q3
            go_wp2
            refine region_held_at (S := fun X => Hid (Below wr.heap.size wr X)) (by kernel_rfl) (fun w9 hw9 => ?_)
            have SV : Hid (Below wr.heap.size wr w9) := Lib.hid (by rw [← hw9]; exact (Below.refl _ _).drew)
            clear hw9
            try simp only [Act.put, List.setIfInBounds_toArray, List.set_cons_succ, List.set_cons_zero]
            refine wpAnyH_takeD (i := 0) (v := .agg #[.int .i64 x, .int .i64 y, .int .i64 u, .int .i64 v]) (some 59) rfl rfl (by kernel_rfl) (by kernel_rfl) (by kernel_rfl) (fun _ _ _ h => h) (Or.inl ⟨by rfl, ?_⟩) SV ?_
            · intro X hX; have o0 := (hX.out.cell (p := ⟨w.heap.size, 0, none⟩) lbx).trans b0; have o1 := (hX.out.cell (p := ⟨w.heap.size, 1, none⟩) lbx).trans b1; have o2 := (hX.out.cell (p := ⟨w.heap.size, 2, none⟩) lbx).trans b2; have o3 := (hX.out.cell (p := ⟨w.heap.size, 3, none⟩) lbx).trans b3; go_simp
            try simp only [Act.put, List.setIfInBounds_toArray, List.set_cons_succ, List.set_cons_zero]
            refine wpAnyH_takeD (i := 1) (v := .slice (some ⟨b, off, none⟩) k cap) (some 60) rfl rfl (by kernel_rfl) (by kernel_rfl) (by kernel_rfl) (fun _ _ _ h => h) (Or.inl ⟨by rfl, ?_⟩) SV ?_
            · intro X hX; go_simp
            try simp only [Act.put, List.setIfInBounds_toArray, List.set_cons_succ, List.set_cons_zero]
            refine wpAnyH_takeD (i := 2) (v := .int .i64 i) (some 61) rfl rfl (by kernel_rfl) (by kernel_rfl) (by kernel_rfl) (fun _ _ _ h => h) (Or.inl ⟨by rfl, ?_⟩) SV ?_
            · intro X hX; go_simp
            try simp only [Act.put, List.setIfInBounds_toArray, List.set_cons_succ, List.set_cons_zero]
            refine wpAnyH_takeD (i := 3) (v := .pointer (some ⟨b, off + i * 4, none⟩)) (some 62) rfl rfl (by kernel_rfl) (by kernel_rfl) (by kernel_rfl) (fun _ _ _ h => h) (Or.inl ⟨by rfl, ?_⟩) SV ?_
            · intro X hX; go_simp
            try simp only [Act.put, List.setIfInBounds_toArray, List.set_cons_succ, List.set_cons_zero]
            refine wpAnyH_takeD (i := 4) (v := .agg #[.int .i64 qx, .int .i64 qy, .int .i64 qw, .int .i64 qh]) (some 63) rfl rfl (by kernel_rfl) (by kernel_rfl) (by kernel_rfl) (fun _ _ _ h => h) (Or.inl ⟨by rfl, ?_⟩) SV ?_
            · intro X hX; have o0 := (hX.out.cell (p := ⟨b, off + i * 4, none⟩) lb1).trans e0; have o1 := (hX.out.cell (p := ⟨b, off + i * 4 + 1, none⟩) lb1).trans e1; have o2 := (hX.out.cell (p := ⟨b, off + i * 4 + 2, none⟩) lb1).trans e2; have o3 := (hX.out.cell (p := ⟨b, off + i * 4 + 3, none⟩) lb1).trans e3; go_simp
            try simp only [Act.put, List.setIfInBounds_toArray, List.set_cons_succ, List.set_cons_zero]
            refine wpAnyH_all (rs := [5, 9]) (by kernel_rfl) (by simp) ?_
            intro ii hii
            rcases (show ii = 5 ∨ ii = 9 by simpa using hii) with rfl | rfl
            · skip
              refine wpOp_step rfl (fun K hK => ?_)
              go_simp
              refine (HMT.out _).mono ?_
              rintro e w1a ⟨rfl, hb1a⟩
              have S1a : Hid (Below wr.heap.size wr w1a) := Lib.hid (SV.out.trans (hb1a.mono SV.out.size))
              refine hK _ _ ⟨S1a, ?_⟩
              clear hK K hb1a SV
              have SV := S1a
              clear S1a
              try simp only [Act.put, List.setIfInBounds_toArray, List.set_cons_succ, List.set_cons_zero]
              clear hii
              refine wpAnyH_takeD (i := 6) (v := .tuple #[.agg #[.int .i64 M.x, .int .i64 M.y, .int .i64 M.w, .int .i64 M.h], .int .i64 0]) (some 58) rfl rfl (by kernel_rfl) (by kernel_rfl) (by kernel_rfl) (fun _ _ _ h => h) (Or.inl ⟨by rfl, ?_⟩) SV ?_
              · intro X hX; go_simp
              try simp only [Act.put, List.setIfInBounds_toArray, List.set_cons_succ, List.set_cons_zero]
              refine wpAnyH_takeD (i := 7) (v := .agg #[.int .i64 M.x, .int .i64 M.y, .int .i64 M.w, .int .i64 M.h]) (some 65) rfl rfl (by kernel_rfl) (by kernel_rfl) (by kernel_rfl) (fun _ _ _ h => h) (Or.inl ⟨by rfl, ?_⟩) SV ?_
              · intro X hX; go_simp
              try simp only [Act.put, List.setIfInBounds_toArray, List.set_cons_succ, List.set_cons_zero]
              refine wpAnyH_takeD (i := 8) (v := .int .i64 0) (some 66) rfl rfl (by kernel_rfl) (by kernel_rfl) (by kernel_rfl) (fun _ _ _ h => h) (Or.inl ⟨by rfl, ?_⟩) SV ?_
              · intro X hX; go_simp
              try simp only [Act.put, List.setIfInBounds_toArray, List.set_cons_succ, List.set_cons_zero]
              refine wpAnyH_all (rs := [9]) (by kernel_rfl) (by simp) ?_
              intro ii hii; obtain rfl : ii = 9 := by simpa using hii
              refine wpOp_step rfl (fun K hK => ?_)
              go_simp
              have hz := whole_new _ [.int .i64 0, .int .i64 0, .int .i64 0, .int .i64 0] 38 _ (Eq.refl (World.heap w1a).size)
              have S2a : Hid (Below wr.heap.size wr (World.alloc w1a (.cells #[.int .i64 0, .int .i64 0, .int .i64 0, .int .i64 0] 38))) := Lib.hid (SV.out.trans (((Below.refl _ _).alloc (Nat.le_refl _) _).mono SV.out.size))
              refine hK _ _ ⟨S2a, ?_⟩
              clear hK K
              obtain ⟨g, hg⟩ : ∃ g, (World.heap w1a).size = g := ⟨_, rfl⟩
              have hgw : wr.heap.size ≤ g := by have := SV.out.size; omega
              rw [hg] at hz ⊢
              clear SV hg
              have SV := S2a
              clear S2a
              generalize World.alloc w1a (.cells #[.int .i64 0, .int .i64 0, .int .i64 0, .int .i64 0] 38) = wa at hz SV ⊢
              have HG := Lib.hid hz
              clear hz
              try simp only [Act.put, List.setIfInBounds_toArray, List.set_cons_succ, List.set_cons_zero]
              clear hii
              have y0 := HG.out.free 0
              have y1 := HG.out.free 1
              have y2 := HG.out.free 2
              have y3 := HG.out.free 3
              have z0 := HG.out.cellAt 0
              have z1 := HG.out.cellAt 1
              have z2 := HG.out.cellAt 2
              have z3 := HG.out.cellAt 3
              have yl := HG.out.lt
              refine wpAnyH_all (rs := [10]) (by kernel_rfl) (by simp) ?_
              intro ii hii; obtain rfl : ii = 10 := by simpa using hii
              refine wpOp_step rfl (fun K hK => ?_)
              go_simp
              have SX := (((SV.out.setCell (p := ⟨g, 0, none⟩) hgw (.int .i64 M.x)).setCell (p := ⟨g, 1, none⟩) hgw (.int .i64 M.y)).setCell (p := ⟨g, 2, none⟩) hgw (.int .i64 M.w)).setCell (p := ⟨g, 3, none⟩) hgw (.int .i64 M.h)
              have KX := (((HG.out.set 0 (.int .i64 M.x)).set 1 (.int .i64 M.y)).set 2 (.int .i64 M.w)).set 3 (.int .i64 M.h)
              clear z0 z1 z2 z3 y0 y1 y2 y3 yl
              refine hK _ _ ⟨Lib.hid SX, ?_⟩
              clear hK K hii
              refine wpAnyH_takeD (i := 11) (v := .int .i64 0) (some 13) rfl rfl (by kernel_rfl) (by kernel_rfl) (by kernel_rfl) (fun _ _ _ h => h) (Or.inl ⟨by rfl, ?_⟩) (Lib.hid SX) ?_
              · intro X hX; go_simp
              try simp only [Act.put, List.setIfInBounds_toArray, List.set_cons_succ, List.set_cons_zero]
              refine wpAnyH_done (by kernel_rfl) ?_ _
              refine at_worldQ (fun Y => Below wr.heap.size wr Y ∧ Whole Y g 38 M.cells) ⟨SX, KX⟩ (fun Y hY => ?_)
              obtain ⟨SY, KY⟩ := hY
              clear SX KX HG SV
              have HTY := Lib.hid (HT2.out.below SY)
              have HKY := Lib.hid KY
              have HSY := Lib.hid SY
              have e0' := (SY.cell (p := ⟨b, off + i * 4, none⟩) lb1).trans e0
              have e1' := (SY.cell (p := ⟨b, off + i * 4 + 1, none⟩) lb1).trans e1
              have e2' := (SY.cell (p := ⟨b, off + i * 4 + 2, none⟩) lb1).trans e2
              have e3' := (SY.cell (p := ⟨b, off + i * 4 + 3, none⟩) lb1).trans e3
              have lb2 : b < Y.heap.size := by have := SY.size; omega
              have k0 : Y.cell? ⟨g, 0, none⟩ = some (.int .i64 M.x) := KY.cellAt 0
              have k1 : Y.cell? ⟨g, 1, none⟩ = some (.int .i64 M.y) := KY.cellAt 1
              have k2 : Y.cell? ⟨g, 2, none⟩ = some (.int .i64 M.w) := KY.cellAt 2
              have k3 : Y.cell? ⟨g, 3, none⟩ = some (.int .i64 M.h) := KY.cellAt 3
              have lg := KY.lt
              clear SY KY e0 e1 e2 e3 b0 b1 b2 b3 HT2 HMT
              obtain ⟨mx, my, mw, mh⟩ := M
              dsimp only [R.cells] at *
              by_cases hme : (⟨mx, my, mw, mh⟩ : R) = ⟨qx, qy, qw, qh⟩
              · have hE : ∀ X : World, (binOp .neq 38 (.agg #[.int .i64 mx, .int .i64 my, .int .i64 mw, .int .i64 mh]) (.agg #[.int .i64 qx, .int .i64 qy, .int .i64 qw, .int .i64 qh])).run Try.prog X = .ok (.bool false) X := fun X => by
                  have := rect_eql ⟨mx, my, mw, mh⟩ ⟨qx, qy, qw, qh⟩ X
                  rw [decide_eq_true hme] at this
                  exact this
                have HV3 := Lib.hid (within_next HV.out HQ.out (fun _ => HMM.out.trans hme))
                clear hme HV HMM
                go_wp2
                go_quiet (fail)
                go_wp2
                have HTD := Lib.hid (HTY.out.below (below_dn _ Y nq))
                clear e0' e1' e2' e3' k0 k1 k2 k3 lg lb2 HTY HKY HSY hE
                generalize Y.drewN nq = Z at HTD ⊢
                go_loopw [14] (fun s14 X => ∃ j : Nat, j ≤ i ∧ s14 = .int .i64 (j : Int) ∧ Hid (TW w ⟨x, y, u, v⟩ (.slice px nx cx) (.slice py ny cy) (docX ⟨x, y, u, v⟩ (zs.take i)) (docY ⟨x, y, u, v⟩ (zs.take i)) X) ∧ Hid (∀ (c : Nat) (p : R), c < j → zs[c]? = some p → emptyB (meetP p ⟨qx, qy, qw, qh⟩) = true)) (fun s14 _ => i - (intOf s14).toNat)
                case atStart => exact ⟨0, Nat.zero_le _, rfl, HTD, Lib.hid (fun c p h => absurd h (Nat.not_lt_zero _))⟩
                case round =>
                  clear HTD
                  obtain ⟨j, hj, rfl, HT, HJ⟩ := hrel
                  obtain ⟨_, q0, q1, q2, q3⟩ := HQC.out
                  by_cases hlj : j < i
                  · obtain ⟨p, hp⟩ : ∃ p, zs[j]? = some p := ⟨_, List.getElem?_eq_getElem (by rw [HM.out]; omega)⟩
                    obtain ⟨b', off', hpe, _, g0, g1, g2, g3⟩ := HC.out j p hp
                    injection hpe with hpe
                    injection hpe with hpe1 hpe2
                    subst hpe1 hpe2
                    have hpr := HLS.out p (List.mem_iff_getElem?.2 ⟨j, hp⟩)
                    have HPQ := Lib.hid hp
                    obtain ⟨ax, ay, aw, ah⟩ := p
                    dsimp only at g0 g1 g2 g3
                    obtain ⟨M, hM⟩ : ∃ M, meetP ⟨ax, ay, aw, ah⟩ ⟨qx, qy, qw, qh⟩ = M := ⟨_, rfl⟩
                    have HMT2 := Lib.hid (fun X => show Calls Try.prog 22 #[.agg #[.int .i64 ax, .int .i64 ay, .int .i64 aw, .int .i64 ah], .agg #[.int .i64 qx, .int .i64 qy, .int .i64 qw, .int .i64 qh]] X (fun e W' => e = .returned (.tuple #[.agg #[.int .i64 M.x, .int .i64 M.y, .int .i64 M.w, .int .i64 M.h], .int .i64 0]) ∧ Below X.heap.size X W') from by
                      have h := refMeet_any ⟨ax, ay, aw, ah⟩ ⟨qx, qy, qw, qh⟩ X
                      unfold meetR at h
                      rw [hpr, HQR.out, hM] at h
                      exact h)
                    have HMM2 := Lib.hid hM
                    have lw := HT.out.lo.size
                    have e0 := (HT.out.lo.cell (p := ⟨b, off + i * 4, none⟩) lb).trans q0
                    have e1 := (HT.out.lo.cell (p := ⟨b, off + i * 4 + 1, none⟩) lb).trans q1
                    have e2 := (HT.out.lo.cell (p := ⟨b, off + i * 4 + 2, none⟩) lb).trans q2
                    have e3 := (HT.out.lo.cell (p := ⟨b, off + i * 4 + 3, none⟩) lb).trans q3
                    have f0 := (HT.out.lo.cell (p := ⟨b, off + j * 4, none⟩) lb).trans g0
                    have f1 := (HT.out.lo.cell (p := ⟨b, off + j * 4 + 1, none⟩) lb).trans g1
                    have f2 := (HT.out.lo.cell (p := ⟨b, off + j * 4 + 2, none⟩) lb).trans g2
                    have f3 := (HT.out.lo.cell (p := ⟨b, off + j * 4 + 3, none⟩) lb).trans g3
                    have lb1 : b < wr.heap.size := by omega
                    (try dsimp only at e0 e1 e2 e3 f0 f1 f2 f3)
                    have hjk : j < k := by omega
                    clear hM hp hpr g0 g1 g2 g3 q0 q1 q2 q3 lw
                    go_wp2
                    refine region_held_at (S := fun X => Hid (Below wr.heap.size wr X)) (by kernel_rfl) (fun w9 hw9 => ?_)
                    have SV : Hid (Below wr.heap.size wr w9) := Lib.hid (by rw [← hw9]; exact (Below.refl _ _).drew)
                    clear hw9
                    try simp only [Act.put, List.setIfInBounds_toArray, List.set_cons_succ, List.set_cons_zero]
                    refine wpAnyH_takeD (i := 0) (v := .slice (some ⟨b, off, none⟩) k cap) (some 79) rfl rfl (by kernel_rfl) (by kernel_rfl) (by kernel_rfl) (fun _ _ _ h => h) (Or.inl ⟨by rfl, ?_⟩) SV ?_
                    · intro X hX; go_simp
                    try simp only [Act.put, List.setIfInBounds_toArray, List.set_cons_succ, List.set_cons_zero]
                    refine wpAnyH_takeD (i := 1) (v := .int .i64 j) (some 80) rfl rfl (by kernel_rfl) (by kernel_rfl) (by kernel_rfl) (fun _ _ _ h => h) (Or.inl ⟨by rfl, ?_⟩) SV ?_
                    · intro X hX; go_simp
                    try simp only [Act.put, List.setIfInBounds_toArray, List.set_cons_succ, List.set_cons_zero]
                    refine wpAnyH_takeD (i := 2) (v := .pointer (some ⟨b, off + j * 4, none⟩)) (some 81) rfl rfl (by kernel_rfl) (by kernel_rfl) (by kernel_rfl) (fun _ _ _ h => h) (Or.inl ⟨by rfl, ?_⟩) SV ?_
                    · intro X hX; go_simp
                    try simp only [Act.put, List.setIfInBounds_toArray, List.set_cons_succ, List.set_cons_zero]
                    refine wpAnyH_takeD (i := 3) (v := .agg #[.int .i64 ax, .int .i64 ay, .int .i64 aw, .int .i64 ah]) (some 82) rfl rfl (by kernel_rfl) (by kernel_rfl) (by kernel_rfl) (fun _ _ _ h => h) (Or.inl ⟨by rfl, ?_⟩) SV ?_
                    · intro X hX; have o0 := (hX.out.cell (p := ⟨b, off + j * 4, none⟩) lb1).trans f0; have o1 := (hX.out.cell (p := ⟨b, off + j * 4 + 1, none⟩) lb1).trans f1; have o2 := (hX.out.cell (p := ⟨b, off + j * 4 + 2, none⟩) lb1).trans f2; have o3 := (hX.out.cell (p := ⟨b, off + j * 4 + 3, none⟩) lb1).trans f3; go_simp
                    try simp only [Act.put, List.setIfInBounds_toArray, List.set_cons_succ, List.set_cons_zero]
                    refine wpAnyH_takeD (i := 4) (v := .slice (some ⟨b, off, none⟩) k cap) (some 83) rfl rfl (by kernel_rfl) (by kernel_rfl) (by kernel_rfl) (fun _ _ _ h => h) (Or.inl ⟨by rfl, ?_⟩) SV ?_
                    · intro X hX; go_simp
                    try simp only [Act.put, List.setIfInBounds_toArray, List.set_cons_succ, List.set_cons_zero]
                    refine wpAnyH_takeD (i := 5) (v := .int .i64 i) (some 84) rfl rfl (by kernel_rfl) (by kernel_rfl) (by kernel_rfl) (fun _ _ _ h => h) (Or.inl ⟨by rfl, ?_⟩) SV ?_
                    · intro X hX; go_simp
                    try simp only [Act.put, List.setIfInBounds_toArray, List.set_cons_succ, List.set_cons_zero]
                    refine wpAnyH_takeD (i := 6) (v := .pointer (some ⟨b, off + i * 4, none⟩)) (some 85) rfl rfl (by kernel_rfl) (by kernel_rfl) (by kernel_rfl) (fun _ _ _ h => h) (Or.inl ⟨by rfl, ?_⟩) SV ?_
                    · intro X hX; go_simp
                    try simp only [Act.put, List.setIfInBounds_toArray, List.set_cons_succ, List.set_cons_zero]
                    refine wpAnyH_takeD (i := 7) (v := .agg #[.int .i64 qx, .int .i64 qy, .int .i64 qw, .int .i64 qh]) (some 86) rfl rfl (by kernel_rfl) (by kernel_rfl) (by kernel_rfl) (fun _ _ _ h => h) (Or.inl ⟨by rfl, ?_⟩) SV ?_
                    · intro X hX; have o0 := (hX.out.cell (p := ⟨b, off + i * 4, none⟩) lb1).trans e0; have o1 := (hX.out.cell (p := ⟨b, off + i * 4 + 1, none⟩) lb1).trans e1; have o2 := (hX.out.cell (p := ⟨b, off + i * 4 + 2, none⟩) lb1).trans e2; have o3 := (hX.out.cell (p := ⟨b, off + i * 4 + 3, none⟩) lb1).trans e3; go_simp
                    try simp only [Act.put, List.setIfInBounds_toArray, List.set_cons_succ, List.set_cons_zero]
                    refine wpAnyH_all (rs := [8, 12]) (by kernel_rfl) (by simp) ?_
                    intro ii hii
                    rcases (show ii = 8 ∨ ii = 12 by simpa using hii) with rfl | rfl
                    · skip
                      refine wpOp_step rfl (fun K hK => ?_)
                      go_simp
                      refine (HMT2.out _).mono ?_
                      rintro e w1a ⟨rfl, hb1a⟩
                      have S1a : Hid (Below wr.heap.size wr w1a) := Lib.hid (SV.out.trans (hb1a.mono SV.out.size))
                      refine hK _ _ ⟨S1a, ?_⟩
                      clear hK K hb1a SV
                      have SV := S1a
                      clear S1a
                      try simp only [Act.put, List.setIfInBounds_toArray, List.set_cons_succ, List.set_cons_zero]
                      clear hii
                      refine wpAnyH_takeD (i := 9) (v := .tuple #[.agg #[.int .i64 M.x, .int .i64 M.y, .int .i64 M.w, .int .i64 M.h], .int .i64 0]) (some 78) rfl rfl (by kernel_rfl) (by kernel_rfl) (by kernel_rfl) (fun _ _ _ h => h) (Or.inl ⟨by rfl, ?_⟩) SV ?_
                      · intro X hX; go_simp
                      try simp only [Act.put, List.setIfInBounds_toArray, List.set_cons_succ, List.set_cons_zero]
                      refine wpAnyH_takeD (i := 10) (v := .agg #[.int .i64 M.x, .int .i64 M.y, .int .i64 M.w, .int .i64 M.h]) (some 88) rfl rfl (by kernel_rfl) (by kernel_rfl) (by kernel_rfl) (fun _ _ _ h => h) (Or.inl ⟨by rfl, ?_⟩) SV ?_
                      · intro X hX; go_simp
                      try simp only [Act.put, List.setIfInBounds_toArray, List.set_cons_succ, List.set_cons_zero]
                      refine wpAnyH_takeD (i := 11) (v := .int .i64 0) (some 89) rfl rfl (by kernel_rfl) (by kernel_rfl) (by kernel_rfl) (fun _ _ _ h => h) (Or.inl ⟨by rfl, ?_⟩) SV ?_
                      · intro X hX; go_simp
                      try simp only [Act.put, List.setIfInBounds_toArray, List.set_cons_succ, List.set_cons_zero]
                      refine wpAnyH_all (rs := [12]) (by kernel_rfl) (by simp) ?_
                      intro ii hii; obtain rfl : ii = 12 := by simpa using hii
                      refine wpOp_step rfl (fun K hK => ?_)
                      go_simp
                      have hz := whole_new _ [.int .i64 0, .int .i64 0, .int .i64 0, .int .i64 0] 38 _ (Eq.refl (World.heap w1a).size)
                      have S2a : Hid (Below wr.heap.size wr (World.alloc w1a (.cells #[.int .i64 0, .int .i64 0, .int .i64 0, .int .i64 0] 38))) := Lib.hid (SV.out.trans (((Below.refl _ _).alloc (Nat.le_refl _) _).mono SV.out.size))
                      refine hK _ _ ⟨S2a, ?_⟩
                      clear hK K
                      obtain ⟨g, hg⟩ : ∃ g, (World.heap w1a).size = g := ⟨_, rfl⟩
                      have hgw : wr.heap.size ≤ g := by have := SV.out.size; omega
                      rw [hg] at hz ⊢
                      clear SV hg
                      have SV := S2a
                      clear S2a
                      generalize World.alloc w1a (.cells #[.int .i64 0, .int .i64 0, .int .i64 0, .int .i64 0] 38) = wa at hz SV ⊢
                      have HG := Lib.hid hz
                      clear hz
                      try simp only [Act.put, List.setIfInBounds_toArray, List.set_cons_succ, List.set_cons_zero]
                      clear hii
                      have y0 := HG.out.free 0
                      have y1 := HG.out.free 1
                      have y2 := HG.out.free 2
                      have y3 := HG.out.free 3
                      have z0 := HG.out.cellAt 0
                      have z1 := HG.out.cellAt 1
                      have z2 := HG.out.cellAt 2
                      have z3 := HG.out.cellAt 3
                      have yl := HG.out.lt
                      refine wpAnyH_all (rs := [13]) (by kernel_rfl) (by simp) ?_
                      intro ii hii; obtain rfl : ii = 13 := by simpa using hii
                      refine wpOp_step rfl (fun K hK => ?_)
                      go_simp
                      have SX := (((SV.out.setCell (p := ⟨g, 0, none⟩) hgw (.int .i64 M.x)).setCell (p := ⟨g, 1, none⟩) hgw (.int .i64 M.y)).setCell (p := ⟨g, 2, none⟩) hgw (.int .i64 M.w)).setCell (p := ⟨g, 3, none⟩) hgw (.int .i64 M.h)
                      have KX := (((HG.out.set 0 (.int .i64 M.x)).set 1 (.int .i64 M.y)).set 2 (.int .i64 M.w)).set 3 (.int .i64 M.h)
                      clear z0 z1 z2 z3 y0 y1 y2 y3 yl
                      refine hK _ _ ⟨Lib.hid SX, ?_⟩
                      clear hK K hii
                      refine wpAnyH_takeD (i := 14) (v := .int .i64 0) (some 16) rfl rfl (by kernel_rfl) (by kernel_rfl) (by kernel_rfl) (fun _ _ _ h => h) (Or.inl ⟨by rfl, ?_⟩) (Lib.hid SX) ?_
                      · intro X hX; go_simp
                      try simp only [Act.put, List.setIfInBounds_toArray, List.set_cons_succ, List.set_cons_zero]
                      refine wpAnyH_done (by kernel_rfl) ?_ _
                      refine at_worldQ (fun Y => Below wr.heap.size wr Y ∧ Whole Y g 38 M.cells) ⟨SX, KX⟩ (fun Y hY => ?_)
                      obtain ⟨SY, KY⟩ := hY
                      clear SX KX HG SV
                      have HTY := Lib.hid (HT.out.below SY)
                      have k0 : Y.cell? ⟨g, 0, none⟩ = some (.int .i64 M.x) := KY.cellAt 0
                      have k1 : Y.cell? ⟨g, 1, none⟩ = some (.int .i64 M.y) := KY.cellAt 1
                      have k2 : Y.cell? ⟨g, 2, none⟩ = some (.int .i64 M.w) := KY.cellAt 2
                      have k3 : Y.cell? ⟨g, 3, none⟩ = some (.int .i64 M.h) := KY.cellAt 3
                      have lg := KY.lt
                      clear SY KY e0 e1 e2 e3 f0 f1 f2 f3 HT HMT2
                      obtain ⟨t, ht⟩ : ∃ t, emptyB M = t := ⟨_, rfl⟩
                      have NN := Lib.hid (fun X => ht ▸ none_any M.x M.y M.w M.h X)
                      have HME := Lib.hid ht
                      clear ht
                      go_wp2_with (go_at_call 21; refine (NN.out _).mono ?_; clear NN; rintro e w2 ⟨rfl, hb2⟩; have HT2 := Lib.hid (HTY.out.below hb2); clear hb2 HTY k0 k1 k2 k3 lg; refine Hid.out ?_)
                      refine Lib.hid ?_
                      cases t with
                      | true =>
                        have HJ2 : Hid (∀ (c : Nat) (p : R), c < j + 1 → zs[c]? = some p → emptyB (meetP p ⟨qx, qy, qw, qh⟩) = true) := Lib.hid (fun c p h hp => by
                          by_cases hc : c < j
                          · exact HJ.out c p hc hp
                          · obtain rfl : c = j := by omega
                            rw [HPQ.out] at hp
                            cases hp
                            rw [HMM2.out]; exact HME.out)
                        clear HJ HMM2 HME
                        go_wp2
                        go_roundw
                        case rel => exact ⟨j + 1, by omega, by go_num, HT2, HJ2⟩
                        case measure => simp [intOf]; omega
                      | false =>
                        have htf : tb = false := by
                          cases htc : tb with
                          | false => rfl
                          | true => exact absurd (HDOC.out.1 htc).2.1 (pair_bad hlj HPQ.out HQ.out HE.out (by rw [HMM2.out]; exact HME.out))
                        have HF := Lib.hid HT2.out.lo
                        subst htf
                        clear HT2 HMM2 HME HJ
                        go_wp2
                        go_ret2
                        exact ⟨rfl, HF.out⟩
                    · skip
                      refine wpOp_step rfl (fun K hK => ?_)
                      go_simp
                      have hz := whole_new _ [.int .i64 0, .int .i64 0, .int .i64 0, .int .i64 0] 38 _ (Eq.refl (World.heap w9).size)
                      have S2b : Hid (Below wr.heap.size wr (World.alloc w9 (.cells #[.int .i64 0, .int .i64 0, .int .i64 0, .int .i64 0] 38))) := Lib.hid (SV.out.trans (((Below.refl _ _).alloc (Nat.le_refl _) _).mono SV.out.size))
                      refine hK _ _ ⟨S2b, ?_⟩
                      clear hK K
                      obtain ⟨g, hg⟩ : ∃ g, (World.heap w9).size = g := ⟨_, rfl⟩
                      have hgw : wr.heap.size ≤ g := by have := SV.out.size; omega
                      rw [hg] at hz ⊢
                      clear SV hg
                      have SV := S2b
                      clear S2b
                      generalize World.alloc w9 (.cells #[.int .i64 0, .int .i64 0, .int .i64 0, .int .i64 0] 38) = wa at hz SV ⊢
                      have HG := Lib.hid hz
                      clear hz
                      try simp only [Act.put, List.setIfInBounds_toArray, List.set_cons_succ, List.set_cons_zero]
                      clear hii
                      refine wpAnyH_all (rs := [8]) (by kernel_rfl) (by simp) ?_
                      intro ii hii; obtain rfl : ii = 8 := by simpa using hii
                      refine wpOp_step rfl (fun K hK => ?_)
                      go_simp
                      refine (HMT2.out _).mono ?_
                      rintro e w1b ⟨rfl, hb1b⟩
                      have S1b : Hid (Below wr.heap.size wr w1b) := Lib.hid (SV.out.trans (hb1b.mono SV.out.size))
                      refine hK _ _ ⟨S1b, ?_⟩
                      have HG2 := Lib.hid (HG.out.below hb1b HG.out.lt)
                      clear HG
                      have HG := HG2
                      clear HG2
                      clear hK K hb1b SV
                      have SV := S1b
                      clear S1b
                      try simp only [Act.put, List.setIfInBounds_toArray, List.set_cons_succ, List.set_cons_zero]
                      clear hii
                      refine wpAnyH_takeD (i := 9) (v := .tuple #[.agg #[.int .i64 M.x, .int .i64 M.y, .int .i64 M.w, .int .i64 M.h], .int .i64 0]) (some 78) rfl rfl (by kernel_rfl) (by kernel_rfl) (by kernel_rfl) (fun _ _ _ h => h) (Or.inl ⟨by rfl, ?_⟩) SV ?_
                      · intro X hX; go_simp
                      try simp only [Act.put, List.setIfInBounds_toArray, List.set_cons_succ, List.set_cons_zero]
                      refine wpAnyH_takeD (i := 10) (v := .agg #[.int .i64 M.x, .int .i64 M.y, .int .i64 M.w, .int .i64 M.h]) (some 88) rfl rfl (by kernel_rfl) (by kernel_rfl) (by kernel_rfl) (fun _ _ _ h => h) (Or.inl ⟨by rfl, ?_⟩) SV ?_
                      · intro X hX; go_simp
                      try simp only [Act.put, List.setIfInBounds_toArray, List.set_cons_succ, List.set_cons_zero]
                      refine wpAnyH_takeD (i := 11) (v := .int .i64 0) (some 89) rfl rfl (by kernel_rfl) (by kernel_rfl) (by kernel_rfl) (fun _ _ _ h => h) (Or.inl ⟨by rfl, ?_⟩) SV ?_
                      · intro X hX; go_simp
                      try simp only [Act.put, List.setIfInBounds_toArray, List.set_cons_succ, List.set_cons_zero]
                      have y0 := HG.out.free 0
                      have y1 := HG.out.free 1
                      have y2 := HG.out.free 2
                      have y3 := HG.out.free 3
                      have z0 := HG.out.cellAt 0
                      have z1 := HG.out.cellAt 1
                      have z2 := HG.out.cellAt 2
                      have z3 := HG.out.cellAt 3
                      have yl := HG.out.lt
                      refine wpAnyH_all (rs := [13]) (by kernel_rfl) (by simp) ?_
                      intro ii hii; obtain rfl : ii = 13 := by simpa using hii
                      refine wpOp_step rfl (fun K hK => ?_)
                      go_simp
                      have SX := (((SV.out.setCell (p := ⟨g, 0, none⟩) hgw (.int .i64 M.x)).setCell (p := ⟨g, 1, none⟩) hgw (.int .i64 M.y)).setCell (p := ⟨g, 2, none⟩) hgw (.int .i64 M.w)).setCell (p := ⟨g, 3, none⟩) hgw (.int .i64 M.h)
                      have KX := (((HG.out.set 0 (.int .i64 M.x)).set 1 (.int .i64 M.y)).set 2 (.int .i64 M.w)).set 3 (.int .i64 M.h)
                      clear z0 z1 z2 z3 y0 y1 y2 y3 yl
                      refine hK _ _ ⟨Lib.hid SX, ?_⟩
                      clear hK K hii
                      refine wpAnyH_takeD (i := 14) (v := .int .i64 0) (some 16) rfl rfl (by kernel_rfl) (by kernel_rfl) (by kernel_rfl) (fun _ _ _ h => h) (Or.inl ⟨by rfl, ?_⟩) (Lib.hid SX) ?_
                      · intro X hX; go_simp
                      try simp only [Act.put, List.setIfInBounds_toArray, List.set_cons_succ, List.set_cons_zero]
                      refine wpAnyH_done (by kernel_rfl) ?_ _
                      refine at_worldQ (fun Y => Below wr.heap.size wr Y ∧ Whole Y g 38 M.cells) ⟨SX, KX⟩ (fun Y hY => ?_)
                      obtain ⟨SY, KY⟩ := hY
                      clear SX KX HG SV
                      have HTY := Lib.hid (HT.out.below SY)
                      have k0 : Y.cell? ⟨g, 0, none⟩ = some (.int .i64 M.x) := KY.cellAt 0
                      have k1 : Y.cell? ⟨g, 1, none⟩ = some (.int .i64 M.y) := KY.cellAt 1
                      have k2 : Y.cell? ⟨g, 2, none⟩ = some (.int .i64 M.w) := KY.cellAt 2
                      have k3 : Y.cell? ⟨g, 3, none⟩ = some (.int .i64 M.h) := KY.cellAt 3
                      have lg := KY.lt
                      clear SY KY e0 e1 e2 e3 f0 f1 f2 f3 HT HMT2
                      obtain ⟨t, ht⟩ : ∃ t, emptyB M = t := ⟨_, rfl⟩
                      have NN := Lib.hid (fun X => ht ▸ none_any M.x M.y M.w M.h X)
                      have HME := Lib.hid ht
                      clear ht
                      go_wp2_with (go_at_call 21; refine (NN.out _).mono ?_; clear NN; rintro e w2 ⟨rfl, hb2⟩; have HT2 := Lib.hid (HTY.out.below hb2); clear hb2 HTY k0 k1 k2 k3 lg; refine Hid.out ?_)
                      refine Lib.hid ?_
                      cases t with
                      | true =>
                        have HJ2 : Hid (∀ (c : Nat) (p : R), c < j + 1 → zs[c]? = some p → emptyB (meetP p ⟨qx, qy, qw, qh⟩) = true) := Lib.hid (fun c p h hp => by
                          by_cases hc : c < j
                          · exact HJ.out c p hc hp
                          · obtain rfl : c = j := by omega
                            rw [HPQ.out] at hp
                            cases hp
                            rw [HMM2.out]; exact HME.out)
                        clear HJ HMM2 HME
                        go_wp2
                        go_roundw
                        case rel => exact ⟨j + 1, by omega, by go_num, HT2, HJ2⟩
                        case measure => simp [intOf]; omega
                      | false =>
                        have htf : tb = false := by
                          cases htc : tb with
                          | false => rfl
                          | true => exact absurd (HDOC.out.1 htc).2.1 (pair_bad hlj HPQ.out HQ.out HE.out (by rw [HMM2.out]; exact HME.out))
                        have HF := Lib.hid HT2.out.lo
                        subst htf
                        clear HT2 HMM2 HME HJ
                        go_wp2
                        go_ret2
                        exact ⟨rfl, HF.out⟩
                  · have hji : j = i := by omega
                    have HP3 := Lib.hid (apart_next HP.out HQ.out (fun _ c p h hp => HJ.out c p (by omega) hp))
                    obtain ⟨hd1, hd2⟩ := docX_next ⟨x, y, u, v⟩ zs i _ HQ.out HE.out
                    have HD := Lib.hid (And.intro hd1 hd2)
                    have HTa := HT
                    have lw := HT.out.lo.size
                    clear hd1 hd2 HJ hji HP HT
                    go_wp2
                    refine region_held_at (S := fun X => Hid (Below w.heap.size w X)) (by kernel_rfl) (fun wa5 hw5 => ?_)
                    have bW : Below wr.heap.size wr wa5 := by rw [← hw5]; exact (Below.refl _ _).drew
                    have HT5a := Lib.hid (HTa.out.below bW)
                    have SV := Lib.hid HT5a.out.lo
                    have hloa := HT5a.out.lo.size
                    have tla := (docX_len ⟨x, y, u, v⟩ (zs.take i)).1
                    rw [List.length_take] at tla
                    obtain ⟨va9, wa9, hr7, hown9, hgrow9, _, hf9⟩ := run_append_own_at (P := Try.prog) (wa5.alloc (.cells #[.int .i64 qx, .int .i64 (qx + qw)] 2)) w.heap.size 22 22 2 i8 (.int .i64 0) 1 8 Try.underlying22 hi8 HZ0.out HZ1.out HZ2.out rfl (by decide) (.slice px nx cx) _ _ (HT5a.out.ox.alloc _) ⟨wa5.heap.size, 0, none⟩ 2 2 [.int .i64 qx, .int .i64 (qx + qw)] rfl (two_new _ _ _ _) (by simp [Value.oneCell']) (by unfold maxLen; omega) (by omega) (by simp <;> omega)
                    have SA : Hid (Below w.heap.size w (wa5.alloc (.cells #[.int .i64 qx, .int .i64 (qx + qw)] 2))) := Lib.hid (SV.out.alloc hloa _)
                    have HTb : Hid _ := Lib.hid (HT5a.out.pushX2 (a := qx) (b := qx + qw) hown9 hgrow9 hf9)
                    have S9 := Lib.hid HTb.out.lo
                    clear hw5 bW HTa HT5a tla hown9 hgrow9 hf9
                    try simp only [Act.put, List.setIfInBounds_toArray, List.set_cons_succ, List.set_cons_zero]
                    refine wpAnyH_takeD (i := 0) (v := .slice px nx cx) (some 93) rfl rfl (by kernel_rfl) (by kernel_rfl) (by kernel_rfl) (fun _ _ _ h => h) (Or.inl ⟨by rfl, ?_⟩) SV ?_
                    · intro X hX; go_simp
                    try simp only [Act.put, List.setIfInBounds_toArray, List.set_cons_succ, List.set_cons_zero]
                    refine wpAnyH_takeD (i := 1) (v := .slice (some ⟨b, off, none⟩) k cap) (some 94) rfl rfl (by kernel_rfl) (by kernel_rfl) (by kernel_rfl) (fun _ _ _ h => h) (Or.inl ⟨by rfl, ?_⟩) SV ?_
                    · intro X hX; go_simp
                    try simp only [Act.put, List.setIfInBounds_toArray, List.set_cons_succ, List.set_cons_zero]
                    refine wpAnyH_takeD (i := 2) (v := .int .i64 i) (some 95) rfl rfl (by kernel_rfl) (by kernel_rfl) (by kernel_rfl) (fun _ _ _ h => h) (Or.inl ⟨by rfl, ?_⟩) SV ?_
                    · intro X hX; go_simp
                    try simp only [Act.put, List.setIfInBounds_toArray, List.set_cons_succ, List.set_cons_zero]
                    refine wpAnyH_takeD (i := 3) (v := .pointer (some ⟨b, off + i * 4, none⟩)) (some 96) rfl rfl (by kernel_rfl) (by kernel_rfl) (by kernel_rfl) (fun _ _ _ h => h) (Or.inl ⟨by rfl, ?_⟩) SV ?_
                    · intro X hX; go_simp
                    try simp only [Act.put, List.setIfInBounds_toArray, List.set_cons_succ, List.set_cons_zero]
                    refine wpAnyH_takeD (i := 4) (v := .pointer (some ⟨b, off + i * 4, none⟩)) (some 97) rfl rfl (by kernel_rfl) (by kernel_rfl) (by kernel_rfl) (fun _ _ _ h => h) (Or.inl ⟨by rfl, ?_⟩) SV ?_
                    · intro X hX; go_simp
                    try simp only [Act.put, List.setIfInBounds_toArray, List.set_cons_succ, List.set_cons_zero]
                    refine wpAnyH_takeD (i := 5) (v := .int .i64 qx) (some 98) rfl rfl (by kernel_rfl) (by kernel_rfl) (by kernel_rfl) (fun _ _ _ h => h) (Or.inl ⟨by rfl, ?_⟩) SV ?_
                    · intro X hX; have o0 := (hX.out.cell (p := ⟨b, off + i * 4, none⟩) lb).trans q0; have lX := hX.out.size; have lbX : b < X.heap.size := by omega
                      go_simp
                    try simp only [Act.put, List.setIfInBounds_toArray, List.set_cons_succ, List.set_cons_zero]
                    refine wpAnyH_takeD (i := 6) (v := .slice (some ⟨b, off, none⟩) k cap) (some 99) rfl rfl (by kernel_rfl) (by kernel_rfl) (by kernel_rfl) (fun _ _ _ h => h) (Or.inl ⟨by rfl, ?_⟩) SV ?_
                    · intro X hX; go_simp
                    try simp only [Act.put, List.setIfInBounds_toArray, List.set_cons_succ, List.set_cons_zero]
                    refine wpAnyH_takeD (i := 7) (v := .int .i64 i) (some 100) rfl rfl (by kernel_rfl) (by kernel_rfl) (by kernel_rfl) (fun _ _ _ h => h) (Or.inl ⟨by rfl, ?_⟩) SV ?_
                    · intro X hX; go_simp
                    try simp only [Act.put, List.setIfInBounds_toArray, List.set_cons_succ, List.set_cons_zero]
                    refine wpAnyH_takeD (i := 8) (v := .pointer (some ⟨b, off + i * 4, none⟩)) (some 101) rfl rfl (by kernel_rfl) (by kernel_rfl) (by kernel_rfl) (fun _ _ _ h => h) (Or.inl ⟨by rfl, ?_⟩) SV ?_
                    · intro X hX; go_simp
                    try simp only [Act.put, List.setIfInBounds_toArray, List.set_cons_succ, List.set_cons_zero]
                    refine wpAnyH_takeD (i := 9) (v := .pointer (some ⟨b, off + i * 4, none⟩)) (some 102) rfl rfl (by kernel_rfl) (by kernel_rfl) (by kernel_rfl) (fun _ _ _ h => h) (Or.inl ⟨by rfl, ?_⟩) SV ?_
                    · intro X hX; go_simp
                    try simp only [Act.put, List.setIfInBounds_toArray, List.set_cons_succ, List.set_cons_zero]
                    refine wpAnyH_takeD (i := 10) (v := .int .i64 qx) (some 103) rfl rfl (by kernel_rfl) (by kernel_rfl) (by kernel_rfl) (fun _ _ _ h => h) (Or.inl ⟨by rfl, ?_⟩) SV ?_
                    · intro X hX; have o0 := (hX.out.cell (p := ⟨b, off + i * 4, none⟩) lb).trans q0; have lX := hX.out.size; have lbX : b < X.heap.size := by omega
                      go_simp
                    try simp only [Act.put, List.setIfInBounds_toArray, List.set_cons_succ, List.set_cons_zero]
                    refine wpAnyH_takeD (i := 11) (v := .slice (some ⟨b, off, none⟩) k cap) (some 104) rfl rfl (by kernel_rfl) (by kernel_rfl) (by kernel_rfl) (fun _ _ _ h => h) (Or.inl ⟨by rfl, ?_⟩) SV ?_
                    · intro X hX; go_simp
                    try simp only [Act.put, List.setIfInBounds_toArray, List.set_cons_succ, List.set_cons_zero]
                    refine wpAnyH_takeD (i := 12) (v := .int .i64 i) (some 105) rfl rfl (by kernel_rfl) (by kernel_rfl) (by kernel_rfl) (fun _ _ _ h => h) (Or.inl ⟨by rfl, ?_⟩) SV ?_
                    · intro X hX; go_simp
                    try simp only [Act.put, List.setIfInBounds_toArray, List.set_cons_succ, List.set_cons_zero]
                    refine wpAnyH_takeD (i := 13) (v := .pointer (some ⟨b, off + i * 4, none⟩)) (some 106) rfl rfl (by kernel_rfl) (by kernel_rfl) (by kernel_rfl) (fun _ _ _ h => h) (Or.inl ⟨by rfl, ?_⟩) SV ?_
                    · intro X hX; go_simp
                    try simp only [Act.put, List.setIfInBounds_toArray, List.set_cons_succ, List.set_cons_zero]
                    refine wpAnyH_takeD (i := 14) (v := .pointer (some ⟨b, off + i * 4 + 2, none⟩)) (some 107) rfl rfl (by kernel_rfl) (by kernel_rfl) (by kernel_rfl) (fun _ _ _ h => h) (Or.inl ⟨by rfl, ?_⟩) SV ?_
                    · intro X hX; go_simp
                    try simp only [Act.put, List.setIfInBounds_toArray, List.set_cons_succ, List.set_cons_zero]
                    refine wpAnyH_takeD (i := 15) (v := .int .i64 qw) (some 108) rfl rfl (by kernel_rfl) (by kernel_rfl) (by kernel_rfl) (fun _ _ _ h => h) (Or.inl ⟨by rfl, ?_⟩) SV ?_
                    · intro X hX; have o0 := (hX.out.cell (p := ⟨b, off + i * 4 + 2, none⟩) lb).trans q2; have lX := hX.out.size; have lbX : b < X.heap.size := by omega
                      go_simp
                    try simp only [Act.put, List.setIfInBounds_toArray, List.set_cons_succ, List.set_cons_zero]
                    refine wpAnyH_takeD (i := 16) (v := .int .i64 (qx + qw)) (some 109) rfl rfl (by kernel_rfl) (by kernel_rfl) (by kernel_rfl) (fun _ _ _ h => h) (Or.inl ⟨by rfl, ?_⟩) SV ?_
                    · intro X hX; go_simp
                    try simp only [Act.put, List.setIfInBounds_toArray, List.set_cons_succ, List.set_cons_zero]
                    refine wpAnyH_all (rs := [17]) (by kernel_rfl) (by simp) ?_
                    intro ii hii; obtain rfl : ii = 17 := by simpa using hii
                    refine wpOp_step rfl (fun K hK => ?_)
                    go_simp
                    refine hK _ _ ⟨SA, ?_⟩
                    clear hK K hii
                    try simp only [Act.put, List.setIfInBounds_toArray, List.set_cons_succ, List.set_cons_zero]
                    refine wpAnyH_all (rs := [18]) (by kernel_rfl) (by simp) ?_
                    intro ii hii; obtain rfl : ii = 18 := by simpa using hii
                    refine wpOp_step rfl (fun K hK => ?_)
                    refine wp_append_runD (some 111) rfl _ _ _ rfl _ _ _ rfl rfl hr7 ?_
                    refine hK _ _ ⟨S9, ?_⟩
                    clear hK K hii hr7 SA SV hloa
                    try simp only [Act.put, List.setIfInBounds_toArray, List.set_cons_succ, List.set_cons_zero]
                    refine wpAnyH_takeD (i := 19) (v := va9) (some 9) rfl rfl (by kernel_rfl) (by kernel_rfl) (by kernel_rfl) (fun _ _ _ h => h) (Or.inl ⟨by rfl, ?_⟩) S9 ?_
                    · intro X hX; go_simp
                    try simp only [Act.put, List.setIfInBounds_toArray, List.set_cons_succ, List.set_cons_zero]
                    refine wpAnyH_done (by kernel_rfl) ?_ _
                    clear S9
                    go_wp2
                    refine region_held_at (S := fun X => Hid (Below w.heap.size w X)) (by kernel_rfl) (fun wb5 hw5 => ?_)
                    have bW : Below wa9.heap.size wa9 wb5 := by rw [← hw5]; exact (Below.refl _ _).drew
                    have HT5b := Lib.hid (HTb.out.below bW)
                    have SV := Lib.hid HT5b.out.lo
                    have hlob := HT5b.out.lo.size
                    have tlb := (docX_len ⟨x, y, u, v⟩ (zs.take i)).2
                    rw [List.length_take] at tlb
                    obtain ⟨vb9, wb9, hr7, hown9, hgrow9, _, hf9⟩ := run_append_own_at (P := Try.prog) (wb5.alloc (.cells #[.int .i64 qy, .int .i64 (qy + qh)] 2)) w.heap.size 22 22 2 i8 (.int .i64 0) 1 8 Try.underlying22 hi8 HZ0.out HZ1.out HZ2.out rfl (by decide) (.slice py ny cy) _ _ (HT5b.out.oy.alloc _) ⟨wb5.heap.size, 0, none⟩ 2 2 [.int .i64 qy, .int .i64 (qy + qh)] rfl (two_new _ _ _ _) (by simp [Value.oneCell']) (by unfold maxLen; omega) (by omega) (by simp <;> omega)
                    have SA : Hid (Below w.heap.size w (wb5.alloc (.cells #[.int .i64 qy, .int .i64 (qy + qh)] 2))) := Lib.hid (SV.out.alloc hlob _)
                    have HTc : Hid _ := Lib.hid (HT5b.out.pushY2 (a := qy) (b := qy + qh) hown9 hgrow9 hf9)
                    have S9 := Lib.hid HTc.out.lo
                    clear hw5 bW HTb HT5b tlb hown9 hgrow9 hf9
                    try simp only [Act.put, List.setIfInBounds_toArray, List.set_cons_succ, List.set_cons_zero]
                    refine wpAnyH_takeD (i := 0) (v := .slice py ny cy) (some 112) rfl rfl (by kernel_rfl) (by kernel_rfl) (by kernel_rfl) (fun _ _ _ h => h) (Or.inl ⟨by rfl, ?_⟩) SV ?_
                    · intro X hX; go_simp
                    try simp only [Act.put, List.setIfInBounds_toArray, List.set_cons_succ, List.set_cons_zero]
                    refine wpAnyH_takeD (i := 1) (v := .slice (some ⟨b, off, none⟩) k cap) (some 113) rfl rfl (by kernel_rfl) (by kernel_rfl) (by kernel_rfl) (fun _ _ _ h => h) (Or.inl ⟨by rfl, ?_⟩) SV ?_
                    · intro X hX; go_simp
                    try simp only [Act.put, List.setIfInBounds_toArray, List.set_cons_succ, List.set_cons_zero]
                    refine wpAnyH_takeD (i := 2) (v := .int .i64 i) (some 114) rfl rfl (by kernel_rfl) (by kernel_rfl) (by kernel_rfl) (fun _ _ _ h => h) (Or.inl ⟨by rfl, ?_⟩) SV ?_
                    · intro X hX; go_simp
                    try simp only [Act.put, List.setIfInBounds_toArray, List.set_cons_succ, List.set_cons_zero]
                    refine wpAnyH_takeD (i := 3) (v := .pointer (some ⟨b, off + i * 4, none⟩)) (some 115) rfl rfl (by kernel_rfl) (by kernel_rfl) (by kernel_rfl) (fun _ _ _ h => h) (Or.inl ⟨by rfl, ?_⟩) SV ?_
                    · intro X hX; go_simp
                    try simp only [Act.put, List.setIfInBounds_toArray, List.set_cons_succ, List.set_cons_zero]
                    refine wpAnyH_takeD (i := 4) (v := .pointer (some ⟨b, off + i * 4 + 1, none⟩)) (some 116) rfl rfl (by kernel_rfl) (by kernel_rfl) (by kernel_rfl) (fun _ _ _ h => h) (Or.inl ⟨by rfl, ?_⟩) SV ?_
                    · intro X hX; go_simp
                    try simp only [Act.put, List.setIfInBounds_toArray, List.set_cons_succ, List.set_cons_zero]
                    refine wpAnyH_takeD (i := 5) (v := .int .i64 qy) (some 117) rfl rfl (by kernel_rfl) (by kernel_rfl) (by kernel_rfl) (fun _ _ _ h => h) (Or.inl ⟨by rfl, ?_⟩) SV ?_
                    · intro X hX; have o0 := (hX.out.cell (p := ⟨b, off + i * 4 + 1, none⟩) lb).trans q1; have lX := hX.out.size; have lbX : b < X.heap.size := by omega
                      go_simp
                    try simp only [Act.put, List.setIfInBounds_toArray, List.set_cons_succ, List.set_cons_zero]
                    refine wpAnyH_takeD (i := 6) (v := .slice (some ⟨b, off, none⟩) k cap) (some 118) rfl rfl (by kernel_rfl) (by kernel_rfl) (by kernel_rfl) (fun _ _ _ h => h) (Or.inl ⟨by rfl, ?_⟩) SV ?_
                    · intro X hX; go_simp
                    try simp only [Act.put, List.setIfInBounds_toArray, List.set_cons_succ, List.set_cons_zero]
                    refine wpAnyH_takeD (i := 7) (v := .int .i64 i) (some 119) rfl rfl (by kernel_rfl) (by kernel_rfl) (by kernel_rfl) (fun _ _ _ h => h) (Or.inl ⟨by rfl, ?_⟩) SV ?_
                    · intro X hX; go_simp
                    try simp only [Act.put, List.setIfInBounds_toArray, List.set_cons_succ, List.set_cons_zero]
                    refine wpAnyH_takeD (i := 8) (v := .pointer (some ⟨b, off + i * 4, none⟩)) (some 120) rfl rfl (by kernel_rfl) (by kernel_rfl) (by kernel_rfl) (fun _ _ _ h => h) (Or.inl ⟨by rfl, ?_⟩) SV ?_
                    · intro X hX; go_simp
                    try simp only [Act.put, List.setIfInBounds_toArray, List.set_cons_succ, List.set_cons_zero]
                    refine wpAnyH_takeD (i := 9) (v := .pointer (some ⟨b, off + i * 4 + 1, none⟩)) (some 121) rfl rfl (by kernel_rfl) (by kernel_rfl) (by kernel_rfl) (fun _ _ _ h => h) (Or.inl ⟨by rfl, ?_⟩) SV ?_
                    · intro X hX; go_simp
                    try simp only [Act.put, List.setIfInBounds_toArray, List.set_cons_succ, List.set_cons_zero]
                    refine wpAnyH_takeD (i := 10) (v := .int .i64 qy) (some 122) rfl rfl (by kernel_rfl) (by kernel_rfl) (by kernel_rfl) (fun _ _ _ h => h) (Or.inl ⟨by rfl, ?_⟩) SV ?_
                    · intro X hX; have o0 := (hX.out.cell (p := ⟨b, off + i * 4 + 1, none⟩) lb).trans q1; have lX := hX.out.size; have lbX : b < X.heap.size := by omega
                      go_simp
                    try simp only [Act.put, List.setIfInBounds_toArray, List.set_cons_succ, List.set_cons_zero]
                    refine wpAnyH_takeD (i := 11) (v := .slice (some ⟨b, off, none⟩) k cap) (some 123) rfl rfl (by kernel_rfl) (by kernel_rfl) (by kernel_rfl) (fun _ _ _ h => h) (Or.inl ⟨by rfl, ?_⟩) SV ?_
                    · intro X hX; go_simp
                    try simp only [Act.put, List.setIfInBounds_toArray, List.set_cons_succ, List.set_cons_zero]
                    refine wpAnyH_takeD (i := 12) (v := .int .i64 i) (some 124) rfl rfl (by kernel_rfl) (by kernel_rfl) (by kernel_rfl) (fun _ _ _ h => h) (Or.inl ⟨by rfl, ?_⟩) SV ?_
                    · intro X hX; go_simp
                    try simp only [Act.put, List.setIfInBounds_toArray, List.set_cons_succ, List.set_cons_zero]
                    refine wpAnyH_takeD (i := 13) (v := .pointer (some ⟨b, off + i * 4, none⟩)) (some 125) rfl rfl (by kernel_rfl) (by kernel_rfl) (by kernel_rfl) (fun _ _ _ h => h) (Or.inl ⟨by rfl, ?_⟩) SV ?_
                    · intro X hX; go_simp
                    try simp only [Act.put, List.setIfInBounds_toArray, List.set_cons_succ, List.set_cons_zero]
                    refine wpAnyH_takeD (i := 14) (v := .pointer (some ⟨b, off + i * 4 + 3, none⟩)) (some 126) rfl rfl (by kernel_rfl) (by kernel_rfl) (by kernel_rfl) (fun _ _ _ h => h) (Or.inl ⟨by rfl, ?_⟩) SV ?_
                    · intro X hX; go_simp
                    try simp only [Act.put, List.setIfInBounds_toArray, List.set_cons_succ, List.set_cons_zero]
                    refine wpAnyH_takeD (i := 15) (v := .int .i64 qh) (some 127) rfl rfl (by kernel_rfl) (by kernel_rfl) (by kernel_rfl) (fun _ _ _ h => h) (Or.inl ⟨by rfl, ?_⟩) SV ?_
                    · intro X hX; have o0 := (hX.out.cell (p := ⟨b, off + i * 4 + 3, none⟩) lb).trans q3; have lX := hX.out.size; have lbX : b < X.heap.size := by omega
                      go_simp
                    try simp only [Act.put, List.setIfInBounds_toArray, List.set_cons_succ, List.set_cons_zero]
                    refine wpAnyH_takeD (i := 16) (v := .int .i64 (qy + qh)) (some 128) rfl rfl (by kernel_rfl) (by kernel_rfl) (by kernel_rfl) (fun _ _ _ h => h) (Or.inl ⟨by rfl, ?_⟩) SV ?_
                    · intro X hX; go_simp
                    try simp only [Act.put, List.setIfInBounds_toArray, List.set_cons_succ, List.set_cons_zero]
                    refine wpAnyH_all (rs := [17]) (by kernel_rfl) (by simp) ?_
                    intro ii hii; obtain rfl : ii = 17 := by simpa using hii
                    refine wpOp_step rfl (fun K hK => ?_)
                    go_simp
                    refine hK _ _ ⟨SA, ?_⟩
                    clear hK K hii
                    try simp only [Act.put, List.setIfInBounds_toArray, List.set_cons_succ, List.set_cons_zero]
                    refine wpAnyH_all (rs := [18]) (by kernel_rfl) (by simp) ?_
                    intro ii hii; obtain rfl : ii = 18 := by simpa using hii
                    refine wpOp_step rfl (fun K hK => ?_)
                    refine wp_append_runD (some 130) rfl _ _ _ rfl _ _ _ rfl rfl hr7 ?_
                    refine hK _ _ ⟨S9, ?_⟩
                    clear hK K hii hr7 SA SV hlob
                    try simp only [Act.put, List.setIfInBounds_toArray, List.set_cons_succ, List.set_cons_zero]
                    refine wpAnyH_takeD (i := 19) (v := vb9) (some 10) rfl rfl (by kernel_rfl) (by kernel_rfl) (by kernel_rfl) (fun _ _ _ h => h) (Or.inl ⟨by rfl, ?_⟩) S9 ?_
                    · intro X hX; go_simp
                    try simp only [Act.put, List.setIfInBounds_toArray, List.set_cons_succ, List.set_cons_zero]
                    refine wpAnyH_done (by kernel_rfl) ?_ _
                    clear S9
                    go_wp2
                    have H3 := Lib.hid (show TW w ⟨x, y, u, v⟩ va9 vb9 (docX ⟨x, y, u, v⟩ (zs.take (i + 1))) (docY ⟨x, y, u, v⟩ (zs.take (i + 1))) wb9 from by rw [HD.out.1, HD.out.2]; exact HTc.out)
                    clear HTc HD
                    go_roundw
                    case rel => exact ⟨i + 1, by omega, by go_num, H3, HV3, HP3⟩
                    case measure => simp [intOf]; omega
              · have hE : ∀ X : World, (binOp .neq 38 (.agg #[.int .i64 mx, .int .i64 my, .int .i64 mw, .int .i64 mh]) (.agg #[.int .i64 qx, .int .i64 qy, .int .i64 qw, .int .i64 qh])).run Try.prog X = .ok (.bool true) X := fun X => by
                  have := rect_eql ⟨mx, my, mw, mh⟩ ⟨qx, qy, qw, qh⟩ X
                  rw [decide_eq_false hme] at this
                  exact this
                have htf : tb = false := by
                  cases htc : tb with
                  | false => rfl
                  | true => exact absurd (HMM.out.symm.trans ((HDOC.out.1 htc).1 _ (List.mem_iff_getElem?.2 ⟨i, HQ.out⟩) HE.out)) hme
                have HF := Lib.hid HTY.out.lo
                subst htf
                clear hme HTY HMM
                go_wp2
                go_quiet (fail)
                go_wp2
                go_ret2
                exact ⟨rfl, HF.out.trans (below_dn _ _ _)⟩
            · skip
              refine wpOp_step rfl (fun K hK => ?_)
              go_simp
              have hz := whole_new _ [.int .i64 0, .int .i64 0, .int .i64 0, .int .i64 0] 38 _ (Eq.refl (World.heap w9).size)
              have S2b : Hid (Below wr.heap.size wr (World.alloc w9 (.cells #[.int .i64 0, .int .i64 0, .int .i64 0, .int .i64 0] 38))) := Lib.hid (SV.out.trans (((Below.refl _ _).alloc (Nat.le_refl _) _).mono SV.out.size))
              refine hK _ _ ⟨S2b, ?_⟩
              clear hK K
              obtain ⟨g, hg⟩ : ∃ g, (World.heap w9).size = g := ⟨_, rfl⟩
              have hgw : wr.heap.size ≤ g := by have := SV.out.size; omega
              rw [hg] at hz ⊢
              clear SV hg
              have SV := S2b
              clear S2b
              generalize World.alloc w9 (.cells #[.int .i64 0, .int .i64 0, .int .i64 0, .int .i64 0] 38) = wa at hz SV ⊢
              have HG := Lib.hid hz
              clear hz
              try simp only [Act.put, List.setIfInBounds_toArray, List.set_cons_succ, List.set_cons_zero]
              clear hii
              refine wpAnyH_all (rs := [5]) (by kernel_rfl) (by simp) ?_
              intro ii hii; obtain rfl : ii = 5 := by simpa using hii
              refine wpOp_step rfl (fun K hK => ?_)
              go_simp
              refine (HMT.out _).mono ?_
              rintro e w1b ⟨rfl, hb1b⟩
              have S1b : Hid (Below wr.heap.size wr w1b) := Lib.hid (SV.out.trans (hb1b.mono SV.out.size))
              refine hK _ _ ⟨S1b, ?_⟩
              have HG2 := Lib.hid (HG.out.below hb1b HG.out.lt)
              clear HG
              have HG := HG2
              clear HG2
              clear hK K hb1b SV
              have SV := S1b
              clear S1b
              try simp only [Act.put, List.setIfInBounds_toArray, List.set_cons_succ, List.set_cons_zero]
              clear hii
              refine wpAnyH_takeD (i := 6) (v := .tuple #[.agg #[.int .i64 M.x, .int .i64 M.y, .int .i64 M.w, .int .i64 M.h], .int .i64 0]) (some 58) rfl rfl (by kernel_rfl) (by kernel_rfl) (by kernel_rfl) (fun _ _ _ h => h) (Or.inl ⟨by rfl, ?_⟩) SV ?_
              · intro X hX; go_simp
              try simp only [Act.put, List.setIfInBounds_toArray, List.set_cons_succ, List.set_cons_zero]
              refine wpAnyH_takeD (i := 7) (v := .agg #[.int .i64 M.x, .int .i64 M.y, .int .i64 M.w, .int .i64 M.h]) (some 65) rfl rfl (by kernel_rfl) (by kernel_rfl) (by kernel_rfl) (fun _ _ _ h => h) (Or.inl ⟨by rfl, ?_⟩) SV ?_
              · intro X hX; go_simp
              try simp only [Act.put, List.setIfInBounds_toArray, List.set_cons_succ, List.set_cons_zero]
              refine wpAnyH_takeD (i := 8) (v := .int .i64 0) (some 66) rfl rfl (by kernel_rfl) (by kernel_rfl) (by kernel_rfl) (fun _ _ _ h => h) (Or.inl ⟨by rfl, ?_⟩) SV ?_
              · intro X hX; go_simp
              try simp only [Act.put, List.setIfInBounds_toArray, List.set_cons_succ, List.set_cons_zero]
              have y0 := HG.out.free 0
              have y1 := HG.out.free 1
              have y2 := HG.out.free 2
              have y3 := HG.out.free 3
              have z0 := HG.out.cellAt 0
              have z1 := HG.out.cellAt 1
              have z2 := HG.out.cellAt 2
              have z3 := HG.out.cellAt 3
              have yl := HG.out.lt
              refine wpAnyH_all (rs := [10]) (by kernel_rfl) (by simp) ?_
              intro ii hii; obtain rfl : ii = 10 := by simpa using hii
              refine wpOp_step rfl (fun K hK => ?_)
              go_simp
              have SX := (((SV.out.setCell (p := ⟨g, 0, none⟩) hgw (.int .i64 M.x)).setCell (p := ⟨g, 1, none⟩) hgw (.int .i64 M.y)).setCell (p := ⟨g, 2, none⟩) hgw (.int .i64 M.w)).setCell (p := ⟨g, 3, none⟩) hgw (.int .i64 M.h)
              have KX := (((HG.out.set 0 (.int .i64 M.x)).set 1 (.int .i64 M.y)).set 2 (.int .i64 M.w)).set 3 (.int .i64 M.h)
              clear z0 z1 z2 z3 y0 y1 y2 y3 yl
              refine hK _ _ ⟨Lib.hid SX, ?_⟩
              clear hK K hii
              refine wpAnyH_takeD (i := 11) (v := .int .i64 0) (some 13) rfl rfl (by kernel_rfl) (by kernel_rfl) (by kernel_rfl) (fun _ _ _ h => h) (Or.inl ⟨by rfl, ?_⟩) (Lib.hid SX) ?_
              · intro X hX; go_simp
              try simp only [Act.put, List.setIfInBounds_toArray, List.set_cons_succ, List.set_cons_zero]
              refine wpAnyH_done (by kernel_rfl) ?_ _
              refine at_worldQ (fun Y => Below wr.heap.size wr Y ∧ Whole Y g 38 M.cells) ⟨SX, KX⟩ (fun Y hY => ?_)
              obtain ⟨SY, KY⟩ := hY
              clear SX KX HG SV
              have HTY := Lib.hid (HT2.out.below SY)
              have HKY := Lib.hid KY
              have HSY := Lib.hid SY
              have e0' := (SY.cell (p := ⟨b, off + i * 4, none⟩) lb1).trans e0
              have e1' := (SY.cell (p := ⟨b, off + i * 4 + 1, none⟩) lb1).trans e1
              have e2' := (SY.cell (p := ⟨b, off + i * 4 + 2, none⟩) lb1).trans e2
              have e3' := (SY.cell (p := ⟨b, off + i * 4 + 3, none⟩) lb1).trans e3
              have lb2 : b < Y.heap.size := by have := SY.size; omega
              have k0 : Y.cell? ⟨g, 0, none⟩ = some (.int .i64 M.x) := KY.cellAt 0
              have k1 : Y.cell? ⟨g, 1, none⟩ = some (.int .i64 M.y) := KY.cellAt 1
              have k2 : Y.cell? ⟨g, 2, none⟩ = some (.int .i64 M.w) := KY.cellAt 2
              have k3 : Y.cell? ⟨g, 3, none⟩ = some (.int .i64 M.h) := KY.cellAt 3
              have lg := KY.lt
              clear SY KY e0 e1 e2 e3 b0 b1 b2 b3 HT2 HMT
              obtain ⟨mx, my, mw, mh⟩ := M
              dsimp only [R.cells] at *
              by_cases hme : (⟨mx, my, mw, mh⟩ : R) = ⟨qx, qy, qw, qh⟩
              · have hE : ∀ X : World, (binOp .neq 38 (.agg #[.int .i64 mx, .int .i64 my, .int .i64 mw, .int .i64 mh]) (.agg #[.int .i64 qx, .int .i64 qy, .int .i64 qw, .int .i64 qh])).run Try.prog X = .ok (.bool false) X := fun X => by
                  have := rect_eql ⟨mx, my, mw, mh⟩ ⟨qx, qy, qw, qh⟩ X
                  rw [decide_eq_true hme] at this
                  exact this
                have HV3 := Lib.hid (within_next HV.out HQ.out (fun _ => HMM.out.trans hme))
                clear hme HV HMM
                go_wp2
                go_quiet (fail)
                go_wp2
                have HTD := Lib.hid (HTY.out.below (below_dn _ Y nq))
                clear e0' e1' e2' e3' k0 k1 k2 k3 lg lb2 HTY HKY HSY hE
                generalize Y.drewN nq = Z at HTD ⊢
                go_loopw [14] (fun s14 X => ∃ j : Nat, j ≤ i ∧ s14 = .int .i64 (j : Int) ∧ Hid (TW w ⟨x, y, u, v⟩ (.slice px nx cx) (.slice py ny cy) (docX ⟨x, y, u, v⟩ (zs.take i)) (docY ⟨x, y, u, v⟩ (zs.take i)) X) ∧ Hid (∀ (c : Nat) (p : R), c < j → zs[c]? = some p → emptyB (meetP p ⟨qx, qy, qw, qh⟩) = true)) (fun s14 _ => i - (intOf s14).toNat)
                case atStart => exact ⟨0, Nat.zero_le _, rfl, HTD, Lib.hid (fun c p h => absurd h (Nat.not_lt_zero _))⟩
                case round =>
                  clear HTD
                  obtain ⟨j, hj, rfl, HT, HJ⟩ := hrel
                  obtain ⟨_, q0, q1, q2, q3⟩ := HQC.out
                  by_cases hlj : j < i
                  · obtain ⟨p, hp⟩ : ∃ p, zs[j]? = some p := ⟨_, List.getElem?_eq_getElem (by rw [HM.out]; omega)⟩
                    obtain ⟨b', off', hpe, _, g0, g1, g2, g3⟩ := HC.out j p hp
                    injection hpe with hpe
                    injection hpe with hpe1 hpe2
                    subst hpe1 hpe2
                    have hpr := HLS.out p (List.mem_iff_getElem?.2 ⟨j, hp⟩)
                    have HPQ := Lib.hid hp
                    obtain ⟨ax, ay, aw, ah⟩ := p
                    dsimp only at g0 g1 g2 g3
                    obtain ⟨M, hM⟩ : ∃ M, meetP ⟨ax, ay, aw, ah⟩ ⟨qx, qy, qw, qh⟩ = M := ⟨_, rfl⟩
                    have HMT2 := Lib.hid (fun X => show Calls Try.prog 22 #[.agg #[.int .i64 ax, .int .i64 ay, .int .i64 aw, .int .i64 ah], .agg #[.int .i64 qx, .int .i64 qy, .int .i64 qw, .int .i64 qh]] X (fun e W' => e = .returned (.tuple #[.agg #[.int .i64 M.x, .int .i64 M.y, .int .i64 M.w, .int .i64 M.h], .int .i64 0]) ∧ Below X.heap.size X W') from by
                      have h := refMeet_any ⟨ax, ay, aw, ah⟩ ⟨qx, qy, qw, qh⟩ X
                      unfold meetR at h
                      rw [hpr, HQR.out, hM] at h
                      exact h)
                    have HMM2 := Lib.hid hM
                    have lw := HT.out.lo.size
                    have e0 := (HT.out.lo.cell (p := ⟨b, off + i * 4, none⟩) lb).trans q0
                    have e1 := (HT.out.lo.cell (p := ⟨b, off + i * 4 + 1, none⟩) lb).trans q1
                    have e2 := (HT.out.lo.cell (p := ⟨b, off + i * 4 + 2, none⟩) lb).trans q2
                    have e3 := (HT.out.lo.cell (p := ⟨b, off + i * 4 + 3, none⟩) lb).trans q3
                    have f0 := (HT.out.lo.cell (p := ⟨b, off + j * 4, none⟩) lb).trans g0
                    have f1 := (HT.out.lo.cell (p := ⟨b, off + j * 4 + 1, none⟩) lb).trans g1
                    have f2 := (HT.out.lo.cell (p := ⟨b, off + j * 4 + 2, none⟩) lb).trans g2
                    have f3 := (HT.out.lo.cell (p := ⟨b, off + j * 4 + 3, none⟩) lb).trans g3
                    have lb1 : b < wr.heap.size := by omega
                    (try dsimp only at e0 e1 e2 e3 f0 f1 f2 f3)
                    have hjk : j < k := by omega
                    clear hM hp hpr g0 g1 g2 g3 q0 q1 q2 q3 lw
                    go_wp2
                    refine region_held_at (S := fun X => Hid (Below wr.heap.size wr X)) (by kernel_rfl) (fun w9 hw9 => ?_)
                    have SV : Hid (Below wr.heap.size wr w9) := Lib.hid (by rw [← hw9]; exact (Below.refl _ _).drew)
                    clear hw9
                    try simp only [Act.put, List.setIfInBounds_toArray, List.set_cons_succ, List.set_cons_zero]
                    refine wpAnyH_takeD (i := 0) (v := .slice (some ⟨b, off, none⟩) k cap) (some 79) rfl rfl (by kernel_rfl) (by kernel_rfl) (by kernel_rfl) (fun _ _ _ h => h) (Or.inl ⟨by rfl, ?_⟩) SV ?_
                    · intro X hX; go_simp
                    try simp only [Act.put, List.setIfInBounds_toArray, List.set_cons_succ, List.set_cons_zero]
                    refine wpAnyH_takeD (i := 1) (v := .int .i64 j) (some 80) rfl rfl (by kernel_rfl) (by kernel_rfl) (by kernel_rfl) (fun _ _ _ h => h) (Or.inl ⟨by rfl, ?_⟩) SV ?_
                    · intro X hX; go_simp
                    try simp only [Act.put, List.setIfInBounds_toArray, List.set_cons_succ, List.set_cons_zero]
                    refine wpAnyH_takeD (i := 2) (v := .pointer (some ⟨b, off + j * 4, none⟩)) (some 81) rfl rfl (by kernel_rfl) (by kernel_rfl) (by kernel_rfl) (fun _ _ _ h => h) (Or.inl ⟨by rfl, ?_⟩) SV ?_
                    · intro X hX; go_simp
                    try simp only [Act.put, List.setIfInBounds_toArray, List.set_cons_succ, List.set_cons_zero]
                    refine wpAnyH_takeD (i := 3) (v := .agg #[.int .i64 ax, .int .i64 ay, .int .i64 aw, .int .i64 ah]) (some 82) rfl rfl (by kernel_rfl) (by kernel_rfl) (by kernel_rfl) (fun _ _ _ h => h) (Or.inl ⟨by rfl, ?_⟩) SV ?_
                    · intro X hX; have o0 := (hX.out.cell (p := ⟨b, off + j * 4, none⟩) lb1).trans f0; have o1 := (hX.out.cell (p := ⟨b, off + j * 4 + 1, none⟩) lb1).trans f1; have o2 := (hX.out.cell (p := ⟨b, off + j * 4 + 2, none⟩) lb1).trans f2; have o3 := (hX.out.cell (p := ⟨b, off + j * 4 + 3, none⟩) lb1).trans f3; go_simp
                    try simp only [Act.put, List.setIfInBounds_toArray, List.set_cons_succ, List.set_cons_zero]
                    refine wpAnyH_takeD (i := 4) (v := .slice (some ⟨b, off, none⟩) k cap) (some 83) rfl rfl (by kernel_rfl) (by kernel_rfl) (by kernel_rfl) (fun _ _ _ h => h) (Or.inl ⟨by rfl, ?_⟩) SV ?_
                    · intro X hX; go_simp
                    try simp only [Act.put, List.setIfInBounds_toArray, List.set_cons_succ, List.set_cons_zero]
                    refine wpAnyH_takeD (i := 5) (v := .int .i64 i) (some 84) rfl rfl (by kernel_rfl) (by kernel_rfl) (by kernel_rfl) (fun _ _ _ h => h) (Or.inl ⟨by rfl, ?_⟩) SV ?_
                    · intro X hX; go_simp
                    try simp only [Act.put, List.setIfInBounds_toArray, List.set_cons_succ, List.set_cons_zero]
                    refine wpAnyH_takeD (i := 6) (v := .pointer (some ⟨b, off + i * 4, none⟩)) (some 85) rfl rfl (by kernel_rfl) (by kernel_rfl) (by kernel_rfl) (fun _ _ _ h => h) (Or.inl ⟨by rfl, ?_⟩) SV ?_
                    · intro X hX; go_simp
                    try simp only [Act.put, List.setIfInBounds_toArray, List.set_cons_succ, List.set_cons_zero]
                    refine wpAnyH_takeD (i := 7) (v := .agg #[.int .i64 qx, .int .i64 qy, .int .i64 qw, .int .i64 qh]) (some 86) rfl rfl (by kernel_rfl) (by kernel_rfl) (by kernel_rfl) (fun _ _ _ h => h) (Or.inl ⟨by rfl, ?_⟩) SV ?_
                    · intro X hX; have o0 := (hX.out.cell (p := ⟨b, off + i * 4, none⟩) lb1).trans e0; have o1 := (hX.out.cell (p := ⟨b, off + i * 4 + 1, none⟩) lb1).trans e1; have o2 := (hX.out.cell (p := ⟨b, off + i * 4 + 2, none⟩) lb1).trans e2; have o3 := (hX.out.cell (p := ⟨b, off + i * 4 + 3, none⟩) lb1).trans e3; go_simp
                    try simp only [Act.put, List.setIfInBounds_toArray, List.set_cons_succ, List.set_cons_zero]
                    refine wpAnyH_all (rs := [8, 12]) (by kernel_rfl) (by simp) ?_
                    intro ii hii
                    rcases (show ii = 8 ∨ ii = 12 by simpa using hii) with rfl | rfl
                    · skip
                      refine wpOp_step rfl (fun K hK => ?_)
                      go_simp
                      refine (HMT2.out _).mono ?_
                      rintro e w1a ⟨rfl, hb1a⟩
                      have S1a : Hid (Below wr.heap.size wr w1a) := Lib.hid (SV.out.trans (hb1a.mono SV.out.size))
                      refine hK _ _ ⟨S1a, ?_⟩
                      clear hK K hb1a SV
                      have SV := S1a
                      clear S1a
                      try simp only [Act.put, List.setIfInBounds_toArray, List.set_cons_succ, List.set_cons_zero]
                      clear hii
                      refine wpAnyH_takeD (i := 9) (v := .tuple #[.agg #[.int .i64 M.x, .int .i64 M.y, .int .i64 M.w, .int .i64 M.h], .int .i64 0]) (some 78) rfl rfl (by kernel_rfl) (by kernel_rfl) (by kernel_rfl) (fun _ _ _ h => h) (Or.inl ⟨by rfl, ?_⟩) SV ?_
                      · intro X hX; go_simp
                      try simp only [Act.put, List.setIfInBounds_toArray, List.set_cons_succ, List.set_cons_zero]
                      refine wpAnyH_takeD (i := 10) (v := .agg #[.int .i64 M.x, .int .i64 M.y, .int .i64 M.w, .int .i64 M.h]) (some 88) rfl rfl (by kernel_rfl) (by kernel_rfl) (by kernel_rfl) (fun _ _ _ h => h) (Or.inl ⟨by rfl, ?_⟩) SV ?_
                      · intro X hX; go_simp
                      try simp only [Act.put, List.setIfInBounds_toArray, List.set_cons_succ, List.set_cons_zero]
                      refine wpAnyH_takeD (i := 11) (v := .int .i64 0) (some 89) rfl rfl (by kernel_rfl) (by kernel_rfl) (by kernel_rfl) (fun _ _ _ h => h) (Or.inl ⟨by rfl, ?_⟩) SV ?_
                      · intro X hX; go_simp
                      try simp only [Act.put, List.setIfInBounds_toArray, List.set_cons_succ, List.set_cons_zero]
                      refine wpAnyH_all (rs := [12]) (by kernel_rfl) (by simp) ?_
                      intro ii hii; obtain rfl : ii = 12 := by simpa using hii
                      refine wpOp_step rfl (fun K hK => ?_)
                      go_simp
                      have hz := whole_new _ [.int .i64 0, .int .i64 0, .int .i64 0, .int .i64 0] 38 _ (Eq.refl (World.heap w1a).size)
                      have S2a : Hid (Below wr.heap.size wr (World.alloc w1a (.cells #[.int .i64 0, .int .i64 0, .int .i64 0, .int .i64 0] 38))) := Lib.hid (SV.out.trans (((Below.refl _ _).alloc (Nat.le_refl _) _).mono SV.out.size))
                      refine hK _ _ ⟨S2a, ?_⟩
                      clear hK K
                      obtain ⟨g, hg⟩ : ∃ g, (World.heap w1a).size = g := ⟨_, rfl⟩
                      have hgw : wr.heap.size ≤ g := by have := SV.out.size; omega
                      rw [hg] at hz ⊢
                      clear SV hg
                      have SV := S2a
                      clear S2a
                      generalize World.alloc w1a (.cells #[.int .i64 0, .int .i64 0, .int .i64 0, .int .i64 0] 38) = wa at hz SV ⊢
                      have HG := Lib.hid hz
                      clear hz
                      try simp only [Act.put, List.setIfInBounds_toArray, List.set_cons_succ, List.set_cons_zero]
                      clear hii
                      have y0 := HG.out.free 0
                      have y1 := HG.out.free 1
                      have y2 := HG.out.free 2
                      have y3 := HG.out.free 3
                      have z0 := HG.out.cellAt 0
                      have z1 := HG.out.cellAt 1
                      have z2 := HG.out.cellAt 2
                      have z3 := HG.out.cellAt 3
                      have yl := HG.out.lt
                      refine wpAnyH_all (rs := [13]) (by kernel_rfl) (by simp) ?_
                      intro ii hii; obtain rfl : ii = 13 := by simpa using hii
                      refine wpOp_step rfl (fun K hK => ?_)
                      go_simp
                      have SX := (((SV.out.setCell (p := ⟨g, 0, none⟩) hgw (.int .i64 M.x)).setCell (p := ⟨g, 1, none⟩) hgw (.int .i64 M.y)).setCell (p := ⟨g, 2, none⟩) hgw (.int .i64 M.w)).setCell (p := ⟨g, 3, none⟩) hgw (.int .i64 M.h)
                      have KX := (((HG.out.set 0 (.int .i64 M.x)).set 1 (.int .i64 M.y)).set 2 (.int .i64 M.w)).set 3 (.int .i64 M.h)
                      clear z0 z1 z2 z3 y0 y1 y2 y3 yl
                      refine hK _ _ ⟨Lib.hid SX, ?_⟩
                      clear hK K hii
                      refine wpAnyH_takeD (i := 14) (v := .int .i64 0) (some 16) rfl rfl (by kernel_rfl) (by kernel_rfl) (by kernel_rfl) (fun _ _ _ h => h) (Or.inl ⟨by rfl, ?_⟩) (Lib.hid SX) ?_
                      · intro X hX; go_simp
                      try simp only [Act.put, List.setIfInBounds_toArray, List.set_cons_succ, List.set_cons_zero]
                      refine wpAnyH_done (by kernel_rfl) ?_ _
                      refine at_worldQ (fun Y => Below wr.heap.size wr Y ∧ Whole Y g 38 M.cells) ⟨SX, KX⟩ (fun Y hY => ?_)
                      obtain ⟨SY, KY⟩ := hY
                      clear SX KX HG SV
                      have HTY := Lib.hid (HT.out.below SY)
                      have k0 : Y.cell? ⟨g, 0, none⟩ = some (.int .i64 M.x) := KY.cellAt 0
                      have k1 : Y.cell? ⟨g, 1, none⟩ = some (.int .i64 M.y) := KY.cellAt 1
                      have k2 : Y.cell? ⟨g, 2, none⟩ = some (.int .i64 M.w) := KY.cellAt 2
                      have k3 : Y.cell? ⟨g, 3, none⟩ = some (.int .i64 M.h) := KY.cellAt 3
                      have lg := KY.lt
                      clear SY KY e0 e1 e2 e3 f0 f1 f2 f3 HT HMT2
                      obtain ⟨t, ht⟩ : ∃ t, emptyB M = t := ⟨_, rfl⟩
                      have NN := Lib.hid (fun X => ht ▸ none_any M.x M.y M.w M.h X)
                      have HME := Lib.hid ht
                      clear ht
                      go_wp2_with (go_at_call 21; refine (NN.out _).mono ?_; clear NN; rintro e w2 ⟨rfl, hb2⟩; have HT2 := Lib.hid (HTY.out.below hb2); clear hb2 HTY k0 k1 k2 k3 lg; refine Hid.out ?_)
                      refine Lib.hid ?_
                      cases t with
                      | true =>
                        have HJ2 : Hid (∀ (c : Nat) (p : R), c < j + 1 → zs[c]? = some p → emptyB (meetP p ⟨qx, qy, qw, qh⟩) = true) := Lib.hid (fun c p h hp => by
                          by_cases hc : c < j
                          · exact HJ.out c p hc hp
                          · obtain rfl : c = j := by omega
                            rw [HPQ.out] at hp
                            cases hp
                            rw [HMM2.out]; exact HME.out)
                        clear HJ HMM2 HME
                        go_wp2
                        go_roundw
                        case rel => exact ⟨j + 1, by omega, by go_num, HT2, HJ2⟩
                        case measure => simp [intOf]; omega
                      | false =>
                        have htf : tb = false := by
                          cases htc : tb with
                          | false => rfl
                          | true => exact absurd (HDOC.out.1 htc).2.1 (pair_bad hlj HPQ.out HQ.out HE.out (by rw [HMM2.out]; exact HME.out))
                        have HF := Lib.hid HT2.out.lo
                        subst htf
                        clear HT2 HMM2 HME HJ
                        go_wp2
                        go_ret2
                        exact ⟨rfl, HF.out⟩
                    · skip
                      refine wpOp_step rfl (fun K hK => ?_)
                      go_simp
                      have hz := whole_new _ [.int .i64 0, .int .i64 0, .int .i64 0, .int .i64 0] 38 _ (Eq.refl (World.heap w9).size)
                      have S2b : Hid (Below wr.heap.size wr (World.alloc w9 (.cells #[.int .i64 0, .int .i64 0, .int .i64 0, .int .i64 0] 38))) := Lib.hid (SV.out.trans (((Below.refl _ _).alloc (Nat.le_refl _) _).mono SV.out.size))
                      refine hK _ _ ⟨S2b, ?_⟩
                      clear hK K
                      obtain ⟨g, hg⟩ : ∃ g, (World.heap w9).size = g := ⟨_, rfl⟩
                      have hgw : wr.heap.size ≤ g := by have := SV.out.size; omega
                      rw [hg] at hz ⊢
                      clear SV hg
                      have SV := S2b
                      clear S2b
                      generalize World.alloc w9 (.cells #[.int .i64 0, .int .i64 0, .int .i64 0, .int .i64 0] 38) = wa at hz SV ⊢
                      have HG := Lib.hid hz
                      clear hz
                      try simp only [Act.put, List.setIfInBounds_toArray, List.set_cons_succ, List.set_cons_zero]
                      clear hii
                      refine wpAnyH_all (rs := [8]) (by kernel_rfl) (by simp) ?_
                      intro ii hii; obtain rfl : ii = 8 := by simpa using hii
                      refine wpOp_step rfl (fun K hK => ?_)
                      go_simp
                      refine (HMT2.out _).mono ?_
                      rintro e w1b ⟨rfl, hb1b⟩
                      have S1b : Hid (Below wr.heap.size wr w1b) := Lib.hid (SV.out.trans (hb1b.mono SV.out.size))
                      refine hK _ _ ⟨S1b, ?_⟩
                      have HG2 := Lib.hid (HG.out.below hb1b HG.out.lt)
                      clear HG
                      have HG := HG2
                      clear HG2
                      clear hK K hb1b SV
                      have SV := S1b
                      clear S1b
                      try simp only [Act.put, List.setIfInBounds_toArray, List.set_cons_succ, List.set_cons_zero]
                      clear hii
                      refine wpAnyH_takeD (i := 9) (v := .tuple #[.agg #[.int .i64 M.x, .int .i64 M.y, .int .i64 M.w, .int .i64 M.h], .int .i64 0]) (some 78) rfl rfl (by kernel_rfl) (by kernel_rfl) (by kernel_rfl) (fun _ _ _ h => h) (Or.inl ⟨by rfl, ?_⟩) SV ?_
                      · intro X hX; go_simp
                      try simp only [Act.put, List.setIfInBounds_toArray, List.set_cons_succ, List.set_cons_zero]
                      refine wpAnyH_takeD (i := 10) (v := .agg #[.int .i64 M.x, .int .i64 M.y, .int .i64 M.w, .int .i64 M.h]) (some 88) rfl rfl (by kernel_rfl) (by kernel_rfl) (by kernel_rfl) (fun _ _ _ h => h) (Or.inl ⟨by rfl, ?_⟩) SV ?_
                      · intro X hX; go_simp
                      try simp only [Act.put, List.setIfInBounds_toArray, List.set_cons_succ, List.set_cons_zero]
                      refine wpAnyH_takeD (i := 11) (v := .int .i64 0) (some 89) rfl rfl (by kernel_rfl) (by kernel_rfl) (by kernel_rfl) (fun _ _ _ h => h) (Or.inl ⟨by rfl, ?_⟩) SV ?_
                      · intro X hX; go_simp
                      try simp only [Act.put, List.setIfInBounds_toArray, List.set_cons_succ, List.set_cons_zero]
                      have y0 := HG.out.free 0
                      have y1 := HG.out.free 1
                      have y2 := HG.out.free 2
                      have y3 := HG.out.free 3
                      have z0 := HG.out.cellAt 0
                      have z1 := HG.out.cellAt 1
                      have z2 := HG.out.cellAt 2
                      have z3 := HG.out.cellAt 3
                      have yl := HG.out.lt
                      refine wpAnyH_all (rs := [13]) (by kernel_rfl) (by simp) ?_
                      intro ii hii; obtain rfl : ii = 13 := by simpa using hii
                      refine wpOp_step rfl (fun K hK => ?_)
                      go_simp
                      have SX := (((SV.out.setCell (p := ⟨g, 0, none⟩) hgw (.int .i64 M.x)).setCell (p := ⟨g, 1, none⟩) hgw (.int .i64 M.y)).setCell (p := ⟨g, 2, none⟩) hgw (.int .i64 M.w)).setCell (p := ⟨g, 3, none⟩) hgw (.int .i64 M.h)
                      have KX := (((HG.out.set 0 (.int .i64 M.x)).set 1 (.int .i64 M.y)).set 2 (.int .i64 M.w)).set 3 (.int .i64 M.h)
                      clear z0 z1 z2 z3 y0 y1 y2 y3 yl
                      refine hK _ _ ⟨Lib.hid SX, ?_⟩
                      clear hK K hii
                      refine wpAnyH_takeD (i := 14) (v := .int .i64 0) (some 16) rfl rfl (by kernel_rfl) (by kernel_rfl) (by kernel_rfl) (fun _ _ _ h => h) (Or.inl ⟨by rfl, ?_⟩) (Lib.hid SX) ?_
                      · intro X hX; go_simp
                      try simp only [Act.put, List.setIfInBounds_toArray, List.set_cons_succ, List.set_cons_zero]
                      refine wpAnyH_done (by kernel_rfl) ?_ _
                      refine at_worldQ (fun Y => Below wr.heap.size wr Y ∧ Whole Y g 38 M.cells) ⟨SX, KX⟩ (fun Y hY => ?_)
                      obtain ⟨SY, KY⟩ := hY
                      clear SX KX HG SV
                      have HTY := Lib.hid (HT.out.below SY)
                      have k0 : Y.cell? ⟨g, 0, none⟩ = some (.int .i64 M.x) := KY.cellAt 0
                      have k1 : Y.cell? ⟨g, 1, none⟩ = some (.int .i64 M.y) := KY.cellAt 1
                      have k2 : Y.cell? ⟨g, 2, none⟩ = some (.int .i64 M.w) := KY.cellAt 2
                      have k3 : Y.cell? ⟨g, 3, none⟩ = some (.int .i64 M.h) := KY.cellAt 3
                      have lg := KY.lt
                      clear SY KY e0 e1 e2 e3 f0 f1 f2 f3 HT HMT2
                      obtain ⟨t, ht⟩ : ∃ t, emptyB M = t := ⟨_, rfl⟩
                      have NN := Lib.hid (fun X => ht ▸ none_any M.x M.y M.w M.h X)
                      have HME := Lib.hid ht
                      clear ht
                      go_wp2_with (go_at_call 21; refine (NN.out _).mono ?_; clear NN; rintro e w2 ⟨rfl, hb2⟩; have HT2 := Lib.hid (HTY.out.below hb2); clear hb2 HTY k0 k1 k2 k3 lg; refine Hid.out ?_)
                      refine Lib.hid ?_
                      cases t with
                      | true =>
                        have HJ2 : Hid (∀ (c : Nat) (p : R), c < j + 1 → zs[c]? = some p → emptyB (meetP p ⟨qx, qy, qw, qh⟩) = true) := Lib.hid (fun c p h hp => by
                          by_cases hc : c < j
                          · exact HJ.out c p hc hp
                          · obtain rfl : c = j := by omega
                            rw [HPQ.out] at hp
                            cases hp
                            rw [HMM2.out]; exact HME.out)
                        clear HJ HMM2 HME
                        go_wp2
                        go_roundw
                        case rel => exact ⟨j + 1, by omega, by go_num, HT2, HJ2⟩
                        case measure => simp [intOf]; omega
                      | false =>
                        have htf : tb = false := by
                          cases htc : tb with
                          | false => rfl
                          | true => exact absurd (HDOC.out.1 htc).2.1 (pair_bad hlj HPQ.out HQ.out HE.out (by rw [HMM2.out]; exact HME.out))
                        have HF := Lib.hid HT2.out.lo
                        subst htf
                        clear HT2 HMM2 HME HJ
                        go_wp2
                        go_ret2
                        exact ⟨rfl, HF.out⟩
                  · have hji : j = i := by omega
                    have HP3 := Lib.hid (apart_next HP.out HQ.out (fun _ c p h hp => HJ.out c p (by omega) hp))
                    obtain ⟨hd1, hd2⟩ := docX_next ⟨x, y, u, v⟩ zs i _ HQ.out HE.out
                    have HD := Lib.hid (And.intro hd1 hd2)
                    have HTa := HT
                    have lw := HT.out.lo.size
                    clear hd1 hd2 HJ hji HP HT
                    go_wp2
                    refine region_held_at (S := fun X => Hid (Below w.heap.size w X)) (by kernel_rfl) (fun wa5 hw5 => ?_)
                    have bW : Below wr.heap.size wr wa5 := by rw [← hw5]; exact (Below.refl _ _).drew
                    have HT5a := Lib.hid (HTa.out.below bW)
                    have SV := Lib.hid HT5a.out.lo
                    have hloa := HT5a.out.lo.size
                    have tla := (docX_len ⟨x, y, u, v⟩ (zs.take i)).1
                    rw [List.length_take] at tla
                    obtain ⟨va9, wa9, hr7, hown9, hgrow9, _, hf9⟩ := run_append_own_at (P := Try.prog) (wa5.alloc (.cells #[.int .i64 qx, .int .i64 (qx + qw)] 2)) w.heap.size 22 22 2 i8 (.int .i64 0) 1 8 Try.underlying22 hi8 HZ0.out HZ1.out HZ2.out rfl (by decide) (.slice px nx cx) _ _ (HT5a.out.ox.alloc _) ⟨wa5.heap.size, 0, none⟩ 2 2 [.int .i64 qx, .int .i64 (qx + qw)] rfl (two_new _ _ _ _) (by simp [Value.oneCell']) (by unfold maxLen; omega) (by omega) (by simp <;> omega)
                    have SA : Hid (Below w.heap.size w (wa5.alloc (.cells #[.int .i64 qx, .int .i64 (qx + qw)] 2))) := Lib.hid (SV.out.alloc hloa _)
                    have HTb : Hid _ := Lib.hid (HT5a.out.pushX2 (a := qx) (b := qx + qw) hown9 hgrow9 hf9)
                    have S9 := Lib.hid HTb.out.lo
                    clear hw5 bW HTa HT5a tla hown9 hgrow9 hf9
                    try simp only [Act.put, List.setIfInBounds_toArray, List.set_cons_succ, List.set_cons_zero]
                    refine wpAnyH_takeD (i := 0) (v := .slice px nx cx) (some 93) rfl rfl (by kernel_rfl) (by kernel_rfl) (by kernel_rfl) (fun _ _ _ h => h) (Or.inl ⟨by rfl, ?_⟩) SV ?_
                    · intro X hX; go_simp
                    try simp only [Act.put, List.setIfInBounds_toArray, List.set_cons_succ, List.set_cons_zero]
                    refine wpAnyH_takeD (i := 1) (v := .slice (some ⟨b, off, none⟩) k cap) (some 94) rfl rfl (by kernel_rfl) (by kernel_rfl) (by kernel_rfl) (fun _ _ _ h => h) (Or.inl ⟨by rfl, ?_⟩) SV ?_
                    · intro X hX; go_simp
                    try simp only [Act.put, List.setIfInBounds_toArray, List.set_cons_succ, List.set_cons_zero]
                    refine wpAnyH_takeD (i := 2) (v := .int .i64 i) (some 95) rfl rfl (by kernel_rfl) (by kernel_rfl) (by kernel_rfl) (fun _ _ _ h => h) (Or.inl ⟨by rfl, ?_⟩) SV ?_
                    · intro X hX; go_simp
                    try simp only [Act.put, List.setIfInBounds_toArray, List.set_cons_succ, List.set_cons_zero]
                    refine wpAnyH_takeD (i := 3) (v := .pointer (some ⟨b, off + i * 4, none⟩)) (some 96) rfl rfl (by kernel_rfl) (by kernel_rfl) (by kernel_rfl) (fun _ _ _ h => h) (Or.inl ⟨by rfl, ?_⟩) SV ?_
                    · intro X hX; go_simp
                    try simp only [Act.put, List.setIfInBounds_toArray, List.set_cons_succ, List.set_cons_zero]
                    refine wpAnyH_takeD (i := 4) (v := .pointer (some ⟨b, off + i * 4, none⟩)) (some 97) rfl rfl (by kernel_rfl) (by kernel_rfl) (by kernel_rfl) (fun _ _ _ h => h) (Or.inl ⟨by rfl, ?_⟩) SV ?_
                    · intro X hX; go_simp
                    try simp only [Act.put, List.setIfInBounds_toArray, List.set_cons_succ, List.set_cons_zero]
                    refine wpAnyH_takeD (i := 5) (v := .int .i64 qx) (some 98) rfl rfl (by kernel_rfl) (by kernel_rfl) (by kernel_rfl) (fun _ _ _ h => h) (Or.inl ⟨by rfl, ?_⟩) SV ?_
                    · intro X hX; have o0 := (hX.out.cell (p := ⟨b, off + i * 4, none⟩) lb).trans q0; have lX := hX.out.size; have lbX : b < X.heap.size := by omega
                      go_simp
                    try simp only [Act.put, List.setIfInBounds_toArray, List.set_cons_succ, List.set_cons_zero]
                    refine wpAnyH_takeD (i := 6) (v := .slice (some ⟨b, off, none⟩) k cap) (some 99) rfl rfl (by kernel_rfl) (by kernel_rfl) (by kernel_rfl) (fun _ _ _ h => h) (Or.inl ⟨by rfl, ?_⟩) SV ?_
                    · intro X hX; go_simp
                    try simp only [Act.put, List.setIfInBounds_toArray, List.set_cons_succ, List.set_cons_zero]
                    refine wpAnyH_takeD (i := 7) (v := .int .i64 i) (some 100) rfl rfl (by kernel_rfl) (by kernel_rfl) (by kernel_rfl) (fun _ _ _ h => h) (Or.inl ⟨by rfl, ?_⟩) SV ?_
                    · intro X hX; go_simp
                    try simp only [Act.put, List.setIfInBounds_toArray, List.set_cons_succ, List.set_cons_zero]
                    refine wpAnyH_takeD (i := 8) (v := .pointer (some ⟨b, off + i * 4, none⟩)) (some 101) rfl rfl (by kernel_rfl) (by kernel_rfl) (by kernel_rfl) (fun _ _ _ h => h) (Or.inl ⟨by rfl, ?_⟩) SV ?_
                    · intro X hX; go_simp
                    try simp only [Act.put, List.setIfInBounds_toArray, List.set_cons_succ, List.set_cons_zero]
                    refine wpAnyH_takeD (i := 9) (v := .pointer (some ⟨b, off + i * 4, none⟩)) (some 102) rfl rfl (by kernel_rfl) (by kernel_rfl) (by kernel_rfl) (fun _ _ _ h => h) (Or.inl ⟨by rfl, ?_⟩) SV ?_
                    · intro X hX; go_simp
                    try simp only [Act.put, List.setIfInBounds_toArray, List.set_cons_succ, List.set_cons_zero]
                    refine wpAnyH_takeD (i := 10) (v := .int .i64 qx) (some 103) rfl rfl (by kernel_rfl) (by kernel_rfl) (by kernel_rfl) (fun _ _ _ h => h) (Or.inl ⟨by rfl, ?_⟩) SV ?_
                    · intro X hX; have o0 := (hX.out.cell (p := ⟨b, off + i * 4, none⟩) lb).trans q0; have lX := hX.out.size; have lbX : b < X.heap.size := by omega
                      go_simp
                    try simp only [Act.put, List.setIfInBounds_toArray, List.set_cons_succ, List.set_cons_zero]
                    refine wpAnyH_takeD (i := 11) (v := .slice (some ⟨b, off, none⟩) k cap) (some 104) rfl rfl (by kernel_rfl) (by kernel_rfl) (by kernel_rfl) (fun _ _ _ h => h) (Or.inl ⟨by rfl, ?_⟩) SV ?_
                    · intro X hX; go_simp
                    try simp only [Act.put, List.setIfInBounds_toArray, List.set_cons_succ, List.set_cons_zero]
                    refine wpAnyH_takeD (i := 12) (v := .int .i64 i) (some 105) rfl rfl (by kernel_rfl) (by kernel_rfl) (by kernel_rfl) (fun _ _ _ h => h) (Or.inl ⟨by rfl, ?_⟩) SV ?_
                    · intro X hX; go_simp
                    try simp only [Act.put, List.setIfInBounds_toArray, List.set_cons_succ, List.set_cons_zero]
                    refine wpAnyH_takeD (i := 13) (v := .pointer (some ⟨b, off + i * 4, none⟩)) (some 106) rfl rfl (by kernel_rfl) (by kernel_rfl) (by kernel_rfl) (fun _ _ _ h => h) (Or.inl ⟨by rfl, ?_⟩) SV ?_
                    · intro X hX; go_simp
                    try simp only [Act.put, List.setIfInBounds_toArray, List.set_cons_succ, List.set_cons_zero]
                    refine wpAnyH_takeD (i := 14) (v := .pointer (some ⟨b, off + i * 4 + 2, none⟩)) (some 107) rfl rfl (by kernel_rfl) (by kernel_rfl) (by kernel_rfl) (fun _ _ _ h => h) (Or.inl ⟨by rfl, ?_⟩) SV ?_
                    · intro X hX; go_simp
                    try simp only [Act.put, List.setIfInBounds_toArray, List.set_cons_succ, List.set_cons_zero]
                    refine wpAnyH_takeD (i := 15) (v := .int .i64 qw) (some 108) rfl rfl (by kernel_rfl) (by kernel_rfl) (by kernel_rfl) (fun _ _ _ h => h) (Or.inl ⟨by rfl, ?_⟩) SV ?_
                    · intro X hX; have o0 := (hX.out.cell (p := ⟨b, off + i * 4 + 2, none⟩) lb).trans q2; have lX := hX.out.size; have lbX : b < X.heap.size := by omega
                      go_simp
                    try simp only [Act.put, List.setIfInBounds_toArray, List.set_cons_succ, List.set_cons_zero]
                    refine wpAnyH_takeD (i := 16) (v := .int .i64 (qx + qw)) (some 109) rfl rfl (by kernel_rfl) (by kernel_rfl) (by kernel_rfl) (fun _ _ _ h => h) (Or.inl ⟨by rfl, ?_⟩) SV ?_
                    · intro X hX; go_simp
                    try simp only [Act.put, List.setIfInBounds_toArray, List.set_cons_succ, List.set_cons_zero]
                    refine wpAnyH_all (rs := [17]) (by kernel_rfl) (by simp) ?_
                    intro ii hii; obtain rfl : ii = 17 := by simpa using hii
                    refine wpOp_step rfl (fun K hK => ?_)
                    go_simp
                    refine hK _ _ ⟨SA, ?_⟩
                    clear hK K hii
                    try simp only [Act.put, List.setIfInBounds_toArray, List.set_cons_succ, List.set_cons_zero]
                    refine wpAnyH_all (rs := [18]) (by kernel_rfl) (by simp) ?_
                    intro ii hii; obtain rfl : ii = 18 := by simpa using hii
                    refine wpOp_step rfl (fun K hK => ?_)
                    refine wp_append_runD (some 111) rfl _ _ _ rfl _ _ _ rfl rfl hr7 ?_
                    refine hK _ _ ⟨S9, ?_⟩
                    clear hK K hii hr7 SA SV hloa
                    try simp only [Act.put, List.setIfInBounds_toArray, List.set_cons_succ, List.set_cons_zero]
                    refine wpAnyH_takeD (i := 19) (v := va9) (some 9) rfl rfl (by kernel_rfl) (by kernel_rfl) (by kernel_rfl) (fun _ _ _ h => h) (Or.inl ⟨by rfl, ?_⟩) S9 ?_
                    · intro X hX; go_simp
                    try simp only [Act.put, List.setIfInBounds_toArray, List.set_cons_succ, List.set_cons_zero]
                    refine wpAnyH_done (by kernel_rfl) ?_ _
                    clear S9
                    go_wp2
                    refine region_held_at (S := fun X => Hid (Below w.heap.size w X)) (by kernel_rfl) (fun wb5 hw5 => ?_)
                    have bW : Below wa9.heap.size wa9 wb5 := by rw [← hw5]; exact (Below.refl _ _).drew
                    have HT5b := Lib.hid (HTb.out.below bW)
                    have SV := Lib.hid HT5b.out.lo
                    have hlob := HT5b.out.lo.size
                    have tlb := (docX_len ⟨x, y, u, v⟩ (zs.take i)).2
                    rw [List.length_take] at tlb
                    obtain ⟨vb9, wb9, hr7, hown9, hgrow9, _, hf9⟩ := run_append_own_at (P := Try.prog) (wb5.alloc (.cells #[.int .i64 qy, .int .i64 (qy + qh)] 2)) w.heap.size 22 22 2 i8 (.int .i64 0) 1 8 Try.underlying22 hi8 HZ0.out HZ1.out HZ2.out rfl (by decide) (.slice py ny cy) _ _ (HT5b.out.oy.alloc _) ⟨wb5.heap.size, 0, none⟩ 2 2 [.int .i64 qy, .int .i64 (qy + qh)] rfl (two_new _ _ _ _) (by simp [Value.oneCell']) (by unfold maxLen; omega) (by omega) (by simp <;> omega)
                    have SA : Hid (Below w.heap.size w (wb5.alloc (.cells #[.int .i64 qy, .int .i64 (qy + qh)] 2))) := Lib.hid (SV.out.alloc hlob _)
                    have HTc : Hid _ := Lib.hid (HT5b.out.pushY2 (a := qy) (b := qy + qh) hown9 hgrow9 hf9)
                    have S9 := Lib.hid HTc.out.lo
                    clear hw5 bW HTb HT5b tlb hown9 hgrow9 hf9
                    try simp only [Act.put, List.setIfInBounds_toArray, List.set_cons_succ, List.set_cons_zero]
                    refine wpAnyH_takeD (i := 0) (v := .slice py ny cy) (some 112) rfl rfl (by kernel_rfl) (by kernel_rfl) (by kernel_rfl) (fun _ _ _ h => h) (Or.inl ⟨by rfl, ?_⟩) SV ?_
                    · intro X hX; go_simp
                    try simp only [Act.put, List.setIfInBounds_toArray, List.set_cons_succ, List.set_cons_zero]
                    refine wpAnyH_takeD (i := 1) (v := .slice (some ⟨b, off, none⟩) k cap) (some 113) rfl rfl (by kernel_rfl) (by kernel_rfl) (by kernel_rfl) (fun _ _ _ h => h) (Or.inl ⟨by rfl, ?_⟩) SV ?_
                    · intro X hX; go_simp
                    try simp only [Act.put, List.setIfInBounds_toArray, List.set_cons_succ, List.set_cons_zero]
                    refine wpAnyH_takeD (i := 2) (v := .int .i64 i) (some 114) rfl rfl (by kernel_rfl) (by kernel_rfl) (by kernel_rfl) (fun _ _ _ h => h) (Or.inl ⟨by rfl, ?_⟩) SV ?_
                    · intro X hX; go_simp
                    try simp only [Act.put, List.setIfInBounds_toArray, List.set_cons_succ, List.set_cons_zero]
                    refine wpAnyH_takeD (i := 3) (v := .pointer (some ⟨b, off + i * 4, none⟩)) (some 115) rfl rfl (by kernel_rfl) (by kernel_rfl) (by kernel_rfl) (fun _ _ _ h => h) (Or.inl ⟨by rfl, ?_⟩) SV ?_
                    · intro X hX; go_simp
                    try simp only [Act.put, List.setIfInBounds_toArray, List.set_cons_succ, List.set_cons_zero]
                    refine wpAnyH_takeD (i := 4) (v := .pointer (some ⟨b, off + i * 4 + 1, none⟩)) (some 116) rfl rfl (by kernel_rfl) (by kernel_rfl) (by kernel_rfl) (fun _ _ _ h => h) (Or.inl ⟨by rfl, ?_⟩) SV ?_
                    · intro X hX; go_simp
                    try simp only [Act.put, List.setIfInBounds_toArray, List.set_cons_succ, List.set_cons_zero]
                    refine wpAnyH_takeD (i := 5) (v := .int .i64 qy) (some 117) rfl rfl (by kernel_rfl) (by kernel_rfl) (by kernel_rfl) (fun _ _ _ h => h) (Or.inl ⟨by rfl, ?_⟩) SV ?_
                    · intro X hX; have o0 := (hX.out.cell (p := ⟨b, off + i * 4 + 1, none⟩) lb).trans q1; have lX := hX.out.size; have lbX : b < X.heap.size := by omega
                      go_simp
                    try simp only [Act.put, List.setIfInBounds_toArray, List.set_cons_succ, List.set_cons_zero]
                    refine wpAnyH_takeD (i := 6) (v := .slice (some ⟨b, off, none⟩) k cap) (some 118) rfl rfl (by kernel_rfl) (by kernel_rfl) (by kernel_rfl) (fun _ _ _ h => h) (Or.inl ⟨by rfl, ?_⟩) SV ?_
                    · intro X hX; go_simp
                    try simp only [Act.put, List.setIfInBounds_toArray, List.set_cons_succ, List.set_cons_zero]
                    refine wpAnyH_takeD (i := 7) (v := .int .i64 i) (some 119) rfl rfl (by kernel_rfl) (by kernel_rfl) (by kernel_rfl) (fun _ _ _ h => h) (Or.inl ⟨by rfl, ?_⟩) SV ?_
                    · intro X hX; go_simp
                    try simp only [Act.put, List.setIfInBounds_toArray, List.set_cons_succ, List.set_cons_zero]
                    refine wpAnyH_takeD (i := 8) (v := .pointer (some ⟨b, off + i * 4, none⟩)) (some 120) rfl rfl (by kernel_rfl) (by kernel_rfl) (by kernel_rfl) (fun _ _ _ h => h) (Or.inl ⟨by rfl, ?_⟩) SV ?_
                    · intro X hX; go_simp
                    try simp only [Act.put, List.setIfInBounds_toArray, List.set_cons_succ, List.set_cons_zero]
                    refine wpAnyH_takeD (i := 9) (v := .pointer (some ⟨b, off + i * 4 + 1, none⟩)) (some 121) rfl rfl (by kernel_rfl) (by kernel_rfl) (by kernel_rfl) (fun _ _ _ h => h) (Or.inl ⟨by rfl, ?_⟩) SV ?_
                    · intro X hX; go_simp
                    try simp only [Act.put, List.setIfInBounds_toArray, List.set_cons_succ, List.set_cons_zero]
                    refine wpAnyH_takeD (i := 10) (v := .int .i64 qy) (some 122) rfl rfl (by kernel_rfl) (by kernel_rfl) (by kernel_rfl) (fun _ _ _ h => h) (Or.inl ⟨by rfl, ?_⟩) SV ?_
                    · intro X hX; have o0 := (hX.out.cell (p := ⟨b, off + i * 4 + 1, none⟩) lb).trans q1; have lX := hX.out.size; have lbX : b < X.heap.size := by omega
                      go_simp
                    try simp only [Act.put, List.setIfInBounds_toArray, List.set_cons_succ, List.set_cons_zero]
                    refine wpAnyH_takeD (i := 11) (v := .slice (some ⟨b, off, none⟩) k cap) (some 123) rfl rfl (by kernel_rfl) (by kernel_rfl) (by kernel_rfl) (fun _ _ _ h => h) (Or.inl ⟨by rfl, ?_⟩) SV ?_
                    · intro X hX; go_simp
                    try simp only [Act.put, List.setIfInBounds_toArray, List.set_cons_succ, List.set_cons_zero]
                    refine wpAnyH_takeD (i := 12) (v := .int .i64 i) (some 124) rfl rfl (by kernel_rfl) (by kernel_rfl) (by kernel_rfl) (fun _ _ _ h => h) (Or.inl ⟨by rfl, ?_⟩) SV ?_
                    · intro X hX; go_simp
                    try simp only [Act.put, List.setIfInBounds_toArray, List.set_cons_succ, List.set_cons_zero]
                    refine wpAnyH_takeD (i := 13) (v := .pointer (some ⟨b, off + i * 4, none⟩)) (some 125) rfl rfl (by kernel_rfl) (by kernel_rfl) (by kernel_rfl) (fun _ _ _ h => h) (Or.inl ⟨by rfl, ?_⟩) SV ?_
                    · intro X hX; go_simp
                    try simp only [Act.put, List.setIfInBounds_toArray, List.set_cons_succ, List.set_cons_zero]
                    refine wpAnyH_takeD (i := 14) (v := .pointer (some ⟨b, off + i * 4 + 3, none⟩)) (some 126) rfl rfl (by kernel_rfl) (by kernel_rfl) (by kernel_rfl) (fun _ _ _ h => h) (Or.inl ⟨by rfl, ?_⟩) SV ?_
                    · intro X hX; go_simp
                    try simp only [Act.put, List.setIfInBounds_toArray, List.set_cons_succ, List.set_cons_zero]
                    refine wpAnyH_takeD (i := 15) (v := .int .i64 qh) (some 127) rfl rfl (by kernel_rfl) (by kernel_rfl) (by kernel_rfl) (fun _ _ _ h => h) (Or.inl ⟨by rfl, ?_⟩) SV ?_
                    · intro X hX; have o0 := (hX.out.cell (p := ⟨b, off + i * 4 + 3, none⟩) lb).trans q3; have lX := hX.out.size; have lbX : b < X.heap.size := by omega
                      go_simp
                    try simp only [Act.put, List.setIfInBounds_toArray, List.set_cons_succ, List.set_cons_zero]
                    refine wpAnyH_takeD (i := 16) (v := .int .i64 (qy + qh)) (some 128) rfl rfl (by kernel_rfl) (by kernel_rfl) (by kernel_rfl) (fun _ _ _ h => h) (Or.inl ⟨by rfl, ?_⟩) SV ?_
                    · intro X hX; go_simp
                    try simp only [Act.put, List.setIfInBounds_toArray, List.set_cons_succ, List.set_cons_zero]
                    refine wpAnyH_all (rs := [17]) (by kernel_rfl) (by simp) ?_
                    intro ii hii; obtain rfl : ii = 17 := by simpa using hii
                    refine wpOp_step rfl (fun K hK => ?_)
                    go_simp
                    refine hK _ _ ⟨SA, ?_⟩
                    clear hK K hii
                    try simp only [Act.put, List.setIfInBounds_toArray, List.set_cons_succ, List.set_cons_zero]
                    refine wpAnyH_all (rs := [18]) (by kernel_rfl) (by simp) ?_
                    intro ii hii; obtain rfl : ii = 18 := by simpa using hii
                    refine wpOp_step rfl (fun K hK => ?_)
                    refine wp_append_runD (some 130) rfl _ _ _ rfl _ _ _ rfl rfl hr7 ?_
                    refine hK _ _ ⟨S9, ?_⟩
                    clear hK K hii hr7 SA SV hlob
                    try simp only [Act.put, List.setIfInBounds_toArray, List.set_cons_succ, List.set_cons_zero]
                    refine wpAnyH_takeD (i := 19) (v := vb9) (some 10) rfl rfl (by kernel_rfl) (by kernel_rfl) (by kernel_rfl) (fun _ _ _ h => h) (Or.inl ⟨by rfl, ?_⟩) S9 ?_
                    · intro X hX; go_simp
                    try simp only [Act.put, List.setIfInBounds_toArray, List.set_cons_succ, List.set_cons_zero]
                    refine wpAnyH_done (by kernel_rfl) ?_ _
                    clear S9
                    go_wp2
                    have H3 := Lib.hid (show TW w ⟨x, y, u, v⟩ va9 vb9 (docX ⟨x, y, u, v⟩ (zs.take (i + 1))) (docY ⟨x, y, u, v⟩ (zs.take (i + 1))) wb9 from by rw [HD.out.1, HD.out.2]; exact HTc.out)
                    clear HTc HD
                    go_roundw
                    case rel => exact ⟨i + 1, by omega, by go_num, H3, HV3, HP3⟩
                    case measure => simp [intOf]; omega
              · have hE : ∀ X : World, (binOp .neq 38 (.agg #[.int .i64 mx, .int .i64 my, .int .i64 mw, .int .i64 mh]) (.agg #[.int .i64 qx, .int .i64 qy, .int .i64 qw, .int .i64 qh])).run Try.prog X = .ok (.bool true) X := fun X => by
                  have := rect_eql ⟨mx, my, mw, mh⟩ ⟨qx, qy, qw, qh⟩ X
                  rw [decide_eq_false hme] at this
                  exact this
                have htf : tb = false := by
                  cases htc : tb with
                  | false => rfl
                  | true => exact absurd (HMM.out.symm.trans ((HDOC.out.1 htc).1 _ (List.mem_iff_getElem?.2 ⟨i, HQ.out⟩) HE.out)) hme
                have HF := Lib.hid HTY.out.lo
                subst htf
                clear hme HTY HMM
                go_wp2
                go_quiet (fail)
                go_wp2
                go_ret2
                exact ⟨rfl, HF.out.trans (below_dn _ _ _)⟩

        · have hik : k = i := by omega
          have HTz : Hid (TW w ⟨x, y, u, v⟩ u9 u10 (docX ⟨x, y, u, v⟩ zs) (docY ⟨x, y, u, v⟩ zs) wr) := Lib.hid (by
            have h := HT.out
            rwa [List.take_of_length_le (by rw [HM.out, hik]; exact Nat.le_refl _)] at h)
          have HVz : Hid (∀ q ∈ zs, emptyB q = false → meetP ⟨x, y, u, v⟩ q = q) := Lib.hid (by
            have h := HV.out
            rwa [List.take_of_length_le (by rw [HM.out, hik]; exact Nat.le_refl _)] at h)
          have HPz : Hid (zs.Pairwise fun p q => emptyB q = false → emptyB (meetP p q) = true) := Lib.hid (by
            have h := HP.out
            rwa [List.take_of_length_le (by rw [HM.out, hik]; exact Nat.le_refl _)] at h)
          obtain ⟨XS, hXS⟩ : ∃ XS, docX ⟨x, y, u, v⟩ zs = XS := ⟨_, rfl⟩
          obtain ⟨YS, hYS⟩ : ∃ YS, docY ⟨x, y, u, v⟩ zs = YS := ⟨_, rfl⟩
          have hlx := (docX_len ⟨x, y, u, v⟩ zs).1
          have hly := (docX_len ⟨x, y, u, v⟩ zs).2
          rw [hXS, HM.out] at hlx
          rw [hYS, HM.out] at hly
          rw [hXS, hYS] at HTz
          have HXS := Lib.hid hXS
          have HYS := Lib.hid hYS
          obtain ⟨nX, hnX⟩ : ∃ nX, XS.length = nX := ⟨_, rfl⟩
          obtain ⟨nY, hnY⟩ : ∃ nY, YS.length = nY := ⟨_, rfl⟩
          have hox := HTz.out.ox
          have hoy := HTz.out.oy
          rw [hnX] at hlx hox
          rw [hnY] at hly hoy
          obtain ⟨px, cx, rfl, _⟩ := own_cellI hox hnX
          obtain ⟨py, cy, rfl, _⟩ := own_cellI hoy hnY
          have HNX := Lib.hid hnX
          have HNY := Lib.hid hnY
          clear hXS hYS HT HV HP hnX hnY hox hoy hlt hi
          subst hik
          go_wp2
          go_loopw [17] (fun s17 X => ∃ a : Nat, a ≤ nX ∧ s17 = .int .i64 (a : Int) ∧ Hid (TW w ⟨x, y, u, v⟩ (.slice px nX cx) (.slice py nY cy) XS YS X) ∧ Hid (∀ (c : Nat) (X0 : Int), c < a → XS[c]? = some X0 → ∀ Y0 ∈ YS, hasB ⟨x, y, u, v⟩ X0 Y0 = true → (zs.any fun q => hasB q X0 Y0) = true)) (fun s17 _ => nX - (intOf s17).toNat)
          case atStart => exact ⟨0, Nat.zero_le _, rfl, HTz, Lib.hid (fun c X0 h => absurd h (Nat.not_lt_zero _))⟩
          case round =>
            clear HTz
            obtain ⟨a, ha, rfl, HT, HK⟩ := hrel
            by_cases hla : a < nX
            · obtain ⟨xa, hxa⟩ : ∃ xa, XS[a]? = some xa := ⟨_, List.getElem?_eq_getElem (by rw [HNX.out]; exact hla)⟩
              have HXA := Lib.hid hxa
              clear hxa
              go_wp2
              go_loopw [18] (fun s18 X => ∃ d : Nat, d ≤ nY ∧ s18 = .int .i64 (d : Int) ∧ Hid (TW w ⟨x, y, u, v⟩ (.slice px nX cx) (.slice py nY cy) XS YS X) ∧ Hid (∀ (c : Nat) (Y0 : Int), c < d → YS[c]? = some Y0 → hasB ⟨x, y, u, v⟩ xa Y0 = true → (zs.any fun q => hasB q xa Y0) = true)) (fun s18 _ => nY - (intOf s18).toNat)
              case atStart => exact ⟨0, Nat.zero_le _, rfl, HT, Lib.hid (fun c Y0 h => absurd h (Nat.not_lt_zero _))⟩
              case round =>
                clear HT
                obtain ⟨d, hd, rfl, HT, HJ⟩ := hrel
                by_cases hld : d < nY
                · obtain ⟨yd, hyd⟩ : ∃ yd, YS[d]? = some yd := ⟨_, List.getElem?_eq_getElem (by rw [HNY.out]; exact hld)⟩
                  have HYD := Lib.hid hyd
                  obtain ⟨px', cx', hpe, hcx⟩ := own_cellI HT.out.ox rfl
                  obtain ⟨gx, hgx, lxa, cxa⟩ := hcx a xa HXA.out
                  injection hpe with h1 h2 h3
                  rw [hgx] at h1
                  obtain ⟨py', cy', hpe', hcy⟩ := own_cellI HT.out.oy rfl
                  obtain ⟨gy, hgy, lyd, cyd⟩ := hcy d yd hyd
                  injection hpe' with h1' h2' h3'
                  rw [hgy] at h1'
                  subst h1 h1'
                  have b0 : wr.cell? ⟨w.heap.size, 0, none⟩ = some (.int .i64 x) := HT.out.bx.cellAt 0
                  have b1 : wr.cell? ⟨w.heap.size, 1, none⟩ = some (.int .i64 y) := HT.out.bx.cellAt 1
                  have b2 : wr.cell? ⟨w.heap.size, 2, none⟩ = some (.int .i64 u) := HT.out.bx.cellAt 2
                  have b3 : wr.cell? ⟨w.heap.size, 3, none⟩ = some (.int .i64 v) := HT.out.bx.cellAt 3
                  have lbx := HT.out.bx.lt
                  obtain ⟨t, hte⟩ : ∃ t, hasB ⟨x, y, u, v⟩ xa yd = t := ⟨_, rfl⟩
                  obtain ⟨s, hse⟩ : ∃ s, (zs.any fun q => hasB q xa yd) = s := ⟨_, rfl⟩
                  have HAT := Lib.hid (fun X => hte ▸ at_any x y u v xa yd X HR.out)
                  have HHAS := Lib.hid (fun X (hX : Hid (Below wr.heap.size wr X)) => hse ▸ has_any (.slice p k cap) zs xa yd X ((HI.out.below HT.out.lo).below hX.out) HLS.out)
                  have HTE := Lib.hid hte
                  have HSE := Lib.hid hse
                  clear hyd hcx hcy hte hse
                  (try clear hgx); (try clear hgy); (try clear h2); (try clear h3); (try clear h2'); (try clear h3')
                  go_wp2
                  refine region_held_at (S := fun X => Hid (Below wr.heap.size wr X)) (by kernel_rfl) (fun w9 hw9 => ?_)
                  have SV : Hid (Below wr.heap.size wr w9) := Lib.hid (by rw [← hw9]; exact (Below.refl _ _).drew)
                  clear hw9
                  try simp only [Act.put, List.setIfInBounds_toArray, List.set_cons_succ, List.set_cons_zero]
                  refine wpAnyH_takeD (i := 0) (v := .agg #[.int .i64 x, .int .i64 y, .int .i64 u, .int .i64 v]) (some 143) rfl rfl (by kernel_rfl) (by kernel_rfl) (by kernel_rfl) (fun _ _ _ h => h) (Or.inl ⟨by rfl, ?_⟩) SV ?_
                  · intro X hX; have o0 := (hX.out.cell (p := ⟨w.heap.size, 0, none⟩) lbx).trans b0; have o1 := (hX.out.cell (p := ⟨w.heap.size, 1, none⟩) lbx).trans b1; have o2 := (hX.out.cell (p := ⟨w.heap.size, 2, none⟩) lbx).trans b2; have o3 := (hX.out.cell (p := ⟨w.heap.size, 3, none⟩) lbx).trans b3; go_simp
                  try simp only [Act.put, List.setIfInBounds_toArray, List.set_cons_succ, List.set_cons_zero]
                  refine wpAnyH_takeD (i := 1) (v := .slice (some ⟨gx, 0, none⟩) nX cx) (some 144) rfl rfl (by kernel_rfl) (by kernel_rfl) (by kernel_rfl) (fun _ _ _ h => h) (Or.inl ⟨by rfl, ?_⟩) SV ?_
                  · intro X hX; go_simp
                  try simp only [Act.put, List.setIfInBounds_toArray, List.set_cons_succ, List.set_cons_zero]
                  refine wpAnyH_takeD (i := 2) (v := .int .i64 a) (some 145) rfl rfl (by kernel_rfl) (by kernel_rfl) (by kernel_rfl) (fun _ _ _ h => h) (Or.inl ⟨by rfl, ?_⟩) SV ?_
                  · intro X hX; go_simp
                  try simp only [Act.put, List.setIfInBounds_toArray, List.set_cons_succ, List.set_cons_zero]
                  refine wpAnyH_takeD (i := 3) (v := .pointer (some ⟨gx, a, none⟩)) (some 146) rfl rfl (by kernel_rfl) (by kernel_rfl) (by kernel_rfl) (fun _ _ _ h => h) (Or.inl ⟨by rfl, ?_⟩) SV ?_
                  · intro X hX; go_simp
                  try simp only [Act.put, List.setIfInBounds_toArray, List.set_cons_succ, List.set_cons_zero]
                  refine wpAnyH_takeD (i := 4) (v := .int .i64 xa) (some 147) rfl rfl (by kernel_rfl) (by kernel_rfl) (by kernel_rfl) (fun _ _ _ h => h) (Or.inl ⟨by rfl, ?_⟩) SV ?_
                  · intro X hX; have o0 := (hX.out.cell (p := ⟨gx, a, none⟩) lxa).trans cxa; have lX := hX.out.size; have lbX : gx < X.heap.size := by omega
                    go_simp
                  try simp only [Act.put, List.setIfInBounds_toArray, List.set_cons_succ, List.set_cons_zero]
                  refine wpAnyH_takeD (i := 5) (v := .slice (some ⟨gy, 0, none⟩) nY cy) (some 148) rfl rfl (by kernel_rfl) (by kernel_rfl) (by kernel_rfl) (fun _ _ _ h => h) (Or.inl ⟨by rfl, ?_⟩) SV ?_
                  · intro X hX; go_simp
                  try simp only [Act.put, List.setIfInBounds_toArray, List.set_cons_succ, List.set_cons_zero]
                  refine wpAnyH_takeD (i := 6) (v := .int .i64 d) (some 149) rfl rfl (by kernel_rfl) (by kernel_rfl) (by kernel_rfl) (fun _ _ _ h => h) (Or.inl ⟨by rfl, ?_⟩) SV ?_
                  · intro X hX; go_simp
                  try simp only [Act.put, List.setIfInBounds_toArray, List.set_cons_succ, List.set_cons_zero]
                  refine wpAnyH_takeD (i := 7) (v := .pointer (some ⟨gy, d, none⟩)) (some 150) rfl rfl (by kernel_rfl) (by kernel_rfl) (by kernel_rfl) (fun _ _ _ h => h) (Or.inl ⟨by rfl, ?_⟩) SV ?_
                  · intro X hX; go_simp
                  try simp only [Act.put, List.setIfInBounds_toArray, List.set_cons_succ, List.set_cons_zero]
                  refine wpAnyH_takeD (i := 8) (v := .int .i64 yd) (some 151) rfl rfl (by kernel_rfl) (by kernel_rfl) (by kernel_rfl) (fun _ _ _ h => h) (Or.inl ⟨by rfl, ?_⟩) SV ?_
                  · intro X hX; have o0 := (hX.out.cell (p := ⟨gy, d, none⟩) lyd).trans cyd; have lX := hX.out.size; have lbX : gy < X.heap.size := by omega
                    go_simp
                  try simp only [Act.put, List.setIfInBounds_toArray, List.set_cons_succ, List.set_cons_zero]
                  refine wpAnyH_all (rs := [9]) (by kernel_rfl) (by simp) ?_
                  intro ii hii; obtain rfl : ii = 9 := by simpa using hii
                  refine wpOp_step rfl (fun K hK => ?_)
                  go_simp
                  refine (HAT.out _).mono ?_
                  rintro e w10 ⟨rfl, hb10⟩
                  have S10 : Hid (Below wr.heap.size wr w10) := Lib.hid (SV.out.trans (hb10.mono SV.out.size))
                  refine hK _ _ ⟨S10, ?_⟩
                  clear hK K hb10 SV hii HAT
                  have SV := S10
                  clear S10
                  try simp only [Act.put, List.setIfInBounds_toArray, List.set_cons_succ, List.set_cons_zero]
                  refine wpAnyH_takeD (i := 10) (v := .bool t) (some 153) rfl rfl (by kernel_rfl) (by kernel_rfl) (by kernel_rfl) (fun _ _ _ h => h) (Or.inl ⟨by rfl, ?_⟩) SV ?_
                  · intro X hX; go_simp
                  try simp only [Act.put, List.setIfInBounds_toArray, List.set_cons_succ, List.set_cons_zero]
                  cases t with
                  | false =>
                    have HJ2 : Hid (∀ (c : Nat) (Y0 : Int), c < d + 1 → YS[c]? = some Y0 → hasB ⟨x, y, u, v⟩ xa Y0 = true → (zs.any fun q => hasB q xa Y0) = true) := Lib.hid (fun c Y0 h hY h2 => by
                      by_cases hc : c < d
                      · exact HJ.out c Y0 hc hY h2
                      · obtain rfl : c = d := by omega
                        rw [HYD.out] at hY
                        cases hY
                        rw [HTE.out] at h2; cases h2)
                    clear HJ HTE HHAS
                    refine wpAnyH_takeD (i := 11) (v := undef) (some 154) rfl rfl (by kernel_rfl) (by kernel_rfl) (by kernel_rfl) (fun _ _ _ h => h) (Or.inr ⟨by rfl, rfl⟩) SV ?_
                    try simp only [Act.put, List.setIfInBounds_toArray, List.set_cons_succ, List.set_cons_zero]
                    refine wpAnyH_takeD (i := 12) (v := undef) (some 155) rfl rfl (by kernel_rfl) (by kernel_rfl) (by kernel_rfl) (fun _ _ _ h => h) (Or.inr ⟨by rfl, rfl⟩) SV ?_
                    try simp only [Act.put, List.setIfInBounds_toArray, List.set_cons_succ, List.set_cons_zero]
                    refine wpAnyH_takeD (i := 13) (v := undef) (some 156) rfl rfl (by kernel_rfl) (by kernel_rfl) (by kernel_rfl) (fun _ _ _ h => h) (Or.inr ⟨by rfl, rfl⟩) SV ?_
                    try simp only [Act.put, List.setIfInBounds_toArray, List.set_cons_succ, List.set_cons_zero]
                    refine wpAnyH_takeD (i := 14) (v := undef) (some 157) rfl rfl (by kernel_rfl) (by kernel_rfl) (by kernel_rfl) (fun _ _ _ h => h) (Or.inr ⟨by rfl, rfl⟩) SV ?_
                    try simp only [Act.put, List.setIfInBounds_toArray, List.set_cons_succ, List.set_cons_zero]
                    refine wpAnyH_takeD (i := 15) (v := undef) (some 158) rfl rfl (by kernel_rfl) (by kernel_rfl) (by kernel_rfl) (fun _ _ _ h => h) (Or.inr ⟨by rfl, rfl⟩) SV ?_
                    try simp only [Act.put, List.setIfInBounds_toArray, List.set_cons_succ, List.set_cons_zero]
                    refine wpAnyH_takeD (i := 16) (v := undef) (some 159) rfl rfl (by kernel_rfl) (by kernel_rfl) (by kernel_rfl) (fun _ _ _ h => h) (Or.inr ⟨by rfl, rfl⟩) SV ?_
                    try simp only [Act.put, List.setIfInBounds_toArray, List.set_cons_succ, List.set_cons_zero]
                    refine wpAnyH_takeD (i := 17) (v := undef) (some 160) rfl rfl (by kernel_rfl) (by kernel_rfl) (by kernel_rfl) (fun _ _ _ h => h) (Or.inr ⟨by rfl, rfl⟩) SV ?_
                    try simp only [Act.put, List.setIfInBounds_toArray, List.set_cons_succ, List.set_cons_zero]
                    refine wpAnyH_takeD (i := 18) (v := undef) (some 161) rfl rfl (by kernel_rfl) (by kernel_rfl) (by kernel_rfl) (fun _ _ _ h => h) (Or.inr ⟨by rfl, rfl⟩) SV ?_
                    try simp only [Act.put, List.setIfInBounds_toArray, List.set_cons_succ, List.set_cons_zero]
                    refine wpAnyH_takeD (i := 19) (v := undef) (some 162) rfl rfl (by kernel_rfl) (by kernel_rfl) (by kernel_rfl) (fun _ _ _ h => h) (Or.inr ⟨by rfl, rfl⟩) SV ?_
                    try simp only [Act.put, List.setIfInBounds_toArray, List.set_cons_succ, List.set_cons_zero]
                    refine wpAnyH_all (rs := [20]) (by kernel_rfl) (by simp) ?_
                    intro ii hii; obtain rfl : ii = 20 := by simpa using hii
                    refine wpOp_step rfl (fun K hK => ?_)
                    go_simp
                    refine hK _ _ ⟨SV, ?_⟩
                    clear hK K hii
                    try simp only [Act.put, List.setIfInBounds_toArray, List.set_cons_succ, List.set_cons_zero]
                    refine wpAnyH_takeD (i := 21) (v := undef) (some 164) rfl rfl (by kernel_rfl) (by kernel_rfl) (by kernel_rfl) (fun _ _ _ h => h) (Or.inr ⟨by rfl, rfl⟩) SV ?_
                    try simp only [Act.put, List.setIfInBounds_toArray, List.set_cons_succ, List.set_cons_zero]
                    refine wpAnyH_takeD (i := 22) (v := .bool false) (some 165) rfl rfl (by kernel_rfl) (by kernel_rfl) (by kernel_rfl) (fun _ _ _ h => h) (Or.inl ⟨by rfl, ?_⟩) SV ?_
                    · intro X hX; go_simp
                    try simp only [Act.put, List.setIfInBounds_toArray, List.set_cons_succ, List.set_cons_zero]
                    refine wpAnyH_done (by kernel_rfl) ?_ _
                    refine at_worldQ (fun Y => Below wr.heap.size wr Y) SV.out (fun Y SY => ?_)
                    have HTY := Lib.hid (HT.out.below SY)
                    clear SY SV HT
                    clear b0 b1 b2 b3 cxa cyd
                    go_wp2
                    go_roundw
                    case rel => exact ⟨d + 1, by omega, by go_num, HTY, HJ2⟩
                    case measure => simp [intOf]; omega
                  | true =>
                    refine wpAnyH_takeD (i := 11) (v := .slice p k cap) (some 154) rfl rfl (by kernel_rfl) (by kernel_rfl) (by kernel_rfl) (fun _ _ _ h => h) (Or.inl ⟨by rfl, ?_⟩) SV ?_
                    · intro X hX; go_simp
                    try simp only [Act.put, List.setIfInBounds_toArray, List.set_cons_succ, List.set_cons_zero]
                    refine wpAnyH_takeD (i := 12) (v := .slice (some ⟨gx, 0, none⟩) nX cx) (some 155) rfl rfl (by kernel_rfl) (by kernel_rfl) (by kernel_rfl) (fun _ _ _ h => h) (Or.inl ⟨by rfl, ?_⟩) SV ?_
                    · intro X hX; go_simp
                    try simp only [Act.put, List.setIfInBounds_toArray, List.set_cons_succ, List.set_cons_zero]
                    refine wpAnyH_takeD (i := 13) (v := .int .i64 a) (some 156) rfl rfl (by kernel_rfl) (by kernel_rfl) (by kernel_rfl) (fun _ _ _ h => h) (Or.inl ⟨by rfl, ?_⟩) SV ?_
                    · intro X hX; go_simp
                    try simp only [Act.put, List.setIfInBounds_toArray, List.set_cons_succ, List.set_cons_zero]
                    refine wpAnyH_takeD (i := 14) (v := .pointer (some ⟨gx, a, none⟩)) (some 157) rfl rfl (by kernel_rfl) (by kernel_rfl) (by kernel_rfl) (fun _ _ _ h => h) (Or.inl ⟨by rfl, ?_⟩) SV ?_
                    · intro X hX; go_simp
                    try simp only [Act.put, List.setIfInBounds_toArray, List.set_cons_succ, List.set_cons_zero]
                    refine wpAnyH_takeD (i := 15) (v := .int .i64 xa) (some 158) rfl rfl (by kernel_rfl) (by kernel_rfl) (by kernel_rfl) (fun _ _ _ h => h) (Or.inl ⟨by rfl, ?_⟩) SV ?_
                    · intro X hX; have o0 := (hX.out.cell (p := ⟨gx, a, none⟩) lxa).trans cxa; have lX := hX.out.size; have lbX : gx < X.heap.size := by omega
                      go_simp
                    try simp only [Act.put, List.setIfInBounds_toArray, List.set_cons_succ, List.set_cons_zero]
                    refine wpAnyH_takeD (i := 16) (v := .slice (some ⟨gy, 0, none⟩) nY cy) (some 159) rfl rfl (by kernel_rfl) (by kernel_rfl) (by kernel_rfl) (fun _ _ _ h => h) (Or.inl ⟨by rfl, ?_⟩) SV ?_
                    · intro X hX; go_simp
                    try simp only [Act.put, List.setIfInBounds_toArray, List.set_cons_succ, List.set_cons_zero]
                    refine wpAnyH_takeD (i := 17) (v := .int .i64 d) (some 160) rfl rfl (by kernel_rfl) (by kernel_rfl) (by kernel_rfl) (fun _ _ _ h => h) (Or.inl ⟨by rfl, ?_⟩) SV ?_
                    · intro X hX; go_simp
                    try simp only [Act.put, List.setIfInBounds_toArray, List.set_cons_succ, List.set_cons_zero]
                    refine wpAnyH_takeD (i := 18) (v := .pointer (some ⟨gy, d, none⟩)) (some 161) rfl rfl (by kernel_rfl) (by kernel_rfl) (by kernel_rfl) (fun _ _ _ h => h) (Or.inl ⟨by rfl, ?_⟩) SV ?_
                    · intro X hX; go_simp
                    try simp only [Act.put, List.setIfInBounds_toArray, List.set_cons_succ, List.set_cons_zero]
                    refine wpAnyH_takeD (i := 19) (v := .int .i64 yd) (some 162) rfl rfl (by kernel_rfl) (by kernel_rfl) (by kernel_rfl) (fun _ _ _ h => h) (Or.inl ⟨by rfl, ?_⟩) SV ?_
                    · intro X hX; have o0 := (hX.out.cell (p := ⟨gy, d, none⟩) lyd).trans cyd; have lX := hX.out.size; have lbX : gy < X.heap.size := by omega
                      go_simp
                    try simp only [Act.put, List.setIfInBounds_toArray, List.set_cons_succ, List.set_cons_zero]
                    refine wpAnyH_all (rs := [20]) (by kernel_rfl) (by simp) ?_
                    intro ii hii; obtain rfl : ii = 20 := by simpa using hii
                    refine wpOp_step rfl (fun K hK => ?_)
                    go_simp
                    refine (HHAS.out _ SV).mono ?_
                    rintro e w20 ⟨rfl, hb20⟩
                    have S20 : Hid (Below wr.heap.size wr w20) := Lib.hid (SV.out.trans (hb20.mono SV.out.size))
                    refine hK _ _ ⟨S20, ?_⟩
                    clear hK K hb20 SV hii HHAS
                    have SV := S20
                    clear S20
                    try simp only [Act.put, List.setIfInBounds_toArray, List.set_cons_succ, List.set_cons_zero]
                    cases s with
                    | true =>
                      have HJ2 : Hid (∀ (c : Nat) (Y0 : Int), c < d + 1 → YS[c]? = some Y0 → hasB ⟨x, y, u, v⟩ xa Y0 = true → (zs.any fun q => hasB q xa Y0) = true) := Lib.hid (fun c Y0 h hY h2 => by
                        by_cases hc : c < d
                        · exact HJ.out c Y0 hc hY h2
                        · obtain rfl : c = d := by omega
                          rw [HYD.out] at hY
                          cases hY
                          exact HSE.out)
                      clear HJ HTE HSE
                      refine wpAnyH_takeD (i := 21) (v := .bool false) (some 164) rfl rfl (by kernel_rfl) (by kernel_rfl) (by kernel_rfl) (fun _ _ _ h => h) (Or.inl ⟨by rfl, ?_⟩) SV ?_
                      · intro X hX; go_simp
                      try simp only [Act.put, List.setIfInBounds_toArray, List.set_cons_succ, List.set_cons_zero]
                      refine wpAnyH_takeD (i := 22) (v := .bool false) (some 165) rfl rfl (by kernel_rfl) (by kernel_rfl) (by kernel_rfl) (fun _ _ _ h => h) (Or.inl ⟨by rfl, ?_⟩) SV ?_
                      · intro X hX; go_simp
                      try simp only [Act.put, List.setIfInBounds_toArray, List.set_cons_succ, List.set_cons_zero]
                      refine wpAnyH_done (by kernel_rfl) ?_ _
                      refine at_worldQ (fun Y => Below wr.heap.size wr Y) SV.out (fun Y SY => ?_)
                      have HTY := Lib.hid (HT.out.below SY)
                      clear SY SV HT
                      clear b0 b1 b2 b3 cxa cyd
                      go_wp2
                      go_roundw
                      case rel => exact ⟨d + 1, by omega, by go_num, HTY, HJ2⟩
                      case measure => simp [intOf]; omega
                    | false =>
                      have htf : tb = false := by
                        cases htc : tb with
                        | false => rfl
                        | true =>
                          have h3 := (HDOC.out.1 htc).2.2 xa (by rw [HXS.out]; exact List.mem_iff_getElem?.2 ⟨a, HXA.out⟩) yd (by rw [HYS.out]; exact List.mem_iff_getElem?.2 ⟨d, HYD.out⟩) HTE.out
                          have h4 : (zs.any fun q => hasB q xa yd) = true := List.any_eq_true.2 h3
                          rw [HSE.out] at h4; cases h4
                      clear HJ HTE HSE
                      refine wpAnyH_takeD (i := 21) (v := .bool true) (some 164) rfl rfl (by kernel_rfl) (by kernel_rfl) (by kernel_rfl) (fun _ _ _ h => h) (Or.inl ⟨by rfl, ?_⟩) SV ?_
                      · intro X hX; go_simp
                      try simp only [Act.put, List.setIfInBounds_toArray, List.set_cons_succ, List.set_cons_zero]
                      refine wpAnyH_takeD (i := 22) (v := .bool true) (some 165) rfl rfl (by kernel_rfl) (by kernel_rfl) (by kernel_rfl) (fun _ _ _ h => h) (Or.inl ⟨by rfl, ?_⟩) SV ?_
                      · intro X hX; go_simp
                      try simp only [Act.put, List.setIfInBounds_toArray, List.set_cons_succ, List.set_cons_zero]
                      refine wpAnyH_done (by kernel_rfl) ?_ _
                      refine at_worldQ (fun Y => Below wr.heap.size wr Y) SV.out (fun Y SY => ?_)
                      have HTY := Lib.hid (HT.out.below SY)
                      clear SY SV HT
                      have HF := Lib.hid HTY.out.lo
                      subst htf
                      clear b0 b1 b2 b3 cxa cyd HTY
                      go_wp2
                      go_ret2
                      exact ⟨rfl, HF.out⟩
                · have hdn : d = nY := by omega
                  have HK2 : Hid (∀ (c : Nat) (X0 : Int), c < a + 1 → XS[c]? = some X0 → ∀ Y0 ∈ YS, hasB ⟨x, y, u, v⟩ X0 Y0 = true → (zs.any fun q => hasB q X0 Y0) = true) := Lib.hid (fun c X0 h hX Y0 hY h2 => by
                    by_cases hc : c < a
                    · exact HK.out c X0 hc hX Y0 hY h2
                    · obtain rfl : c = a := by omega
                      rw [HXA.out] at hX
                      cases hX
                      obtain ⟨e, he⟩ := List.mem_iff_getElem?.1 hY
                      have hel := (List.getElem?_eq_some_iff.1 he).1
                      rw [HNY.out] at hel
                      exact HJ.out e Y0 (by omega) he h2)
                  clear hdn HJ HK
                  go_wp2
                  go_roundw
                  case rel => exact ⟨a + 1, by omega, by go_num, HT, HK2⟩
                  case measure => simp [intOf]; omega
            · have han : a = nX := by omega
              have htt : tb = true := HDOC.out.2 ⟨HVz.out, HPz.out, fun X0 hX Y0 hY h2 => by
                rw [HXS.out] at hX
                rw [HYS.out] at hY
                obtain ⟨e, he⟩ := List.mem_iff_getElem?.1 hX
                have hel := (List.getElem?_eq_some_iff.1 he).1
                rw [HNX.out] at hel
                exact List.any_eq_true.1 (HK.out e X0 (by omega) he Y0 hY h2)⟩
              have HF := Lib.hid HT.out.lo
              subst htt
              clear HT HK han
              go_wp2
              go_ret2
              exact ⟨rfl, HF.out⟩

end Go.Proofs.Ytlnfgmmgkmhehaa.RR
