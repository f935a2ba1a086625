/- What lies in memory while the document's Fix works: a row of nodes that grows, a list of kids that grows, and the last new node's own list of kids. -/
import Derived.Test.YtecnapecmioamaaFFix
namespace Go.Proofs.Ytecnapecmioamaa
open Go.RowKit Go.Shelf Go.Maps
set_option linter.unusedVariables false

/-- a node's numbers lie apart from a block -/
def AwayN (g : Option Nat) (n : Nd) : Prop := ∀ b, g = some b → Apart b n.kv n.ks ∧ Apart b n.wv n.ws
theorem Ints.grownA {V X : World} {v : Value} {zs : List Int} {row : Option Nat} (h : Ints V v zs) (hg : V.grownBy X row) (ha : ∀ b, row = some b → Apart b v zs) : Ints X v zs := by
  obtain ⟨h1, ⟨a, cap, rfl, rfl⟩ | ⟨b, off, cap, rfl, hc⟩⟩ := h
  · exact ⟨h1, .inl ⟨a, cap, rfl, rfl⟩⟩
  · refine ⟨h1, .inr ⟨b, off, cap, rfl, fun j hj => ?_⟩⟩
    have hl : b < V.heap.size := cell_lt (hc j hj)
    refine (World.cell?_of_block (a := ⟨b, off + j, none⟩) (hg.block b hl ?_)).trans (hc j hj)
    intro e
    rcases ha b e.symm with rfl | ⟨b', off', cap', e2, hne⟩
    · simp at hj
    · injection e2 with e3; injection e3 with e3; injection e3 with e3; exact hne e3.symm
theorem Nd.ok.grownA {n : Nd} {V X : World} {row : Option Nat} (h : n.ok V) (hg : V.grownBy X row) (ha : AwayN row n) : n.ok X :=
  ⟨h.1.grownA hg (fun b e => (ha b e).1), h.2.1.grownA hg (fun b e => (ha b e).2), h.2.2⟩
theorem RowAt.grownA {V X : World} {L cap k : Nat} {ns : List Nd} {row : Option Nat} (h : RowAt V L cap k ns) (hg : V.grownBy X row) (hL : row ≠ some L) : RowAt X L cap k ns := by
  obtain ⟨⟨cur, h1, h2⟩, h3⟩ := h
  exact ⟨⟨cur, (hg.block L (Array.getElem?_eq_some_iff.1 h1).1 (fun e => hL e.symm)).trans h1, h2⟩, h3⟩
theorem RowAt.lt {V : World} {L cap k : Nat} {ns : List Nd} (h : RowAt V L cap k ns) : L < V.heap.size := by
  obtain ⟨⟨cur, h1, _⟩, _⟩ := h
  exact (Array.getElem?_eq_some_iff.1 h1).1
theorem RowAt.kids {V : World} {L cap k : Nat} {ns : List Nd} (h : RowAt V L cap k ns) (i : Nat) (n : Nd) (hi : ns[i]? = some n) (kv : Value) (ks : List Int) (hk : k ≤ cap) :
    RowAt (V.setCell ⟨L, i * 34 + 1, none⟩ kv) L cap k (ns.set i { n with kv := kv, ks := ks }) := by
  obtain ⟨⟨cur, h1, h2, h3⟩, h4⟩ := h
  have hw : Whole V L 47 cur.toList := by simpa [Whole] using h1
  have hw2 := hw.set (i * 34 + 1) kv
  refine ⟨⟨(cur.toList.set (i * 34 + 1) kv).toArray, hw2, by simpa using h2, ?_⟩, by simpa using h4⟩
  simp only
  rw [List.take_set, h3, flat_set ns i n kv ks hi]
theorem own_ne_rowA {V : World} {base k : Nat} {kv : Value} {zs : List Value} {L cap c : Nat} {ns : List Nd} (h1 : V.ownsRow base 3 1 kv k zs) (h2 : RowAt V L cap c ns) : kv.ownBlock ≠ some L := fun e => by
  obtain ⟨c1, h3⟩ := own_block_cells h1 e
  obtain ⟨⟨cur, h4, _⟩, _⟩ := h2
  rw [h4] at h3; cases h3
theorem own_setA {X : World} {B e n : Nat} {v : Value} {xs : List Value} (h : X.ownsRow B e 1 v n xs) (b o : Nat) (u : Value) (hb : v.ownBlock ≠ some b) : (X.setCell ⟨b, o, none⟩ u).ownsRow B e 1 v n xs :=
  own_same h fun g hg => Below.heap_setCell X ⟨b, o, none⟩ u g (by show g ≠ b; intro e; exact hb (e ▸ hg))
/-- the state within a node's work -/
structure DX (w : World) (b5 L cap cnt : Nat) (n0 : Nd) (ns nds : List Nd) (kids : List Int) (kvX : Value) (op : Bool) (X : World) : Prop where
  lo : Below w.heap.size w X
  row : RowAt X L cap cnt (ns ++ nds)
  ok : ∀ n ∈ ns ++ nds, n.ok X ∧ Apart L n.kv n.ks ∧ Apart L n.wv n.ws
  le : cnt ≤ cap
  mx : cap ≤ maxLen
  bl : w.heap.size ≤ L
  ne : b5 ≠ L
  bx : w.heap.size ≤ b5
  box : Whole X b5 47 n0.cells
  own : X.ownsRow w.heap.size 3 1 kvX kids.length (kids.map (Value.int .i64))
  away : ∀ n ∈ ns ++ nds, AwayN kvX.ownBlock n
  opn : op = true → ∃ ini nd, nds = ini ++ [nd] ∧ X.ownsRow w.heap.size 3 1 nd.kv nd.ks.length (nd.ks.map (Value.int .i64)) ∧ (∀ n ∈ ns ++ ini, AwayN nd.kv.ownBlock n) ∧ (∀ b, kvX.ownBlock = some b → nd.kv.ownBlock ≠ some b) ∧ nd.ws = []
section
variable {w V X : World} {b5 L cap cnt : Nat} {n0 : Nd} {ns nds : List Nd} {kids : List Int} {kvX : Value} {op : Bool}
theorem DX.below (h : DX w b5 L cap cnt n0 ns nds kids kvX op V) (hb : Below V.heap.size V X) : DX w b5 L cap cnt n0 ns nds kids kvX op X := by
  have keep : ∀ {k : Nat} {v : Value} {zs : List Value}, V.ownsRow w.heap.size 3 1 v k zs → X.ownsRow w.heap.size 3 1 v k zs := fun h1 => own_same h1 fun g e => hb.block g (h1.lt g e).2
  refine ⟨h.lo.trans (hb.mono h.lo.size), h.row.same (hb.block L h.row.lt), fun n hn => ⟨(h.ok n hn).1.below hb, (h.ok n hn).2⟩, h.le, h.mx, h.bl, h.ne, h.bx, h.box.below hb h.box.lt, keep h.own, h.away, fun ho => ?_⟩
  obtain ⟨ini, nd, e1, e2, e3⟩ := h.opn ho
  exact ⟨ini, nd, e1, keep e2, e3⟩
/-- closed: a kid that may stand there follows -/
theorem DX.close (h : DX w b5 L cap cnt n0 ns nds kids kvX op V) : DX w b5 L cap cnt n0 ns nds kids kvX false V :=
  ⟨h.lo, h.row, h.ok, h.le, h.mx, h.bl, h.ne, h.bx, h.box, h.own, h.away, fun e => by cases e⟩
/-- a kid more -/
theorem DX.kid {v' : Value} {kids' : List Int} (h : DX w b5 L cap cnt n0 ns nds kids kvX op V) (ho : X.ownsRow w.heap.size 3 1 v' kids'.length (kids'.map (Value.int .i64))) (hg : V.grownBy X kvX.ownBlock)
    (hat : v'.ownBlock = kvX.ownBlock ∨ v'.ownBlock = some V.heap.size) : DX w b5 L cap cnt n0 ns nds kids' v' op X := by
  have hL := own_ne_rowA h.own h.row
  have hn5 := whole_own h.box h.own (by decide)
  have hs := h.lo.size
  refine ⟨h.lo.grown hg hs (fun g e => (h.own.lt g e).1), h.row.grownA hg hL, fun n hn => ⟨(h.ok n hn).1.grownA hg (h.away n hn), (h.ok n hn).2⟩, h.le, h.mx, h.bl, h.ne, h.bx, h.box.grown hg hn5, ho, fun n hn b e => ?_, fun hop => ?_⟩
  · rcases hat with e2 | e2
    · exact h.away n hn b (e2 ▸ e)
    · rw [e2] at e; injection e with e; subst e
      exact (h.ok n hn).1.apart (Nat.le_refl _)
  · obtain ⟨ini, nd, e1, e2, e3, e4, e5⟩ := h.opn hop
    refine ⟨ini, nd, e1, e2.kept hg ?_, e3, fun b e => ?_, e5⟩
    · cases hv : nd.kv.ownBlock with
      | none => exact .inl rfl
      | some g9 => right; intro e; exact e4 g9 e.symm hv
    · rcases hat with e6 | e6
      · exact e4 b (e6 ▸ e)
      · rw [e6] at e; injection e with e; subst e
        intro e7
        have := (e2.lt _ e7).2
        omega
/-- a new node -/
theorem DX.node {L2 cap2 : Nat} {nd : Nd} (h : DX w b5 L cap cnt n0 ns nds kids kvX false V) (hX : RowAt X L2 cap2 (cnt + 1) ((ns ++ nds) ++ [nd])) (hok : ∀ n ∈ (ns ++ nds) ++ [nd], n.ok X ∧ Apart L2 n.kv n.ks ∧ Apart L2 n.wv n.ws)
    (hc1 : cnt + 1 ≤ cap2) (hc2 : cap2 ≤ maxLen) (hl2 : L2 = L ∨ L2 = V.heap.size) (hg : V.grownBy X (some L)) (hk : nd.kv = .slice none 0 0) (hks : nd.ks = []) (hws : nd.ws = []) :
    DX w b5 L2 cap2 (cnt + 1) n0 ns (nds ++ [nd]) kids kvX true X := by
  have hL := own_ne_rowA h.own h.row
  have hs := h.lo.size
  have hl := h.row.lt
  have hl5 := h.box.lt
  have hne := h.ne
  have hbl := h.bl
  refine ⟨h.lo.grown hg hs (fun g e => by injection e with e; omega), by rw [← List.append_assoc]; exact hX, fun n hn => hok n (by rw [List.append_assoc]; exact hn), hc1, hc2, by omega, by omega, h.bx, h.box.grown hg (fun e => by injection e with e; omega), h.own.kept hg ?_, fun n hn b e => ?_, fun _ => ⟨nds, nd, rfl, ?_, fun n hn b e => ?_, fun b e e2 => ?_, hws⟩⟩
  · cases hv : kvX.ownBlock with
    | none => exact .inl rfl
    | some g9 => right; intro e; exact hL (hv.trans e)
  · rw [← List.append_assoc] at hn
    rcases List.mem_append.1 hn with hn | hn
    · exact h.away n hn b e
    · obtain rfl : n = nd := by simpa using hn
      exact ⟨.inl hks, .inl hws⟩
  · rw [hk, hks]; exact World.ownsRow_nil _ _ _ _
  · rw [hk] at e; cases e
  · rw [hk] at e2; cases e2
/-- a kid more of the last new node -/
theorem DX.grow {ini : List Nd} {nd : Nd} {v' : Value} {ks' : List Int} {i : Nat} (h : DX w b5 L cap cnt n0 ns (ini ++ [nd]) kids kvX true V) (ho : X.ownsRow w.heap.size 3 1 v' ks'.length (ks'.map (Value.int .i64))) (hg : V.grownBy X nd.kv.ownBlock)
    (hat : v'.ownBlock = nd.kv.ownBlock ∨ v'.ownBlock = some V.heap.size) (hi : (ns ++ ini).length = i) : DX w b5 L cap cnt n0 ns (ini ++ [{ nd with kv := v', ks := ks' }]) kids kvX true (X.setCell ⟨L, i * 34 + 1, none⟩ v') := by
  obtain ⟨ini', nd', e1, e2, e3, e4, e5⟩ := h.opn rfl
  have e1' := List.append_inj' e1 rfl
  obtain rfl : ini = ini' := e1'.1
  obtain rfl : nd = nd' := by simpa using e1'.2
  clear e1 e1'
  have hL := own_ne_rowA e2 h.row
  have hn5 := whole_own h.box e2 (by decide)
  have hs := h.lo.size
  have hbl := h.bl
  have hl := h.row.lt
  have hrow := h.row.grownA hg hL
  have hL' := own_ne_rowA ho hrow
  have hgk : kvX.ownBlock = none ∨ kvX.ownBlock ≠ nd.kv.ownBlock := by
    cases hv : kvX.ownBlock with
    | none => exact .inl rfl
    | some g9 => right; intro e; exact e4 g9 hv e.symm
  have hkX := own_ne_rowA h.own h.row
  have hso := ints_own ho
  have hni : (ns ++ (ini ++ [nd]))[i]? = some nd := by rw [← List.append_assoc, List.getElem?_append_right (by omega), hi, Nat.sub_self]; rfl
  have hset : (ns ++ (ini ++ [nd])).set i { nd with kv := v', ks := ks' } = ns ++ (ini ++ [{ nd with kv := v', ks := ks' }]) := by
    rw [← List.append_assoc, List.set_append_right _ _ (by omega), hi, Nat.sub_self, ← List.append_assoc]; rfl
  have hnd : nd ∈ ns ++ (ini ++ [nd]) := by simp
  have hap : Apart L v' ks' := by
    by_cases hz : ks' = []
    · exact .inl hz
    obtain ⟨_, ⟨a, cp, e, h0⟩ | ⟨b, off, cp, e, hc⟩⟩ := hso.1
    · exact absurd h0 hz
    · exact .inr ⟨b, off, cp, e, fun e6 => hL' (by rw [e, ← e6]; rfl)⟩
  have hold : ∀ n ∈ ns ++ ini, n.ok X ∧ Apart L n.kv n.ks ∧ Apart L n.wv n.ws := fun n hn => by
    have hm : n ∈ ns ++ (ini ++ [nd]) := by rw [← List.append_assoc]; exact List.mem_append_left _ hn
    exact ⟨(h.ok n hm).1.grownA hg (e3 n hn), (h.ok n hm).2⟩
  refine ⟨(h.lo.grown hg hs (fun g e => (e2.lt g e).1)).setCell (p := ⟨L, i * 34 + 1, none⟩) hbl _, by rw [← hset]; exact hrow.kids i nd hni v' ks' h.le, fun n hn => ?_, h.le, h.mx, h.bl, h.ne, h.bx, (h.box.grown hg hn5).other ⟨L, i * 34 + 1, none⟩ _ h.ne, own_setA (h.own.kept hg hgk) L _ _ hkX, fun n hn b e => ?_, fun _ => ⟨ini, _, rfl, own_setA ho L _ _ hL', fun n hn b e => ?_, fun b e e6 => ?_, e5⟩⟩
  · rw [← List.append_assoc] at hn
    rcases List.mem_append.1 hn with hn | hn
    · have o := hold n hn
      exact ⟨⟨o.1.1.setApart _ _ o.2.1, o.1.2.1.setApart _ _ o.2.2, o.1.2.2⟩, o.2⟩
    · obtain rfl : n = { nd with kv := v', ks := ks' } := by simpa using hn
      have o := h.ok nd hnd
      have hw0 : Ints X nd.wv nd.ws := by
        rw [e5]
        have h6 := o.1.2.1
        rw [e5] at h6
        exact h6.grownA hg (fun b e => .inl rfl)
      exact ⟨⟨hso.1.setApart _ _ hap, hw0.setApart _ _ o.2.2, hso.2.1, o.1.2.2.2⟩, hap, o.2.2⟩
  · rw [← List.append_assoc] at hn
    rcases List.mem_append.1 hn with hn | hn
    · exact h.away n (by rw [← List.append_assoc]; exact List.mem_append_left _ hn) b e
    · obtain rfl : n = { nd with kv := v', ks := ks' } := by simpa using hn
      refine ⟨?_, .inl e5⟩
      by_cases hz : ks' = []
      · exact .inl hz
      obtain ⟨_, ⟨a, cp, e7, h0⟩ | ⟨b7, off, cp, e7, hc⟩⟩ := hso.1
      · exact absurd h0 hz
      · refine .inr ⟨b7, off, cp, e7, fun e8 => ?_⟩
        have e9 : v'.ownBlock = some b := by rw [e7, ← e8]; rfl
        rcases hat with h9 | h9
        · exact e4 b e (h9 ▸ e9)
        · rw [h9] at e9; injection e9 with e9
          have := (h.own.lt b e).2
          omega
  · rcases hat with h9 | h9
    · exact e3 n hn b (h9 ▸ e)
    · have e' : v'.ownBlock = some b := e
      rw [h9] at e'; injection e' with e'; subst e'
      have hm : n ∈ ns ++ (ini ++ [nd]) := by rw [← List.append_assoc]; exact List.mem_append_left _ hn
      exact (h.ok n hm).1.apart (Nat.le_refl _)
  · rcases hat with h9 | h9
    · exact e4 b e (h9 ▸ e6)
    · have e' : v'.ownBlock = some b := e6
      rw [h9] at e'; injection e' with e'
      have := (h.own.lt b e).2
      omega
end
end Go.Proofs.Ytecnapecmioamaa
