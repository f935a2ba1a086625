/- What lies in memory while lines.Break walks. Written by mk_LnBreak.py. -/
import Derived.Test.YthgkjgaebgpplaaLnWide
import Derived.Maps.AppendAt
import Derived.Laws.OwnMore
import Derived.ChangeKeysEq
namespace Go.Proofs.Ythgkjgaebgpplaa
open Go.RowKit Go.Shelf
set_option linter.unusedVariables false
attribute [local go_sem] Oper.semAt_some

theorem Try.infoLn : (Try.prog.info? 57).map (fun i => (i.zero, i.size, i.bytes)) = some (some (.agg #[.int .i64 0, .int .i64 0]), 2, 16) := by kernel_rfl
theorem Try.cellsIntL : Try.prog.cellsOf 3 = 1 := by kernel_rfl
theorem two_eql (a b c d : Int) (X : World) : (Op.equalIn 10000 57 (.agg #[.int .i64 a, .int .i64 b]) (.agg #[.int .i64 c, .int .i64 d])).run Try.prog X = .ok (a == c && b == d) X := by
  obtain ⟨i, hi⟩ : ∃ i, Try.prog.info? 3 = some i := Option.isSome_iff_exists.1 (by kernel_rfl)
  rw [show (10000 : Nat) = 9999 + 1 from rfl, run_equalIn_array X 9999 _ _ Try.underlying57 hi, Try.cellsIntL, show List.range 2 = [0, 1] from rfl]
  simp only [Op.eqItems]
  go_simp
  by_cases h1 : a = c <;> by_cases h2 : b = d <;> simp [h1, h2]
theorem two_neq (a b c d : Int) (r : Bool) (h : (!(a == c && b == d)) = r) (X : World) : (binOp .neq 57 (.agg #[.int .i64 a, .int .i64 b]) (.agg #[.int .i64 c, .int .i64 d])).run Try.prog X = .ok (.bool r) X := by
  rw [run_neq_struct, two_eql]; simp [Result.andThen, h]
theorem two_eqr (a b c d : Int) (r : Bool) (h : (a == c && b == d) = r) (X : World) : (Op.equalIn 10000 57 (.agg #[.int .i64 a, .int .i64 b]) (.agg #[.int .i64 c, .int .i64 d])).run Try.prog X = .ok r X := by rw [two_eql, h]
theorem lay_newL (w : World) (xs : List Value) (t g : Nat) (hg : g = w.heap.size) : ∀ j u, xs[j]? = some u → (w.alloc (.cells xs.toArray t)).cell? ((⟨g, 0, none⟩ : Addr).add j) = some u := by
  intro j u hj
  have h := (whole_new w xs t g hg).cellAt j
  rw [add_plain, Nat.zero_add]
  exact h.trans hj
theorem own_lowL {X : World} {base e sz n g : Nat} {v : Value} {xs : List Value} (h : X.ownsRow base e sz v n xs) (hg : g < base) : v.ownBlock ≠ some g := fun hv => by have := (h.lt g hv).1; omega
/-- lines as their cells -/
def lnCells (x : Nat × Nat) : List Value := [.int .i64 (x.1 : Int), .int .i64 (x.2 : Int)]
def flatLn (Ls : List (Nat × Nat)) : List Value := Ls.flatMap lnCells
theorem flatLn_snoc (Ls : List (Nat × Nat)) (x : Nat × Nat) : flatLn (Ls ++ [x]) = flatLn Ls ++ lnCells x := by simp [flatLn]
/-- lines, as their owner holds them -/
def OwnL (base : Nat) (X : World) (v : Value) (Ls : List (Nat × Nat)) : Prop := X.ownsRow base 57 2 v Ls.length (flatLn Ls)
/-- what lies in the call's memory -/
structure BI (L : Nat) (n : Nd) (width : Int) (w : World) (lv : Value) (Ls : List (Nat × Nat)) (s0 s : Nat) (X : World) : Prop where
  nd : NdIn n w.heap.size X
  wd : Whole X (w.heap.size + 1) 2 [.int .i64 width]
  ln : Whole X L 57 [.int .i64 (s0 : Int), .int .i64 (s : Int)]
  own : OwnL (L + 1) X lv Ls
  lo : Below w.heap.size w X
  nl : w.heap.size + 2 ≤ L
theorem Nd.ok.belowW {n : Nd} {w X : World} (h : n.ok w) (hb : Below w.heap.size w X) : n.ok X := h.below hb
theorem BI.grown {L : Nat} {n : Nd} {width : Int} {w : World} {lv : Value} {Ls : List (Nat × Nat)} {s0 s : Nat} {X Y : World} {row : Option Nat} (h : BI L n width w lv Ls s0 s X) (h0 : n.ok w) (hg : X.grownBy Y row) (hr : NoCells X row) (hl : ∀ k, row = some k → w.heap.size ≤ k) : BI L n width w lv Ls s0 s Y :=
  have lo : Below w.heap.size w Y := h.lo.grown hg h.lo.size hl
  ⟨⟨h.nd.row.grown hg (h.nd.row.ne hr), h0.below lo⟩, h.wd.grown hg (h.wd.ne hr), h.ln.grown hg (h.ln.ne hr), own_grown h.own hg hr, lo, h.nl⟩
theorem BI.below {L : Nat} {n : Nd} {width : Int} {w : World} {lv : Value} {Ls : List (Nat × Nat)} {s0 s : Nat} {X Y : World} (h : BI L n width w lv Ls s0 s X) (h0 : n.ok w) (hb : Below X.heap.size X Y) : BI L n width w lv Ls s0 s Y :=
  h.grown h0 (grownL hb) (fun _ e => by cases e) (fun _ e => by cases e)
theorem BI.set {L : Nat} {n : Nd} {width : Int} {w : World} {lv : Value} {Ls : List (Nat × Nat)} {s0 s s0' s' : Nat} {X Y : World} (h : BI L n width w lv Ls s0 s X) (h0 : n.ok w) (hY : Whole Y L 57 [.int .i64 (s0' : Int), .int .i64 (s' : Int)])
    (hk : ∀ k, k ≠ L → Y.heap[k]? = X.heap[k]?) (hs : Y.heap.size = X.heap.size) (hb : Below w.heap.size w Y) : BI L n width w lv Ls s0' s' Y := by
  have h2 := h.nl
  refine ⟨⟨(hk _ (by omega)).trans h.nd.row, h0.below hb⟩, (hk _ (by omega)).trans h.wd, hY, ?_, hb, h2⟩
  obtain ⟨q1, q2⟩ := h.own
  refine ⟨q1, q2.imp id ?_⟩
  rintro ⟨g, cap, cur, rfl, hbg, hg, rest⟩
  exact ⟨g, cap, cur, rfl, hbg, (hk g (by omega)).trans hg, rest⟩
theorem marks_kept {B : Nat} {Ds : List Nat} {X Y : World} (h : Marks B Ds X) (hk : ∀ D ∈ Ds, Y.heap[D]? = X.heap[D]?) : Marks B Ds Y := ⟨h.1, fun D hD => ⟨(h.2 D hD).1, (hk D hD).trans (h.2 D hD).2⟩⟩
theorem marks_lt {B : Nat} {Ds : List Nat} {X : World} (h : Marks B Ds X) : ∀ D ∈ Ds, D < X.heap.size := fun D hD => (Array.getElem?_eq_some_iff.1 (h.2 D hD).2).1
theorem marks_ne {B g t : Nat} {Ds : List Nat} {X : World} {xs : List Value} (h : Marks B Ds X) (hw : Whole X g t xs) : ∀ D ∈ Ds, D ≠ g := fun D hD e => by
  have := (h.2 D hD).2
  rw [e, show X.heap[g]? = _ from hw] at this; cases this
/-- between two rounds of the range: so many words on the line -/
structure RB (L H : Nat) (n : Nd) (width : Int) (w : World) (lv : Value) (Ls : List (Nat × Nat)) (Ds : List Nat) (s k : Nat) (X : World) : Prop where
  bi : BI L n width w lv Ls s (s + k) X
  no : Whole X H 57 [.int .i64 (s : Int), .int .i64 (s : Int)]
  mks : Marks w.heap.size Ds X
theorem RB.grown {L H : Nat} {n : Nd} {width : Int} {w : World} {lv : Value} {Ls : List (Nat × Nat)} {Ds : List Nat} {s k K : Nat} {X Y : World} {row : Option Nat} (h : RB L H n width w lv Ls Ds s k X) (h0 : n.ok w) (hg : X.grownBy Y row) (hr : NoCells X row) (hl : ∀ j, row = some j → K ≤ j) (hK : w.heap.size ≤ K) (hD : ∀ D ∈ Ds, D < K) : RB L H n width w lv Ls Ds s k Y :=
  ⟨h.bi.grown h0 hg hr (fun j e => Nat.le_trans hK (hl j e)), h.no.grown hg (h.no.ne hr), marks_kept h.mks fun D hd => hg.block D (marks_lt h.mks D hd) (fun e => by have := hl D e.symm; have := hD D hd; omega)⟩
def RI (L H : Nat) (n : Nd) (width : Int) (w : World) (lv : Value) (Ls : List (Nat × Nat)) (Ds : List Nat) (s : Nat) (pre : List Nat) (X : World) : Prop :=
  RB L H n width w lv Ls Ds s pre.length X ∧ s + pre.length ≤ n.ws.length ∧ ∀ m, s + 1 < m → m ≤ s + pre.length → wideW n.b n.ws s m ≤ width
def RX (L H : Nat) (n : Nd) (width : Int) (w : World) (lv : Value) (Ls : List (Nat × Nat)) (Ds : List Nat) (s : Nat) (c : Code) (pre : List Nat) (X : World) : Prop :=
  c = .exit 0 ∧ ∃ k, 0 < k ∧ RB L H n width w lv Ls Ds s k X ∧ IsLine n.b width n.ws s (s + k)
theorem RI.own {L H : Nat} {n : Nd} {width : Int} {w : World} {lv : Value} {Ls : List (Nat × Nat)} {Ds : List Nat} {s K : Nat} (h0 : n.ok w) (hK : w.heap.size ≤ K) (hD : ∀ D ∈ Ds, D < K) : OwnFrom K (RI L H n width w lv Ls Ds s) := fun pre X Y row ⟨h1, h2, h3⟩ hg hr =>
  ⟨h1.grown h0 hg (fun r e => (hr r e).2) (fun j e => (hr j e).1) hK hD, h2, h3⟩
theorem RX.own {L H : Nat} {n : Nd} {width : Int} {w : World} {lv : Value} {Ls : List (Nat × Nat)} {Ds : List Nat} {s K : Nat} (h0 : n.ok w) (hK : w.heap.size ≤ K) (hD : ∀ D ∈ Ds, D < K) (c : Code) : OwnFrom K (RX L H n width w lv Ls Ds s c) := fun pre X Y row ⟨h1, k, h2, h3, h4⟩ hg hr =>
  ⟨h1, k, h2, h3.grown h0 hg (fun r e => (hr r e).2) (fun j e => (hr j e).1) hK hD, h4⟩
def BrPost (n : Nd) (width : Int) (w : World) (e : Ending) (W' : World) : Prop :=
  ∃ (lv : Value) (Ls : List (Nat × Nat)), e = .returned (.tuple #[lv, .int .i64 0]) ∧ Broke (IsLine n.b width n.ws) 0 Ls n.ws.length ∧ OwnL w.heap.size W' lv Ls ∧ Below w.heap.size w W'
theorem own_keptL {X Y : World} {base b' e sz n : Nat} {v : Value} {xs : List Value} (h : X.ownsRow base e sz v n xs) (hk : CellsKept X Y) (hb' : b' ≤ base) : Y.ownsRow b' e sz v n xs := by
  refine ⟨h.1, h.2.imp id ?_⟩
  rintro ⟨g, cap, cur, rfl, hb, hg, rest⟩
  exact ⟨g, cap, cur, rfl, by omega, hk _ _ hg rfl, rest⟩
theorem BI.app {L : Nat} {n : Nd} {width : Int} {w : World} {lv v9 : Value} {Ls : List (Nat × Nat)} {s0 s : Nat} {V w9 : World} {o : Obj} (h : BI L n width w lv Ls s0 s V) (h0 : n.ok w) (hg : (V.alloc o).grownBy w9 lv.ownBlock) (hown : w9.ownsRow (L + 1) 57 2 v9 (Ls.length + 1) (flatLn Ls ++ lnCells (s0, s))) : BI L n width w v9 (Ls ++ [(s0, s)]) s0 s w9 := by
  have h2 := h.nl
  have hne : ∀ g, g < L + 1 → lv.ownBlock ≠ some g := fun g hg => own_lowL h.own hg
  have lo : Below w.heap.size w w9 := (h.lo.alloc h.lo.size o).grown hg (by have := h.lo.size; simp; omega) (fun g e => by have := (h.own.lt g e).1; omega)
  refine ⟨⟨(h.nd.row.alloc o).grown hg (hne _ (by omega)), h0.below lo⟩, (h.wd.alloc o).grown hg (hne _ (by omega)), (h.ln.alloc o).grown hg (hne _ (by omega)), ?_, lo, h2⟩
  unfold OwnL
  rw [flatLn_snoc, List.length_append]
  exact hown
theorem marks_app {B base e sz k : Nat} {Ds : List Nat} {lv : Value} {xs : List Value} {V w9 : World} {o : Obj} (h : Marks B Ds V) (ho : V.ownsRow base e sz lv k xs) (hg : (V.alloc o).grownBy w9 lv.ownBlock) : Marks B Ds w9 :=
  marks_kept h fun D hd => by
    have hl := marks_lt h D hd
    rw [hg.block D (by simp; omega) (fun hv => by
      obtain ⟨cur, hc⟩ := own_block_cells ho hv.symm
      have := (h.2 D hd).2
      rw [hc] at this; cases this)]
    exact Below.heap_alloc V o D hl
/-- at the start of a line -/
def JB (L : Nat) (n : Nd) (width : Int) (w : World) (cs : Array Value) : Act → World → Prop := fun a X =>
  ∃ (Ds : List Nat) (lv : Value) (Ls : List (Nat × Nat)) (s0 s : Nat) (x8 x9 x10 x11 x12 x13 x14 x15 x16 x17 x18 x19 x20 x21 x22 x23 x24 x25 x26 x27 x28 x29 x30 x31 x32 x33 x34 x35 x36 x37 x38 x39 x40 x41 x42 x43 x44 x45 x46 x47 x48 x49 x50 x51 : Value),
    a = { tmps := #[.agg cs, .int .i64 width, .pointer (some ⟨w.heap.size, 0, none⟩), .pointer (some ⟨w.heap.size + 1, 0, none⟩), .slice none 0 0, .int .i64 0, lv, .pointer (some ⟨L, 0, none⟩), x8, x9, x10, x11, x12, x13, x14, x15, x16, x17, x18, x19, x20, x21, x22, x23, x24, x25, x26, x27, x28, x29, x30, x31, x32, x33, x34, x35, x36, x37, x38, x39, x40, x41, x42, x43, x44, x45, x46, x47, x48, x49, x50, x51], defers := Ds.map fun D => { target := .collected D, args := #[] } } ∧ Hid (Marks w.heap.size Ds X) ∧ Hid (BI L n width w lv Ls s0 s X) ∧ Hid (Broke (IsLine n.b width n.ws) 0 Ls s) ∧ Hid (s ≤ n.ws.length)
/-- how many words are left -/
def muB (L : Nat) (n : Nd) (X : World) : Nat := n.ws.length - (match X.cell? ⟨L, 1, none⟩ with | some v => (intOf v).toNat | none => 0)
theorem muB_at {L : Nat} {n : Nd} {width : Int} {w : World} {lv : Value} {Ls : List (Nat × Nat)} {s0 s : Nat} {X : World} (h : BI L n width w lv Ls s0 s X) : muB L n X = n.ws.length - s := by
  unfold muB
  rw [h.ln.cellAt]
  simp [intOf]
end Go.Proofs.Ythgkjgaebgpplaa
