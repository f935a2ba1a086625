/- The head that the laws of layer 8 share: the text in its box, cut. Written by mk_LnLaws.py. -/
import Derived.Test.YthgkjgaebgpplaaLnShown
namespace Go.Proofs.Ythgkjgaebgpplaa
open Go.RowKit Go.Shelf
set_option linter.unusedVariables false
attribute [local go_sem] Oper.semAt_some

/-- what a law's memory is: the text n lies in the block g -/
structure TxIn (w : World) (g : Nat) (n0 n : Nd) (cs : Array Value) (X : World) : Prop where
  row : Whole X g 35 cs.toList
  lo : Below w.heap.size w X
  g0 : w.heap.size ≤ g
  eq : n.cells.toArray = cs
  ok : ∀ Z, Below w.heap.size w Z → n.ok Z
theorem TxIn.nd {w : World} {g : Nat} {n0 n : Nd} {cs : Array Value} {X : World} (h : TxIn w g n0 n cs X) : NdIn n g X := ⟨by have := h.row; rw [← h.eq] at this; simpa using this, h.ok X h.lo⟩
theorem TxIn.load {w : World} {g : Nat} {n0 n : Nd} {cs : Array Value} {X : World} (h : TxIn w g n0 n cs X) : ∀ j v, cs[j]? = some v → X.cell? ((⟨g, 0, none⟩ : Addr).add j) = some v := h.nd.cells' cs h.eq
theorem TxIn.below {w : World} {g : Nat} {n0 n : Nd} {cs : Array Value} {X Y : World} (h : TxIn w g n0 n cs X) (hb : Below X.heap.size X Y) : TxIn w g n0 n cs Y := ⟨h.row.below hb h.row.lt, h.lo.trans (hb.mono h.lo.size), h.g0, h.eq, h.ok⟩
theorem TxIn.drew {w : World} {g : Nat} {n0 n : Nd} {cs : Array Value} {X : World} (h : TxIn w g n0 n cs X) (k : Nat) : TxIn w g n0 n cs (X.drewN k) := h.below (below_dn _ X k)
theorem TxIn.alloc {w : World} {g : Nat} {n0 n : Nd} {cs : Array Value} {X : World} (h : TxIn w g n0 n cs X) (o : Obj) : TxIn w g n0 n cs (X.alloc o) := h.below ((Below.refl _ X).alloc (Nat.le_refl _) o)
theorem TxIn.wv {w : World} {g : Nat} {n0 n : Nd} {cs : Array Value} {X : World} (h : TxIn w g n0 n cs X) : X.cell? ⟨g, 31, none⟩ = some n.wv := h.nd.w
theorem TxIn.b {w : World} {g : Nat} {n0 n : Nd} {cs : Array Value} {X : World} (h : TxIn w g n0 n cs X) : X.cell? ⟨g, 32, none⟩ = some (.int .i64 n.b) := h.nd.b
theorem TxIn.h {w : World} {g : Nat} {n0 n : Nd} {cs : Array Value} {X : World} (h : TxIn w g n0 n cs X) : X.cell? ⟨g, 33, none⟩ = some (.int .i64 n.h) := h.nd.h
theorem TxIn.lt {w : World} {g : Nat} {n0 n : Nd} {cs : Array Value} {X : World} (h : TxIn w g n0 n cs X) : g < X.heap.size := h.row.lt
theorem nd_infoC {n : Nd} {cs : Array Value} (h : n.cells.toArray = cs) : (Try.prog.info? 35).map (·.size) = some cs.size := by rw [← h]; exact nd_info n
theorem TxIn.new (w : World) (n : Nd) (hok : n.ok w) : TxIn w w.heap.size n n n.cells.toArray (w.alloc (.cells n.cells.toArray 35)) :=
  ⟨by simpa using whole_new w n.cells 35 _ rfl, (Below.refl _ w).alloc (Nat.le_refl _) _, Nat.le_refl _, rfl, fun Z hZ => hok.below hZ⟩
theorem TxIn.put {w : World} {g : Nat} {n0 n : Nd} {cs : Array Value} {X : World} (h : TxIn w g n0 n cs X) (n' : Nd) (hn : ∀ Z, n.ok Z → n'.ok Z) : TxIn w g n0 n' n'.cells.toArray (X.setRow g n'.cells.toArray) :=
  ⟨whole_rowL h.row _, h.lo.trans (below_rowL _ _ _ h.g0), h.g0, rfl, fun Z hZ => hn Z (h.ok Z hZ)⟩
theorem cut_cs (w : World) (g : Nat) (n : Nd) (cs : Array Value) (X : World) (h : TxIn w g n n cs X) :
    Calls Try.prog 11 #[.agg cs] X fun e Y => ∃ (n' : Nd) (ds : Array Value), e = .returned (.agg ds) ∧ CutOf n n' ∧ Below X.heap.size X Y ∧ TxIn w g n n' ds (Y.setRow g ds) ∧ ds.size = cs.size ∧ ds.all (·.oneCell') = true ∧ Whole Y g 35 cs.toList := by
  have := lncut_any n X h.nd.ok
  rw [show n.val = .agg n.cells.toArray from rfl, h.eq] at this
  refine this.mono fun e Y ⟨n', h1, h2, h3, h4⟩ => ⟨n', _, h1, h3, h4, (h.below h4).put n' h2, ?_, nd_oneL n' Y (h2 Y (h.below h4).nd.ok), (h.below h4).row⟩
  rw [← h.eq]; simp [Nd.len]
theorem wide_cs {w : World} {g : Nat} {n0 n : Nd} {cs : Array Value} {X : World} (h : TxIn w g n0 n cs X) (fr to : Int) :
    Calls Try.prog 19 #[.agg cs, .int .i64 fr, .int .i64 to] X fun e Y => e = .returned (wideV n fr to) ∧ Below X.heap.size X Y := by
  have := wide_any n X fr to h.nd.ok
  rwa [show n.val = .agg n.cells.toArray from rfl, h.eq] at this
theorem right_cs {w : World} {g : Nat} {n0 n : Nd} {cs : Array Value} {X : World} (h : TxIn w g n0 n cs X) :
    Calls Try.prog 15 #[.agg cs] X fun e Y => e = .returned (.bool (textB n)) ∧ Below X.heap.size X Y := lnRight_cs n X h.nd.ok cs h.eq _ rfl
theorem most_cs {w : World} {g : Nat} {n0 n : Nd} {cs : Array Value} {X : World} (h : TxIn w g n0 n cs X) :
    Calls Try.prog 21 #[.agg cs] X fun e Y => e = .returned (mostV n) ∧ Below X.heap.size X Y := by
  have := most_any n X h.nd.ok
  rwa [show n.val = .agg n.cells.toArray from rfl, h.eq] at this
theorem least_cs {w : World} {g : Nat} {n0 n : Nd} {cs : Array Value} {X : World} (h : TxIn w g n0 n cs X) :
    Calls Try.prog 20 #[.agg cs] X fun e Y => e = .returned (leastV n) ∧ Below X.heap.size X Y := by
  have := least_any n X h.nd.ok
  rwa [show n.val = .agg n.cells.toArray from rfl, h.eq] at this
theorem break_cs {w : World} {g : Nat} {n0 n : Nd} {cs : Array Value} {X : World} (h : TxIn w g n0 n cs X) (ht : textB n = true) (width : Int) :
    Calls Try.prog 12 #[.agg cs, .int .i64 width] X (BrPost n width X) := by
  obtain ⟨p, m, c, hwv, hmc, _⟩ := h.nd.ok.2.2.2
  obtain ⟨p', c', hwv'⟩ := h.nd.ok.2.1.form
  have hm : n.ws.length = m := by rw [hwv] at hwv'; injection hwv' with _ e _; exact e.symm
  have := break_main n X p m c width n.b h.nd.ok ht hwv hm hmc rfl
  rwa [show n.val = .agg n.cells.toArray from rfl, h.eq] at this
theorem breakN_cs {w : World} {g : Nat} {n0 n : Nd} {cs : Array Value} {X : World} (h : TxIn w g n0 n cs X) (ht : textB n = false) (width : Int) :
    Calls Try.prog 12 #[.agg cs, .int .i64 width] X fun e Y => e = .returned (.tuple #[.slice none 0 0, .int .i64 90]) ∧ Below X.heap.size X Y := by
  have := break_bad n X width h.nd.ok ht
  rwa [show n.val = .agg n.cells.toArray from rfl, h.eq] at this
theorem box_cs {w : World} {g : Nat} {n0 n : Nd} {cs : Array Value} {X : World} (h : TxIn w g n0 n cs X) (ht : textB n = true) (width : Int) :
    Calls Try.prog 13 #[.agg cs, .int .i64 width] X fun e Y => ∃ Ls, e = .returned (.tuple #[.agg (boxOf n Ls).toArray, .int .i64 0]) ∧ Broke (IsLine n.b width n.ws) 0 Ls n.ws.length ∧ Below X.heap.size X Y := by
  obtain ⟨p, m, c, hwv, hmc, _⟩ := h.nd.ok.2.2.2
  obtain ⟨p', c', hwv'⟩ := h.nd.ok.2.1.form
  have hm : n.ws.length = m := by rw [hwv] at hwv'; injection hwv' with _ e _; exact e.symm
  have := box_good n X width p m c n.h _ _ h.nd.ok ht hwv hm hmc rfl rfl rfl
  rwa [show n.val = .agg n.cells.toArray from rfl, h.eq] at this
theorem boxN_cs {w : World} {g : Nat} {n0 n : Nd} {cs : Array Value} {X : World} (h : TxIn w g n0 n cs X) (ht : textB n = false) (width : Int) :
    Calls Try.prog 13 #[.agg cs, .int .i64 width] X fun e Y => e = .returned (.tuple #[.agg #[.int .i64 0, .int .i64 0, .int .i64 0, .int .i64 0, .bool false], .int .i64 90]) ∧ Below X.heap.size X Y := by
  have := box_bad n X width h.nd.ok ht
  rwa [show n.val = .agg n.cells.toArray from rfl, h.eq] at this
/-- words within their places: no more than 200 -/
theorem CutOf.few {n n' : Nd} (h : CutOf n n') : n'.ws.length ≤ 200 := by rw [h.2.2.2]; simp; omega
end Go.Proofs.Ythgkjgaebgpplaa
