/- Which nodes are texts (lines.Right), and the widest word (lines.Least). -/
import Derived.Test.YthgkjgaebgpplaaLnBase
import Derived.Test.YthgkjgaebgpplaaLnPlain
import Derived.Test.YthgkjgaebgpplaaTNode
namespace Go.Proofs.Ythgkjgaebgpplaa
open Go.RowKit Go.Shelf
set_option linter.unusedVariables false
attribute [local go_sem] Oper.semAt_some

/-- is a node a text? -/
def textB (n : Nd) : Bool := decide (n.k = 1) && (decide (n.ws.length ≤ 10000) && (!n.ws.any (outB 0 1073741824) && !([n.b, n.h].any (outB 0 1073741824))))
theorem any_out {lo hi : Int} {l : List Int} (h : (!l.any (outB lo hi)) = true) : ∀ x ∈ l, lo ≤ x ∧ x ≤ hi := by
  intro x hx
  rw [Bool.not_eq_true', List.any_eq_false] at h
  have := h x hx
  exact outB_false (by simpa using this)
structure TextQ (n : Nd) : Prop where
  k : n.k = 1
  ok : okW n.b n.ws
  h : 0 ≤ n.h ∧ n.h ≤ 1073741824
theorem textQ {n : Nd} (h : textB n = true) : TextQ n := by
  unfold textB at h
  simp only [Bool.and_eq_true, decide_eq_true_eq] at h
  obtain ⟨h1, h2, h3, h4⟩ := h
  have h5 := any_out h4
  exact ⟨h1, ⟨h5 _ (by simp), h2, any_out h3⟩, h5 _ (by simp)⟩
set_option maxHeartbeats 1000000 in
theorem lnRight_at (n : Nd) (w : World) (p : Option Addr) (m cap : Nat) (k : Int) (d1 d2 d : Bool) (hk : n.k = k) (hwv : n.wv = .slice p m cap)
    (H1 : Hid (∀ X : World, Below w.heap.size w X → Calls Try.prog 28 #[.int .i64 0, .int .i64 1073741824, .slice p m cap] X fun e W' => e = .returned (.bool d1) ∧ Below X.heap.size X W'))
    (H2 : Hid (∀ sv X, Ints X sv [n.b, n.h] → Calls Try.prog 28 #[.int .i64 0, .int .i64 1073741824, sv] X fun e W' => e = .returned (.bool d2) ∧ Below X.heap.size X W'))
    (D : Hid (d = (decide (k = 1) && (decide (m ≤ 10000) && (d1 && d2))))) : Calls Try.prog 15 #[n.val] w fun e W' => e = .returned (.bool d) ∧ Below w.heap.size w W' := by
  obtain ⟨cs, hcs⟩ : ∃ cs, n.cells.toArray = cs := ⟨_, rfl⟩
  have q0 : cs[0]? = some (.int .i64 k) := by rw [← hcs, ← hk]; simpa using n.c0
  have q31 : cs[31]? = some (.slice p m cap) := by rw [← hcs, ← hwv]; simpa using n.c31
  have q32 : cs[32]? = some (.int .i64 n.b) := by rw [← hcs]; simpa using n.c32
  have q33 : cs[33]? = some (.int .i64 n.h) := by rw [← hcs]; simpa using n.c33
  rw [show n.val = .agg n.cells.toArray from rfl, hcs]
  clear hcs hwv hk
  have hB : Hid (Below w.heap.size w (w.alloc (.cells cs 35))) := Lib.hid ((Below.refl _ w).alloc (Nat.le_refl _) _)
  by_cases hk : k = 1
  · subst hk
    by_cases hm : m ≤ 10000
    · cases d1 with
      | false =>
        have hd : d = false := by rw [D.out]; simp
        clear D H2; subst hd
        go_enter Try.func15, Try.ntmps15
        go_wp2_with (go_at_call 28; refine (H1.out _ hB.out).mono ?_; clear H1; rintro e w1 ⟨rfl, hb1⟩)
        go_ret
        exact ⟨rfl, hB.out.trans (hb1.mono (by simp))⟩
      | true =>
        have hd : Hid (d = d2) := Lib.hid (by rw [D.out]; simp [hm])
        clear D
        go_enter Try.func15, Try.ntmps15
        go_wp2_with (first
          | (go_at_call 28; refine (H1.out _ hB.out).mono ?_; clear H1; rintro e w1 ⟨rfl, hb1⟩; have e32 := (hb1.cell (p := ⟨w.heap.size, 32, none⟩) (by simp)).trans (show (w.alloc (.cells cs 35)).cell? ⟨w.heap.size, 32, none⟩ = some (.int .i64 n.b) from (cell_of_row _ _ _ _ _ _ (World.alloc_heap_new ..)).trans q32); have e33 := (hb1.cell (p := ⟨w.heap.size, 33, none⟩) (by simp)).trans (show (w.alloc (.cells cs 35)).cell? ⟨w.heap.size, 33, none⟩ = some (.int .i64 n.h) from (cell_of_row _ _ _ _ _ _ (World.alloc_heap_new ..)).trans q33); have hsz := hb1.size; simp only [World.size_alloc] at hsz)
          | (go_at_call 28; refine (H2.out _ _ (Ints.whole (t := 2) (whole_new w1 [.int .i64 n.b, .int .i64 n.h] 2 _ rfl) rfl (by simp))).mono ?_; clear H2; rintro e w2 ⟨rfl, hb2⟩))
        go_ret
        exact ⟨by rw [hd.out]; first | rfl | (simp; done), (hB.out.trans (hb1.mono (by simp))).trans (((Below.refl _ w1).alloc (by omega) _).trans (hb2.mono (by simp; omega)))⟩
    · have hd : d = false := by rw [D.out]; simp [hm]
      clear D H1 H2; subst hd
      go_enter Try.func15, Try.ntmps15
      go_wp2
      go_ret
      exact ⟨rfl, hB.out⟩
  · have hd : d = false := by rw [D.out]; simp [hk]
    clear D H1 H2; subst hd
    have e1 : (k == 1) = false := by simpa using hk
    go_enter Try.func15, Try.ntmps15
    go_wp2
    go_ret
    exact ⟨rfl, hB.out⟩
theorem lnRight_any (n : Nd) (w : World) (h : n.ok w) : Calls Try.prog 15 #[n.val] w fun e W' => e = .returned (.bool (textB n)) ∧ Below w.heap.size w W' := by
  obtain ⟨p, cap, hwv⟩ := h.2.1.form
  refine lnRight_at n w p _ cap _ (!n.ws.any (outB 0 1073741824)) (!([n.b, n.h].any (outB 0 1073741824))) _ rfl hwv (Lib.hid fun X hX => ?_) (Lib.hid fun sv X hI => lnwithin_any 0 1073741824 sv [n.b, n.h] X hI) (Lib.hid rfl)
  rw [← hwv]; exact lnwithin_any 0 1073741824 n.wv n.ws X (h.2.1.below hX)
/-- a node in a block of its own, as it stays: its cells, and its words -/
structure NdIn (n : Nd) (g : Nat) (X : World) : Prop where
  row : Whole X g 35 n.cells
  ok : n.ok X
theorem NdIn.below {n : Nd} {g : Nat} {X Y : World} (h : NdIn n g X) (hb : Below X.heap.size X Y) : NdIn n g Y := ⟨h.row.below hb h.row.lt, h.ok.below hb⟩
theorem NdIn.new (n : Nd) (w : World) (h : n.ok w) : NdIn n w.heap.size (w.alloc (.cells n.cells.toArray 35)) :=
  ⟨whole_new w n.cells 35 _ rfl, h.below ((Below.refl _ w).alloc (Nat.le_refl _) _)⟩
theorem NdIn.load {n : Nd} {g : Nat} {X : World} (h : NdIn n g X) : ∀ j v, n.cells.toArray[j]? = some v → X.cell? ((⟨g, 0, none⟩ : Addr).add j) = some v := (NdAt.whole h.row).load
theorem NdIn.b {n : Nd} {g : Nat} {X : World} (h : NdIn n g X) : X.cell? ⟨g, 32, none⟩ = some (.int .i64 n.b) := by rw [h.row.cellAt]; exact n.c32
theorem NdIn.h {n : Nd} {g : Nat} {X : World} (h : NdIn n g X) : X.cell? ⟨g, 33, none⟩ = some (.int .i64 n.h) := by rw [h.row.cellAt]; exact n.c33
theorem NdIn.w {n : Nd} {g : Nat} {X : World} (h : NdIn n g X) : X.cell? ⟨g, 31, none⟩ = some n.wv := by rw [h.row.cellAt]; exact n.c31
/-- a node boxed, and asked whether it is a text -/
theorem asks_right (n : Nd) (w X : World) (h : NdIn n w.heap.size X) (hb : Below w.heap.size w X) (cs : Array Value) (hcs : n.cells.toArray = cs) :
    Calls Try.prog 15 #[.agg cs] X fun e Y => e = .returned (.bool (textB n)) ∧ NdIn n w.heap.size Y ∧ Below w.heap.size w Y := by
  have := lnRight_any n X h.ok
  rw [show n.val = .agg n.cells.toArray from rfl, hcs] at this
  exact this.mono fun e Y ⟨h1, h2⟩ => ⟨h1, h.below h2, hb.trans (h2.mono hb.size)⟩
end Go.Proofs.Ythgkjgaebgpplaa
