/- What an iterator over numbers reads: its boxes, and the numbers. -/
import Derived.Test.YtlnfgmmgkmhehaaLnPlain
import Derived.Test.YtlnfgmmgkmhehaaSlice
import Derived.Test.YtlnfgmmgkmhehaaSNext
import Derived.Test.YtlnfgmmgkmhehaaMarks
import Derived.WalkSpells
import Derived.Lib.Hide
import Derived.LoopTactic
import Derived.BigQuiet
import Derived.Deep.QuietTactic
import Derived.Deep.LoopGhost
import Derived.Shelf.Abstract
import Derived.Shelf.RegionOpen
import Derived.ScopeJumps
import Derived.WalkMore
namespace Go.Proofs.Ytlnfgmmgkmhehaa
open Go.RowKit Go.Shelf
set_option linter.unusedVariables false
attribute [local go_sem] Oper.semAt_some

/-- numbers that lie below B -/
def LowI (B : Nat) (X : World) (v : Value) (zs : List Int) : Prop :=
  zs.length ≤ 9223372036854775807 ∧ ((∃ (a : Option Addr) (cap : Nat), v = .slice a 0 cap ∧ zs = []) ∨ ∃ b off cap, v = .slice (some ⟨b, off, none⟩) zs.length cap ∧ b < B ∧ ∀ j, j < zs.length → X.cell? ⟨b, off + j, none⟩ = some (.int .i64 (zs[j]?.getD 0)))
theorem LowI.of {X : World} {v : Value} {zs : List Int} (h : Ints X v zs) : LowI X.heap.size X v zs := by
  obtain ⟨hm, ⟨a, cap, rfl, rfl⟩ | ⟨b, off, cap, rfl, hc⟩⟩ := h
  · exact ⟨hm, .inl ⟨a, cap, rfl, rfl⟩⟩
  · by_cases h0 : zs.length = 0
    · obtain rfl := List.length_eq_zero_iff.1 h0
      exact ⟨hm, .inl ⟨_, cap, rfl, rfl⟩⟩
    · exact ⟨hm, .inr ⟨b, off, cap, rfl, by have := cell_lt (hc 0 (by omega)); exact this, hc⟩⟩
theorem LowI.keep {B : Nat} {X Y : World} {v : Value} {zs : List Int} (h : LowI B X v zs) (hb : ∀ k, k < B → Y.heap[k]? = X.heap[k]?) : LowI B Y v zs := by
  refine ⟨h.1, h.2.imp id ?_⟩
  rintro ⟨b, off, c, e, hB, hc⟩
  refine ⟨b, off, c, e, hB, fun j hj => ?_⟩
  have := hc j hj
  simp only [World.cell?] at this ⊢; rw [hb b hB]; exact this
theorem LowI.mono {B C : Nat} {X : World} {v : Value} {zs : List Int} (h : LowI B X v zs) (hb : B ≤ C) : LowI C X v zs := by
  refine ⟨h.1, h.2.imp id ?_⟩
  rintro ⟨b, off, c, e, hB, hc⟩
  exact ⟨b, off, c, e, by omega, hc⟩
theorem LowI.ints {B : Nat} {X : World} {v : Value} {zs : List Int} (h : LowI B X v zs) : Ints X v zs := by
  refine ⟨h.1, h.2.imp id ?_⟩
  rintro ⟨b, off, c, e, hB, hc⟩
  exact ⟨b, off, c, e, hc⟩
theorem LowI.form {B : Nat} {X : World} {v : Value} {zs : List Int} (h : LowI B X v zs) : ∃ p c, v = .slice p zs.length c := by
  rcases h.2 with ⟨a, c, rfl, rfl⟩ | ⟨b, off, c, rfl, _⟩
  · exact ⟨_, _, rfl⟩
  · exact ⟨_, _, rfl⟩
theorem LowI.at {B : Nat} {X : World} {p : Option Addr} {l c : Nat} {zs : List Int} (h : LowI B X (.slice p l c) zs) (i : Nat) (z : Int) (hz : zs[i]? = some z) :
    ∃ b off, p = some ⟨b, off, none⟩ ∧ b < B ∧ X.cell? ⟨b, off + i, none⟩ = some (.int .i64 z) := by
  rcases h.2 with ⟨a, c', _, rfl⟩ | ⟨b, off, c', e, hB, hc⟩
  · simp at hz
  · injection e with e1 e2 e3
    have := hc i (List.getElem?_eq_some_iff.1 hz).1
    rw [hz] at this
    exact ⟨b, off, e1, hB, this⟩
/-- what the iterator reads: its boxes, and the words, which lie below B -/
structure WidMem (B g1 g2 : Nat) (b : Int) (v : Value) (ws : List Int) (X : World) : Prop where
  size : B ≤ X.heap.size
  l1 : g1 < X.heap.size
  l2 : g2 < X.heap.size
  c1 : X.cell? ⟨g1, 0, none⟩ = some (.int .i64 b)
  c2 : X.cell? ⟨g2, 0, none⟩ = some v
  low : LowI B X v ws
theorem WidMem.keep {B g1 g2 : Nat} {b : Int} {v : Value} {ws : List Int} {X Y : World} (h : WidMem B g1 g2 b v ws X) (hs : X.heap.size ≤ Y.heap.size) (hb : ∀ k, k < B → Y.heap[k]? = X.heap[k]?) (h1 : Y.heap[g1]? = X.heap[g1]?) (h2 : Y.heap[g2]? = X.heap[g2]?) : WidMem B g1 g2 b v ws Y :=
  ⟨Nat.le_trans h.size hs, Nat.lt_of_lt_of_le h.l1 hs, Nat.lt_of_lt_of_le h.l2 hs, by have := h.c1; simp only [World.cell?] at this ⊢; rw [h1]; exact this, by have := h.c2; simp only [World.cell?] at this ⊢; rw [h2]; exact this, h.low.keep hb⟩
theorem WidMem.below {B g1 g2 : Nat} {b : Int} {v : Value} {ws : List Int} {X Y : World} (h : WidMem B g1 g2 b v ws X) (hb : Below X.heap.size X Y) : WidMem B g1 g2 b v ws Y :=
  h.keep hb.size (fun k hk => hb.block k (Nat.lt_of_lt_of_le hk h.size)) (hb.block g1 h.l1) (hb.block g2 h.l2)
def KeepL (R : World → Prop) (V W : World) : Prop := V.heap.size ≤ W.heap.size ∧ (R V → R W)
theorem KeepL.trans {R : World → Prop} {U V W : World} (h : KeepL R U V) (k : KeepL R V W) : KeepL R U W := ⟨Nat.le_trans h.1 k.1, fun x => k.2 (h.2 x)⟩
theorem grownL {W W' : World} (hb : Below W.heap.size W W') : W.grownBy W' none := ⟨hb.os, hb.tape, hb.output, hb.size, fun k hk _ => hb.block k hk⟩
theorem abidesL {β : Type} {B : Nat} {J : β → World → Prop} (h : AbidesFrom B J) {s : β} {W W' : World} (hs : J s W) (hb : Below W.heap.size W W') : J s W' :=
  h s W W' none hs (grownL hb) (fun r e => by cases e)
/-- the k-th element: the words up to the k-th one -/
def encW (b : Int) (ws : List Int) (k : Nat) : Array Value := #[.int .i64 (k : Int), .int .i64 (preW b (k + 1) ws - b)]
def nxtW (ws : List Int) (pre : List Nat) (x : Nat) : Prop := x = pre.length ∧ x < ws.length
theorem addS3 (a b c : Int) (h1 : -9223372036854775808 ≤ a) (h2 : a ≤ 9223372036854775807) (h3 : -9223372036854775808 ≤ a + b) (h4 : a + b ≤ 9223372036854775807) (h5 : -9223372036854775808 ≤ a + b + c) (h6 : a + b + c ≤ 9223372036854775807) : addS [a, b, c] = a + b + c := by
  simp only [addS, List.foldl_cons, List.foldl_nil]
  rw [show (0 : Int) + a = a by omega, sat_in h1 h2, sat_in h3 h4, sat_in h5 h6]
end Go.Proofs.Ytlnfgmmgkmhehaa
