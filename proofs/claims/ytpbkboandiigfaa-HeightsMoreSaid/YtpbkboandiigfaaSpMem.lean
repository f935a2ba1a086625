/- Lists of numbers in blocks that may have room behind them: parts of them, stores, copies; worlds that differ in some blocks only. -/
import Derived.Test.YtpbkboandiigfaaHBase
import Derived.Test.YtpbkboandiigfaaSlice
import Derived.Test.YtpbkboandiigfaaEven
import Derived.Test.YtpbkboandiigfaaSpP
import Derived.Test.YtpbkboandiigfaaROwn
import Derived.Test.YtpbkboandiigfaaTKeep
import Derived.Laws.CopyRow
namespace Go.Proofs.Ytpbkboandiigfaa
open Go.RowKit Go.Shelf
set_option linter.unusedVariables false

/-- what a call may do: lay new blocks, and write those of E -/
structure Upd (E : List Nat) (W X : World) : Prop where
  low : Below 0 W X
  kp : KeepBut E W X
theorem Upd.refl (E : List Nat) (W : World) : Upd E W W := ⟨Below.refl _ _, KeepBut.refl _ _⟩
theorem Upd.trans {E : List Nat} {U V W : World} (h : Upd E U V) (k : Upd E V W) : Upd E U W := ⟨h.low.trans k.low, h.kp.trans k.kp⟩
theorem Upd.size {E : List Nat} {V W : World} (h : Upd E V W) : V.heap.size ≤ W.heap.size := h.kp.1
theorem Upd.of_below {E : List Nat} {V W : World} (h : Below V.heap.size V W) : Upd E V W := ⟨h.mono (Nat.zero_le _), KeepBut.of_below h⟩
theorem Upd.below {E : List Nat} {V W : World} {B : Nat} (h : Upd E V W) (hB : B ≤ V.heap.size) (hE : ∀ k ∈ E, B ≤ k) : Below B V W :=
  ⟨h.low.os, h.low.tape, h.low.output, h.kp.1, fun k hk => h.kp.2 k (fun hm => by have := hE k hm; omega) (by omega)⟩
theorem Upd.more {E F : List Nat} {V W : World} (h : Upd E V W) (hE : ∀ k ∈ E, k ∈ F) : Upd F V W := ⟨h.low, h.kp.1, fun k hk hl => h.kp.2 k (fun hm => hk (hE k hm)) hl⟩
theorem Upd.whole {E : List Nat} {V W : World} {g t : Nat} {xs : List Value} (h : Upd E V W) (k : Whole V g t xs) (hg : g ∉ E) : Whole W g t xs := (h.kp.2 g hg k.lt).trans k
theorem Upd.cell {E : List Nat} {V W : World} {g o : Nat} {v : Value} (h : Upd E V W) (hc : V.cell? ⟨g, o, none⟩ = some v) (hg : g ∉ E) : W.cell? ⟨g, o, none⟩ = some v :=
  (World.cell?_of_block (a := ⟨g, o, none⟩) (h.kp.2 g hg (cell_lt hc))).trans hc
theorem Upd.drew (E : List Nat) (W : World) (n : Nat) : Upd E W (W.drewN n) := Upd.of_below (below_dn _ _ _)
theorem Upd.set {E : List Nat} (W : World) (g o : Nat) (v : Value) (h : g ∈ E) : Upd E W (W.setCell ⟨g, o, none⟩ v) :=
  ⟨(Below.refl 0 W).setCell (p := ⟨g, o, none⟩) (Nat.zero_le _) v, by simp, fun k hk _ => Below.heap_setCell W ⟨g, o, none⟩ v k (fun e => hk (by rw [e]; exact h))⟩
theorem Upd.row {E : List Nat} (W : World) (g : Nat) (ys : Array Value) (h : g ∈ E) : Upd E W (W.setRow g ys) :=
  ⟨below_setRow (Below.refl 0 W) (Nat.zero_le _) _, (below_setRow (Below.refl 0 W) (Nat.zero_le g) ys).size, fun k hk _ => setRow_other W g k ys (fun e => hk (by rw [e]; exact h))⟩

/-- the numbers xs lie at the start of block g, sp behind them -/
def IRow (W : World) (g : Nat) (xs : List Int) (sp : List Value) : Prop := Whole W g 2 (xs.map (Value.int .i64) ++ sp)
theorem IRow.lt {W : World} {g : Nat} {xs : List Int} {sp : List Value} (h : IRow W g xs sp) : g < W.heap.size := Whole.lt h
theorem IRow.below {W W' : World} {g B : Nat} {xs : List Int} {sp : List Value} (h : IRow W g xs sp) (hb : Below B W W') (hg : g < B) : IRow W' g xs sp := Whole.below h hb hg
theorem IRow.alloc {W : World} {g : Nat} {xs : List Int} {sp : List Value} (h : IRow W g xs sp) (o : Obj) : IRow (W.alloc o) g xs sp := Whole.alloc h o
theorem IRow.upd {E : List Nat} {V W : World} {g : Nat} {xs : List Int} {sp : List Value} (h : IRow V g xs sp) (hu : Upd E V W) (hg : g ∉ E) : IRow W g xs sp := hu.whole h hg
theorem IRow.cell {W : World} {g : Nat} {xs : List Int} {sp : List Value} (h : IRow W g xs sp) (i : Nat) (hi : i < xs.length) : W.cell? ⟨g, i, none⟩ = some (.int .i64 (xs[i]?.getD 0)) := by
  rw [Whole.cellAt h, List.getElem?_append_left (by simpa using hi), List.getElem?_map, List.getElem?_eq_getElem hi]; rfl
theorem IRow.free {W : World} {g : Nat} {xs : List Int} {sp : List Value} (h : IRow W g xs sp) (i : Nat) : W.frozen? ⟨g, i, none⟩ = false := Whole.free h i
theorem IRow.set {W : World} {g : Nat} {xs : List Int} {sp : List Value} (h : IRow W g xs sp) (i : Nat) (z : Int) (hi : i < xs.length) : IRow (W.setCell ⟨g, i, none⟩ (.int .i64 z)) g (xs.set i z) sp := by
  have := Whole.set h i (.int .i64 z)
  unfold IRow
  rwa [List.set_append_left _ _ (by simpa using hi), ← List.map_set] at this
theorem nums_ints {W : World} {v : Value} {zs : List Int} (h : Nums .i64 W v zs) : Ints W v zs := by
  obtain ⟨hm, ⟨a, cap, rfl, _, rfl⟩ | ⟨b, off, cap, rfl, _, _, hc⟩⟩ := h
  · exact ⟨hm, .inl ⟨a, cap, rfl, rfl⟩⟩
  · exact ⟨hm, .inr ⟨b, off, cap, rfl, hc⟩⟩
theorem nums_below {k : IntKind} {W W' : World} {v : Value} {zs : List Int} (h : Nums k W v zs) (hb : Below W.heap.size W W') : Nums k W' v zs := by
  obtain ⟨hm, h | ⟨b, off, cap, h1, h2, h3, hc⟩⟩ := h
  · exact ⟨hm, .inl h⟩
  · exact ⟨hm, .inr ⟨b, off, cap, h1, h2, h3, fun j hj => (hb.cell (p := ⟨b, off + j, none⟩) (cell_lt (hc j hj))).trans (hc j hj)⟩⟩
/-- a part of them, as a slice -/
theorem IRow.nums {W : World} {g : Nat} {xs : List Int} {sp : List Value} (h : IRow W g xs sp) (c k cap : Nat) (hc : c + k ≤ xs.length) (hk : k ≤ cap) (hm : cap ≤ 9223372036854775807) : Nums .i64 W (.slice (some ⟨g, c, none⟩) k cap) (seg xs c k) := by
  have hl := seg_len xs c k hc
  refine ⟨by rw [hl]; omega, .inr ⟨g, c, cap, by rw [hl], by rw [hl]; exact hk, hm, fun j hj => ?_⟩⟩
  rw [hl] at hj
  rw [h.cell (c + j) (by omega), seg_get xs c k j hj]
theorem seg_all (l : List Int) (k : Nat) (h : l.length = k) : seg l 0 k = l := by unfold seg; rw [List.drop_zero, List.take_of_length_le (by omega)]
theorem IRow.all {W : World} {g : Nat} {xs : List Int} {sp : List Value} (h : IRow W g xs sp) (k cap : Nat) (hl : xs.length = k) (hk : k ≤ cap) (hm : cap ≤ 9223372036854775807) : Nums .i64 W (.slice (some ⟨g, 0, none⟩) k cap) xs := by
  have := h.nums 0 k cap (by omega) hk hm
  rwa [seg_all xs k hl] at this
theorem IRow.new (W : World) (xs : List Int) (g : Nat) (h : g = W.heap.size) : IRow (W.alloc (.cells (xs.map (Value.int .i64)).toArray 2)) g xs [] := by
  unfold IRow; rw [List.append_nil]; exact whole_new W _ _ g h
/-- what has been made: its block -/
theorem made_row {base : Nat} {W : World} {v : Value} {zs : List Int} (h : Made .i64 2 base W v zs) (hn : 1 ≤ zs.length) : ∃ g cap sp, v = .slice (some ⟨g, 0, none⟩) zs.length cap ∧ base ≤ g ∧ zs.length ≤ cap ∧ cap ≤ 9223372036854775807 ∧ IRow W g zs sp := by
  obtain ⟨hl, ⟨rfl, hn'⟩ | ⟨g, cap, cur, rfl, hb, hg, hnc, hcm, hcs, htk⟩⟩ := h
  · omega
  · refine ⟨g, cap, cur.toList.drop zs.length, rfl, hb, hnc, hcm, ?_⟩
    show W.heap[g]? = _
    rw [hg]
    have e : cur.toList = zs.map (Value.int .i64) ++ cur.toList.drop zs.length := by
      conv => lhs; rw [← List.take_append_drop zs.length cur.toList]
      rw [Nat.mul_one] at htk; rw [htk]
    rw [← e]
theorem Try.sizeI64S : (Try.prog.info? 2).map (·.size) = some 1 := by kernel_rfl
/-- copy, into a part of a block -/
theorem IRow.copy {W : World} {g : Nat} {xs : List Int} {sp : List Value} (h : IRow W g xs sp) (c k cap cap2 b2 o2 : Nat) (ty : TypeId) (ys : List Int) (hl : ys.length = k) (hc : c + k ≤ xs.length)
    (hsrc : ∀ j, j < k → W.cell? ⟨b2, o2 + j, none⟩ = some (.int .i64 (ys[j]?.getD 0))) :
    ∃ W', (Builtin.copy_ #[22, 22] ty #[.slice (some ⟨g, c, none⟩) k cap, .slice (some ⟨b2, o2, none⟩) k cap2]).run Try.prog W = .ok (goInt k) W' ∧ IRow W' g (spl xs c ys) sp ∧ Upd [g] W W' := by
  have hcl : (ys.map (Value.int .i64)).length = k := by simpa using hl
  have hr := run_copy_row (P := Try.prog) W 22 22 ty 2 g c k cap ⟨b2, o2, none⟩ k cap2 (xs.map (Value.int .i64) ++ sp).toArray 2 (ys.map (Value.int .i64)) Try.underlying22 Try.sizeI64S h
    (by rw [hcl]; exact (Nat.min_self k).symm) (fun j v hv => by
      have hj : j < ys.length := by have := (List.getElem?_eq_some_iff.1 hv).1; simpa using this
      rw [add_plainC, hsrc j (by omega), ← hv]; simp [hj]) (by simp; omega) (fun v hv => by obtain ⟨z, _, rfl⟩ := List.mem_map.1 hv; rfl)
  rw [hcl] at hr
  refine ⟨_, hr, ?_, Upd.row W g _ (by simp)⟩
  have := whole_rowA h ((xs.map (Value.int .i64) ++ sp).toArray.toList.take c ++ ys.map (Value.int .i64) ++ (xs.map (Value.int .i64) ++ sp).toArray.toList.drop (c + k)).toArray
  unfold IRow
  refine (congrArg (Whole _ g 2) ?_).mp this
  simp only [List.toList_toArray]
  rw [List.take_append_of_le_length (by simp; omega), List.drop_append_of_le_length (by simp; omega)]
  unfold spl
  rw [List.map_append, List.map_append, List.map_take, List.map_drop, List.append_assoc, List.append_assoc, List.append_assoc, hl]
end Go.Proofs.Ytpbkboandiigfaa
