/- Contract of the sides of a style that have something (style.sides), as an iterator: which sides come, in which order. -/
import Derived.Test.YtecnapecmioamaaSNext
import Derived.Test.YtecnapecmioamaaRound
import Derived.Deep.RegionHeld3
import Derived.Shelf.Abstract
import Derived.Shelf.RegionOpen
import Derived.ScopeJumps
import Derived.WalkMore
namespace Go.Proofs.Ytecnapecmioamaa
open Go.RowKit Go.Shelf
set_option linter.unusedVariables false
attribute [local go_sem] Oper.semAt_some

theorem grown_of_below {W W' : World} (hb : Below W.heap.size W W') : W.grownBy W' none := ⟨hb.os, hb.tape, hb.output, hb.size, fun k hk _ => hb.block k hk⟩
theorem abides_below {β : Type} {B : Nat} {J : β → World → Prop} (h : AbidesFrom B J) {s : β} {W W' : World} (hs : J s W) (hb : Below W.heap.size W W') : J s W' :=
  h s W W' none hs (grown_of_below hb) (fun r e => by cases e)
theorem region_held_at {P : Program} {ops : Array Oper} {Q : Exit → Act → World → Prop} {S : World → Prop} {id : Nat} {a : Act} {w : World} (hm : P.follows .mixedOrders = true)
    (h : ∀ w2 : World, w.drew = w2 → wpAnyH P .any ops Q S ops.size (Array.replicate ops.size false) a w2) : (Code.region id ops true).wp P Q a w := wp_region_held hm (h _ rfl)
def encS (x : Nat × Sd) : Array Value := #[.int .i64 (x.1 : Int), .agg #[.int .i64 x.2.p, .int .i64 x.2.s, .int .i64 x.2.w, .int .u32 x.2.c]]
/-- what is at one side is nothing -/
theorem sd_eq (p s w c : Int) : ((p == 0 && (s == 0 && (w == 0 && c == 0))) = true) ↔ (⟨p, s, w, c⟩ : Sd) = Sd.zero := by
  simp [Sd.zero]
set_option maxHeartbeats 1000000 in
theorem side_eql (p s w c : Int) (X : World) : (binOp .eql 80 (.agg #[.int .i64 p, .int .i64 s, .int .i64 w, .int .u32 c]) (.agg #[.int .i64 0, .int .i64 0, .int .i64 0, .int .u32 0])).run Try.prog X = .ok (.bool (decide ((⟨p, s, w, c⟩ : Sd) = Sd.zero))) X := by
  by_cases h1 : p = 0
  · by_cases h2 : s = 0
    · by_cases h3 : w = 0
      · by_cases h4 : c = 0
        · subst h1 h2 h3 h4; go_simp; simp [Sd.zero]
        · subst h1 h2 h3; go_simp; simp [Sd.zero, h4]
      · subst h1 h2; go_simp; simp [Sd.zero, h3]
    · subst h1; go_simp; simp [Sd.zero, h2]
  · go_simp; simp [Sd.zero, h1]
set_option maxRecDepth 100000 in
set_option maxHeartbeats 2000000 in
theorem sides_in (n : Nat) (hn : 1 ≤ n) (l Bs B : Nat) (s : Sty) (J Jx : List (Nat × Sd) → World → Prop)
    (hY : ∀ pre x W, J pre W → nxtS s.sd pre x → YieldAt Fence.wide (n - 1) Try.prog l (encS x) W fun e W' =>
      (e = .returned (.bool true) ∧ J (pre ++ [x]) W' ∧ Stay B Bs W W') ∨ (e = .returned (.bool false) ∧ Jx (pre ++ [x]) W'))
    (W : World) (hB : B ≤ W.heap.size) (hJ : AbidesFrom W.heap.size J) (hBs : Whole W Bs 44 s.cells) (h0 : J [] W) :
    CallsIn Fence.wide n Try.prog 58 #[.func (.yield l) #[] #[], .pointer (some ⟨Bs, 0, none⟩)] W fun e W' => (∃ v, e = .returned v) ∧
      ((∃ ys, ys = sdEls s.sd 4 ∧ J ys W') ∨ (∃ pre, True ∧ Jx pre W')) := by
  refine callsIn_of_wp Try.func58 rfl trivial ?_ rfl
  simp only [Try.ntmps58, List.size_toArray, List.length_cons, List.length_nil, Nat.reduceAdd, Nat.reduceSub, Array.replicate_succ, Array.replicate_zero, List.push_toArray, List.append_toArray, List.nil_append, List.cons_append]
  obtain ⟨⟨p0, s0, w0, c0⟩, e0⟩ : ∃ a, s.sd 0 = a := ⟨_, rfl⟩
  obtain ⟨⟨p1, s1, w1, c1⟩, e1⟩ : ∃ a, s.sd 1 = a := ⟨_, rfl⟩
  obtain ⟨⟨p2, s2, w2, c2⟩, e2⟩ : ∃ a, s.sd 2 = a := ⟨_, rfl⟩
  obtain ⟨⟨p3, s3, w3, c3⟩, e3⟩ : ∃ a, s.sd 3 = a := ⟨_, rfl⟩
  have KB : Hid (∀ X, Stay B Bs W X → Bs < X.heap.size ∧ X.cell? ⟨Bs, 4, none⟩ = some (.int .i64 p0) ∧ X.cell? ⟨Bs, 5, none⟩ = some (.int .i64 p1) ∧ X.cell? ⟨Bs, 6, none⟩ = some (.int .i64 p2) ∧ X.cell? ⟨Bs, 7, none⟩ = some (.int .i64 p3)) := Lib.hid fun X hX => by
    have ka := hX.whole hBs
    refine ⟨ka.lt, ?_, ?_, ?_, ?_⟩ <;> rw [ka.cellAt] <;> simp [Sty.cells, styCells, e0, e1, e2, e3]
  have d8 : W.cell? ⟨Bs, 8, none⟩ = some (.int .i64 s0) := by rw [hBs.cellAt]; simp [Sty.cells, styCells, e0]
  have d9 : W.cell? ⟨Bs, 9, none⟩ = some (.int .i64 w0) := by rw [hBs.cellAt]; simp [Sty.cells, styCells, e0]
  have d10 : W.cell? ⟨Bs, 10, none⟩ = some (.int .u32 c0) := by rw [hBs.cellAt]; simp [Sty.cells, styCells, e0]
  have d11 : W.cell? ⟨Bs, 11, none⟩ = some (.int .i64 s1) := by rw [hBs.cellAt]; simp [Sty.cells, styCells, e1]
  have d12 : W.cell? ⟨Bs, 12, none⟩ = some (.int .i64 w1) := by rw [hBs.cellAt]; simp [Sty.cells, styCells, e1]
  have d13 : W.cell? ⟨Bs, 13, none⟩ = some (.int .u32 c1) := by rw [hBs.cellAt]; simp [Sty.cells, styCells, e1]
  have d14 : W.cell? ⟨Bs, 14, none⟩ = some (.int .i64 s2) := by rw [hBs.cellAt]; simp [Sty.cells, styCells, e2]
  have d15 : W.cell? ⟨Bs, 15, none⟩ = some (.int .i64 w2) := by rw [hBs.cellAt]; simp [Sty.cells, styCells, e2]
  have d16 : W.cell? ⟨Bs, 16, none⟩ = some (.int .u32 c2) := by rw [hBs.cellAt]; simp [Sty.cells, styCells, e2]
  have d17 : W.cell? ⟨Bs, 17, none⟩ = some (.int .i64 s3) := by rw [hBs.cellAt]; simp [Sty.cells, styCells, e3]
  have d18 : W.cell? ⟨Bs, 18, none⟩ = some (.int .i64 w3) := by rw [hBs.cellAt]; simp [Sty.cells, styCells, e3]
  have d19 : W.cell? ⟨Bs, 19, none⟩ = some (.int .u32 c3) := by rw [hBs.cellAt]; simp [Sty.cells, styCells, e3]
  have i0 : ∀ w : World, (Instr.index 41 (.agg #[.int .i64 s0, .int .i64 w0, .int .u32 c0, .int .i64 s1, .int .i64 w1, .int .u32 c1, .int .i64 s2, .int .i64 w2, .int .u32 c2, .int .i64 s3, .int .i64 w3, .int .u32 c3]) (.int .i64 0)).run Try.prog w = .ok (.agg #[.int .i64 s0, .int .i64 w0, .int .u32 c0]) w := fun _ => by kernel_rfl
  have i1 : ∀ w : World, (Instr.index 41 (.agg #[.int .i64 s0, .int .i64 w0, .int .u32 c0, .int .i64 s1, .int .i64 w1, .int .u32 c1, .int .i64 s2, .int .i64 w2, .int .u32 c2, .int .i64 s3, .int .i64 w3, .int .u32 c3]) (.int .i64 1)).run Try.prog w = .ok (.agg #[.int .i64 s1, .int .i64 w1, .int .u32 c1]) w := fun _ => by kernel_rfl
  have i2 : ∀ w : World, (Instr.index 41 (.agg #[.int .i64 s0, .int .i64 w0, .int .u32 c0, .int .i64 s1, .int .i64 w1, .int .u32 c1, .int .i64 s2, .int .i64 w2, .int .u32 c2, .int .i64 s3, .int .i64 w3, .int .u32 c3]) (.int .i64 2)).run Try.prog w = .ok (.agg #[.int .i64 s2, .int .i64 w2, .int .u32 c2]) w := fun _ => by kernel_rfl
  have i3 : ∀ w : World, (Instr.index 41 (.agg #[.int .i64 s0, .int .i64 w0, .int .u32 c0, .int .i64 s1, .int .i64 w1, .int .u32 c1, .int .i64 s2, .int .i64 w2, .int .u32 c2, .int .i64 s3, .int .i64 w3, .int .u32 c3]) (.int .i64 3)).run Try.prog w = .ok (.agg #[.int .i64 s3, .int .i64 w3, .int .u32 c3]) w := fun _ => by kernel_rfl
  have la := hBs.lt
  have HY := Lib.hid hY
  have HJ := Lib.hid hJ
  have HL := Lib.hid la
  clear hBs hY hJ
  refine wpIn_wide.2 (wp_scope_straight ((wpIn_wide (n := n)).1 ?_))
  gi_wp2
  refine wpIn_label ?_
  gi_wp2
  gi_loopw [8] (fun i wr => ∃ k : Nat, k ≤ 4 ∧ i = .int .i64 k ∧ J (sdEls s.sd k) wr ∧ Hid (Stay B Bs W wr))
    (fun i _ => 4 - (intOf i).toNat)
  case atStart => exact ⟨0, Nat.zero_le _, rfl, h0, Lib.hid (Stay.refl _ _ _)⟩
  case round =>
    obtain ⟨k, hk, rfl, hJs, hnx⟩ := hrel
    clear d8 d9 d10 d11 d12 d13 d14 d15 d16 d17 d18 d19 la h0
    obtain ⟨lw, q0, q1, q2, q3⟩ := KB.out wr hnx.out
    have hz : B ≤ wr.heap.size := by have := hnx.out.1.size; omega
    by_cases hlt : k < 4
    · obtain ⟨⟨p, s', w', c⟩, ek⟩ : ∃ a, s.sd k = a := ⟨_, rfl⟩
      have ik : ∀ w : World, (Instr.index 41 (.agg #[.int .i64 s0, .int .i64 w0, .int .u32 c0, .int .i64 s1, .int .i64 w1, .int .u32 c1, .int .i64 s2, .int .i64 w2, .int .u32 c2, .int .i64 s3, .int .i64 w3, .int .u32 c3]) (.int .i64 k)).run Try.prog w = .ok (.agg #[.int .i64 s', .int .i64 w', .int .u32 c]) w := by
        obtain rfl | rfl | rfl | rfl : k = 0 ∨ k = 1 ∨ k = 2 ∨ k = 3 := by omega
        · rw [e0] at ek; cases ek; exact i0
        · rw [e1] at ek; cases ek; exact i1
        · rw [e2] at ek; cases ek; exact i2
        · rw [e3] at ek; cases ek; exact i3
      have qk : wr.cell? ⟨Bs, 4 + k, none⟩ = some (.int .i64 p) := by
        obtain rfl | rfl | rfl | rfl : k = 0 ∨ k = 1 ∨ k = 2 ∨ k = 3 := by omega
        · rw [e0] at ek; cases ek; exact q0
        · rw [e1] at ek; cases ek; exact q1
        · rw [e2] at ek; cases ek; exact q2
        · rw [e3] at ek; cases ek; exact q3
      clear i0 i1 i2 i3 q0 q1 q2 q3
      gi_wp2
      refine wpIn_wide.2 ?_
      obtain ⟨V, hV⟩ : ∃ V, wr.alloc (.cells #[.int .i64 s', .int .i64 w', .int .u32 c] 40) = V := ⟨_, rfl⟩
      have kl : Whole V wr.heap.size 40 [.int .i64 s', .int .i64 w', .int .u32 c] := hV ▸ whole_new wr [.int .i64 s', .int .i64 w', .int .u32 c] 40 _ rfl
      have bV : Below wr.heap.size wr V := hV ▸ (Below.refl _ wr).alloc (Nat.le_refl _) _
      have qV : V.cell? ⟨Bs, 4 + k, none⟩ = some (.int .i64 p) := (bV.cell (p := ⟨Bs, 4 + k, none⟩) lw).trans qk
      have lV := kl.lt
      have sV : V.heap.size = wr.heap.size + 1 := by rw [← hV]; simp
      rw [hV]
      clear hV qk
      have f0 := kl.cellAt 0
      have f1 := kl.cellAt 1
      have f2 := kl.cellAt 2
      refine region_held_at (S := fun X => Hid (Below V.heap.size V X)) (by kernel_rfl) (fun W6 hW6 => ?_)
      have SV : Hid (Below V.heap.size V W6) := by apply Lib.hid; rw [← hW6]; exact below_dn _ V 1
      clear hW6
      refine wpAnyH_take (i := 0) (v := .int .i64 k) rfl (by kernel_rfl) (by kernel_rfl) (by kernel_rfl) (fun _ _ _ h => h) (Or.inl ⟨by rfl, ?_⟩) SV ?_
      · intro X hX; go_simp
      change wpAnyH _ _ _ _ _ _ _ { tmps := #[.func (.yield l) #[] #[], .pointer (some ⟨Bs, 0, none⟩), undef, .int .i64 k, .pointer (some ⟨wr.heap.size, 0, none⟩), u5, .pointer (some ⟨Bs, 8, none⟩), .agg #[.int .i64 s0, .int .i64 w0, .int .u32 c0, .int .i64 s1, .int .i64 w1, .int .u32 c1, .int .i64 s2, .int .i64 w2, .int .u32 c2, .int .i64 s3, .int .i64 w3, .int .u32 c3], .int .i64 k, .bool (decide ((k : Int) < 4)), .int .i64 k, .agg #[.int .i64 s', .int .i64 w', .int .u32 c], .int .i64 k, u13, u14, u15, u16, u17, u18, u19, u20, u21, u22, u23, u24, u25, u26, u27, u28], defers := [] } _
      refine wpAnyH_take (i := 1) (v := .pointer (some ⟨Bs, 4, none⟩)) rfl (by kernel_rfl) (by kernel_rfl) (by kernel_rfl) (fun _ _ _ h => h) (Or.inl ⟨by rfl, ?_⟩) SV ?_
      · intro X hX; go_simp
      change wpAnyH _ _ _ _ _ _ _ { tmps := #[.func (.yield l) #[] #[], .pointer (some ⟨Bs, 0, none⟩), undef, .int .i64 k, .pointer (some ⟨wr.heap.size, 0, none⟩), u5, .pointer (some ⟨Bs, 8, none⟩), .agg #[.int .i64 s0, .int .i64 w0, .int .u32 c0, .int .i64 s1, .int .i64 w1, .int .u32 c1, .int .i64 s2, .int .i64 w2, .int .u32 c2, .int .i64 s3, .int .i64 w3, .int .u32 c3], .int .i64 k, .bool (decide ((k : Int) < 4)), .int .i64 k, .agg #[.int .i64 s', .int .i64 w', .int .u32 c], .int .i64 k, .pointer (some ⟨Bs, 4, none⟩), u14, u15, u16, u17, u18, u19, u20, u21, u22, u23, u24, u25, u26, u27, u28], defers := [] } _
      refine wpAnyH_take (i := 2) (v := .pointer (some ⟨Bs, 4 + k, none⟩)) rfl (by kernel_rfl) (by kernel_rfl) (by kernel_rfl) (fun _ _ _ h => h) (Or.inl ⟨by rfl, ?_⟩) SV ?_
      · intro X hX; have hk4 : (k : Int) < 4 := (by omega); go_simp
      change wpAnyH _ _ _ _ _ _ _ { tmps := #[.func (.yield l) #[] #[], .pointer (some ⟨Bs, 0, none⟩), undef, .int .i64 k, .pointer (some ⟨wr.heap.size, 0, none⟩), u5, .pointer (some ⟨Bs, 8, none⟩), .agg #[.int .i64 s0, .int .i64 w0, .int .u32 c0, .int .i64 s1, .int .i64 w1, .int .u32 c1, .int .i64 s2, .int .i64 w2, .int .u32 c2, .int .i64 s3, .int .i64 w3, .int .u32 c3], .int .i64 k, .bool (decide ((k : Int) < 4)), .int .i64 k, .agg #[.int .i64 s', .int .i64 w', .int .u32 c], .int .i64 k, .pointer (some ⟨Bs, 4, none⟩), .pointer (some ⟨Bs, 4 + k, none⟩), u15, u16, u17, u18, u19, u20, u21, u22, u23, u24, u25, u26, u27, u28], defers := [] } _
      refine wpAnyH_take (i := 3) (v := .int .i64 p) rfl (by kernel_rfl) (by kernel_rfl) (by kernel_rfl) (fun _ _ _ h => h) (Or.inl ⟨by rfl, ?_⟩) SV ?_
      · intro X hX; have o0 := (hX.out.cell (p := ⟨Bs, 4 + k, none⟩) (by simp; omega)).trans qV; go_simp
      change wpAnyH _ _ _ _ _ _ _ { tmps := #[.func (.yield l) #[] #[], .pointer (some ⟨Bs, 0, none⟩), undef, .int .i64 k, .pointer (some ⟨wr.heap.size, 0, none⟩), u5, .pointer (some ⟨Bs, 8, none⟩), .agg #[.int .i64 s0, .int .i64 w0, .int .u32 c0, .int .i64 s1, .int .i64 w1, .int .u32 c1, .int .i64 s2, .int .i64 w2, .int .u32 c2, .int .i64 s3, .int .i64 w3, .int .u32 c3], .int .i64 k, .bool (decide ((k : Int) < 4)), .int .i64 k, .agg #[.int .i64 s', .int .i64 w', .int .u32 c], .int .i64 k, .pointer (some ⟨Bs, 4, none⟩), .pointer (some ⟨Bs, 4 + k, none⟩), .int .i64 p, u16, u17, u18, u19, u20, u21, u22, u23, u24, u25, u26, u27, u28], defers := [] } _
      refine wpAnyH_take (i := 4) (v := .agg #[.int .i64 s', .int .i64 w', .int .u32 c]) rfl (by kernel_rfl) (by kernel_rfl) (by kernel_rfl) (fun _ _ _ h => h) (Or.inl ⟨by rfl, ?_⟩) SV ?_
      · intro X hX; have o0 := (hX.out.cell (p := ⟨wr.heap.size, 0, none⟩) lV).trans f0; have o1 := (hX.out.cell (p := ⟨wr.heap.size, 1, none⟩) lV).trans f1; have o2 := (hX.out.cell (p := ⟨wr.heap.size, 2, none⟩) lV).trans f2; go_simp
      change wpAnyH _ _ _ _ _ _ _ { tmps := #[.func (.yield l) #[] #[], .pointer (some ⟨Bs, 0, none⟩), undef, .int .i64 k, .pointer (some ⟨wr.heap.size, 0, none⟩), u5, .pointer (some ⟨Bs, 8, none⟩), .agg #[.int .i64 s0, .int .i64 w0, .int .u32 c0, .int .i64 s1, .int .i64 w1, .int .u32 c1, .int .i64 s2, .int .i64 w2, .int .u32 c2, .int .i64 s3, .int .i64 w3, .int .u32 c3], .int .i64 k, .bool (decide ((k : Int) < 4)), .int .i64 k, .agg #[.int .i64 s', .int .i64 w', .int .u32 c], .int .i64 k, .pointer (some ⟨Bs, 4, none⟩), .pointer (some ⟨Bs, 4 + k, none⟩), .int .i64 p, .agg #[.int .i64 s', .int .i64 w', .int .u32 c], u17, u18, u19, u20, u21, u22, u23, u24, u25, u26, u27, u28], defers := [] } _
      refine wpAnyH_take (i := 5) (v := .agg #[.int .i64 p, .int .i64 s', .int .i64 w', .int .u32 c]) rfl (by kernel_rfl) (by kernel_rfl) (by kernel_rfl) (fun _ _ _ h => h) (Or.inl ⟨by rfl, ?_⟩) SV ?_
      · intro X hX; go_simp
      change wpAnyH _ _ _ _ _ _ _ { tmps := #[.func (.yield l) #[] #[], .pointer (some ⟨Bs, 0, none⟩), undef, .int .i64 k, .pointer (some ⟨wr.heap.size, 0, none⟩), u5, .pointer (some ⟨Bs, 8, none⟩), .agg #[.int .i64 s0, .int .i64 w0, .int .u32 c0, .int .i64 s1, .int .i64 w1, .int .u32 c1, .int .i64 s2, .int .i64 w2, .int .u32 c2, .int .i64 s3, .int .i64 w3, .int .u32 c3], .int .i64 k, .bool (decide ((k : Int) < 4)), .int .i64 k, .agg #[.int .i64 s', .int .i64 w', .int .u32 c], .int .i64 k, .pointer (some ⟨Bs, 4, none⟩), .pointer (some ⟨Bs, 4 + k, none⟩), .int .i64 p, .agg #[.int .i64 s', .int .i64 w', .int .u32 c], .agg #[.int .i64 p, .int .i64 s', .int .i64 w', .int .u32 c], u18, u19, u20, u21, u22, u23, u24, u25, u26, u27, u28], defers := [] } _
      refine wpAnyH_all (rs := [6]) (by kernel_rfl) (by simp) ?_
      intro i hi6; obtain rfl : i = 6 := by simpa using hi6
      refine wpOp_step rfl (fun K hK => ?_)
      go_simp
      have ZS : Hid (Below V.heap.size V (W6.alloc (.cells #[.int .i64 0, .int .i64 0, .int .i64 0, .int .u32 0] 80))) := Lib.hid (SV.out.alloc SV.out.size _)
      refine hK _ _ ⟨ZS, ?_⟩
      clear hK K hi6 ZS
      change wpAnyH _ _ _ _ _ _ _ { tmps := #[.func (.yield l) #[] #[], .pointer (some ⟨Bs, 0, none⟩), undef, .int .i64 k, .pointer (some ⟨wr.heap.size, 0, none⟩), .pointer (some ⟨W6.heap.size, 0, none⟩), .pointer (some ⟨Bs, 8, none⟩), .agg #[.int .i64 s0, .int .i64 w0, .int .u32 c0, .int .i64 s1, .int .i64 w1, .int .u32 c1, .int .i64 s2, .int .i64 w2, .int .u32 c2, .int .i64 s3, .int .i64 w3, .int .u32 c3], .int .i64 k, .bool true, .int .i64 k, .agg #[.int .i64 s', .int .i64 w', .int .u32 c], .int .i64 k, .pointer (some ⟨Bs, 4, none⟩), .pointer (some ⟨Bs, 4 + k, none⟩), .int .i64 p, .agg #[.int .i64 s', .int .i64 w', .int .u32 c], .agg #[.int .i64 p, .int .i64 s', .int .i64 w', .int .u32 c], u18, u19, u20, u21, u22, u23, u24, u25, u26, u27, u28], defers := [] } _
      refine wpAnyH_all (rs := [7]) (by kernel_rfl) (by simp) ?_
      intro i hi7; obtain rfl : i = 7 := by simpa using hi7
      refine wpOp_step rfl (fun K hK => ?_)
      go_simp
      have ZS : Hid (Below V.heap.size V (W6.alloc (.cells #[.int .i64 p, .int .i64 s', .int .i64 w', .int .u32 c] 80))) := Lib.hid (SV.out.alloc SV.out.size _)
      have kz := whole_new W6 [.int .i64 p, .int .i64 s', .int .i64 w', .int .u32 c] 80 _ rfl
      refine hK _ _ ⟨ZS, ?_⟩
      clear hK K hi7
      change wpAnyH _ _ _ _ _ _ _ { tmps := #[.func (.yield l) #[] #[], .pointer (some ⟨Bs, 0, none⟩), undef, .int .i64 k, .pointer (some ⟨wr.heap.size, 0, none⟩), .pointer (some ⟨W6.heap.size, 0, none⟩), .pointer (some ⟨Bs, 8, none⟩), .agg #[.int .i64 s0, .int .i64 w0, .int .u32 c0, .int .i64 s1, .int .i64 w1, .int .u32 c1, .int .i64 s2, .int .i64 w2, .int .u32 c2, .int .i64 s3, .int .i64 w3, .int .u32 c3], .int .i64 k, .bool true, .int .i64 k, .agg #[.int .i64 s', .int .i64 w', .int .u32 c], .int .i64 k, .pointer (some ⟨Bs, 4, none⟩), .pointer (some ⟨Bs, 4 + k, none⟩), .int .i64 p, .agg #[.int .i64 s', .int .i64 w', .int .u32 c], .agg #[.int .i64 p, .int .i64 s', .int .i64 w', .int .u32 c], u18, u19, u20, u21, u22, u23, u24, u25, u26, u27, u28], defers := [] } _
      have z6 := SV.out.size
      generalize hZ : W6.alloc (.cells [.int .i64 p, .int .i64 s', .int .i64 w', .int .u32 c].toArray 80) = Z at *
      have g0 := kz.cellAt 0
      have g1 := kz.cellAt 1
      have g2 := kz.cellAt 2
      have g3 := kz.cellAt 3
      have lz := kz.lt
      have bZ : Below wr.heap.size wr Z := bV.trans (ZS.out.mono (by omega))
      have hJZ : J (sdEls s.sd k) Z := abides_below HJ.out hJs bZ
      have hSZ : Hid (Stay B Bs W Z) := Lib.hid (hnx.out.trans ⟨bZ.mono hz, bZ.block Bs lw⟩)
      have hzz : Hid (B ≤ Z.heap.size) := Lib.hid (by have := bZ.size; omega)
      refine wpAnyH_done (by kernel_rfl) ?_ _
      clear hZ KB ik qV f0 f1 f2 kl SV ZS bV bZ hJs hnx e0 e1 e2 e3 kz z6 lw hz lV sV
      by_cases hz0 : (⟨p, s', w', c⟩ : Sd) = Sd.zero
      · have hel : Hid (sdEls s.sd (k + 1) = sdEls s.sd k) := Lib.hid (by rw [sdEls, if_pos (by rw [ek]; exact hz0)])
        have HJZ := Lib.hid hJZ
        simp only [Sd.zero, Sd.mk.injEq] at hz0
        obtain ⟨rfl, rfl, rfl, rfl⟩ := hz0
        clear HY HJ ek hJZ
        gi_wp2
        go_roundw
        case rel => exact ⟨k + 1, by omega, by simp, by rw [hel.out]; exact HJZ.out, hSZ⟩
        case measure => simp [intOf]; omega
      · have hel : Hid (sdEls s.sd (k + 1) = sdEls s.sd k ++ [(k, ⟨p, s', w', c⟩)]) := Lib.hid (by rw [sdEls, if_neg (by rw [ek]; exact hz0), ek])
        obtain ⟨fn, tmps, assign, body, hy, hR⟩ := HY.out _ (k, ⟨p, s', w', c⟩) _ hJZ ⟨k, hlt, by rw [ek]; exact hz0, rfl, by rw [ek]⟩
        dsimp only [encS] at hy
        have HR := Lib.hid hR
        have hE : ∀ X : World, (binOp .eql 80 (.agg #[.int .i64 p, .int .i64 s', .int .i64 w', .int .u32 c]) (.agg #[.int .i64 0, .int .i64 0, .int .i64 0, .int .u32 0])).run Try.prog X = .ok (.bool false) X := fun X => by rw [side_eql, decide_eq_false hz0]
        clear HY HJ ek hJZ hR hz0
        gi_wp2
        refine HR.out.mono ?_
        rintro e W3 (⟨rfl, hJ3, hk3⟩ | ⟨rfl, hJx3⟩)
        · have H3 := Lib.hid hJ3
          have K3 := Lib.hid hk3
          clear hJ3 hk3
          gi_wp2
          go_roundw
          case rel => exact ⟨k + 1, by omega, by simp, by rw [hel.out]; exact H3.out, Lib.hid (hSZ.out.trans K3.out)⟩
          case measure => simp [intOf]; omega
        · have H3 := Lib.hid hJx3
          clear hJx3
          gi_wp2
          simp only [Exit.noGoto]
          go_end0
          exact ⟨⟨_, rfl⟩, .inr ⟨_, trivial, H3.out⟩⟩
    · have e : Hid (k = 4) := Lib.hid (by omega)
      have HJs := Lib.hid hJs
      clear hJs KB q0 q1 q2 q3 lw
      gi_wp2
      simp only [Exit.noGoto]
      go_end0
      exact ⟨⟨_, rfl⟩, .inl ⟨_, rfl, by rw [← e.out]; exact HJs.out⟩⟩
theorem sides_next (n : Nat) (hn : 1 ≤ n) (Bs B : Nat) (s : Sty) (w : World) (hB : B ≤ w.heap.size) (hBs : Whole w Bs 44 s.cells) :
    SeqNext Fence.wide n Try.prog 58 #[.pointer (some ⟨Bs, 0, none⟩)] encS (Stay B Bs) (nxtS s.sd) (fun ys => ys = sdEls s.sd 4) (fun _ => True) w := fun l J Jx W hW hJ hY h0 =>
  sides_in n hn l Bs B s J Jx hY W (Nat.le_trans hB hW.size) hJ (hBs.below hW hBs.lt) h0
set_option maxRecDepth 100000 in
set_option maxHeartbeats 1000000 in
theorem sidesF_any (s : Sty) (w : World) :
    Calls Try.prog 43 #[s.val] w fun e w' => e = .returned (.func (.func 58) #[] #[.pointer (some ⟨w.heap.size, 0, none⟩)]) ∧ w' = w.alloc (.cells s.cells.toArray 44) := by
  unfold Sty.val Sty.cells styCells
  go_enter Try.func43, Try.ntmps43
  go_wp2
  go_ret
  exact ⟨rfl, rfl⟩
end Go.Proofs.Ytecnapecmioamaa
