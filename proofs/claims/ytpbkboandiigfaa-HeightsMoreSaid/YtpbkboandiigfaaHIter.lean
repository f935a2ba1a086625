/- The iterator heights.cells: each place with its height, in order. -/
import Derived.Test.YtpbkboandiigfaaHP
import Derived.Test.YtpbkboandiigfaaKMem
import Derived.Test.YtpbkboandiigfaaHTail
import Derived.Test.YtpbkboandiigfaaROwn
import Derived.Test.YtpbkboandiigfaaTKeep
import Derived.Test.YtpbkboandiigfaaMarks
import Derived.RangeFuncNested
import Derived.RangeFuncBound
import Derived.RangeFuncCalls
import Derived.RangeFuncLeaves
import Derived.RangeFuncBox
import Derived.Maps.OwnIn
import Derived.Sort.LoopGhostIn
import Derived.ScopeJumps
import Derived.WalkMore
import Derived.Shelf.Abstract
import Derived.Shelf.RegionOpen
import Derived.WalkKit
import Derived.OwnWalkIn
import Derived.TacticsInMore
import Derived.LoopNIn
import Derived.LoopIn
namespace Go.Proofs.Ytpbkboandiigfaa
open Go.RowKit Go.Shelf Go.Sort Go.Lib
set_option linter.unusedVariables false
set_option linter.unusedSimpArgs false
attribute [local go_sem] Oper.semAt_some

theorem cells_any (p q : Option Addr) (m c m' c' : Nat) (w : World) :
    Calls Try.prog 21 #[.slice p m c, .slice q m' c'] w fun e w' => e = .returned (.func (.func 41) #[] #[.pointer (some ⟨w.heap.size, 0, none⟩), .pointer (some ⟨w.heap.size + 1, 0, none⟩)]) ∧ w' = (w.alloc (.cells #[.slice p m c] 23)).alloc (.cells #[.slice q m' c'] 22) := by
  go_enter Try.func21, Try.ntmps21
  go_wp2
  go_ret
  exact ⟨by simp, rfl⟩
/-- what lies in memory for the iterator: the places, and the heights -/
structure CellsAt (Bp Bh b off c b2 off2 c2 : Nat) (zs : List Ht) (V : World) : Prop where
  bp : V.cell? ⟨Bp, 0, none⟩ = some (.slice (some ⟨b, off, none⟩) zs.length c)
  bh : V.cell? ⟨Bh, 0, none⟩ = some (.slice (some ⟨b2, off2, none⟩) zs.length c2)
  pl : ∀ (k : Nat) (z : Ht), zs[k]? = some z → V.cell? ⟨b, off + k * 5, none⟩ = some (.int .i64 z.nd) ∧ V.cell? ⟨b, off + k * 5 + 1, none⟩ = some (.int .i64 z.ro) ∧ V.cell? ⟨b, off + k * 5 + 2, none⟩ = some (.int .i64 z.co) ∧ V.cell? ⟨b, off + k * 5 + 3, none⟩ = some (.int .i64 z.rs) ∧ V.cell? ⟨b, off + k * 5 + 4, none⟩ = some (.int .i64 z.cs)
  hg : ∀ (k : Nat) (z : Ht), zs[k]? = some z → V.cell? ⟨b2, off2 + k, none⟩ = some (.int .i64 z.hi)
set_option maxRecDepth 100000 in
set_option maxHeartbeats 2000000 in
theorem cells1_in (n : Nat) (hn : 1 ≤ n) (l Bp Bh b off c b2 off2 c2 : Nat) (zs : List Ht) (hreach : zs.length ≤ 9223372036854775807) (Kp : World → World → Prop)
    (J Jx : List Ht → World → Prop) (W : World) (hKt : ∀ a b c : World, Kp a b → Kp b c → Kp a c) (hKb : ∀ V X, W.heap.size ≤ V.heap.size → Below V.heap.size V X → Kp V X) (hKs : ∀ V, Kp W V → W.heap.size ≤ V.heap.size) (hC : ∀ V, Kp W V → CellsAt Bp Bh b off c b2 off2 c2 zs V)
    (hY : ∀ pre x V, J pre V → zs[pre.length]? = some x → YieldAt Fence.wide (n - 1) Try.prog l #[x.val] V fun e V' =>
      (e = .returned (.bool true) ∧ J (pre ++ [x]) V' ∧ Kp V V') ∨ (e = .returned (.bool false) ∧ Jx (pre ++ [x]) V'))
    (hJ : ∀ s X Y, W.heap.size ≤ X.heap.size → J s X → Below X.heap.size X Y → J s Y) (h0 : J [] W) :
    CallsIn Fence.wide n Try.prog 41 #[.func (.yield l) #[] #[], .pointer (some ⟨Bp, 0, none⟩), .pointer (some ⟨Bh, 0, none⟩)] W fun e W' => (∃ v, e = .returned v) ∧
      ((∃ ys, ys = zs ∧ J ys W') ∨ (∃ pre, (∃ k, k ≤ zs.length ∧ pre = zs.take k) ∧ Jx pre W')) := by
  have k0 : Kp W W := hKb W W (Nat.le_refl _) (Below.refl _ _)
  have hbp := (hC W k0).bp
  refine callsIn_of_wp Try.func41 rfl trivial ?_ rfl
  simp only [Try.ntmps41, List.size_toArray, List.length_cons, List.length_nil, Nat.reduceAdd, Nat.reduceSub, Array.replicate_succ, Array.replicate_zero, List.push_toArray, List.append_toArray, List.nil_append, List.cons_append]
  have lBp := cell_lt hbp
  have HY := Lib.hid hY
  have HJ := Lib.hid hJ
  have HC := Lib.hid hC
  have HKT := Lib.hid hKt
  have HKB := Lib.hid hKb
  have HKS := Lib.hid hKs
  have H0 := Lib.hid h0
  clear hY hJ hC hKt hKb hKs h0
  gi_wp2
  gi_loopw [8] (fun i wr => ∃ k : Nat, k ≤ zs.length ∧ i = .int .i64 k ∧ Hid (J (zs.take k) wr) ∧ Hid (Kp W wr)) (fun i _ => zs.length - (intOf i).toNat)
  case atStart => exact ⟨0, Nat.zero_le _, rfl, by simpa using H0, Lib.hid k0⟩
  case round =>
    obtain ⟨k, hk, rfl, hJs, hnx⟩ := hrel
    clear H0 k0 hbp lBp
    by_cases hlt : k < zs.length
    · obtain ⟨r, hr⟩ : ∃ r, zs[k] = r := ⟨_, rfl⟩
      have hr' : zs[k]? = some r := by rw [List.getElem?_eq_getElem hlt, hr]
      have hcw := HC.out wr hnx.out
      obtain ⟨q0, q1, q2, q3, q4⟩ := hcw.pl k r hr'
      have q5 := hcw.hg k r hr'
      have q6 := hcw.bh
      have l0 := cell_lt q0
      have l5 := cell_lt q5
      have l6 := cell_lt q6
      have lW := HKS.out wr hnx.out
      have hsn : Hid (zs.take (k + 1) = zs.take k ++ [r]) := Lib.hid (by rw [List.take_succ_eq_append_getElem hlt, hr])
      obtain ⟨nd, ro, co, rs, cs, hi⟩ := r
      dsimp only at q0 q1 q2 q3 q4 q5
      have hB1 : Below wr.heap.size wr (wr.alloc (.cells #[.int .i64 nd, .int .i64 ro, .int .i64 co, .int .i64 rs, .int .i64 cs] 35)) := (Below.refl _ _).alloc (Nat.le_refl _) _
      have KN := Lib.hid (whole_new wr [.int .i64 nd, .int .i64 ro, .int .i64 co, .int .i64 rs, .int .i64 cs] 35 _ rfl)
      have HB1 := Lib.hid hB1
      have HR' := Lib.hid hr'
      clear hr hr' hcw hB1 q5 q6 l5 l6
      gi_wp2
      refine wide_still_tail 7 (by kernel_rfl) (by simp only [LetsOut, Exit.inBlock, Exit.then, bodyPost]; rintro ⟨x, y, ⟨v, h⟩, _⟩; cases h) (by decide +kernel) (fun w2 hw2 => ?_)
      have hb2 : Below wr.heap.size wr w2 := by rw [← hw2]; exact HB1.out.trans (below_dn _ _ 1)
      have hJ1 := HJ.out _ _ _ lW hJs.out hb2
      have HK1 := Lib.hid (HKT.out _ _ _ hnx.out (HKB.out _ _ lW hb2))
      have hc2 := HC.out w2 HK1.out
      have q5 := hc2.hg k _ HR'.out
      have q6 := hc2.bh
      have l5 := cell_lt q5
      have l6 := cell_lt q6
      have k2 : Whole w2 wr.heap.size 35 [.int .i64 nd, .int .i64 ro, .int .i64 co, .int .i64 rs, .int .i64 cs] := by rw [← hw2]; exact KN.out.below (below_dn _ _ 1) KN.out.lt
      have p0 := k2.cellAt 0
      have p1 := k2.cellAt 1
      have p2 := k2.cellAt 2
      have p3 := k2.cellAt 3
      have p4 := k2.cellAt 4
      have lk := k2.lt
      simp only [List.getElem?_cons_zero, List.getElem?_cons_succ] at p0 p1 p2 p3 p4
      dsimp only at q5
      obtain ⟨fn, tmps, assign, body, hy, hR⟩ := HY.out _ ⟨nd, ro, co, rs, cs, hi⟩ _ hJ1 (by rw [List.length_take, Nat.min_eq_left (Nat.le_of_lt hlt)]; exact HR'.out)
      have HR := Lib.hid hR
      clear hJs hJ1 hR HY HC hw2 hb2 hc2 k2 KN HB1 q0 q1 q2 q3 q4 l0
      dsimp only [Ht.val] at hy
      simp only [List.take_succ_cons, List.take_zero, List.drop_succ_cons, List.drop_zero]
      repeat still_step
      refine wpStill_nil ?_
      gi_wp2
      refine HR.out.mono ?_
      rintro e W3 (⟨rfl, hJ3, hk3⟩ | ⟨rfl, hJx3⟩)
      · have H3 := Lib.hid hJ3
        have K3 := Lib.hid (HKT.out _ _ _ HK1.out hk3)
        clear hJ3 hk3 hy HR q5 q6 p0 p1 p2 p3 p4
        gi_wp2
        go_roundw
        case rel => exact ⟨k + 1, by omega, by go_num, by rw [hsn.out]; exact H3, K3⟩
        case measure => simp [intOf]; omega
      · have H3 := Lib.hid hJx3
        clear hJx3 hy HR q5 q6 p0 p1 p2 p3 p4
        gi_wp2
        refine bodyPost_ret (results_none rfl _ _ _) rfl ?_
        exact ⟨⟨_, rfl⟩, .inr ⟨_, ⟨k + 1, by omega, hsn.out.symm⟩, H3.out⟩⟩
    · have e : Hid (zs.take k = zs) := Lib.hid (List.take_of_length_le (by omega))
      clear HY HC HJ
      gi_wp2
      go_end0
      exact ⟨⟨_, rfl⟩, .inl ⟨_, rfl, by rw [← e.out]; exact hJs.out⟩⟩
set_option maxRecDepth 100000 in
set_option maxHeartbeats 1000000 in
theorem cells1_nil_in (F : Fence) (n : Nat) (hf : F.fn 41) (hro : F.round = none) (l Bp Bh : Nat) (a : Option Addr) (cap : Nat) (J : List Ht → World → Prop) (W : World) (hBs : W.cell? ⟨Bp, 0, none⟩ = some (.slice a 0 cap)) (h0 : J [] W) :
    CallsIn F n Try.prog 41 #[.func (.yield l) #[] #[], .pointer (some ⟨Bp, 0, none⟩), .pointer (some ⟨Bh, 0, none⟩)] W fun e W' => (∃ v, e = .returned v) ∧ J [] W' := by
  refine callsIn_of_wp Try.func41 rfl hf ?_ hro
  simp only [Try.ntmps41, List.size_toArray, List.length_cons, List.length_nil, Nat.reduceAdd, Nat.reduceSub, Array.replicate_succ, Array.replicate_zero, List.push_toArray, List.append_toArray, List.nil_append, List.cons_append]
  have HJ := Lib.hid h0
  clear h0
  gi_wp2
  gi_loopw [8] (fun i wr => i = .int .i64 0 ∧ Hid (J [] wr)) (fun _ _ => 0)
  case atStart => exact ⟨rfl, HJ⟩
  case round =>
    obtain ⟨rfl, hJs⟩ := hrel
    gi_wp2
    go_end0
    exact ⟨⟨_, rfl⟩, hJs.out⟩
theorem CellsAt.same {Bp Bh b off c b2 off2 c2 : Nat} {zs : List Ht} {V X : World} (h : CellsAt Bp Bh b off c b2 off2 c2 zs V) (hs : ∀ k, k < V.heap.size → X.heap[k]? = V.heap[k]?) : CellsAt Bp Bh b off c b2 off2 c2 zs X := by
  have key : ∀ (a : Addr) (v : Value), V.cell? a = some v → X.cell? a = some v := fun a v hv => (World.cell?_of_block (a := a) (hs a.block (cell_lt hv))).trans hv
  refine ⟨key _ _ h.bp, key _ _ h.bh, fun k z hz => ?_, fun k z hz => key _ _ (h.hg k z hz)⟩
  obtain ⟨a0, a1, a2, a3, a4⟩ := h.pl k z hz
  exact ⟨key _ _ a0, key _ _ a1, key _ _ a2, key _ _ a3, key _ _ a4⟩
/-- places and heights in memory, behind two boxes -/
def TwoBox (Bp Bh : Nat) (p q : Option Addr) (m c c' : Nat) (W : World) : Prop := W.cell? ⟨Bp, 0, none⟩ = some (.slice p m c) ∧ W.cell? ⟨Bh, 0, none⟩ = some (.slice q m c')
theorem cellsAt_of {Bp Bh m c c' : Nat} {p q : Option Addr} {ps : List Pc} {hs : List Int} {w : World} (hm : ps.length = m) (hm' : hs.length = m) (h0 : m ≠ 0) (hT : TwoBox Bp Bh p q m c c' w) (hP : RowsK Pc.cells 5 w (.slice p m c) ps) (hH : Ints w (.slice q m c') hs) :
    ∃ b off b2 off2, p = some ⟨b, off, none⟩ ∧ q = some ⟨b2, off2, none⟩ ∧ CellsAt Bp Bh b off c b2 off2 c' (htZ ps hs) w := by
  obtain ⟨_, ⟨a, cap, e, he⟩ | ⟨b, off, cap, e, hlt, hc⟩⟩ := hP
  · rw [he] at hm; exact absurd hm.symm h0
  · obtain ⟨_, ⟨a2, cap2, e2, he2⟩ | ⟨b2, off2, cap2, e2, hc2⟩⟩ := hH
    · rw [he2] at hm'; exact absurd hm'.symm h0
    · injection e with e1 e2' e3
      injection e2 with f1 f2 f3
      subst e1 f1
      have hl : (htZ ps hs).length = m := by rw [htZ_len _ _ (by omega)]; exact hm
      refine ⟨b, off, b2, off2, rfl, rfl, by rw [hl]; exact hT.1, by rw [hl]; exact hT.2, fun k z hz => ?_, fun k z hz => ?_⟩
      · obtain ⟨pc, x, h1, h2, rfl⟩ := htZ_get ps hs k z hz
        have hk := (List.getElem?_eq_some_iff.1 h1).1
        have hx := hc k hk
        rw [getElem!_pos ps k hk, (List.getElem?_eq_some_iff.1 h1).2] at hx
        exact ⟨hx 0 _ rfl, hx 1 _ rfl, hx 2 _ rfl, hx 3 _ rfl, hx 4 _ rfl⟩
      · obtain ⟨pc, x, h1, h2, rfl⟩ := htZ_get ps hs k z hz
        have hk := (List.getElem?_eq_some_iff.1 h2).1
        have hx := hc2 k hk
        rw [h2] at hx
        exact hx
theorem abides_belowH {β : Type} {B : Nat} {J : β → World → Prop} (h : AbidesFrom B J) {s : β} {W W' : World} (hs : J s W) (hb : Below W.heap.size W W') : J s W' :=
  h s W W' none hs ⟨hb.os, hb.tape, hb.output, hb.size, fun k hk _ => hb.block k hk⟩ (fun r e => by cases e)
/-- heights.cells(l, highs...) hands back a value that yields the cells: all; or the first k of them -/
theorem cells_stops (n : Nat) (hn : 1 ≤ n) (Bp Bh : Nat) (p q : Option Addr) (m c c' : Nat) (hmm : m ≤ 9223372036854775807) (ps : List Pc) (hs : List Int) (hm : ps.length = m) (hm' : hs.length = m) (w w0 : World) (hT : TwoBox Bp Bh p q m c c' w0)
    (hP : RowsK Pc.cells 5 w0 (.slice p m c) ps) (hH : Ints w0 (.slice q m c') hs) (hw0 : Below w0.heap.size w0 w) :
    SeqStopsK Fence.wide n Try.prog 41 #[.pointer (some ⟨Bp, 0, none⟩), .pointer (some ⟨Bh, 0, none⟩)] (fun x : Ht => #[x.val]) (Below w0.heap.size) (fun ys => ys = htZ ps hs)
      (fun pre => ∃ k, k ≤ (htZ ps hs).length ∧ pre = (htZ ps hs).take k) (htZ ps hs).length w := fun l J Jx W hW hJ _ hY h0 => by
  have hl : (htZ ps hs).length = m := by rw [htZ_len _ _ (by omega)]; exact hm
  have hsz := hW.size
  have hsz0 := hw0.size
  have hWW : Below w0.heap.size w0 W := hw0.trans (hW.mono hsz0)
  have hc1 : W.cell? ⟨Bp, 0, none⟩ = some (.slice p m c) := (hWW.cell (p := ⟨Bp, 0, none⟩) (cell_lt hT.1)).trans hT.1
  by_cases h00 : m = 0
  · subst h00
    have e : htZ ps hs = [] := List.length_eq_zero_iff.1 hl
    rw [e] at hY ⊢
    exact (cells1_nil_in Fence.wide n trivial rfl l Bp Bh p c J W hc1 h0).mono fun e W' ⟨he, hj⟩ => ⟨he, .inl ⟨_, rfl, hj⟩⟩
  · obtain ⟨b, off, b2, off2, rfl, rfl, hC⟩ := cellsAt_of hm hm' h00 hT hP hH
    refine cells1_in n hn l Bp Bh b off c b2 off2 c' (htZ ps hs) (by omega) (Below w0.heap.size) J Jx W (fun _ _ _ h k => h.trans k) (fun V X hV hb => hb.mono (by omega)) (fun V hV => hV.size) (fun V hV => hC.same fun k hk => (hWW.trans hV).block k hk) (fun pre x V hj hx => hY pre x V hj (List.getElem?_eq_some_iff.1 hx).1) (fun s X Y hX hs hb => abides_belowH hJ hs hb) h0
/-- the same, for rounds that write what lies behind -/
theorem cells_keep (n : Nat) (hn : 1 ≤ n) (Bp Bh : Nat) (p q : Option Addr) (m c c' : Nat) (hmm : m ≤ 9223372036854775807) (ps : List Pc) (hs : List Int) (hm : ps.length = m) (hm' : hs.length = m) (w : World) (hT : TwoBox Bp Bh p q m c c' w)
    (hP : RowsK Pc.cells 5 w (.slice p m c) ps) (hH : Ints w (.slice q m c') hs) :
    SeqKeep Fence.wide n Try.prog 41 #[.pointer (some ⟨Bp, 0, none⟩), .pointer (some ⟨Bh, 0, none⟩)] (fun x : Ht => #[x.val]) (KeepBut [w.heap.size + 1]) (fun pre x => (htZ ps hs)[pre.length]? = some x) (fun ys => ys = htZ ps hs) (fun _ => True) w := fun l J Jx W hW hs2 hJ hY h0 => by
  have hl : (htZ ps hs).length = m := by rw [htZ_len _ _ (by omega)]; exact hm
  have hc1 : W.cell? ⟨Bp, 0, none⟩ = some (.slice p m c) := (hW.cell (p := ⟨Bp, 0, none⟩) (cell_lt hT.1)).trans hT.1
  by_cases h00 : m = 0
  · subst h00
    have e : htZ ps hs = [] := List.length_eq_zero_iff.1 hl
    exact (cells1_nil_in Fence.wide n trivial rfl l Bp Bh p c J W hc1 h0).mono fun _ W' ⟨he, hj⟩ => ⟨he, .inl ⟨[], e.symm, hj⟩⟩
  · obtain ⟨b, off, b2, off2, rfl, rfl, hC⟩ := cellsAt_of hm hm' h00 hT hP hH
    refine (cells1_in n hn l Bp Bh b off c b2 off2 c' (htZ ps hs) (by omega) (KeepBut [w.heap.size + 1]) J Jx W (fun _ _ _ h k => h.trans k) (fun V X hV hb => KeepBut.of_below hb) (fun V hV => hV.1) (fun V hV => hC.same fun k hk => (hV.2 k (by simp; omega) (by omega)).trans (hW.block k hk)) hY (fun s X Y hX hs hb => hJ s X Y hs (hb.mono hX)) h0).mono fun _ W' ⟨he, hj⟩ => ⟨he, ?_⟩
    rcases hj with ⟨ys, e, hj⟩ | ⟨pre, _, hj⟩
    · exact .inl ⟨ys, e, hj⟩
    · exact .inr ⟨pre, trivial, hj⟩
end Go.Proofs.Ytpbkboandiigfaa
