/- Contract of slices.Values over sides: the sides, in order. -/
import Derived.Test.YtmcgieameodkbaaCShown
import Derived.RangeFuncNested
import Derived.RangeFuncBound
import Derived.RangeFuncCalls
import Derived.RangeFuncLeaves
import Derived.RangeFuncBox
import Derived.ScopeJumps
import Derived.WalkMore
import Derived.Shelf.Abstract
import Derived.Shelf.RegionOpen
import Derived.WalkKit
import Derived.OwnWalkIn
import Derived.TacticsInMore
import Derived.LoopNIn
import Derived.LoopIn
namespace Go.Proofs.Ytmcgieameodkbaa
open Go.RowKit Go.Shelf
set_option linter.unusedVariables false
attribute [local go_sem] Oper.semAt_some

theorem grown_of_belowC {W W' : World} (hb : Below W.heap.size W W') : W.grownBy W' none := ⟨hb.os, hb.tape, hb.output, hb.size, fun k hk _ => hb.block k hk⟩
theorem abides_belowC {β : Type} {B : Nat} {J : β → World → Prop} (h : AbidesFrom B J) {s : β} {W W' : World} (hs : J s W) (hb : Below W.heap.size W W') : J s W' :=
  h s W W' none hs (grown_of_belowC hb) (fun r e => by cases e)

set_option maxRecDepth 100000 in
set_option maxHeartbeats 2000000 in
theorem valuesC1_in (F : Fence) (n : Nat) (hf : F.fn 42) (hro : F.round = none) (hn : 1 ≤ n) (l Bs n₀ b off cap : Nat) {α : Type} (f : α → Si) (rs : List α) (hreach : rs.length ≤ 9223372036854775807) (hb : 0 < rs.length → b < n₀)
    (J Jx : List α → World → Prop)
    (hY : ∀ pre x W, J pre W → pre.length < rs.length → YieldAt F (n - 1) Try.prog l #[(f x).val] W fun e W' =>
      (e = .returned (.bool true) ∧ J (pre ++ [x]) W' ∧ Below n₀ W W') ∨ (e = .returned (.bool false) ∧ Jx (pre ++ [x]) W'))
    (W : World) (hn₀ : n₀ ≤ W.heap.size) (hJ : AbidesFrom W.heap.size J) (hBs : W.cell? ⟨Bs, 0, none⟩ = some (.slice (some ⟨b, off, none⟩) rs.length cap)) (hc : ∀ j r, rs[j]? = some r → ∀ i v, (f r).cells[i]? = some v → W.cell? ⟨b, off + j * 6 + i, none⟩ = some v) (h0 : J [] W) :
    CallsIn F n Try.prog 42 #[.func (.yield l) #[] #[], .pointer (some ⟨Bs, 0, none⟩)] W fun e W' => (∃ v, e = .returned v) ∧
      ((∃ ys, ys = rs ∧ J ys W') ∨ (∃ pre, (∃ k, k ≤ rs.length ∧ pre = rs.take k) ∧ Jx pre W')) := by
  refine callsIn_of_wp Try.func42 rfl hf ?_ hro
  simp only [Try.ntmps42, List.size_toArray, List.length_cons, List.length_nil, Nat.reduceAdd, Nat.reduceSub, Array.replicate_succ, Array.replicate_zero, List.push_toArray, List.append_toArray, List.nil_append, List.cons_append]
  gi_wp2
  gi_loopw [7] (fun i wr => ∃ k : Nat, k ≤ rs.length ∧ i = .int .i64 k ∧ J (rs.take k) wr ∧ Hid (Below n₀ W wr))
    (fun i _ => rs.length - (intOf i).toNat)
  case atStart => exact ⟨0, Nat.zero_le _, rfl, h0, Lib.hid (Below.refl _ _)⟩
  case round =>
    obtain ⟨k, hk, rfl, hJs, hnx⟩ := hrel
    by_cases hlt : k < rs.length
    · obtain ⟨r, hr⟩ : ∃ r, rs[k] = r := ⟨_, rfl⟩
      have hr' : rs[k]? = some r := by rw [List.getElem?_eq_getElem hlt, hr]
      obtain ⟨⟨st, wd, co, bb, ro, cl⟩, hfr⟩ : ∃ q, f r = q := ⟨_, rfl⟩
      have cc := fun i v (h : (Si.cells (f r))[i]? = some v) => (hnx.out.cell (p := ⟨b, off + k * 6 + i, none⟩) (hb (by omega))).trans (hc k r hr' i v h)
      rw [hfr] at cc
      have c0 : wr.cell? ⟨b, off + k * 6, none⟩ = some (.int .i64 st) := cc 0 (.int .i64 st) rfl
      have c1 := cc 1 (.int .i64 wd) rfl
      have c2 := cc 2 (.int .u32 co) rfl
      have c3 := cc 3 (.int .i64 bb) rfl
      have c4 := cc 4 (.int .i64 ro) rfl
      have c5 := cc 5 (.int .i64 cl) rfl
      have hsn : Hid (rs.take (k + 1) = rs.take k ++ [r]) := by
        apply Lib.hid
        rw [List.take_succ_eq_append_getElem hlt, hr]
      have hJ1 : J (rs.take k) (wr.alloc (.cells #[.int .i64 st, .int .i64 wd, .int .u32 co, .int .i64 bb, .int .i64 ro, .int .i64 cl] 26)) := abides_belowC hJ hJs ((Below.refl _ _).alloc (Nat.le_refl _) _)
      obtain ⟨fn, tmps, assign, body, hy, hR⟩ := hY _ r _ hJ1 (by rw [List.length_take]; omega)
      rw [hfr] at hy
      have HR := Lib.hid hR
      have hz : W.heap.size ≤ wr.heap.size := hnx.out.size
      clear cc hc hr hr' hfr hY hJs hBs h0 hJ1 hR
      dsimp only [Si.val] at hy
      gi_wp2
      refine HR.out.mono ?_
      rintro e W3 (⟨rfl, hJ3, hk3⟩ | ⟨rfl, hJx3⟩)
      · have H3 := Lib.hid hJ3
        have K3 := Lib.hid hk3
        clear hJ3 hk3
        gi_wp2
        go_roundw
        case rel => exact ⟨k + 1, by omega, by simp, by rw [hsn.out]; exact H3.out, Lib.hid ((hnx.out.trans ((Below.refl _ _).alloc (by omega) _)).trans K3.out)⟩
        case measure => simp [intOf]; omega
      · have H3 := Lib.hid hJx3
        clear hJx3
        gi_wp2
        refine bodyPost_ret (results_none rfl _ _ _) rfl ?_
        exact ⟨⟨_, rfl⟩, .inr ⟨_, ⟨k + 1, by omega, hsn.out.symm⟩, H3.out⟩⟩
    · have e : Hid (rs.take k = rs) := Lib.hid (List.take_of_length_le (by omega))
      have HJ := Lib.hid hJs
      clear hc hY hJs hBs h0
      gi_wp2
      go_end0
      exact ⟨⟨_, rfl⟩, .inl ⟨_, rfl, by rw [← e.out]; exact HJ.out⟩⟩
set_option maxRecDepth 100000 in
set_option maxHeartbeats 1000000 in
theorem valuesC1_nil_in (F : Fence) (n : Nat) (hf : F.fn 42) (hro : F.round = none) (l Bs : Nat) (a : Option Addr) (cap : Nat) {α : Type} (J : List α → World → Prop) (W : World) (hBs : W.cell? ⟨Bs, 0, none⟩ = some (.slice a 0 cap)) (h0 : J [] W) :
    CallsIn F n Try.prog 42 #[.func (.yield l) #[] #[], .pointer (some ⟨Bs, 0, none⟩)] W fun e W' => (∃ v, e = .returned v) ∧ J [] W' := by
  refine callsIn_of_wp Try.func42 rfl hf ?_ hro
  simp only [Try.ntmps42, List.size_toArray, List.length_cons, List.length_nil, Nat.reduceAdd, Nat.reduceSub, Array.replicate_succ, Array.replicate_zero, List.push_toArray, List.append_toArray, List.nil_append, List.cons_append]
  have HJ := Lib.hid h0
  clear h0
  gi_wp2
  gi_loopw [7] (fun i wr => i = .int .i64 0 ∧ Hid (J [] wr)) (fun _ _ => 0)
  case atStart => exact ⟨rfl, HJ⟩
  case round =>
    obtain ⟨rfl, hJs⟩ := hrel
    gi_wp2
    go_end0
    exact ⟨⟨_, rfl⟩, hJs.out⟩
set_option maxHeartbeats 1000000 in
theorem valuesC_any (a : Option Addr) (len cap : Nat) (w : World) :
    Calls Try.prog 31 #[.slice a len cap] w fun e w' => e = .returned (.func (.func 42) #[] #[.pointer (some ⟨w.heap.size, 0, none⟩)]) ∧ w' = w.alloc (.cells #[.slice a len cap] 33) := by
  go_enter Try.func31, Try.ntmps31
  go_wp2
  go_ret
  exact ⟨rfl, rfl⟩
/-- slices.Values(s) hands back a value that yields the sides: all; or the first k of them -/
theorem valuesC_stops (F : Fence) (n : Nat) (hf : F.fn 42) (hro : F.round = none) (hn : 1 ≤ n) (Bs : Nat) (sv : Value) {α : Type} (f : α → Si) (rs : List α) (w w0 : World) (hBs : Bs < w.heap.size)
    (hc : w.cell? ⟨Bs, 0, none⟩ = some sv) (hI : Sides w0 sv (rs.map f)) (hw0 : Below w0.heap.size w0 w) :
    SeqStopsK F n Try.prog 42 #[.pointer (some ⟨Bs, 0, none⟩)] (fun x => #[(f x).val]) (Below w0.heap.size) (fun ys => ys = rs)
      (fun pre => ∃ k, k ≤ rs.length ∧ pre = rs.take k) rs.length w := fun l J Jx W hW hJ _ hY h0 => by
  have hc' := (hW.cell (p := ⟨Bs, 0, none⟩) hBs).trans hc
  have hsz := hW.size
  have hsz0 := hw0.size
  have hWW := hw0.trans (hW.mono hsz0)
  obtain ⟨hm, ⟨a, cap, rfl, he⟩ | ⟨b, off, cap, rfl, hlt, hcs⟩⟩ := hI
  · obtain rfl : rs = [] := List.map_eq_nil_iff.1 he
    exact (valuesC1_nil_in F n hf hro l Bs a cap J W hc' h0).mono fun e W' ⟨he, hj⟩ => ⟨he, .inl ⟨_, rfl, hj⟩⟩
  · rw [List.length_map] at hm hc'
    refine valuesC1_in F n hf hro hn l Bs w0.heap.size b off cap f rs hm (fun _ => hlt) J Jx hY W (by omega) hJ hc' (fun j r hj i v hv => (hWW.cell (p := ⟨b, off + j * 6 + i, none⟩) hlt).trans (hcs j (by rw [List.length_map]; exact (List.getElem?_eq_some_iff.1 hj).1) i v ?_)) h0
    have hl : j < rs.length := (List.getElem?_eq_some_iff.1 hj).1
    rw [getElem!_pos (rs.map f) j (by rw [List.length_map]; exact hl), List.getElem_map, (List.getElem?_eq_some_iff.1 hj).2]
    exact hv
end Go.Proofs.Ytmcgieameodkbaa
