/- Contract of slices.Repeat over one lane. -/
import Derived.Test.YtgeciomehldjdaaLSame
import Derived.Test.YtgeciomehldjdaaShelf
import Derived.Laws.CopyOwn
import Derived.Laws.CopyRow
import Derived.Laws.OwnMore
import Derived.Shelf.Spec.SlicesInsert
import Derived.Deep.RegionLaw
namespace Go.Proofs.Ytgeciomehldjdaa
open Go.RowKit Go.Shelf
set_option linter.unusedVariables false
attribute [local go_sem] Oper.semAt_some

theorem mul_ofL (a b h l : Int) (w : World) (a0 : 0 ≤ a) (a1 : a < 18446744073709551616) (b0 : 0 ≤ b) (b1 : b < 18446744073709551616) (hh : a * b / 18446744073709551616 = h) (hl : a * b % 18446744073709551616 = l) :
    Calls Try.prog 30 #[.int .u64 a, .int .u64 b] w fun e w' => e = .returned (.tuple #[.int .u64 h, .int .u64 l]) ∧ w = w' := by
  obtain ⟨n, rfl⟩ := Int.eq_ofNat_of_zero_le a0
  obtain ⟨m, rfl⟩ := Int.eq_ofNat_of_zero_le b0
  refine (Try.bits_Mul n m (by omega) (by omega) w).mono fun e w' ⟨he, hw⟩ => ⟨?_, hw.symm⟩
  rw [he, ← hh, ← hl]; simp
/-- a copy of elements of two cells each -/
theorem run_copy2 (w : World) (dT sT ty elem : TypeId) (g o dLen dCap : Nat) (a : Addr) (sLen sCap : Nat) (cur : Array Value) (t : TypeId) (cs : List Value) (k : Nat)
    (hu : Try.prog.underlying dT = some (.slice elem)) (hs : (Try.prog.info? elem).map (·.size) = some 2)
    (hg : w.heap[g]? = some (.cells cur t (0, 0))) (hk : Nat.min sLen dLen = k) (hn : cs.length = k * 2)
    (hsrc : ∀ j v, cs[j]? = some v → w.cell? (a.add j) = some v) (hfit : o + cs.length ≤ cur.size) (h1 : ∀ v ∈ cs, v.oneCell' = true) :
    (Builtin.copy_ #[dT, sT] ty #[.slice (some ⟨g, o, none⟩) dLen dCap, .slice (some a) sLen sCap]).run Try.prog w =
      .ok (goInt k) (w.setRow g (cur.toList.take o ++ cs ++ cur.toList.drop (o + cs.length)).toArray) := by
  have hl := run_loadCells_list (P := Try.prog) (w := w) a cs hsrc
  have hst := run_storeCells_at Try.prog g o t cs 0 cur w hg (by simpa using hfit) h1
  rw [hn] at hl
  cases hq : Try.prog.info? elem with
  | none => simp [hq] at hs
  | some i =>
    have hi : i.size = 2 := by simpa [hq] using hs
    simp [Builtin.copy_, run_underlying hu, Builtin.lenOf, Builtin.firstCells, sizeOf, typeInfo, hq, hi, hk, hl, hst]
theorem step_copy2 {ops : Array Oper} {o : Oper} {a : Act} {w : World} {K : Act → World → Prop} {Q : Exit → Act → World → Prop} {E : Prop} (hgd : o.guard = none) (d s : Operand) (dT sT : TypeId)
    (ho : o.op = .call { callee := .builtin .copy, args := #[d, s], argTypes := #[dT, sT] }) (elem : TypeId) (hu : Try.prog.underlying dT = some (.slice elem)) (hsz : (Try.prog.info? elem).map (·.size) = some 2)
    (ad : Addr) (dLen dCap sLen sCap g off : Nat) (hd : a.eval d = .slice (some ⟨g, off, none⟩) dLen dCap) (hs : a.eval s = .slice (some ad) sLen sCap) (k : Nat) (hk : Nat.min sLen dLen = k)
    (cur : List Value) (t : TypeId) (hg : w.heap[g]? = some (.cells cur.toArray t (0, 0))) (cs : List Value) (hn : cs.length = k * 2) (hsrc : ∀ j v, cs[j]? = some v → w.cell? (ad.add j) = some v)
    (hfit : off + cs.length ≤ cur.length) (h1 : ∀ v ∈ cs, v.oneCell' = true) (B : Nat) (w0 : World) (hb : Below B w0 w) (hBg : B ≤ g)
    (h : ∀ w', Hid (w'.heap[g]? = some (.cells (splice cur off cs).toArray t (0, 0))) → Below B w0 w' → K (a.put o.dst (goInt k)) w') :
    if Region.wanted o (yielded ops a.tmps) = true then Oper.wp Try.prog o a w K Q else E := by
  have hrun := run_copy2 w dT sT o.type elem g off dLen dCap ad sLen sCap cur.toArray t cs k hu hsz hg hk hn hsrc (by simpa using hfit) h1
  exact step_copy_runI hgd d s dT sT ho _ _ hd hs hrun (h _ (show _ = _ by simpa [splice] using setRow_heap w g _ _ t _ hg) (below_setRow hb hBg _))
theorem wpList_copy2 {ops : Array Oper} {rest : List Oper} {o : Oper} {a : Act} {w : World} {Q : Exit → Act → World → Prop} (hgd : o.guard = none) (d s : Operand) (dT sT : TypeId)
    (ho : o.op = .call { callee := .builtin .copy, args := #[d, s], argTypes := #[dT, sT] }) (elem : TypeId) (hu : Try.prog.underlying dT = some (.slice elem)) (hsz : (Try.prog.info? elem).map (·.size) = some 2)
    (ad : Addr) (dLen dCap sLen sCap g off : Nat) (hd : a.eval d = .slice (some ⟨g, off, none⟩) dLen dCap) (hs : a.eval s = .slice (some ad) sLen sCap) (k : Nat) (hk : Nat.min sLen dLen = k)
    (cur : List Value) (t : TypeId) (hg : w.heap[g]? = some (.cells cur.toArray t (0, 0))) (cs : List Value) (hn : cs.length = k * 2) (hsrc : ∀ j v, cs[j]? = some v → w.cell? (ad.add j) = some v)
    (hfit : off + cs.length ≤ cur.length) (h1 : ∀ v ∈ cs, v.oneCell' = true) (B : Nat) (w0 : World) (hb : Below B w0 w) (hBg : B ≤ g)
    (h : ∀ w', Hid (w'.heap[g]? = some (.cells (splice cur off cs).toArray t (0, 0))) → Below B w0 w' → wpList Try.prog ops Q rest (a.put o.dst (goInt k)) w') :
    wpList Try.prog ops Q (o :: rest) a w := by
  have hrun := run_copy2 w dT sT o.type elem g off dLen dCap ad sLen sCap cur.toArray t cs k hu hsz hg hk hn hsrc (by simpa using hfit) h1
  exact wpList_copy_runI w hgd d s dT sT ho _ _ hd hs hrun (h _ (show _ = _ by simpa [splice] using setRow_heap w g _ _ t _ hg) (below_setRow hb hBg _))
/-- the first k are laid -/
def repC (x : Int × Int) (n k : Nat) : List Value := (List.replicate k x).flatMap encL ++ (List.replicate (n - k) ((0 : Int), (0 : Int))).flatMap encL
theorem encL_rep (x : Int × Int) (k : Nat) : ((List.replicate k x).flatMap encL).length = k * 2 := by rw [encL_len, List.length_replicate]
theorem repC_length (x : Int × Int) (n k : Nat) (h : k ≤ n) : (repC x n k).length = n * 2 := by unfold repC; rw [List.length_append, encL_rep, encL_rep]; omega
theorem repC_splice (x : Int × Int) (n k m : Nat) (h : k + m ≤ n) : splice (repC x n k) (k * 2) ((List.replicate m x).flatMap encL) = repC x n (k + m) := by
  unfold splice
  have e0 : repC x n k = (List.replicate k x).flatMap encL ++ ((List.replicate m ((0 : Int), (0 : Int))).flatMap encL ++ (List.replicate (n - (k + m)) ((0 : Int), (0 : Int))).flatMap encL) := by
    unfold repC
    rw [← List.flatMap_append (xs := List.replicate m ((0 : Int), (0 : Int))), List.replicate_append_replicate, show m + (n - (k + m)) = n - k by omega]
  rw [e0, encL_rep]
  have e1 : ((List.replicate k x).flatMap encL ++ ((List.replicate m ((0 : Int), (0 : Int))).flatMap encL ++ (List.replicate (n - (k + m)) ((0 : Int), (0 : Int))).flatMap encL)).take (k * 2) = (List.replicate k x).flatMap encL := by
    rw [List.take_append_of_le_length (by rw [encL_rep]; omega), List.take_of_length_le (by rw [encL_rep]; omega)]
  have e2 : ((List.replicate k x).flatMap encL ++ ((List.replicate m ((0 : Int), (0 : Int))).flatMap encL ++ (List.replicate (n - (k + m)) ((0 : Int), (0 : Int))).flatMap encL)).drop (k * 2 + m * 2) = (List.replicate (n - (k + m)) ((0 : Int), (0 : Int))).flatMap encL := by
    rw [← List.append_assoc, List.drop_append_of_le_length (by rw [List.length_append, encL_rep, encL_rep]; omega), List.drop_of_length_le (by rw [List.length_append, encL_rep, encL_rep]; omega), List.nil_append]
  rw [e1, e2]
  unfold repC
  rw [← List.replicate_append_replicate, List.flatMap_append, List.append_assoc]
theorem repC_end (x : Int × Int) (n : Nat) : repC x n n = (List.replicate n x).flatMap encL := by simp [repC]
theorem repC_made (n : Nat) : (madeCells (Value.agg #[.int .i64 0, .int .i64 0]).cells (n * 2)).toList = repC (0, 0) n 0 := by
  apply List.ext_getElem?
  intro j
  unfold repC
  simp only [List.replicate_zero, List.flatMap_nil, List.nil_append, Nat.sub_zero]
  by_cases hj : j < n * 2
  · have h1 := encL_get (List.replicate n ((0 : Int), (0 : Int))) (j / 2) (0, 0) (by rw [List.getElem?_replicate, if_pos (by omega)])
    have h2 : (madeCells (Value.agg #[.int .i64 0, .int .i64 0]).cells (n * 2))[j]? = some (.int .i64 0) := by
      have : (madeCells (Value.agg #[.int .i64 0, .int .i64 0]).cells (n * 2))[j]? = some ((#[Value.int .i64 0, Value.int .i64 0])[j % 2]!) := by
        simp only [madeCells, Value.cells]
        simp [hj]
      rw [this]
      rcases Nat.mod_two_eq_zero_or_one j with h | h <;> rw [h] <;> rfl
    rw [Array.getElem?_toList, h2]
    rcases Nat.mod_two_eq_zero_or_one j with h | h
    · rw [show j = j / 2 * 2 by omega]; exact h1.1.symm
    · rw [show j = j / 2 * 2 + 1 by omega]; exact h1.2.symm
  · rw [Array.getElem?_toList, Array.getElem?_eq_none (by rw [size_madeCells]; omega), List.getElem?_eq_none (by rw [encL_rep]; omega)]
theorem repC_zero (x : Int × Int) (n : Nat) : repC x n 0 = repC (0, 0) n 0 := by simp [repC]
theorem repC_cells {w : World} {g t : Nat} {x : Int × Int} {n k m : Nat} (hg : w.heap[g]? = some (.cells (repC x n k).toArray t (0, 0))) (hm : m ≤ k) :
    ∀ j v, ((List.replicate m x).flatMap encL)[j]? = some v → w.cell? ((⟨g, 0, none⟩ : Addr).add j) = some v := by
  intro j v h
  have e : ((⟨g, 0, none⟩ : Addr).add j) = ⟨g, j, none⟩ := by unfold Addr.add; split <;> simp_all
  rw [e]
  have hj : j < m * 2 := by have := (List.getElem?_eq_some_iff.1 h).1; rwa [encL_rep] at this
  have h2 : (repC x n k)[j]? = some v := by
    unfold repC
    rw [List.getElem?_append_left (by rw [encL_rep]; omega), show k = m + (k - m) by omega, ← List.replicate_append_replicate, List.flatMap_append, List.getElem?_append_left (by rw [encL_rep]; omega)]
    exact h
  simp only [World.cell?, hg]
  simpa using h2
theorem own_blockL {W : World} {base E g n : Nat} {xs : List Value} (h : W.ownsRow base E 2 (.slice (some ⟨g, 0, none⟩) n n) n xs) : W.heap[g]? = some (.cells xs.toArray E (0, 0)) := by
  obtain ⟨hl, ⟨h', _⟩ | ⟨g', cap', cur, h', hb, hg, hnc, hcm, hcs, htk⟩⟩ := h
  · simp at h'
  · simp only [Value.slice.injEq, Option.some.injEq, Addr.mk.injEq, and_true, true_and] at h'
    obtain ⟨rfl, rfl⟩ := h'
    have e : cur = xs.toArray := by rw [← htk, List.take_of_length_le (by simp [hcs])]
    rw [hg, e]
theorem block_ownL {W : World} {base E g n : Nat} {xs : List Value} (h : W.heap[g]? = some (.cells xs.toArray E (0, 0))) (hb : base ≤ g) (hn : xs.length = n * 2) (hm : n ≤ 9223372036854775807) : W.ownsRow base E 2 (.slice (some ⟨g, 0, none⟩) n n) n xs :=
  ⟨by simpa using hn, .inr ⟨g, n, xs.toArray, rfl, hb, h, Nat.le_refl _, by unfold maxLen; omega, by simp [hn], by simp [← hn]⟩⟩
set_option maxRecDepth 100000 in
set_option maxHeartbeats 2000000 in
theorem repeatL_any (b off cap : Nat) (x : Int × Int) (n : Nat) (w : World) (hc : ∀ j u, (encL x)[j]? = some u → w.cell? ((⟨b, off, none⟩ : Addr).add j) = some u) (hn0 : 1 ≤ n) (hn : n ≤ 10000) :
    Calls Try.prog 15 #[.slice (some ⟨b, off, none⟩) 1 cap, .int .i64 n] w fun e w' => ∃ v, e = .returned v ∧ OwnL w.heap.size w' v (List.replicate n x) ∧ Below w.heap.size w w' := by
  obtain ⟨i0, hi, hz0, hz1, hz2⟩ := info_parts Try.infoLane
  have htwo : (Try.prog.info? 49).map (·.size) = some 2 := by rw [hi]; simp [hz1]
  have HC := Lib.hid hc
  clear hc
  go_enter Try.func15, Try.ntmps15
  go_wp2_with (first
    | (go_at_call 30; refine (mul_ofL _ _ 0 n _ (by omega) (by omega) (by omega) (by omega) (by omega) (by omega)).mono ?_; rintro e w' ⟨rfl, rfl⟩)
    | (at_make; refine wpList_make_full _ rfl _ _ 25 rfl w.heap.size 49 i0 _ 2 Try.underlying25 hi hz0 hz1 .i64 .i64 _ _ n rfl rfl rfl rfl (by rw [hz2]; omega) (by unfold maxLen; omega) (by simp) ?_; intro w0 hown0 hgrow0; rw [repC_made n, ← repC_zero x n] at hown0; have hg0 := Lib.hid (own_blockL hown0); have hb0 := (Below.refl w.heap.size w).grown hgrow0 (Nat.le_refl _) (fun k e => by cases e); have hc0 : Hid (∀ j u, (encL x)[j]? = some u → w0.cell? ((⟨b, off, none⟩ : Addr).add j) = some u) := Lib.hid (fun j u hu => hgrow0.cell (HC.out j u hu) (by simp)))
    | ((with_reducible refine wpList_copy2 ?h1 (.tmp 31) (.tmp 32) 25 25 ?h2 49 ?h3 htwo ⟨b, off, none⟩ n n 1 cap w.heap.size 0 ?h5 ?h6 1 ?hk _ _ hg0.out (encL x) ?c1 ?c2 ?c3 ?c4 w.heap.size w ?h7 ?h8 ?_); (case h1 => rfl); (case h2 => rfl); (case h3 => exact Try.underlying25); (case h5 => rfl); (case h6 => rfl); (case hk => exact Nat.min_eq_left hn0); (case h7 => exact hb0); (case h8 => exact Nat.le_refl _); (case c1 => rfl); (case c2 => exact hc0.out); (case c3 => rw [repC_length _ _ _ (Nat.zero_le _)]; simp [encL]; omega); (case c4 => (intro u hu; exact encL_one [x] u (by simpa using hu))); intro w2 hg2 hb2))
  have e1 : splice (repC x n 0) 0 (encL x) = repC x n 1 := by
    have := repC_splice x n 0 1 (by omega)
    simpa [encL] using this
  rw [e1] at hg2
  clear hown0 hgrow0 hg0 hc0 hb0 HC
  go_loopw [8] (fun i wr => ∃ k : Nat, 1 ≤ k ∧ k ≤ n ∧ i = .int .i64 k ∧ Hid (wr.heap[w.heap.size]? = some (.cells (repC x n k).toArray 49 (0, 0))) ∧ Below w.heap.size w wr) (fun i _ => n - (intOf i).toNat)
  case atStart => exact ⟨1, by omega, hn0, rfl, hg2, hb2⟩
  case round =>
    obtain ⟨k, hk1, hk, rfl, hg, hb⟩ := hrel
    by_cases hlt : k < n
    · clear hg2 hb2
      have hne : ¬ n = k := by omega
      obtain ⟨m, hm⟩ : ∃ m, Nat.min k (n - k) = m := ⟨_, rfl⟩
      have hm' : m = min k (n - k) := hm.symm
      have hm1 : 1 ≤ m := by omega
      have hm2 : k + m ≤ n := by omega
      have hm3 : m ≤ k := by omega
      have HM := Lib.hid hm
      clear hm hm'
      have hsum : IntKind.i64.wrap ((k : Int) + (m : Int)) = ((k + m : Nat) : Int) := by simp [IntKind.wrap, IntKind.bits, IntKind.signed]; omega
      go_wp2
      go_region_law ((with_reducible refine step_copy2 ?h1 (.tmp 41) (.tmp 44) 25 25 ?h2 49 ?h3 htwo ⟨w.heap.size, 0, none⟩ (n - k) (n - k) k n w.heap.size (k * 2) ?h5 ?h6 m ?hk (repC x n k) 49 ?hg ((List.replicate m x).flatMap encL) ?c1 ?c2 ?c3 ?c4 w.heap.size w ?h7 ?h8 ?_); (case h1 => rfl); (case h2 => rfl); (case h3 => exact Try.underlying25); (case h5 => simp [go_sem]); (case h6 => simp [go_sem]); (case hk => exact HM.out); (case hg => exact hg.out); (case h7 => exact hb.drew); (case h8 => exact Nat.le_refl _); (case c1 => exact encL_rep x m); (case c2 => exact repC_cells (w := wr.drew) hg.out hm3); (case c3 => rw [repC_length _ _ _ hk, encL_rep]; omega); (case c4 => exact encL_one _); intro w4 hg4 hb4; rw [repC_splice x n k _ (by omega)] at hg4)
      simp [go_sem]
      go_roundw
      case rel =>
        refine ⟨_, _, _, _, _, _, _, _, _, _, _, _, _, _, ?_, rfl⟩
        exact ⟨k + m, by omega, by omega, by simp, hg4, hb4⟩
      case measure => simp [intOf]; omega
    · obtain rfl : n = k := by omega
      clear hg2 hb2
      go_wp2
      go_ret
      rw [repC_end] at hg
      refine ⟨_, rfl, ?_, hb⟩
      unfold OwnL
      rw [List.length_replicate]
      exact block_ownL hg.out (Nat.le_refl _) (encL_rep x _) (by omega)
end Go.Proofs.Ytgeciomehldjdaa
