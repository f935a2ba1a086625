/- Contract of slices.Repeat over one number of 64 bits. -/
import Derived.Test.YtpbkboandiigfaaEven
import Derived.Test.YtpbkboandiigfaaShelf
import Derived.Laws.CopyOwn
import Derived.Deep.RegionLaw
namespace Go.Proofs.Ytpbkboandiigfaa
open Go.RowKit
set_option linter.unusedVariables false

theorem own_block {W : World} {base E g n : Nat} {xs : List Value} (h : W.ownsRow base E 1 (.slice (some ⟨g, 0, none⟩) n n) n xs) : W.heap[g]? = some (.cells xs.toArray E (0, 0)) ∧ base ≤ g ∧ xs.length = n := by
  obtain ⟨hl, ⟨h', _⟩ | ⟨g', cap', cur, h', hb, hg, hnc, hcm, hcs, htk⟩⟩ := h
  · simp at h'
  · simp only [Value.slice.injEq, Option.some.injEq, Addr.mk.injEq, and_true, true_and] at h'
    obtain ⟨rfl, rfl⟩ := h'
    refine ⟨?_, hb, by simpa using hl⟩
    have e : cur = xs.toArray := by
      rw [← htk, List.take_of_length_le (by simp [hcs])]
    rw [hg, e]
theorem block_own {W : World} {base E g n : Nat} {xs : List Value} (h : W.heap[g]? = some (.cells xs.toArray E (0, 0))) (hb : base ≤ g) (hn : xs.length = n) (hm : n ≤ 9223372036854775807) : W.ownsRow base E 1 (.slice (some ⟨g, 0, none⟩) n n) n xs :=
  ⟨by simpa using hn, .inr ⟨g, n, xs.toArray, rfl, hb, h, Nat.le_refl _, by unfold maxLen; omega, by simp [hn], by simp [← hn]⟩⟩

theorem mul_of (a b h l : Int) (w : World) (a0 : 0 ≤ a) (a1 : a < 18446744073709551616) (b0 : 0 ≤ b) (b1 : b < 18446744073709551616) (hh : a * b / 18446744073709551616 = h) (hl : a * b % 18446744073709551616 = l) :
    Calls Try.prog 87 #[.int .u64 a, .int .u64 b] w fun e w' => e = .returned (.tuple #[.int .u64 h, .int .u64 l]) ∧ w = w' := by
  obtain ⟨n, rfl⟩ := Int.eq_ofNat_of_zero_le a0
  obtain ⟨m, rfl⟩ := Int.eq_ofNat_of_zero_le b0
  refine (Try.bits_Mul n m (by omega) (by omega) w).mono fun e w' ⟨he, hw⟩ => ⟨?_, hw.symm⟩
  rw [he, ← hh, ← hl]; simp

/-- the first k are laid -/
def repTo (z : Int) (n k : Nat) : List Value := (List.replicate k (Value.int .i64 z)) ++ List.replicate (n - k) (Value.int .i64 0)
theorem repTo_length (z : Int) (n k : Nat) (h : k ≤ n) : (repTo z n k).length = n := by simp [repTo]; omega
theorem repTo_splice (z : Int) (n k m : Nat) (h : k + m ≤ n) : splice (repTo z n k) k (List.replicate m (Value.int .i64 z)) = repTo z n (k + m) := by
  unfold splice repTo
  have e1 : (List.replicate k (Value.int .i64 z) ++ List.replicate (n - k) (Value.int .i64 0)).take k = List.replicate k (Value.int .i64 z) := by
    rw [List.take_append_of_le_length (by simp), List.take_of_length_le (by simp)]
  have e2 : (List.replicate k (Value.int .i64 z) ++ List.replicate (n - k) (Value.int .i64 0)).drop (k + m) = List.replicate (n - (k + m)) (Value.int .i64 0) := by
    rw [List.drop_append, List.drop_eq_nil_of_le (by simp), List.nil_append, List.drop_replicate]
    simp; omega
  rw [List.length_replicate, e1, e2, ← List.append_assoc, List.replicate_append_replicate]
theorem repTo_get (z : Int) (n k j : Nat) (h : j < k) : (repTo z n k)[j]? = some (Value.int .i64 z) := by
  unfold repTo; rw [List.getElem?_append_left (by simpa using h)]; simp [h]

theorem rep_cells {w : World} {a : Addr} {z : Int} (hc : w.cell? a = some (.int .i64 z)) : ∀ j v, (List.replicate 1 (Value.int .i64 z))[j]? = some v → w.cell? (a.add j) = some v := by
  intro j v h
  rw [List.getElem?_replicate] at h
  split at h
  · obtain rfl : j = 0 := by omega
    simpa [Addr.add, ← h] using hc
  · simp at h
theorem rep_one {z : Int} {n : Nat} : ∀ v ∈ List.replicate n (Value.int .i64 z), v.oneCell' = true := by
  intro v h
  rw [(List.mem_replicate.1 h).2]; rfl
theorem rep_made (z : Int) (n : Nat) : (madeCells (Value.int IntKind.i64 0).cells (n * 1)).toList = repTo z n 0 := by
  rw [show (Value.int IntKind.i64 0).cells = #[Value.int .i64 0] from rfl, toList_madeCells_one]; simp [repTo]
theorem rep_block_cells {w : World} {g t : Nat} {z : Int} {n k m : Nat} (hg : w.heap[g]? = some (.cells (repTo z n k).toArray t (0, 0))) (hk : k ≤ n) (hm : m ≤ k) :
    ∀ j v, (List.replicate m (Value.int .i64 z))[j]? = some v → w.cell? ((⟨g, 0, none⟩ : Addr).add j) = some v := by
  intro j v h
  rw [List.getElem?_replicate] at h
  split at h
  · have hj : j < k := by omega
    have : (repTo z n k).toArray[j]? = some v := by
      rw [List.getElem?_toArray, repTo_get z n k j hj]; exact h
    have e : ((⟨g, 0, none⟩ : Addr).add j) = ⟨g, j, none⟩ := by unfold Addr.add; split <;> simp_all
    rw [e]; simp only [World.cell?, hg]; simpa using this
  · simp at h
theorem rep_end (z : Int) (n : Nat) : repTo z n n = (List.replicate n z).map (Value.int .i64) := by simp [repTo]

set_option maxRecDepth 100000 in
set_option maxHeartbeats 1000000 in
theorem repeat_any (b off cap : Nat) (z : Int) (n : Nat) (w : World) (hc : w.cell? ⟨b, off, none⟩ = some (.int .i64 z)) (hn0 : 1 ≤ n) (hn : n ≤ 10000) :
    Calls Try.prog 79 #[.slice (some ⟨b, off, none⟩) 1 cap, .int .i64 n] w fun e w' => (∃ v, e = .returned v ∧ Made .i64 2 w.heap.size w' v (List.replicate n z)) ∧ Below w.heap.size w w' := by
  obtain ⟨i0, hi, hz0, hz1, hz2⟩ := info_parts Try.infoI64
  have hone : (Try.prog.info? 2).map (·.size) = some 1 := by rw [hi]; simp [hz1]
  go_enter Try.func79, Try.ntmps79
  go_wp2_with (first
    | (go_at_call 87; refine (mul_of _ _ 0 n _ (by omega) (by omega) (by omega) (by omega) (by omega) (by omega)).mono ?_; rintro e w' ⟨rfl, rfl⟩)
    | (at_make; refine wpList_make_full _ rfl _ _ 22 rfl w.heap.size 2 i0 (.int .i64 0) 1 Try.underlying22 hi hz0 hz1 .i64 .i64 _ _ n rfl rfl rfl rfl (by rw [hz2]; omega) (by unfold maxLen; omega) (by simp) ?_; intro w0 hown0 hgrow0; rw [rep_made z n] at hown0; have hg0 := Lib.hid (own_block hown0).1; have hc0 := hgrow0.cell (a := ⟨b, off, none⟩) hc (by simp); have hb0 := (Below.refl w.heap.size w).grown hgrow0 (Nat.le_refl _) (fun k e => by cases e))
    | ((with_reducible refine wpList_copy_splice ?h1 (.tmp 31) (.tmp 32) 22 22 ?h2 2 ?h3 hone (some ⟨w.heap.size, 0, none⟩) (some ⟨b, off, none⟩) n n 1 cap ?h5 ?h6 w.heap.size 0 _ _ hg0.out (List.replicate 1 (Value.int .i64 z)) ?c1 ?c2 ?c3 ?c4 w.heap.size w ?h7 ?h8 ?_); (case h1 => rfl); (case h2 => rfl); (case h3 => exact Try.underlying22); (case h5 => rfl); (case h6 => rfl); (case h7 => exact hb0); (case h8 => exact Nat.le_refl _); (case c1 => exact (Nat.min_eq_left hn0).symm); (case c2 => exact fun _ => ⟨rfl, _, rfl, rep_cells hc0⟩); (case c3 => rw [repTo_length _ _ _ (Nat.zero_le _)]; simp; omega); (case c4 => exact rep_one); intro w2 hg2 hb2; rw [repTo_splice z n 0 1 (by omega)] at hg2))
  clear hown0 hgrow0 hg0 hc0 hb0 hc
  go_loopw [8] (fun i wr => ∃ k : Nat, 1 ≤ k ∧ k ≤ n ∧ i = .int .i64 k ∧ Hid (wr.heap[w.heap.size]? = some (.cells (repTo z n k).toArray 2 (0, 0))) ∧ Below w.heap.size w wr) (fun i _ => n - (intOf i).toNat)
  case atStart => exact ⟨1, by omega, hn0, rfl, hg2, hb2⟩
  case round =>
    obtain ⟨k, hk1, hk, rfl, hg, hb⟩ := hrel
    by_cases hlt : k < n
    · clear hg2 hb2
      have hne : ¬ n = k := by omega
      obtain ⟨m, hm⟩ : ∃ m, Nat.min k (n - k) = m := ⟨_, rfl⟩
      have hm' : m = min k (n - k) := hm.symm
      have hm1 : 1 ≤ m := by omega
      have hm2 : k + m ≤ n := by omega
      have hm3 : m ≤ k := by omega
      have HM := Lib.hid hm
      clear hm hm'
      have hsum : IntKind.i64.wrap ((k : Int) + (m : Int)) = ((k + m : Nat) : Int) := by simp [IntKind.wrap, IntKind.bits, IntKind.signed]; omega
      go_wp2
      go_region_law ((with_reducible refine step_copy_splice ?h1 (.tmp 41) (.tmp 44) 22 22 ?h2 2 ?h3 hone (some ⟨w.heap.size, k, none⟩) (some ⟨w.heap.size, 0, none⟩) (n - k) (n - k) k n ?h5 ?h6 w.heap.size k (repTo z n k) 2 ?hg (List.replicate m (Value.int .i64 z)) ?c1 ?c2 ?c3 ?c4 w.heap.size w ?h7 ?h8 ?_); (case h1 => rfl); (case h2 => rfl); (case h3 => exact Try.underlying22); (case h5 => simp [go_sem]); (case h6 => simp [go_sem]); (case hg => exact hg.out); (case h7 => exact hb.drew); (case h8 => exact Nat.le_refl _); (case c1 => rw [List.length_replicate]; exact HM.out.symm); (case c2 => exact fun _ => ⟨rfl, _, rfl, rep_block_cells (w := wr.drew) hg.out hk hm3⟩); (case c3 => rw [repTo_length _ _ _ hk, List.length_replicate]; exact hm2); (case c4 => exact rep_one); intro w4 hg4 hb4; rw [repTo_splice z n k _ (by omega)] at hg4)
      simp [go_sem]
      go_roundw
      case rel =>
        refine ⟨_, _, _, _, _, _, _, _, _, _, _, _, _, _, ?_, rfl⟩
        exact ⟨k + m, by omega, by omega, by simp, hg4, hb4⟩
      case measure => simp [intOf]; omega
    · obtain rfl : n = k := by omega
      clear hg2 hb2
      go_wp2
      go_ret
      rw [rep_end] at hg
      exact ⟨⟨_, rfl, by unfold Made; rw [List.length_replicate]; exact block_own hg.out (Nat.le_refl _) (by simp) (by omega)⟩, hb⟩
end Go.Proofs.Ytpbkboandiigfaa
