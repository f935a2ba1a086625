/- Contract of purflingref04.Ints: are two lists of numbers the same? Written by program out of the text on purflingref01.Same: the code is the same. -/
import Derived.Test.YtcgnldcdcbnofaaSBase
import Derived.Test.YtcgnldcdcbnofaaSlice
namespace Go.Proofs.Ytcgnldcdcbnofaa
open Go.RowKit Go.Shelf
set_option linter.unusedVariables false

set_option maxHeartbeats 400000 in
theorem isame_lens (k : IntKind) (a b : Option Addr) (n m c d : Nat) (w : World) (h : n ≠ m) (hn : n ≤ 9223372036854775807) (hm : m ≤ 9223372036854775807) :
    Calls Try.prog 11 #[.slice a n c, .slice b m d] w fun e w' => e = .returned (.bool false) ∧ w = w' := by
  have h' : ((n : Int) == (m : Int)) = false := by simp; omega
  have h'' : ((n : Int) != (m : Int)) = true := by simp; omega
  go_enter Try.func11, Try.ntmps11
  go_wp2
  go_ret
  exact ⟨rfl, rfl⟩
theorem igetD_take_ne {xs ys : List Int} (h : xs.length = ys.length) (h' : xs ≠ ys) : ∃ k, k < xs.length ∧ xs[k]?.getD 0 ≠ ys[k]?.getD 0 := by
  apply Classical.byContradiction
  intro hn
  apply h'
  apply List.ext_getElem h
  intro i h1 h2
  apply Classical.byContradiction
  intro hd
  exact hn ⟨i, h1, by simpa [h1, h2] using hd⟩
set_option maxHeartbeats 400000 in
theorem isame_some (b off cap b' off' cap' : Nat) (xs ys : List Int) (w : World) (hm : xs.length ≤ 9223372036854775807) (hlen : xs.length = ys.length)
    (hx : ∀ j, j < xs.length → w.cell? ⟨b, off + j, none⟩ = some (.int .i64 (xs[j]?.getD 0)))
    (hy : ∀ j, j < xs.length → w.cell? ⟨b', off' + j, none⟩ = some (.int .i64 (ys[j]?.getD 0))) (same : Bool) (hs : Hid (decide (xs = ys) = same)) :
    Calls Try.prog 11 #[.slice (some ⟨b, off, none⟩) xs.length cap, .slice (some ⟨b', off', none⟩) xs.length cap'] w fun e w' => e = .returned (.bool same) ∧ ∃ n, w' = w.drewN n := by
  have HL := Lib.hid hlen
  clear hlen
  go_enter Try.func11, Try.ntmps11
  go_wp2
  go_loopw [5] (fun i wr => ∃ k n : Nat, k ≤ xs.length ∧ i = .int .i64 k ∧ Hid (∀ j, j < k → xs[j]?.getD 0 = ys[j]?.getD 0) ∧ wr = w.drewN n) (fun i _ => xs.length - (intOf i).toNat)
  case atStart => exact ⟨0, 0, Nat.zero_le _, rfl, fun j hj => by omega, rfl⟩
  case round =>
    obtain ⟨k, n, hk, rfl, hj, rfl⟩ := hrel
    by_cases hlt : k < xs.length
    · have hx' := hx k hlt
      have hy' := hy k hlt
      clear hx hy
      have HJ : xs[k]?.getD 0 = ys[k]?.getD 0 → Hid (∀ j, j < k + 1 → xs[j]?.getD 0 = ys[j]?.getD 0) := fun he j hj2 => by
        by_cases hjk : j < k
        · exact hj.out j hjk
        · rw [show j = k by omega]; exact he
      have HF : xs[k]?.getD 0 ≠ ys[k]?.getD 0 → same = false := fun he => by rw [← hs.out]; simp; exact fun h => he (by rw [h])
      obtain ⟨x, hx0⟩ : ∃ x, xs[k]?.getD 0 = x := ⟨_, rfl⟩
      obtain ⟨y, hy0⟩ : ∃ y, ys[k]?.getD 0 = y := ⟨_, rfl⟩
      rw [hx0] at hx' HJ HF; rw [hy0] at hy' HJ HF
      clear hx0 hy0
      by_cases he : x = y
      · have he' : (x != y) = false := by simp [he]
        have HJ' := HJ he
        clear he HJ HF
        go_wp2
        go_quiet (fail)
        go_wp2
        go_roundw
        case rel => exact ⟨k + 1, _, by omega, by go_num, HJ', rfl⟩
        case measure => simp [intOf]; omega
      · have he' : (x != y) = true := by simp [he]
        have hf := HF he
        clear he HJ HF hs
        subst hf
        go_wp2
        go_quiet (fail)
        go_wp2
        go_ret
        exact ⟨rfl, _, World.drewN_drewN ..⟩
    · have hke : k = xs.length := by omega
      have ht : same = true := by
        rw [← hs.out]; simp
        apply Classical.byContradiction; intro hne
        obtain ⟨i, hi, hne⟩ := igetD_take_ne HL.out hne
        exact hne (hj.out i (by omega))
      clear hk hx hy hke hs
      subst ht
      go_wp2
      go_ret
      exact ⟨rfl, n, rfl⟩
set_option maxHeartbeats 400000 in
theorem isame_none (u v : Option Addr) (c d : Nat) (w : World) : Calls Try.prog 11 #[.slice u 0 c, .slice v 0 d] w fun e w' => e = .returned (.bool true) ∧ ∃ n, w' = w.drewN n := by
  go_enter Try.func11, Try.ntmps11
  go_wp2
  go_loop [5] (fun i => i = .int .i64 0) (fun _ => 0)
  case atStart => exact rfl
  case round =>
    obtain rfl := hrel
    go_wp2
    go_ret
    exact ⟨rfl, 0, rfl⟩
theorem ints_any (x y : Value) (xs ys : List Int) (w : World) (hx : Ints w x xs) (hy : Ints w y ys) :
    Calls Try.prog 11 #[x, y] w fun e w' => e = .returned (.bool (decide (xs = ys))) ∧ ∃ n, w' = w.drewN n := by
  obtain ⟨hm, hx⟩ := hx
  obtain ⟨hm', hy⟩ := hy
  by_cases hl : xs.length = ys.length
  · rcases hx with ⟨a, c, rfl, rfl⟩ | ⟨b, off, cap, rfl, hc⟩
    · obtain rfl : ys = [] := by simpa using hl.symm
      rcases hy with ⟨a', c', rfl, _⟩ | ⟨b', off', cap', rfl, hc'⟩
      · exact isame_none a a' c c' w
      · exact isame_none a _ c cap' w
    · rcases hy with ⟨a', c', rfl, rfl⟩ | ⟨b', off', cap', rfl, hc'⟩
      · obtain rfl : xs = [] := by simpa using hl
        exact isame_none _ a' cap c' w
      · rw [← hl]
        exact isame_some b off cap b' off' cap' xs ys w hm hl hc (fun j hj => hc' j (by omega)) _ rfl
  · have hd : decide (xs = ys) = false := by simp; exact fun h => hl (by rw [h])
    rw [hd]
    rcases hx with ⟨a, c, rfl, rfl⟩ | ⟨b, off, cap, rfl, hc⟩ <;> rcases hy with ⟨a', c', rfl, rfl⟩ | ⟨b', off', cap', rfl, hc'⟩
    · exact absurd rfl hl
    · exact (isame_lens .i64 a _ 0 ys.length c cap' w hl (by omega) hm').mono fun e w' ⟨a, b⟩ => ⟨a, 0, b.symm⟩
    · exact (isame_lens .i64 _ a' xs.length 0 cap c' w hl hm (by omega)).mono fun e w' ⟨a, b⟩ => ⟨a, 0, b.symm⟩
    · exact (isame_lens .i64 _ _ xs.length ys.length cap cap' w hl hm hm').mono fun e w' ⟨a, b⟩ => ⟨a, 0, b.symm⟩
end Go.Proofs.Ytcgnldcdcbnofaa
