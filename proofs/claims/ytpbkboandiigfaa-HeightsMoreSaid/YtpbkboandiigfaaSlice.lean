/- Slices of whole numbers as lists; sums over them. -/
import Derived.Test.YtpbkboandiigfaaArith
import Derived.LoopTactic
import Derived.BigQuiet
import Derived.Deep.QuietTactic
namespace Go.Proofs.Ytpbkboandiigfaa
open Go.RowKit
set_option linter.unusedVariables false

/-- the slice value sv holds the numbers zs of kind k in the world W -/
def Nums (k : IntKind) (W : World) (sv : Value) (zs : List Int) : Prop :=
  zs.length ≤ 9223372036854775807 ∧ ((∃ (a : Option Addr) (cap : Nat), sv = .slice a 0 cap ∧ cap ≤ 9223372036854775807 ∧ zs = []) ∨ ∃ b off cap, sv = .slice (some ⟨b, off, none⟩) zs.length cap ∧ zs.length ≤ cap ∧ cap ≤ 9223372036854775807 ∧ ∀ j, j < zs.length → W.cell? ⟨b, off + j, none⟩ = some (.int k (zs[j]?.getD 0)))
/-- .. and all of them lie in 64 bits -/
def In64 (zs : List Int) : Prop := ∀ j, j < zs.length → -9223372036854775808 ≤ zs[j]?.getD 0 ∧ zs[j]?.getD 0 ≤ 9223372036854775807
/-- a sum, saturated step by step -/
def addS (zs : List Int) : Int := zs.foldl (fun s z => sat (s + z)) 0
theorem foldl_bd (zs : List Int) (s : Int) (h : -9223372036854775808 ≤ s ∧ s ≤ 9223372036854775807) : -9223372036854775808 ≤ zs.foldl (fun s z => sat (s + z)) s ∧ zs.foldl (fun s z => sat (s + z)) s ≤ 9223372036854775807 := by
  induction zs generalizing s with
  | nil => exact h
  | cons z zs ih => exact ih _ ⟨sat_lo _, sat_hi _⟩
theorem addS_bd (zs : List Int) : -9223372036854775808 ≤ addS zs ∧ addS zs ≤ 9223372036854775807 := foldl_bd zs 0 (by omega)
theorem take_snoc (zs : List Int) (k : Nat) (h : k < zs.length) : zs.take (k + 1) = zs.take k ++ [zs[k]?.getD 0] := by
  rw [List.take_succ_eq_append_getElem h]; simp [h]
theorem addS_snoc (zs : List Int) (k : Nat) (h : k < zs.length) : addS (zs.take (k + 1)) = sat (addS (zs.take k) + zs[k]?.getD 0) := by
  rw [take_snoc zs k h]; simp [addS]

set_option maxHeartbeats 400000 in
theorem add_some (b off cap : Nat) (zs : List Int) (w : World) (hm : zs.length ≤ 9223372036854775807) (hz : Hid (In64 zs))
    (hc : ∀ j, j < zs.length → w.cell? ⟨b, off + j, none⟩ = some (.int .i64 (zs[j]?.getD 0))) :
    Calls Try.prog 51 #[.slice (some ⟨b, off, none⟩) zs.length cap] w fun e w' => e = .returned (.int .i64 (addS zs)) ∧ w = w' := by
  go_enter Try.func51, Try.ntmps51
  go_wp2
  go_loop [3, 8] (fun s i => ∃ k : Nat, k ≤ zs.length ∧ i = .int .i64 k ∧ s = .int .i64 (addS (zs.take k))) (fun _ i => zs.length - (intOf i).toNat)
  case atStart => exact ⟨0, Nat.zero_le _, rfl, rfl⟩
  case round =>
    obtain ⟨k, hk, rfl, rfl⟩ := hrel
    by_cases hlt : k < zs.length
    · have hcell := hc k hlt
      have h1 := hz.out k hlt
      have h2 := addS_bd (zs.take k)
      have HS := Lib.hid (addS_snoc zs k hlt)
      obtain ⟨z, hzz⟩ : ∃ z, zs[k]?.getD 0 = z := ⟨_, rfl⟩
      rw [hzz] at hcell h1 HS
      clear hzz hc
      go_wp2_with (go_at_call 72; refine (plus_any _ _ _ (by omega) (by omega) (by omega) (by omega)).mono ?_; rintro e w' ⟨rfl, rfl⟩)
      go_round
      case rel => exact ⟨k + 1, by omega, by go_num, by rw [HS.out]⟩
      case measure => simp [intOf]; omega
    · go_wp2
      go_ret
      exact ⟨ret_int (by rw [List.take_of_length_le (by omega)]), rfl⟩
set_option maxHeartbeats 400000 in
theorem add_none (a : Option Addr) (cap : Nat) (w : World) : Calls Try.prog 51 #[.slice a 0 cap] w fun e w' => e = .returned (.int .i64 0) ∧ w = w' := by
  go_enter Try.func51, Try.ntmps51
  go_wp2
  go_loop [3, 8] (fun s i => i = .int .i64 0 ∧ s = .int .i64 0) (fun _ _ => 0)
  case atStart => exact ⟨rfl, rfl⟩
  case round =>
    obtain ⟨rfl, rfl⟩ := hrel
    go_wp2
    go_ret
    exact ⟨rfl, rfl⟩
theorem add_any (sv : Value) (zs : List Int) (w : World) (hI : Nums .i64 w sv zs) (hz : In64 zs) :
    Calls Try.prog 51 #[sv] w fun e w' => e = .returned (.int .i64 (addS zs)) ∧ w = w' := by
  obtain ⟨hm, ⟨a, cap, rfl, _, rfl⟩ | ⟨b, off, cap, rfl, _, _, hc⟩⟩ := hI
  · exact add_none a cap w
  · exact add_some b off cap zs w hm hz hc
set_option maxHeartbeats 400000 in
theorem same_lens (k : IntKind) (a b : Option Addr) (n m c d : Nat) (w : World) (h : n ≠ m) (hn : n ≤ 9223372036854775807) (hm : m ≤ 9223372036854775807) :
    Calls Try.prog 16 #[.slice a n c, .slice b m d] w fun e w' => e = .returned (.bool false) ∧ w = w' := by
  have h' : ((n : Int) == (m : Int)) = false := by simp; omega
  have h'' : ((n : Int) != (m : Int)) = true := by simp; omega
  go_enter Try.func16, Try.ntmps16
  go_wp2
  go_ret
  exact ⟨rfl, rfl⟩
theorem getD_take_ne {xs ys : List Int} (h : xs.length = ys.length) (h' : xs ≠ ys) : ∃ k, k < xs.length ∧ xs[k]?.getD 0 ≠ ys[k]?.getD 0 := by
  apply Classical.byContradiction
  intro hn
  apply h'
  apply List.ext_getElem h
  intro i h1 h2
  apply Classical.byContradiction
  intro hd
  exact hn ⟨i, h1, by simpa [h1, h2] using hd⟩
set_option maxHeartbeats 400000 in
theorem same_some (b off cap b' off' cap' : Nat) (xs ys : List Int) (w : World) (hm : xs.length ≤ 9223372036854775807) (hlen : xs.length = ys.length)
    (hx : ∀ j, j < xs.length → w.cell? ⟨b, off + j, none⟩ = some (.int .i64 (xs[j]?.getD 0)))
    (hy : ∀ j, j < xs.length → w.cell? ⟨b', off' + j, none⟩ = some (.int .i64 (ys[j]?.getD 0))) (same : Bool) (hs : Hid (decide (xs = ys) = same)) :
    Calls Try.prog 16 #[.slice (some ⟨b, off, none⟩) xs.length cap, .slice (some ⟨b', off', none⟩) xs.length cap'] w fun e w' => e = .returned (.bool same) ∧ ∃ n, w' = w.drewN n := by
  have HL := Lib.hid hlen
  clear hlen
  go_enter Try.func16, Try.ntmps16
  go_wp2
  go_loopw [5] (fun i wr => ∃ k n : Nat, k ≤ xs.length ∧ i = .int .i64 k ∧ Hid (∀ j, j < k → xs[j]?.getD 0 = ys[j]?.getD 0) ∧ wr = w.drewN n) (fun i _ => xs.length - (intOf i).toNat)
  case atStart => exact ⟨0, 0, Nat.zero_le _, rfl, fun j hj => by omega, rfl⟩
  case round =>
    obtain ⟨k, n, hk, rfl, hj, rfl⟩ := hrel
    by_cases hlt : k < xs.length
    · have hx' := hx k hlt
      have hy' := hy k hlt
      clear hx hy
      have HJ : xs[k]?.getD 0 = ys[k]?.getD 0 → Hid (∀ j, j < k + 1 → xs[j]?.getD 0 = ys[j]?.getD 0) := fun he j hj2 => by
        by_cases hjk : j < k
        · exact hj.out j hjk
        · rw [show j = k by omega]; exact he
      have HF : xs[k]?.getD 0 ≠ ys[k]?.getD 0 → same = false := fun he => by rw [← hs.out]; simp; exact fun h => he (by rw [h])
      obtain ⟨x, hx0⟩ : ∃ x, xs[k]?.getD 0 = x := ⟨_, rfl⟩
      obtain ⟨y, hy0⟩ : ∃ y, ys[k]?.getD 0 = y := ⟨_, rfl⟩
      rw [hx0] at hx' HJ HF; rw [hy0] at hy' HJ HF
      clear hx0 hy0
      by_cases he : x = y
      · have he' : (x != y) = false := by simp [he]
        have HJ' := HJ he
        clear he HJ HF
        go_wp2
        go_quiet (fail)
        go_wp2
        go_roundw
        case rel => exact ⟨k + 1, _, by omega, by go_num, HJ', rfl⟩
        case measure => simp [intOf]; omega
      · have he' : (x != y) = true := by simp [he]
        have hf := HF he
        clear he HJ HF hs
        subst hf
        go_wp2
        go_quiet (fail)
        go_wp2
        go_ret
        exact ⟨rfl, _, World.drewN_drewN ..⟩
    · have hke : k = xs.length := by omega
      have ht : same = true := by
        rw [← hs.out]; simp
        apply Classical.byContradiction; intro hne
        obtain ⟨i, hi, hne⟩ := getD_take_ne HL.out hne
        exact hne (hj.out i (by omega))
      clear hk hx hy hke hs
      subst ht
      go_wp2
      go_ret
      exact ⟨rfl, n, rfl⟩
set_option maxHeartbeats 400000 in
theorem same_none (u v : Option Addr) (c d : Nat) (w : World) : Calls Try.prog 16 #[.slice u 0 c, .slice v 0 d] w fun e w' => e = .returned (.bool true) ∧ ∃ n, w' = w.drewN n := by
  go_enter Try.func16, Try.ntmps16
  go_wp2
  go_loop [5] (fun i => i = .int .i64 0) (fun _ => 0)
  case atStart => exact rfl
  case round =>
    obtain rfl := hrel
    go_wp2
    go_ret
    exact ⟨rfl, 0, rfl⟩
/-- two lists of numbers are the same, or not -/
theorem same_any (x y : Value) (xs ys : List Int) (w : World) (hx : Nums .i64 w x xs) (hy : Nums .i64 w y ys) :
    Calls Try.prog 16 #[x, y] w fun e w' => e = .returned (.bool (decide (xs = ys))) ∧ ∃ n, w' = w.drewN n := by
  obtain ⟨hm, hx⟩ := hx
  obtain ⟨hm', hy⟩ := hy
  by_cases hl : xs.length = ys.length
  · rcases hx with ⟨a, c, rfl, _, rfl⟩ | ⟨b, off, cap, rfl, _, _, hc⟩
    · obtain rfl : ys = [] := by simpa using hl.symm
      rcases hy with ⟨a', c', rfl, _, _⟩ | ⟨b', off', cap', rfl, _, _, hc'⟩
      · exact same_none a a' c c' w
      · exact same_none a _ c cap' w
    · rcases hy with ⟨a', c', rfl, _, rfl⟩ | ⟨b', off', cap', rfl, _, _, hc'⟩
      · obtain rfl : xs = [] := by simpa using hl
        exact same_none _ a' cap c' w
      · rw [← hl]
        exact same_some b off cap b' off' cap' xs ys w hm hl hc (fun j hj => hc' j (by omega)) _ rfl
  · have hd : decide (xs = ys) = false := by simp; exact fun h => hl (by rw [h])
    rw [hd]
    rcases hx with ⟨a, c, rfl, _, rfl⟩ | ⟨b, off, cap, rfl, _, _, hc⟩ <;> rcases hy with ⟨a', c', rfl, _, rfl⟩ | ⟨b', off', cap', rfl, _, _, hc'⟩
    · exact absurd rfl hl
    · exact (same_lens .i64 a _ 0 ys.length c cap' w hl (by omega) hm').mono fun e w' ⟨a, b⟩ => ⟨a, 0, b.symm⟩
    · exact (same_lens .i64 _ a' xs.length 0 cap c' w hl hm (by omega)).mono fun e w' ⟨a, b⟩ => ⟨a, 0, b.symm⟩
    · exact (same_lens .i64 _ _ xs.length ys.length cap cap' w hl hm hm').mono fun e w' ⟨a, b⟩ => ⟨a, 0, b.symm⟩

end Go.Proofs.Ytpbkboandiigfaa
