/- Contracts of the even shares of a length: of the program's and of the document's own. -/
import Derived.Test.YtpbkboandiigfaaSlice
import Derived.Test.YtpbkboandiigfaaArith
namespace Go.Proofs.Ytpbkboandiigfaa
open Go.RowKit
set_option linter.unusedVariables false

theorem Try.infoI64 : (Try.prog.info? 2).map (fun i => (i.zero, i.size, i.bytes)) = some (some (.int .i64 0), 1, 8) := by kernel_rfl

/-- new memory from base on that holds the numbers zs: the slice value v -/
def Made (k : IntKind) (E base : Nat) (w : World) (v : Value) (zs : List Int) : Prop := w.ownsRow base E 1 v zs.length (zs.map (Value.int k))
theorem Made.nums {k : IntKind} {E base : Nat} {w : World} {v : Value} {zs : List Int} (h : Made k E base w v zs) (hm : zs.length ≤ 9223372036854775807) : Nums k w v zs := by
  have h' := h
  obtain ⟨hl, ⟨rfl, hn⟩ | ⟨g, cap, cur, rfl, hb, hg, hnc, hcm, hcs, htk⟩⟩ := h
  · exact ⟨hm, .inl ⟨none, 0, rfl, by omega, by simpa using hn⟩⟩
  · unfold maxLen at hcm
    refine ⟨hm, .inr ⟨g, 0, cap, rfl, hnc, by omega, fun j hj => ?_⟩⟩
    have := World.ownsRow.cellAt h' j (by omega)
    rw [Nat.zero_add, this]; simp [hj]

def evenI (t : Int) (n i : Nat) : Int := t / n + if (i : Int) < t % n then 1 else 0
def evenL (t : Int) (n : Nat) : List Int := (List.range n).map (evenI t n)
theorem evenL_length (t : Int) (n : Nat) : (evenL t n).length = n := by simp [evenL]
/-- the first k of them are laid, zeros behind -/
def evenTo (t : Int) (n k : Nat) : List Int := (List.range k).map (evenI t n) ++ List.replicate (n - k) 0
theorem evenTo_length (t : Int) (n k : Nat) (h : k ≤ n) : (evenTo t n k).length = n := by simp [evenTo]; omega
theorem evenTo_all (t : Int) (n : Nat) : evenTo t n n = evenL t n := by simp [evenTo, evenL]
theorem evenTo_succ (t : Int) (n k : Nat) (h : k < n) : (evenTo t n k).set k (evenI t n k) = evenTo t n (k + 1) := by
  unfold evenTo
  rw [List.set_append_right _ _ (by simp)]
  simp only [List.length_map, List.length_range, Nat.sub_self, List.range_succ, List.map_append, List.map_cons, List.map_nil, List.append_assoc, List.singleton_append]
  congr 1
  obtain ⟨d, hd⟩ : ∃ d, n - k = d + 1 := ⟨n - k - 1, by omega⟩
  rw [hd, show n - (k + 1) = d by omega]
  rfl

/-- may a length be shared out among n? -/
def mayB (t n : Int) : Bool := decide (0 ≤ t ∧ t ≤ 1152921504606846975 ∧ 1 ≤ n ∧ n ≤ 10000)
set_option maxHeartbeats 400000 in
theorem shareable_any (t n : Int) (w : World) : Calls Try.prog 68 #[.int .i64 t, .int .i64 n] w fun e w' => e = .returned (.bool (mayB t n)) ∧ w = w' := by
  by_cases h : 0 ≤ t ∧ t ≤ 1152921504606846975 ∧ 1 ≤ n ∧ n ≤ 10000
  · have hb := Lib.hid (show mayB t n = true from by simp [mayB]; omega)
    obtain ⟨h1, h2, h3, h4⟩ := h
    have g : decide (n ≤ 10000) = true := by simpa using h4
    go_enter Try.func68, Try.ntmps68
    go_wp2
    go_ret
    exact ⟨by rw [hb.out]; simp <;> omega, rfl⟩
  · have hb := Lib.hid (show mayB t n = false from by simp [mayB]; omega)
    by_cases h1 : 0 ≤ t
    · by_cases h2 : t ≤ 1152921504606846975
      · by_cases h3 : 1 ≤ n
        · have g : decide (n ≤ 10000) = false := by simp; omega
          clear h
          go_enter Try.func68, Try.ntmps68
          go_wp2
          go_ret
          exact ⟨by rw [hb.out]; simp <;> omega, rfl⟩
        · have g : decide (1 ≤ n) = false := by simp; omega
          clear h
          go_enter Try.func68, Try.ntmps68
          go_wp2
          go_ret
          exact ⟨by rw [hb.out]; simp <;> omega, rfl⟩
      · have g : decide (t ≤ 1152921504606846975) = false := by simp; omega
        clear h
        go_enter Try.func68, Try.ntmps68
        go_wp2
        go_ret
        exact ⟨by rw [hb.out]; simp <;> omega, rfl⟩
    · have g : decide (0 ≤ t) = false := by simp; omega
      clear h
      go_enter Try.func68, Try.ntmps68
      go_wp2
      go_ret
      exact ⟨by rw [hb.out]; simp <;> omega, rfl⟩
set_option maxHeartbeats 400000 in
theorem shared_any (t n : Int) (w : World) : Calls Try.prog 52 #[.int .i64 t, .int .i64 n] w fun e w' => e = .returned (.bool (mayB t n)) ∧ w = w' := by
  by_cases h : 0 ≤ t ∧ t ≤ 1152921504606846975 ∧ 1 ≤ n ∧ n ≤ 10000
  · have hb := Lib.hid (show mayB t n = true from by simp [mayB]; omega)
    obtain ⟨h1, h2, h3, h4⟩ := h
    have h2' : t < 1152921504606846976 := by omega
    have g : decide (n ≤ 10000) = true := by simpa using h4
    go_enter Try.func52, Try.ntmps52
    go_wp2
    go_ret
    exact ⟨by rw [hb.out]; simp <;> omega, rfl⟩
  · have hb := Lib.hid (show mayB t n = false from by simp [mayB]; omega)
    by_cases h1 : 0 ≤ t
    · by_cases h2 : t < 1152921504606846976
      · by_cases h3 : 1 ≤ n
        · have g : decide (n ≤ 10000) = false := by simp; omega
          clear h
          go_enter Try.func52, Try.ntmps52
          go_wp2
          go_ret
          exact ⟨by rw [hb.out]; simp <;> omega, rfl⟩
        · have g : decide (1 ≤ n) = false := by simp; omega
          clear h
          go_enter Try.func52, Try.ntmps52
          go_wp2
          go_ret
          exact ⟨by rw [hb.out]; simp <;> omega, rfl⟩
      · have g : decide (t < 1152921504606846976) = false := by simp; omega
        clear h
        go_enter Try.func52, Try.ntmps52
        go_wp2
        go_ret
        exact ⟨by rw [hb.out]; simp <;> omega, rfl⟩
    · have g : decide (0 ≤ t) = false := by simp; omega
      clear h
      go_enter Try.func52, Try.ntmps52
      go_wp2
      go_ret
      exact ⟨by rw [hb.out]; simp <;> omega, rfl⟩
set_option maxHeartbeats 400000 in
theorem refEven_bad (t n : Int) (w : World) (h : mayB t n = false) :
    Calls Try.prog 53 #[.int .i64 t, .int .i64 n] w fun e w' => e = .returned (.tuple #[.slice none 0 0, .int .i64 10]) ∧ w = w' := by
  go_enter Try.func53, Try.ntmps53
  go_wp2_with (go_at_call 52; refine (shared_any _ _ _).mono ?_; rintro e w' ⟨rfl, rfl⟩)
  go_ret2
  exact ⟨rfl, rfl⟩
set_option maxHeartbeats 1000000 in
theorem refEven_good (t q r : Int) (n : Nat) (w : World) (t0 : 0 ≤ t) (t1 : t ≤ 1152921504606846975) (n0 : 1 ≤ n) (n1 : n ≤ 10000) (hq : Hid (t / n = q)) (hr : Hid (t % n = r)) :
    Calls Try.prog 53 #[.int .i64 t, .int .i64 n] w fun e w' => (∃ v, e = .returned (.tuple #[v, .int .i64 0]) ∧ Made .i64 2 w.heap.size w' v (evenL t n)) ∧ Below w.heap.size w w' := by
  obtain ⟨i0, hi, hz0, hz1, hz2⟩ := info_parts Try.infoI64
  have q0 : 0 ≤ q := by rw [← hq.out]; exact Int.ediv_nonneg t0 (by omega)
  have q1 : q ≤ t := by rw [← hq.out]; exact Int.ediv_le_self _ t0
  have r0 : 0 ≤ r := by rw [← hr.out]; exact Int.emod_nonneg t (by omega)
  have r1 : r < n := by rw [← hr.out]; exact Int.emod_lt_of_pos t (by omega)
  have e1 : t.tdiv n = q := by rw [← hq.out]; exact Int.tdiv_eq_ediv_of_nonneg t0
  have e2 : t.tmod n = r := by rw [← hr.out]; exact Int.tmod_eq_emod_of_nonneg t0
  have e3 : t / n = q := hq.out
  have e4 : t % n = r := hr.out
  have hb : mayB t n = true := by simp [mayB]; omega
  go_enter Try.func53, Try.ntmps53
  go_wp2_with (go_at_call 52; refine (shared_any _ _ _).mono ?_; rintro e w' ⟨rfl, rfl⟩)
  clear hb
  go_loopw [6, 7] (fun v i wr => ∃ k : Nat, k ≤ n ∧ i = .int .i64 k ∧ Made .i64 2 w.heap.size wr v ((evenL t n).take k) ∧ Below w.heap.size w wr) (fun _ i _ => n - (intOf i).toNat)
  case atStart => exact ⟨0, Nat.zero_le _, rfl, World.ownsRow_nil _ _ _ _, Below.refl _ _⟩
  case round =>
    obtain ⟨k, hk, rfl, ho, hbl⟩ := hrel
    by_cases hlt : k < n
    · have hlk : ((evenL t n).take k).length = k := by rw [List.length_take, evenL_length]; omega
      unfold Made at ho
      rw [hlk] at ho
      have hsz := hbl.size
      have hev : (evenL t n).take (k + 1) = (evenL t n).take k ++ [evenI t n k] := by
        rw [take_snoc _ _ (by rw [evenL_length]; exact hlt)]; simp [evenL, hlt]
      have hev2 : evenI t n k = q + if (k : Int) < r then 1 else 0 := by unfold evenI; rw [hq.out, hr.out]
      have HE := Lib.hid hev
      have HE2 := Lib.hid hev2
      have HL := Lib.hid hlk
      clear hev hev2 hlk
      by_cases hkr : (k : Int) < r
      · go_wp2_with (at_builtin; refine wpList_append_own _ rfl _ _ 22 rfl w.heap.size 2 i0 (.int .i64 0) 1 8 Try.underlying22 hi hz0 hz1 hz2 rfl (by decide) _ _ _ rfl (ho.alloc _) ⟨wr.heap.size, 0, none⟩ 1 1 [.int .i64 (q + 1)] rfl rfl (cell_one_new _ _ _) (by simp [Value.oneCell']) (by unfold maxLen; omega) (by omega) (by simp; omega) ?_; intro v' w1 hown' hgrow _)
        go_roundw
        case rel =>
          refine ⟨k + 1, by omega, by go_num, ?_, (hbl.alloc hsz _).grown hgrow (by simp; omega) (fun j e => (ho.lt j e).1)⟩
          unfold Made
          rw [HE.out, HE2.out, if_pos hkr, List.length_append, HL.out, List.map_append]
          exact hown'
        case measure => simp [intOf]; omega
      · go_wp2_with (at_builtin; refine wpList_append_own _ rfl _ _ 22 rfl w.heap.size 2 i0 (.int .i64 0) 1 8 Try.underlying22 hi hz0 hz1 hz2 rfl (by decide) _ _ _ rfl (ho.alloc _) ⟨wr.heap.size, 0, none⟩ 1 1 [.int .i64 q] rfl rfl (cell_one_new _ _ _) (by simp [Value.oneCell']) (by unfold maxLen; omega) (by omega) (by simp; omega) ?_; intro v' w1 hown' hgrow _)
        go_roundw
        case rel =>
          refine ⟨k + 1, by omega, by go_num, ?_, (hbl.alloc hsz _).grown hgrow (by simp; omega) (fun j e => (ho.lt j e).1)⟩
          unfold Made
          rw [HE.out, HE2.out, if_neg hkr, Int.add_zero, List.length_append, HL.out, List.map_append]
          exact hown'
        case measure => simp [intOf]; omega
    · go_wp2
      go_ret2
      rw [List.take_of_length_le (by rw [evenL_length]; omega)] at ho
      exact ⟨⟨_, rfl, ho⟩, hbl⟩
end Go.Proofs.Ytpbkboandiigfaa
