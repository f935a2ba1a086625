/- Contracts of the even shares of a length: of the program's and of the document's own. -/
import Derived.Test.YthbmdnofabnhnaaSlice
namespace Go.Proofs.Ythbmdnofabnhnaa
open Go.RowKit
set_option linter.unusedVariables false

theorem Try.infoI64 : (Try.prog.info? 2).map (fun i => (i.zero, i.size, i.bytes)) = some (some (.int .i64 0), 1, 8) := by kernel_rfl

/-- new memory from base on that holds the numbers zs: the slice value v -/
def Made (k : IntKind) (E base : Nat) (w : World) (v : Value) (zs : List Int) : Prop := w.ownsRow base E 1 v zs.length (zs.map (Value.int k))
theorem Made.nums {k : IntKind} {E base : Nat} {w : World} {v : Value} {zs : List Int} (h : Made k E base w v zs) (hm : zs.length ≤ 9223372036854775807) : Nums k w v zs := by
  have h' := h
  obtain ⟨hl, ⟨rfl, hn⟩ | ⟨g, cap, cur, rfl, hb, hg, hnc, hcm, hcs, htk⟩⟩ := h
  · exact ⟨hm, .inl ⟨none, 0, rfl, by omega, by simpa using hn⟩⟩
  · unfold maxLen at hcm
    refine ⟨hm, .inr ⟨g, 0, cap, rfl, hnc, by omega, fun j hj => ?_⟩⟩
    have := World.ownsRow.cellAt h' j (by omega)
    rw [Nat.zero_add, this]; simp [hj]

def evenI (t : Int) (n i : Nat) : Int := t / n + if (i : Int) < t % n then 1 else 0
def evenL (t : Int) (n : Nat) : List Int := (List.range n).map (evenI t n)
theorem evenL_length (t : Int) (n : Nat) : (evenL t n).length = n := by simp [evenL]
/-- the first k of them are laid, zeros behind -/
def evenTo (t : Int) (n k : Nat) : List Int := (List.range k).map (evenI t n) ++ List.replicate (n - k) 0
theorem evenTo_length (t : Int) (n k : Nat) (h : k ≤ n) : (evenTo t n k).length = n := by simp [evenTo]; omega
theorem evenTo_all (t : Int) (n : Nat) : evenTo t n n = evenL t n := by simp [evenTo, evenL]
theorem evenTo_succ (t : Int) (n k : Nat) (h : k < n) : (evenTo t n k).set k (evenI t n k) = evenTo t n (k + 1) := by
  unfold evenTo
  rw [List.set_append_right _ _ (by simp)]
  simp only [List.length_map, List.length_range, Nat.sub_self, List.range_succ, List.map_append, List.map_cons, List.map_nil, List.append_assoc, List.singleton_append]
  congr 1
  obtain ⟨d, hd⟩ : ∃ d, n - k = d + 1 := ⟨n - k - 1, by omega⟩
  rw [hd, show n - (k + 1) = d by omega]
  rfl

theorem below_dn (B : Nat) (w : World) (n : Nat) : Below B w (w.drewN n) := ⟨rfl, rfl, rfl, Nat.le_refl _, fun _ _ => rfl⟩
/-- may a length be shared out among n? -/
def mayB (t n : Int) : Bool := decide (0 ≤ t ∧ t ≤ 1152921504606846975 ∧ 1 ≤ n ∧ n ≤ 10000)
set_option maxHeartbeats 400000 in
theorem shareable_any (t n : Int) (w : World) : Calls Try.prog 14 #[.int .i64 t, .int .i64 n] w fun e w' => e = .returned (.bool (mayB t n)) ∧ w = w' := by
  by_cases h : 0 ≤ t ∧ t ≤ 1152921504606846975 ∧ 1 ≤ n ∧ n ≤ 10000
  · have hb := Lib.hid (show mayB t n = true from by simp [mayB]; omega)
    obtain ⟨h1, h2, h3, h4⟩ := h
    have g : decide (n ≤ 10000) = true := by simpa using h4
    go_enter Try.func14, Try.ntmps14
    go_wp2
    go_ret
    exact ⟨by rw [hb.out]; simp <;> omega, rfl⟩
  · have hb := Lib.hid (show mayB t n = false from by simp [mayB]; omega)
    by_cases h1 : 0 ≤ t
    · by_cases h2 : t ≤ 1152921504606846975
      · by_cases h3 : 1 ≤ n
        · have g : decide (n ≤ 10000) = false := by simp; omega
          clear h
          go_enter Try.func14, Try.ntmps14
          go_wp2
          go_ret
          exact ⟨by rw [hb.out]; simp <;> omega, rfl⟩
        · have g : decide (1 ≤ n) = false := by simp; omega
          clear h
          go_enter Try.func14, Try.ntmps14
          go_wp2
          go_ret
          exact ⟨by rw [hb.out]; simp <;> omega, rfl⟩
      · have g : decide (t ≤ 1152921504606846975) = false := by simp; omega
        clear h
        go_enter Try.func14, Try.ntmps14
        go_wp2
        go_ret
        exact ⟨by rw [hb.out]; simp <;> omega, rfl⟩
    · have g : decide (0 ≤ t) = false := by simp; omega
      clear h
      go_enter Try.func14, Try.ntmps14
      go_wp2
      go_ret
      exact ⟨by rw [hb.out]; simp <;> omega, rfl⟩
set_option maxHeartbeats 400000 in
theorem shared_any (t n : Int) (w : World) : Calls Try.prog 19 #[.int .i64 t, .int .i64 n] w fun e w' => e = .returned (.bool (mayB t n)) ∧ w = w' := by
  by_cases h : 0 ≤ t ∧ t ≤ 1152921504606846975 ∧ 1 ≤ n ∧ n ≤ 10000
  · have hb := Lib.hid (show mayB t n = true from by simp [mayB]; omega)
    obtain ⟨h1, h2, h3, h4⟩ := h
    have h2' : t < 1152921504606846976 := by omega
    have g : decide (n ≤ 10000) = true := by simpa using h4
    go_enter Try.func19, Try.ntmps19
    go_wp2
    go_ret
    exact ⟨by rw [hb.out]; simp <;> omega, rfl⟩
  · have hb := Lib.hid (show mayB t n = false from by simp [mayB]; omega)
    by_cases h1 : 0 ≤ t
    · by_cases h2 : t < 1152921504606846976
      · by_cases h3 : 1 ≤ n
        · have g : decide (n ≤ 10000) = false := by simp; omega
          clear h
          go_enter Try.func19, Try.ntmps19
          go_wp2
          go_ret
          exact ⟨by rw [hb.out]; simp <;> omega, rfl⟩
        · have g : decide (1 ≤ n) = false := by simp; omega
          clear h
          go_enter Try.func19, Try.ntmps19
          go_wp2
          go_ret
          exact ⟨by rw [hb.out]; simp <;> omega, rfl⟩
      · have g : decide (t < 1152921504606846976) = false := by simp; omega
        clear h
        go_enter Try.func19, Try.ntmps19
        go_wp2
        go_ret
        exact ⟨by rw [hb.out]; simp <;> omega, rfl⟩
    · have g : decide (0 ≤ t) = false := by simp; omega
      clear h
      go_enter Try.func19, Try.ntmps19
      go_wp2
      go_ret
      exact ⟨by rw [hb.out]; simp <;> omega, rfl⟩
set_option maxHeartbeats 1000000 in
theorem even_good (t q r : Int) (n : Nat) (w : World) (t0 : 0 ≤ t) (t1 : t ≤ 1152921504606846975) (n0 : 1 ≤ n) (n1 : n ≤ 10000) (hq : Hid (t / n = q)) (hr : Hid (t % n = r)) :
    Calls Try.prog 11 #[.int .i64 t, .int .i64 n] w fun e w' => (∃ v, e = .returned (.tuple #[v, .int .i64 0]) ∧ Made .i64 2 w.heap.size w' v (evenL t n)) ∧ Below w.heap.size w w' := by
  obtain ⟨i0, hi, hz0, hz1, hz2⟩ := info_parts Try.infoI64
  have q0 : 0 ≤ q := by rw [← hq.out]; exact Int.ediv_nonneg t0 (by omega)
  have q1 : q ≤ t := by rw [← hq.out]; exact Int.ediv_le_self _ t0
  have r0 : 0 ≤ r := by rw [← hr.out]; exact Int.emod_nonneg t (by omega)
  have r1 : r < n := by rw [← hr.out]; exact Int.emod_lt_of_pos t (by omega)
  have e1 : t.tdiv n = q := by rw [← hq.out]; exact Int.tdiv_eq_ediv_of_nonneg t0
  have e2 : t.tmod n = r := by rw [← hr.out]; exact Int.tmod_eq_emod_of_nonneg t0
  have e3 : t / n = q := hq.out
  have e4 : t % n = r := hr.out
  have hb : mayB t n = true := by simp [mayB]; omega
  go_enter Try.func11, Try.ntmps11
  go_wp2_with (go_at_call 14; refine (shareable_any _ _ _).mono ?_; rintro e w' ⟨rfl, rfl⟩)
  go_quiet (fail)
  clear e1 e2 e3 e4 hb
  go_wp2_with (at_make; refine wpList_make_full _ rfl _ _ 22 rfl w.heap.size 2 i0 (.int .i64 0) 1 Try.underlying22 hi hz0 hz1 .i64 .i64 _ _ n rfl rfl rfl rfl (by rw [hz2]; omega) (by unfold maxLen; omega) (by simp) ?_; intro w0 hown0 hgrow0)
  have hb0 : Below w.heap.size w w0 := (below_dn _ w _).grown hgrow0 (Nat.le_refl _) (fun k e => by cases e)
  have ho0 : Made .i64 2 w.heap.size w0 (.slice (some ⟨w.heap.size, 0, none⟩) n n) (evenTo t n 0) := by
    unfold Made; rw [evenTo_length _ _ _ (Nat.zero_le _)]
    have e : (madeCells (Value.int IntKind.i64 0).cells (n * 1)).toList = (evenTo t n 0).map (Value.int .i64) := by
      rw [show (Value.int IntKind.i64 0).cells = #[Value.int .i64 0] from rfl, toList_madeCells_one]; simp [evenTo]
    rw [← e]; exact hown0
  clear hown0 hgrow0
  go_loopw [24] (fun i wr => ∃ k : Nat, k ≤ n ∧ i = .int .i64 k ∧ Made .i64 2 w.heap.size wr (.slice (some ⟨w.heap.size, 0, none⟩) n n) (evenTo t n k) ∧ Below w.heap.size w wr) (fun i _ => n - (intOf i).toNat)
  case atStart => exact ⟨0, Nat.zero_le _, rfl, ho0, hb0⟩
  case round =>
    obtain ⟨k, hk, rfl, ho, hbl⟩ := hrel
    have hl := evenTo_length t n k hk
    by_cases hlt : k < n
    · unfold Made at ho
      rw [hl] at ho
      have hcell := ho.cellAt k (by omega)
      have hfz := ho.frozenAt k
      have hs1 := ho.stored k (.int .i64 q)
      have hs2 := (hs1.1.stored k (.int .i64 (q + 1))).1
      have hv : ∃ v, wr.cell? ⟨w.heap.size, k, none⟩ = some v := ⟨_, by rw [hcell, List.getElem?_eq_getElem (by simp [hl]; exact hlt)]⟩
      obtain ⟨v, hv⟩ := hv
      have hcs : (wr.setCell ⟨w.heap.size, k, none⟩ (.int .i64 q)).cell? ⟨w.heap.size, k, none⟩ = some (.int .i64 q) := World.cell?_setCell_same' _ _ _ (by rw [hv]; rfl)
      have hev : evenI t n k = q + if (k : Int) < r then 1 else 0 := by unfold evenI; rw [hq.out, hr.out]
      have H1 := Lib.hid hs1.1
      have H2 := Lib.hid hs2
      have HE := Lib.hid hev
      have HL := Lib.hid hl
      clear hcell hs1 hs2 hev hl ho
      by_cases hkr : (k : Int) < r
      · go_wp2
        go_roundw
        case rel =>
          refine ⟨k + 1, by omega, by go_num, ?_, (hbl.setCell (p := ⟨w.heap.size, k, none⟩) (Nat.le_refl _) _).setCell (p := ⟨w.heap.size, k, none⟩) (Nat.le_refl _) _⟩
          unfold Made
          rw [evenTo_length _ _ _ (by omega), ← evenTo_succ _ _ _ hlt, HE.out, if_pos hkr, List.map_set]
          have := H2.out
          rw [List.set_set] at this
          exact this
        case measure => simp [intOf]; omega
      · go_wp2
        go_roundw
        case rel =>
          refine ⟨k + 1, by omega, by go_num, ?_, hbl.setCell (p := ⟨w.heap.size, k, none⟩) (Nat.le_refl _) _⟩
          unfold Made
          rw [evenTo_length _ _ _ (by omega), ← evenTo_succ _ _ _ hlt, HE.out, if_neg hkr, List.map_set, Int.add_zero]
          exact H1.out
        case measure => simp [intOf]; omega
    · have hke : k = n := by omega
      have HO := Lib.hid ho
      have HL := Lib.hid hl
      clear ho hl
      clear hke
      go_wp2
      go_ret2
      obtain rfl : k = n := by omega
      rw [evenTo_all] at HO
      exact ⟨⟨_, rfl, HO.out⟩, hbl⟩
set_option maxHeartbeats 400000 in
theorem even_bad (t n : Int) (w : World) (h : mayB t n = false) :
    Calls Try.prog 11 #[.int .i64 t, .int .i64 n] w fun e w' => e = .returned (.tuple #[.slice none 0 0, .int .i64 10]) ∧ w = w' := by
  go_enter Try.func11, Try.ntmps11
  go_wp2_with (go_at_call 14; refine (shareable_any _ _ _).mono ?_; rintro e w' ⟨rfl, rfl⟩)
  go_ret2
  exact ⟨rfl, rfl⟩
set_option maxHeartbeats 400000 in
theorem refEven_bad (t n : Int) (w : World) (h : mayB t n = false) :
    Calls Try.prog 20 #[.int .i64 t, .int .i64 n] w fun e w' => e = .returned (.tuple #[.slice none 0 0, .int .i64 10]) ∧ w = w' := by
  go_enter Try.func20, Try.ntmps20
  go_wp2_with (go_at_call 19; refine (shared_any _ _ _).mono ?_; rintro e w' ⟨rfl, rfl⟩)
  go_ret2
  exact ⟨rfl, rfl⟩
set_option maxHeartbeats 1000000 in
theorem refEven_good (t q r : Int) (n : Nat) (w : World) (t0 : 0 ≤ t) (t1 : t ≤ 1152921504606846975) (n0 : 1 ≤ n) (n1 : n ≤ 10000) (hq : Hid (t / n = q)) (hr : Hid (t % n = r)) :
    Calls Try.prog 20 #[.int .i64 t, .int .i64 n] w fun e w' => (∃ v, e = .returned (.tuple #[v, .int .i64 0]) ∧ Made .i64 2 w.heap.size w' v (evenL t n)) ∧ Below w.heap.size w w' := by
  obtain ⟨i0, hi, hz0, hz1, hz2⟩ := info_parts Try.infoI64
  have q0 : 0 ≤ q := by rw [← hq.out]; exact Int.ediv_nonneg t0 (by omega)
  have q1 : q ≤ t := by rw [← hq.out]; exact Int.ediv_le_self _ t0
  have r0 : 0 ≤ r := by rw [← hr.out]; exact Int.emod_nonneg t (by omega)
  have r1 : r < n := by rw [← hr.out]; exact Int.emod_lt_of_pos t (by omega)
  have e1 : t.tdiv n = q := by rw [← hq.out]; exact Int.tdiv_eq_ediv_of_nonneg t0
  have e2 : t.tmod n = r := by rw [← hr.out]; exact Int.tmod_eq_emod_of_nonneg t0
  have e3 : t / n = q := hq.out
  have e4 : t % n = r := hr.out
  have hb : mayB t n = true := by simp [mayB]; omega
  go_enter Try.func20, Try.ntmps20
  go_wp2_with (go_at_call 19; refine (shared_any _ _ _).mono ?_; rintro e w' ⟨rfl, rfl⟩)
  clear hb
  go_loopw [6, 7] (fun v i wr => ∃ k : Nat, k ≤ n ∧ i = .int .i64 k ∧ Made .i64 2 w.heap.size wr v ((evenL t n).take k) ∧ Below w.heap.size w wr) (fun _ i _ => n - (intOf i).toNat)
  case atStart => exact ⟨0, Nat.zero_le _, rfl, World.ownsRow_nil _ _ _ _, Below.refl _ _⟩
  case round =>
    obtain ⟨k, hk, rfl, ho, hbl⟩ := hrel
    by_cases hlt : k < n
    · have hlk : ((evenL t n).take k).length = k := by rw [List.length_take, evenL_length]; omega
      unfold Made at ho
      rw [hlk] at ho
      have hsz := hbl.size
      have hev : (evenL t n).take (k + 1) = (evenL t n).take k ++ [evenI t n k] := by
        rw [take_snoc _ _ (by rw [evenL_length]; exact hlt)]; simp [evenL, hlt]
      have hev2 : evenI t n k = q + if (k : Int) < r then 1 else 0 := by unfold evenI; rw [hq.out, hr.out]
      have HE := Lib.hid hev
      have HE2 := Lib.hid hev2
      have HL := Lib.hid hlk
      clear hev hev2 hlk
      by_cases hkr : (k : Int) < r
      · go_wp2_with (at_builtin; refine wpList_append_own _ rfl _ _ 22 rfl w.heap.size 2 i0 (.int .i64 0) 1 8 Try.underlying22 hi hz0 hz1 hz2 rfl (by decide) _ _ _ rfl (ho.alloc _) ⟨wr.heap.size, 0, none⟩ 1 1 [.int .i64 (q + 1)] rfl rfl (cell_one_new _ _ _) (by simp [Value.oneCell']) (by unfold maxLen; omega) (by omega) (by simp; omega) ?_; intro v' w1 hown' hgrow _)
        go_roundw
        case rel =>
          refine ⟨k + 1, by omega, by go_num, ?_, (hbl.alloc hsz _).grown hgrow (by simp; omega) (fun j e => (ho.lt j e).1)⟩
          unfold Made
          rw [HE.out, HE2.out, if_pos hkr, List.length_append, HL.out, List.map_append]
          exact hown'
        case measure => simp [intOf]; omega
      · go_wp2_with (at_builtin; refine wpList_append_own _ rfl _ _ 22 rfl w.heap.size 2 i0 (.int .i64 0) 1 8 Try.underlying22 hi hz0 hz1 hz2 rfl (by decide) _ _ _ rfl (ho.alloc _) ⟨wr.heap.size, 0, none⟩ 1 1 [.int .i64 q] rfl rfl (cell_one_new _ _ _) (by simp [Value.oneCell']) (by unfold maxLen; omega) (by omega) (by simp; omega) ?_; intro v' w1 hown' hgrow _)
        go_roundw
        case rel =>
          refine ⟨k + 1, by omega, by go_num, ?_, (hbl.alloc hsz _).grown hgrow (by simp; omega) (fun j e => (ho.lt j e).1)⟩
          unfold Made
          rw [HE.out, HE2.out, if_neg hkr, Int.add_zero, List.length_append, HL.out, List.map_append]
          exact hown'
        case measure => simp [intOf]; omega
    · go_wp2
      go_ret2
      rw [List.take_of_length_le (by rw [evenL_length]; omega)] at ho
      exact ⟨⟨_, rfl, ho⟩, hbl⟩
end Go.Proofs.Ythbmdnofabnhnaa
