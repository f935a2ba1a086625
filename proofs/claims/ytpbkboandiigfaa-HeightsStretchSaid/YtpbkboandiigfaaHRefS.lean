/- The document's Stretch. -/
import Derived.Test.YtpbkboandiigfaaHApp
import Derived.Test.YtpbkboandiigfaaStRef
namespace Go.Proofs.Ytpbkboandiigfaa
open Go.RowKit Go.Shelf Go.Sort Go.Lib Go.Maps
set_option linter.unusedVariables false
set_option linter.unusedSimpArgs false
attribute [local go_sem] Oper.semAt_some

theorem refShareH_any (b off cap k : Nat) (t : Int) (ws : List Int) (w : World) (hk : ws.length = k) (hc : ∀ j, j < k → w.cell? ⟨b, off + j, none⟩ = some (.int .i64 (ws[j]?.getD 0))) (h : mayB t k = true) (hok : OkW ws) (k1 : 1 ≤ k) (t0 : 0 ≤ t) :
    Calls Try.prog 36 #[.int .i64 t, .slice (some ⟨b, off, none⟩) k cap] w fun e w' => (∃ v, e = .returned (.tuple #[v, .int .i64 0]) ∧ Nums .i64 w' v (shrW t ws)) ∧ Below w.heap.size w w' := by
  have hs0 := (sumZ_bd ws hok).1
  have hkm : k ≤ 10000 := by simp [mayB] at h; omega
  by_cases h0 : sumZ ws = 0
  · have e : shrW t ws = evenL t k := by unfold shrW counted; rw [if_pos h0, hk, shareS_rep t 1 k (by omega) k1 t0]
    rw [e]
    exact (refShare_zero b off cap k t ws w hk hc h hok h0).mono fun e w' ⟨⟨v, h1, h2⟩, h3⟩ => ⟨⟨v, h1, h2.nums (by rw [evenL_length]; omega)⟩, h3⟩
  · have e : shrW t ws = shareL (ordS k) t ws := by unfold shrW counted shareS; rw [if_neg h0, hk]
    rw [e]
    exact refShare_main b off cap k t (sumZ ws) ws w hk hc h hok rfl (by omega)
theorem addS_takeH (l : List Int) (i : Nat) (hi : i < l.length) : addS (l.take (i + 1)) = sat (addS (l.take i) + l[i]?.getD 0) := by
  unfold addS
  rw [List.take_add_one, List.foldl_append, List.getElem?_eq_getElem hi]; rfl
theorem addS_i64 (l : List Int) : -9223372036854775808 ≤ addS l ∧ addS l ≤ 9223372036854775807 := foldl_bd l 0 (by omega)
/-- are wanted heights right? -/
def wantB (ws : List Int) : Bool := ws.all (fun z => decide (-1 ≤ z) && decide (z ≤ 1073741824)) && decide (ws.length ≤ 10000)
theorem wantB_no {ws : List Int} {i : Nat} (hi : i < ws.length) (h : ws[i]?.getD 0 < -1 ∨ 1073741824 < ws[i]?.getD 0) : wantB ws = false := by
  unfold wantB
  rw [Bool.and_eq_false_iff]
  left
  rw [List.all_eq_false]
  refine ⟨_, List.getElem_mem hi, ?_⟩
  rw [List.getElem?_eq_getElem hi, Option.getD_some] at h
  simp; omega
theorem wantB_yes {ws : List Int} (h : ∀ j, j < ws.length → -1 ≤ ws[j]?.getD 0 ∧ ws[j]?.getD 0 ≤ 1073741824) : wantB ws = decide (ws.length ≤ 10000) := by
  unfold wantB
  have : ws.all (fun z => decide (-1 ≤ z) && decide (z ≤ 1073741824)) = true := by
    rw [List.all_eq_true]
    intro z hz
    obtain ⟨j, hj⟩ := List.mem_iff_getElem?.1 hz
    have := h j (List.getElem?_eq_some_iff.1 hj).1
    rw [hj, Option.getD_some] at this
    simp; omega
  rw [this, Bool.true_and]
theorem wantB_iff {ws : List Int} : wantB ws = true ↔ (∀ z ∈ ws, -1 ≤ z ∧ z ≤ 1073741824) ∧ ws.length ≤ 10000 := by
  unfold wantB
  simp [List.all_eq_true]
set_option maxHeartbeats 4000000 in
theorem refWanted_any (p : Option Addr) (m c : Nat) (ws : List Int) (W : World) (hI : Ints W (.slice p m c) ws) (hm : ws.length = m) (hmm : m ≤ 1000000) :
    Calls Try.prog 30 #[.slice p m c] W fun e X => e = .returned (.bool (wantB ws)) ∧ Below W.heap.size W X := by
  have HNO := Lib.hid (fun i (hi : i < ws.length) h => wantB_no (ws := ws) hi h)
  have HYES := Lib.hid (fun h => wantB_yes (ws := ws) h)
  obtain ⟨wb, hwb⟩ : ∃ b, wantB ws = b := ⟨_, rfl⟩
  rw [hwb] at HNO HYES ⊢
  have HI := Lib.hid (fun X (hX : Below W.heap.size W X) => hI.below hX)
  have HM := Lib.hid hm
  clear hI hwb
  go_enter Try.func30, Try.ntmps30
  go_wp2
  go_loopw [3] (fun s3 X => ∃ i : Nat, i ≤ m ∧ s3 = .int .i64 (i : Int) ∧ Hid (∀ j, j < i → -1 ≤ ws[j]?.getD 0 ∧ ws[j]?.getD 0 ≤ 1073741824) ∧ Hid (Below W.heap.size W X)) (fun s3 _ => m - (intOf s3).toNat)
  case atStart => exact ⟨0, Nat.zero_le _, rfl, Lib.hid (fun j hj => by omega), Lib.hid (Below.refl _ _)⟩
  case round =>
    obtain ⟨i, hi, rfl, HA, HX⟩ := hrel
    by_cases hlt : i < m
    · obtain ⟨rb, ro, rfl, rc⟩ : ∃ b o, p = some ⟨b, o, none⟩ ∧ wr.cell? ⟨b, o + i, none⟩ = some (.int .i64 (ws[i]?.getD 0)) := by
        obtain ⟨_, ⟨a, c', e, he⟩ | ⟨b, off, c', e, hc⟩⟩ := (HI.out wr HX.out)
        · have := HM.out; rw [he] at this; simp at this; omega
        · injection e with e1
          exact ⟨b, off, e1, hc i (by omega)⟩
      have lr := cell_lt rc
      have hno := HNO.out i (by omega)
      have hnx : (-1 ≤ ws[i]?.getD 0 ∧ ws[i]?.getD 0 ≤ 1073741824) → ∀ j, j < i + 1 → -1 ≤ ws[j]?.getD 0 ∧ ws[j]?.getD 0 ≤ 1073741824 := fun h j hj => by
        rcases Nat.lt_or_ge j i with h1 | h1
        · exact HA.out j h1
        · obtain rfl : j = i := by omega
          exact h
      generalize ws[i]?.getD 0 = z at rc hno hnx
      by_cases h1 : z < -1
      · have HF := Lib.hid (hno (.inl h1))
        clear hno hnx HI HNO HYES HA
        go_wp2
        go_ret
        exact ⟨by rw [HF.out]; rfl, by first | exact HX.out.trans (below_dn _ _ _) | exact HX.out⟩
      · by_cases h2 : z > 1073741824
        · have HF := Lib.hid (hno (.inr h2))
          clear hno hnx HI HNO HYES HA
          go_wp2
          go_ret
          exact ⟨by rw [HF.out]; rfl, by first | exact HX.out.trans (below_dn _ _ _) | exact HX.out⟩
        · have HN := Lib.hid (hnx ⟨by omega, by omega⟩)
          clear hno hnx HI HNO HYES HA
          go_wp2
          go_roundw
          case rel => exact ⟨i + 1, by omega, by go_num, HN, Lib.hid (by first | exact HX.out.trans (below_dn _ _ _) | exact HX.out)⟩
          case measure => simp [intOf]; omega
    · obtain rfl : m = i := by omega
      have hy := HYES.out (fun j hj => HA.out j (by omega))
      rw [hm] at hy
      have HY := Lib.hid hy
      clear hy HI HNO HYES HA
      go_wp2
      go_ret
      exact ⟨by rw [HY.out]; first | rfl | (simp; omega), HX.out⟩
/-- which rows take part: those that ask for at most so much -/
def qH (ws : List Int) : Int := if leI ws (-1) ws.length = [] then 1073741824 else -1
theorem choP_q (ws : List Int) : choP ws = leI ws (qH ws) ws.length := by
  unfold choP qH
  split <;> rfl
theorem leI_pre (ws : List Int) (q : Int) (i n : Nat) (h : i ≤ n) : ∃ r, leI ws q n = leI ws q i ++ r := by
  induction n with
  | zero => obtain rfl : i = 0 := by omega
            exact ⟨[], by simp⟩
  | succ n ih =>
    rcases Nat.lt_or_ge n i with h1 | h1
    · obtain rfl : i = n + 1 := by omega
      exact ⟨[], by simp⟩
    · obtain ⟨r, hr⟩ := ih h1
      by_cases hq : ws[n]?.getD 0 ≤ q
      · rw [leI_yes ws q n hq, hr]; exact ⟨_, List.append_assoc _ _ _⟩
      · rw [leI_no ws q n hq, hr]; exact ⟨_, rfl⟩
theorem leI_at (ws : List Int) (q : Int) (i n : Nat) (h : i < n) (hq : ws[i]?.getD 0 ≤ q) : (leI ws q n)[(leI ws q i).length]? = some (i : Int) ∧ (leI ws q i).length < (leI ws q n).length := by
  obtain ⟨r, hr⟩ := leI_pre ws q (i + 1) n h
  rw [hr, leI_yes ws q i hq]
  refine ⟨?_, by first | (simp; done) | (simp; omega)⟩
  rw [List.append_assoc, List.getElem?_append_right (Nat.le_refl _), Nat.sub_self]
  rfl
theorem leI_not (ws : List Int) (q : Int) (i n : Nat) (hq : ¬ ws[i]?.getD 0 ≤ q) (j : Nat) (hj : j < (leI ws q n).length) : ((leI ws q n)[j]?.getD 0).toNat ≠ i := by
  intro e
  have hm : (leI ws q n)[j]?.getD 0 ∈ leI ws q n := by rw [List.getElem?_eq_getElem hj]; exact List.getElem_mem hj
  obtain ⟨k, hk, e2⟩ := List.mem_map.1 hm
  have := (List.mem_filter.1 hk).2
  rw [← e2, Int.toNat_natCast] at e
  subst e
  simp at this
  omega
/-- what a row that takes part becomes, and one that does not -/
theorem str_yes {rows ws : List Int} {total : Int} (S : StrOk rows ws total) (i : Nat) (hi : i < rows.length) (hq : ws[i]?.getD 0 ≤ qH ws) :
    (stretchP rows ws total)[i]?.getD 0 = rows[i]?.getD 0 + (strS rows ws total)[(leI ws (qH ws) i).length]?.getD 0 ∧ (leI ws (qH ws) i).length < (strS rows ws total).length := by
  obtain ⟨h1, h2⟩ := leI_at ws (qH ws) i ws.length (by rw [S.wl]; exact hi) hq
  rw [← choP_q] at h1 h2
  refine ⟨?_, by rw [S.sl]; exact h2⟩
  have := addTo_in S.ch rfl (sh := strS rows ws total) (choP ws).length (Nat.le_refl _) _ h2
  rw [h1, Option.getD_some, Int.toNat_natCast] at this
  exact this
theorem str_no {rows ws : List Int} {total : Int} (S : StrOk rows ws total) (i : Nat) (hq : ¬ ws[i]?.getD 0 ≤ qH ws) : (stretchP rows ws total)[i]?.getD 0 = rows[i]?.getD 0 := by
  have : (stretchP rows ws total)[i]? = rows[i]? := addTo_out _ _ _ _ _ fun j hj => by
    rw [choP_q] at hj ⊢
    exact leI_not ws (qH ws) i ws.length hq j hj
  rw [this]
theorem wtP_app (rows : List Int) (ch : List Int) (i : Nat) : wtP rows (ch ++ [(i : Int)]) = wtP rows ch ++ [rows[i]?.getD 0] := by simp [wtP]
theorem qH_zero {ws : List Int} (h : (leI ws (-1) ws.length).length = 0) : qH ws = 1073741824 := by
  unfold qH; rw [if_pos (List.length_eq_zero_iff.1 h)]
theorem qH_pos {ws : List Int} (h : (leI ws (-1) ws.length).length ≠ 0) : qH ws = -1 := by
  unfold qH; rw [if_neg (fun e => h (by rw [e]; rfl))]
end Go.Proofs.Ytpbkboandiigfaa
