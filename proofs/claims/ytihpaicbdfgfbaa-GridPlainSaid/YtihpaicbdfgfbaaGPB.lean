/- The memory of the law while it makes its plain grid. -/
import Derived.Test.YtihpaicbdfgfbaaGPlan
import Derived.Test.YtihpaicbdfgfbaaGCutW
import Derived.Test.YtihpaicbdfgfbaaGShown
namespace Go.Proofs.Ytihpaicbdfgfbaa
open Go.RowKit Go.Shelf Go.Maps
set_option linter.unusedVariables false

theorem set_rep {α : Type} (a b : α) (n i : Nat) (h : i < n) : (List.replicate i a ++ List.replicate (n - i) b).set i a = List.replicate (i + 1) a ++ List.replicate (n - (i + 1)) b := by
  rw [List.set_append_right _ _ (by simp)]
  simp only [List.length_replicate, Nat.sub_self]
  obtain ⟨e, he⟩ : ∃ e, n - i = e + 1 := ⟨n - i - 1, by omega⟩
  rw [he, show n - (i + 1) = e by omega, List.replicate_succ, List.set_cons_zero, List.replicate_succ', List.append_assoc]
  rfl
theorem rowG_snoc (i k : Nat) : rowG i 0 (k + 1) = rowG i 0 k ++ [oneC i k] := by
  unfold rowG
  rw [List.range'_concat]
  simp
theorem rowG_len (i c : Nat) : (rowG i 0 c).length = c := by unfold rowG; simp
structure PB (w : World) (g n m e i k Bi : Nat) (hs : List Value) (x : World) : Prop where
  lo : Below w.heap.size w x
  kr : Whole x g 50 hs
  ke : Whole x (g + 1) 3 ((List.replicate e (n : Int) ++ List.replicate (n - e) 0).map (Value.int .i64))
  dn : ∀ j u, j < i → hs[j]? = some u → x.ownsRow (g + 1 + 1) 54 3 u m (flat3 (rowG j 0 m)) ∧ ∀ b, u.ownBlock = some b → b < Bi
  cu : ∀ u, hs[i]? = some u → x.ownsRow Bi 54 3 u k (flat3 (rowG i 0 k))
  nl : ∀ j, i < j → j < n → hs[j]? = some (.slice none 0 0)
  hl : hs.length = n
  wg : w.heap.size ≤ g
  gB : g + 1 + 1 ≤ Bi
  Bx : Bi ≤ x.heap.size
theorem PB.end_ {w x : World} {g n m e i k Bi : Nat} {hs : List Value} (h : PB w g n m e i k Bi hs x) (hi : i < n) (he : i < e) (v : Value) (hv : x.cell? ⟨g + 1, i, none⟩ = some v) : True := trivial
theorem PB.ends {w x : World} {g n m i Bi : Nat} {hs : List Value} (h : PB w g n m i i 0 Bi hs x) (hi : i < n) : PB w g n m (i + 1) i 0 Bi hs (x.setCell ⟨g + 1, i, none⟩ (.int .i64 n)) := by
  have hb := h.gB
  refine ⟨below_set_at h.lo _ _ _ (by have := h.wg; omega), h.kr.oth _ _ _ (by omega), ?_, fun j u hj hu => ?_, fun u hu => ?_, h.nl, h.hl, h.wg, h.gB, by simpa using h.Bx⟩
  · have := h.ke.set i (.int .i64 n)
    rw [← List.map_set, set_rep _ _ _ _ hi] at this
    exact this
  · obtain ⟨h1, h2⟩ := h.dn j u hj hu
    exact ⟨own_setCell h1 (own_low h1 (by omega)), h2⟩
  · have h1 := h.cu u hu
    exact own_setCell h1 (own_low h1 (by omega))
theorem PB.put {w x Y : World} {g n m e i k Bi : Nat} {hs : List Value} {u v' : Value} {o : Obj} (h : PB w g n m e i k Bi hs x) (hi : i < n) (hu : hs[i]? = some u)
    (ho : Y.ownsRow Bi 54 3 v' (k + 1) (flat3 (rowG i 0 k) ++ (oneC i k).cells)) (hg : (x.alloc o).grownBy Y u.ownBlock) : PB w g n m e i (k + 1) Bi (hs.set i v') (Y.setCell ⟨g, i, none⟩ v') := by
  have hb := h.gB
  have hc := h.cu u hu
  have hA := hc.alloc o
  have hlo : ∀ b, b < Bi → u.ownBlock ≠ some b := fun b hb => own_low hA hb
  have hwg := h.wg
  refine ⟨below_set_at (own_below (h.lo.alloc h.lo.size o) hA (by omega) hg (by have := h.lo.size; simp; omega)) _ _ _ hwg, (((h.kr.alloc o).grown hg (hlo _ (by omega))).set i v'), ((h.ke.alloc o).grown hg (hlo _ (by omega))).oth _ _ _ (by omega), fun j uj hj huj => ?_, fun u2 hu2 => ?_, fun j h1 h2 => ?_, by rw [List.length_set]; exact h.hl, hwg, hb, ?_⟩
  · rw [List.getElem?_set_ne (by omega)] at huj
    obtain ⟨h1, h2⟩ := h.dn j uj hj huj
    have h3 : Y.ownsRow (g + 1 + 1) 54 3 uj m (flat3 (rowG j 0 m)) := (h1.alloc o).kept hg (by
      cases hq : uj.ownBlock with
      | none => exact .inl rfl
      | some b => exact .inr fun e => hlo b (h2 b hq) e.symm)
    exact ⟨own_setCell h3 (own_low h3 (by omega)), h2⟩
  · rw [List.getElem?_set_self (by rw [h.hl]; exact hi)] at hu2
    cases hu2
    rw [rowG_snoc]
    have h4 : flat3 (rowG i 0 k ++ [oneC i k]) = flat3 (rowG i 0 k) ++ (oneC i k).cells := flat3_snoc _ _
    rw [h4]
    exact own_setCell ho (own_low ho (by omega))
  · rw [List.getElem?_set_ne (by omega)]; exact h.nl j h1 h2
  · have := hg.size; have := h.Bx; simp at *; omega
theorem PB.next {w x : World} {g n m i Bi : Nat} {hs : List Value} (h : PB w g n m (i + 1) i m Bi hs x) (hi : i < n) : PB w g n m (i + 1) (i + 1) 0 x.heap.size hs x := by
  have hb := h.gB
  refine ⟨h.lo, h.kr, h.ke, fun j u hj hu => ?_, fun u hu => ?_, fun j h1 h2 => h.nl j (by omega) h2, h.hl, h.wg, by have := h.Bx; omega, Nat.le_refl _⟩
  · by_cases hji : j < i
    · obtain ⟨h1, h2⟩ := h.dn j u hji hu
      exact ⟨h1, fun b hb' => by have := h2 b hb'; have := h.Bx; omega⟩
    · obtain rfl : j = i := by omega
      have h1 := h.cu u hu
      exact ⟨own_kept_cells h1 (CellsKept.refl _) hb, fun b hb' => (h1.lt b hb').2⟩
  · have hn : i + 1 < n := by have := (List.getElem?_eq_some_iff.1 hu).1; rw [h.hl] at this; exact this
    rw [h.nl (i + 1) (by omega) hn] at hu
    cases hu
    exact World.ownsRow_nil _ _ _ _
theorem rowsG_len (m n : Nat) : (rowsG m 0 n).length = n := by unfold rowsG; simp
theorem rowsG_get (m n i : Nat) (row : List Sp) (h : (rowsG m 0 n)[i]? = some row) : i < n ∧ row = rowG i 0 m := by
  have hi := (List.getElem?_eq_some_iff.1 h).1
  rw [rowsG_len] at hi
  refine ⟨hi, ?_⟩
  unfold rowsG at h
  rw [List.getElem?_map, List.getElem?_range' hi] at h
  simp at h
  exact h.symm
theorem PB.made {w x : World} {g n m Bi : Nat} {hs : List Value} (h : PB w g n m n n 0 Bi hs x) (hn : n ≤ 50) (hm : m ≤ 50) :
    RowsIn x.heap.size x (.slice (some ⟨g, 0, none⟩) n n) (fun i => hs[i]?.getD (.slice none 0 0)) (rowsG m 0 n) ∧ Ints x (.slice (some ⟨g + 1, 0, none⟩) n n) (List.replicate n (n : Int)) := by
  refine ⟨?_, ?_⟩
  · have := rows_whole (X := x) (B := x.heap.size) (g := g) (t := 0) (c := n) (hv := fun i => hs[i]?.getD (.slice none 0 0)) (rows := rowsG m 0 n) (fun i hi => ?_) (by rw [rowsG_len]; omega) h.kr.lt (fun i row hr => ?_)
    · rw [rowsG_len] at this; exact this
    · rw [rowsG_len] at hi
      rw [h.kr.cellAt, List.getElem?_eq_getElem (by rw [h.hl]; exact hi)]; rfl
    · obtain ⟨hi, rfl⟩ := rowsG_get _ _ _ _ hr
      obtain ⟨u, hu⟩ : ∃ u, hs[i]? = some u := ⟨_, List.getElem?_eq_getElem (by rw [h.hl]; exact hi)⟩
      obtain ⟨h1, _⟩ := h.dn i u hi hu
      show RowIn x.heap.size x (hs[i]?.getD (.slice none 0 0)) (rowG i 0 m)
      rw [hu]
      have e := rowG_len i m
      exact own_row (by rw [e]; exact h1) (by rw [e]; omega) (Nat.le_refl _)
  · have := h.ke
    rw [Nat.sub_self, List.replicate_zero, List.append_nil] at this
    exact Ints.whole this (by simp) (by omega)
theorem cellsF_in : ∀ (rows : List (List Sp)) (k : Nat) (x : Nat × Sp), x ∈ cellsF k rows → ∃ row ∈ rows, x.2 ∈ row
  | [], k, x, h => by simp [cellsF] at h
  | row :: r, k, x, h => by
    simp only [cellsF, List.mem_append, List.mem_map] at h
    rcases h with ⟨y, hy, rfl⟩ | h
    · exact ⟨row, by simp, hy⟩
    · obtain ⟨row', h1, h2⟩ := cellsF_in r (k + 1) x h
      exact ⟨row', by simp [h1], h2⟩
theorem plan_right (n m : Nat) (hn : n ≤ 50) : RightQ (rowsG m 0 n) (List.replicate n (n : Int)) := by
  refine ⟨by rw [rowsG_len]; omega, by rw [rowsG_len]; simp, fun i e h => ?_, fun x h => ?_⟩
  · rw [rowsG_len]
    rw [List.getElem?_replicate] at h
    by_cases hi : i < n
    · rw [if_pos hi] at h
      cases h
      unfold okE
      rw [within_one]
      simp; omega
    · rw [if_neg hi] at h; cases h
  · obtain ⟨row, h1, h2⟩ := cellsF_in _ _ _ h
    obtain ⟨i, _, rfl⟩ := List.mem_map.1 h1
    obtain ⟨j, _, hx⟩ := List.mem_map.1 h2
    rw [← hx]
    unfold okC oneC
    dsimp only
    rw [within_one, within_one]
    decide
theorem plan_few (n m : Nat) (hn : n ≤ 50) (hm : m ≤ 50) : (cellsF 0 (rowsG m 0 n)).length ≤ 1000000 := by
  obtain ⟨s, h1, h2, h3⟩ := plan_run n m hm
  have h4 := (runP_okay _ _ LS.zero s Okay.zero h1).2
  rw [h2, List.length_map, List.length_range] at h4
  have : n * m ≤ 50 * 50 := Nat.mul_le_mul hn hm
  have h5 : LS.zero.ps.length = 0 := rfl
  omega
end Go.Proofs.Ytihpaicbdfgfbaa
