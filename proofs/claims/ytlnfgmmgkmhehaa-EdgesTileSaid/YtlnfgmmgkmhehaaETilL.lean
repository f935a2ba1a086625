/- What the law of EdgesTile makes: the list of all slots' places; the list of all rectangles. -/
import Derived.Test.YtlnfgmmgkmhehaaETilP
import Derived.Maps.AppendAt
namespace Go.Proofs.Ytlnfgmmgkmhehaa
open Go.RowKit Go.Shelf Go.Lib
set_option linter.unusedVariables false
set_option linter.unusedSimpArgs false

theorem Try.infoPlE : (Try.prog.info? 27).map (fun i => (i.zero, i.size, i.bytes)) = some (some (.agg #[.int .i64 0, .int .i64 0, .int .i64 0, .int .i64 0, .int .i64 0]), 5, 40) := by kernel_rfl
def placesV (L : List Pz) : List Value := L.flatMap Pz.cells
theorem placesV_len (L : List Pz) : (placesV L).length = L.length * 5 := by
  unfold placesV
  induction L with
  | nil => rfl
  | cons x l ih => rw [List.flatMap_cons, List.length_append, ih]; simp [Pz.cells]; omega
theorem placesV_get (L : List Pz) (i t : Nat) (x : Pz) (h : L[i]? = some x) (ht : t < 5) : (placesV L)[i * 5 + t]? = x.cells[t]? := by
  unfold placesV
  induction L generalizing i with
  | nil => simp at h
  | cons a l ih =>
    rw [List.flatMap_cons]
    cases i with
    | zero =>
      simp at h; subst h
      rw [List.getElem?_append_left (by simp [Pz.cells]; omega)]; simp
    | succ i =>
      rw [List.getElem?_append_right (by simp [Pz.cells]; omega)]
      rw [show (i + 1) * 5 + t - a.cells.length = i * 5 + t by simp [Pz.cells]; omega]
      exact ih i (by simpa using h)
/-- places of one's own lie in memory -/
theorem own_psAt {W : World} {base n : Nat} {v : Value} {L : List Pz} (h : W.ownsRow base 27 5 v n (placesV L)) (hn : L.length = n) (hm : n ≤ 1000000) : PsAt W v L := by
  refine ⟨by omega, ?_⟩
  rcases h.2 with ⟨rfl, h0⟩ | ⟨g, cap, cur, rfl, hb, hg, hnc, hcm, hcs, htk⟩
  · exact .inl ⟨none, 0, by rw [], List.length_eq_zero_iff.1 (by omega)⟩
  · refine .inr ⟨g, 0, cap, by rw [hn], fun i x hx => ?_⟩
    have hi := (List.getElem?_eq_some_iff.1 hx).1
    have key : ∀ t, t < 5 → W.cell? ⟨g, 0 + i * 5 + t, none⟩ = x.cells[t]? := fun t ht => by
      rw [← placesV_get L i t x hx ht, ← htk, List.getElem?_take_of_lt (by omega)]
      rw [show 0 + i * 5 + t = i * 5 + t by omega]
      simp [World.cell?, hg]
    have k0 := key 0 (by omega)
    exact ⟨by simpa [Pz.cells] using k0, key 1 (by omega), key 2 (by omega), key 3 (by omega), key 4 (by omega)⟩
def rowPz (r m : Nat) : List Pz := (List.range m).map fun (c : Nat) => (⟨0, (r : Int), (c : Int), 1, 1⟩ : Pz)
theorem rowPz_succ (r m : Nat) : rowPz r (m + 1) = rowPz r m ++ [⟨0, (r : Int), (m : Int), 1, 1⟩] := by simp [rowPz, List.range_succ]
theorem rowPz_len (r m : Nat) : (rowPz r m).length = m := by simp [rowPz]
theorem slotP_succ (n m : Nat) : slotP (n + 1) m = slotP n m ++ rowPz n m := by simp [slotP, rowPz, List.range_succ]
theorem slotP_len (n m : Nat) : (slotP n m).length = n * m := by
  induction n with
  | zero => simp [slotP]
  | succ n ih => rw [slotP_succ, List.length_append, ih, rowPz_len, Nat.succ_mul]
theorem slotP_mem {n m : Nat} {x : Pz} (h : x ∈ slotP n m) : ∃ r c : Nat, r < n ∧ c < m ∧ x = ⟨0, (r : Int), (c : Int), 1, 1⟩ := by
  unfold slotP at h
  obtain ⟨r, hr, h⟩ := List.mem_flatMap.1 h
  obtain ⟨c, hc, rfl⟩ := List.mem_map.1 h
  exact ⟨r, c, by simpa using hr, by simpa using hc, rfl⟩
theorem slotP_ok {n m : Nat} (hn : n ≤ 6) (hm : m ≤ 6) : ∀ x ∈ slotP n m, x.ok := fun x hx => by
  obtain ⟨r, c, hr, hc, rfl⟩ := slotP_mem hx
  unfold Pz.ok I64
  simp only
  omega
theorem slotP_place (n m : Nat) : (slotP n m).all (placeN m n) = true := by
  rw [List.all_eq_true]
  intro x hx
  obtain ⟨r, c, hr, hc, rfl⟩ := slotP_mem hx
  unfold placeN liesB
  simp only [Bool.and_eq_true, decide_eq_true_eq]
  omega
theorem flatE_len (l : List RR.R) : (flatE l).length = l.length * 4 := by
  unfold flatE
  induction l with
  | nil => rfl
  | cons x l ih => rw [List.flatMap_cons, List.length_append, ih]; simp [RR.R.cells]; omega
theorem flatE_one (l : List RR.R) : ∀ u ∈ flatE l, u.oneCell' = true := by
  intro u hu
  unfold flatE at hu
  obtain ⟨s, _, hs⟩ := List.mem_flatMap.1 hu
  simp [RR.R.cells] at hs
  rcases hs with rfl | rfl | rfl | rfl <;> rfl
theorem flatE_app (l m : List RR.R) : flatE (l ++ m) = flatE l ++ flatE m := by simp [flatE]
/-- rectangles of one's own, appended to others -/
theorem wpList_appE {w : World} {ops : Array Oper} {rest : List Oper} {o : Oper} {a : Act} {Q : Exit → Act → World → Prop} (dst : Option Tmp) (hd : o.dst = dst) (hgd : o.guard = none) (s x : Operand) (ho : o.op = .call { callee := .builtin .append, args := #[s, x], argTypes := #[28, 28] })
    (base : Nat) (v : Value) (n : Nat) (xs : List Value) (hs : a.eval s = v) (hown : w.ownsRow base 38 4 v n xs) (b2 : Nat) (v2 : Value) (m : Nat) (zs : List RR.R) (hx : a.eval x = v2) (hz : w.ownsRow b2 38 4 v2 m (flatE zs)) (hm : zs.length = m) (hn : n + m ≤ 1000) (hbase : base ≤ w.heap.size)
    (h : ∀ v' w', w'.ownsRow base 38 4 v' (n + m) (xs ++ flatE zs) → w.grownBy w' v.ownBlock → (v'.ownBlock = v.ownBlock ∨ v'.ownBlock = some w.heap.size) → wpList Try.prog ops Q rest (a.put dst v') w') : wpList Try.prog ops Q (o :: rest) a w := by
  obtain ⟨i0, hi, hz0, hz1, hz2⟩ := infoE Try.infoRE
  subst hd
  have hex : ∃ v' X', (Builtin.append_ #[28, 28] o.type #[v, v2]).run Try.prog w = .ok v' X' ∧ X'.ownsRow base 38 4 v' (n + m) (xs ++ flatE zs) ∧ w.grownBy X' v.ownBlock ∧ (v'.ownBlock = v.ownBlock ∨ v'.ownBlock = some w.heap.size) := by
    rcases hz.2 with ⟨rfl, h0⟩ | ⟨g, cap, cur, rfl, hb, hg, hnc, hcm, hcs, htk⟩
    · have h00 : zs = [] := List.length_eq_zero_iff.1 (by omega)
      subst h00
      obtain rfl : 0 = m := hm
      refine ⟨v, w, ?_, by simpa [flatE] using hown, ⟨rfl, rfl, rfl, Nat.le_refl _, fun _ _ _ => rfl⟩, .inl rfl⟩
      rcases hown.2 with ⟨rfl, _⟩ | ⟨g, cap, cur, rfl, _, _, hnc, _⟩
      · simp [Builtin.append_, run_underlying Try.underlying28, sizeOf, typeInfo, hi, Builtin.lenOf, Builtin.firstCells]
      · simp [Builtin.append_, run_underlying Try.underlying28, sizeOf, typeInfo, hi, Builtin.lenOf, Builtin.firstCells, hnc, storeCells]
    · obtain ⟨v', X', h1, h2, h3, _, h5⟩ := run_append_own_at (P := Try.prog) (w := w) base 28 o.type 38 i0 _ 4 32 Try.underlying28 hi hz0 hz1 hz2 rfl (by decide) v n xs hown ⟨g, 0, none⟩ m cap (flatE zs) (by rw [flatE_len, hm]) (hz.cells rfl) (flatE_one zs) (by unfold maxLen; omega) (by omega) hbase
      exact ⟨v', X', h1, h2, h3, h5⟩
  obtain ⟨v', X', hr, h1, h2, h3⟩ := hex
  refine wpList_plain hgd fun K hK => ?_
  unfold Oper.wp execOp
  simp only [ho, resolve, invoke, builtin, Sem.run_bind, Sem.run_pure, Result.andThen_ok, List.map_toArray, List.map_cons, List.map_nil, hs, hx, hr]
  exact hK _ _ (h v' X' h1 h2 h3)
theorem own_formE {W : World} {base e s n : Nat} {v : Value} {xs : List Value} (h : W.ownsRow base e s v n xs) : ∃ p c, v = .slice p n c := by
  rcases h.2 with ⟨rfl, h0⟩ | ⟨g, cap, cur, rfl, _⟩
  · exact ⟨none, 0, by rw [h0]⟩
  · exact ⟨_, _, rfl⟩
theorem band_bd {g : Int} {bs : List Int} (h : okW g bs) {i : Nat} (hi : i < bs.length) : 0 ≤ wideW g bs i (i + 1) ∧ wideW g bs i (i + 1) ≤ 1073741824 := by
  have hx : bs[i]? = some bs[i] := List.getElem?_eq_getElem hi
  rw [wideW_one hx]
  exact h.2.2 _ (List.getElem_mem hi)
theorem rects_right {g0 g1 : Int} {cs rs : List Int} (h0 : okW g0 cs) (h1 : okW g1 rs) : ∀ q ∈ cellsL g0 g1 cs rs ++ gutE g0 g1 cs rs, RR.rightB q = true := by
  have e0 := h0.1
  have e1 := h1.1
  intro q hq
  rw [RR.rightB_iff]
  rcases List.mem_append.1 hq with h | h
  · obtain ⟨x, hx, rfl⟩ := List.mem_map.1 h
    obtain ⟨r, c, hr, hc, rfl⟩ := slotP_mem hx
    have b1 := begW_bd h0 (k := c) (by omega)
    have b2 := begW_bd h1 (k := r) (by omega)
    have b3 := band_bd h0 hc
    have b4 := band_bd h1 hr
    simp only [cellE, Int.toNat_natCast, show ((1 : Int)).toNat = 1 from rfl]
    omega
  · unfold gutE at h
    split at h
    · simp at h
    · rcases List.mem_append.1 h with h | h
      · obtain ⟨i, hi, rfl⟩ := List.mem_map.1 h
        have hi' : i < cs.length + 1 := by simpa using hi
        have b1 := begW_bd h0 (k := i) (by omega)
        have b2 := begW_bd h1 (k := rs.length) (Nat.le_refl _)
        have b3 : g0 ≤ begW g0 cs i := by unfold begW; have := (preW_bd h0 i (by omega)).1; omega
        simp only [stdE]
        omega
      · obtain ⟨j, hj, h⟩ := List.mem_flatMap.1 h
        obtain ⟨i, hi, rfl⟩ := List.mem_map.1 h
        have hj' : j < rs.length + 1 := by simpa using hj
        have hi' : i < cs.length := by simpa using hi
        have b1 := begW_bd h0 (k := i) (by omega)
        have b2 := begW_bd h1 (k := j) (by omega)
        have b3 : g1 ≤ begW g1 rs j := by unfold begW; have := (preW_bd h1 j (by omega)).1; omega
        have b4 := band_bd h0 hi'
        simp only [lyE]
        omega
theorem all_tiles {g0 g1 : Int} {cs rs : List Int} (h0 : okW g0 cs) (h1 : okW g1 rs) (n1 : cs.length ≠ 0) (n2 : rs.length ≠ 0) : RR.TilesDoc ⟨0, 0, extW g0 cs, extW g1 rs⟩ (cellsL g0 g1 cs rs ++ gutE g0 g1 cs rs) := by
  refine tilesDoc_of _ _ (fun q hq => ?_) (fun a b => ?_)
  · have := (RR.rightB_iff q).1 (rects_right h0 h1 q hq)
    omega
  · rw [cov_covE, all_cover g0 g1 cs rs (by have := h0.1; omega) (by have := h1.1; omega) (fun x hx => (h0.2.2 x hx).1) (fun x hx => (h1.2.2 x hx).1) n1 n2, ← cov_covE, RR.cov_one]
theorem cellsL_len (g0 g1 : Int) (cs rs : List Int) : (cellsL g0 g1 cs rs).length = rs.length * cs.length := by unfold cellsL; rw [List.length_map, slotP_len]
theorem gutE_le (g0 g1 : Int) (cs rs : List Int) (h0 : cs.length ≤ 6) (h1 : rs.length ≤ 6) : (gutE g0 g1 cs rs).length ≤ 49 := by
  by_cases hn : (cs.length = 0 ∨ rs.length = 0 ∨ (g0 = 0 ∧ g1 = 0))
  · unfold gutE; rw [if_pos hn]; simp
  · rw [gutE_len g0 g1 cs rs hn]
    have := Nat.mul_le_mul (show rs.length + 1 ≤ 7 by omega) h0
    omega
end Go.Proofs.Ytlnfgmmgkmhehaa
