/- slices.Grow of nothing, slices.Concat, at edges. Written by mk_CoEd.py. -/
/- Contract of collapse.cell. -/
import Derived.Test.YtceippgkmoijdaaCoCat
import Derived.Maps.AppendAt
import Derived.Lib.AppendZeros
import Derived.Test.YtceippgkmoijdaaCoAs
import Derived.Test.YtceippgkmoijdaaCRank
namespace Go.Proofs.Ytceippgkmoijdaa
open Go.RowKit Go.Shelf Go.Maps
set_option linter.unusedVariables false
set_option linter.unusedSimpArgs false
attribute [local go_sem] Oper.semAt_some

/-- an edge -/
structure Ed where
  row : Int
  col : Int
  lies : Bool
  won : Si
  n : Int
  deriving DecidableEq, Inhabited
def Ed.cells (e : Ed) : List Value := [.int .i64 e.row, .int .i64 e.col, .bool e.lies] ++ e.won.cells ++ [.int .i64 e.n]
def Ed.val (e : Ed) : Value := .agg e.cells.toArray
theorem Ed.cells_len (e : Ed) : e.cells.length = 10 := by simp [Ed.cells, Si.cells]
theorem Ed.one (e : Ed) : e.cells.toArray.all (·.oneCell') = true := by simp [Ed.cells, Si.cells, Value.oneCell']
theorem Try.infoEdA : (Try.prog.info? 56).map (fun i => (i.zero, i.size, i.bytes)) = some (some (.agg #[.int .i64 0, .int .i64 0, .bool false, .int .i64 0, .int .i64 0, .int .u32 0, .int .i64 0, .int .i64 0, .int .i64 0, .int .i64 0]), 10, 80) := by kernel_rfl
theorem Try.infoEdN : (Try.prog.info? 56).map (·.size) = some 10 := by kernel_rfl
set_option maxRecDepth 100000 in
set_option maxHeartbeats 2000000 in
theorem grow_ed (n : Nat) (hn : n ≤ 1000000) (W : World) :
    Calls Try.prog 55 #[.slice none 0 0, .int .i64 (n : Int)] W fun e X => ∃ v, e = .returned v ∧ X.ownsRow W.heap.size 56 10 v 0 [] ∧ Below W.heap.size W X := by
  by_cases h0 : n = 0
  · subst h0
    go_enter Try.func55, Try.ntmps55
    go_wp2
    go_ret
    exact ⟨_, rfl, World.ownsRow_nil _ _ _ _, Below.refl _ _⟩
  cases hi : Try.prog.info? 56 with
  | none => have := Try.infoEdA; rw [hi] at this; cases this
  | some i =>
    have h := Try.infoEdA
    rw [hi] at h
    simp only [Option.map_some, Option.some.injEq, Prod.mk.injEq] at h
    obtain ⟨hz, h1, h2⟩ := h
    have hr := Lib.run_append_nil_zeros (P := Try.prog) W 31 3 31 56 i _ .i64 .i64 Try.underlying31 Try.intX hi hz n (by omega) (by rw [h1]; omega) (by omega) (by rw [h2]; omega)
    have hge := grownCap_ge W n 0 56
    have hcm : grownCap W n 0 56 ≤ maxLen := grownCap_le_maxLen W n 0 56 (by unfold maxLen; omega)
    obtain ⟨gc, hgc⟩ : ∃ gc, grownCap W n 0 56 = gc := ⟨_, rfl⟩
    rw [hgc] at hr hge hcm
    obtain ⟨cur, hcur⟩ : ∃ cur, Builtin.zeroCells (Value.agg #[.int .i64 0, .int .i64 0, .bool false, .int .i64 0, .int .i64 0, .int .u32 0, .int .i64 0, .int .i64 0, .int .i64 0, .int .i64 0]).cells n ++ Builtin.zeroCells (Value.agg #[.int .i64 0, .int .i64 0, .bool false, .int .i64 0, .int .i64 0, .int .u32 0, .int .i64 0, .int .i64 0, .int .i64 0, .int .i64 0]).cells (gc - n) = cur := ⟨_, rfl⟩
    have hcs : cur.size = gc * 10 := by
      rw [← hcur]
      simp only [Array.size_append, size_zeroCells]
      have e : (Value.agg #[.int .i64 0, .int .i64 0, .bool false, .int .i64 0, .int .i64 0, .int .u32 0, .int .i64 0, .int .i64 0, .int .i64 0, .int .i64 0]).cells.size = 10 := rfl
      rw [e]; omega
    rw [hcur] at hr
    have HC := Lib.hid hcs
    have hgc63 : gc ≤ 9223372036854775807 := by unfold maxLen at hcm; omega
    have hni : ¬ (n : Int) ≤ 0 := by omega
    have hni2 : (0 : Int) < (n : Int) := by omega
    have hns : (n : Int) - 0 = (n : Int) := by omega
    have hwn : IntKind.i64.wrap (n : Int) = (n : Int) := by rw [IntKind.wrap_i64]; omega
    clear hcs hcur hi hz h1 h2 hgc
    go_enter Try.func55, Try.ntmps55
    go_wp2_with (at_builtin; refine Lib.wpList_append_run _ rfl _ _ _ _ rfl _ _ rfl rfl _ _ hr ?_)
    go_ret
    refine ⟨_, rfl, ⟨rfl, .inr ⟨W.heap.size, gc, cur, rfl, Nat.le_refl _, ?_, Nat.zero_le _, hcm, HC.out, by simp⟩⟩, ((Below.refl _ W).alloc (Nat.le_refl _) _).trans (below_dn _ _ 1)⟩
    exact heap_alloc_new W _
theorem own_rowsEd {X : World} {base k : Nat} {v : Value} {ys : List Ed} (h : X.ownsRow base 56 10 v k (ys.flatMap Ed.cells)) (hk : ys.length = k) (hm : k ≤ 9223372036854775807) : RowsK Ed.cells 10 X v ys := by
  subst hk
  refine ⟨hm, ?_⟩
  rcases h.2 with ⟨rfl, h0⟩ | ⟨g, cap, cur, rfl, hb, hg, hnc, hcm, hcs, htk⟩
  · exact .inl ⟨none, 0, rfl, List.length_eq_zero_iff.1 h0⟩
  · refine .inr ⟨g, 0, cap, rfl, (Array.getElem?_eq_some_iff.1 hg).1, fun j hj i v hv => ?_⟩
    have hi : i < 10 := (List.getElem?_eq_some_iff.1 hv).1
    have hf := flat_getK Ed.cells 10 Ed.cells_len ys j i hi hj
    rw [← htk, List.getElem?_take_of_lt (by have := Nat.mul_le_mul_right 10 (show j + 1 ≤ ys.length by omega); omega)] at hf
    rw [show 0 + j * 10 + i = j * 10 + i by omega]
    simp [World.cell?, hg]
    rw [← hv, ← hf]; simp
/-- stretches appended to a list of its own -/
theorem run_appEd (W : World) (B : Nat) (v : Value) (n : Nat) (ys zs : List Ed) (hown : W.ownsRow B 56 10 v n (ys.flatMap Ed.cells)) (p : Option Addr) (m c : Nat) (hz : RowsK Ed.cells 10 W (.slice p m c) zs) (hn : n ≤ 1000000) (hm : m ≤ 1000000) (hB : B ≤ W.heap.size) :
    ∃ v' w', (Builtin.append_ #[31, 31] 31 #[v, .slice p m c]).run Try.prog W = .ok v' w' ∧ w'.ownsRow B 56 10 v' (n + m) ((ys ++ zs).flatMap Ed.cells) ∧ Below B W w' := by
  cases hi : Try.prog.info? 56 with
  | none => have := Try.infoEdA; rw [hi] at this; cases this
  | some i =>
    have h := Try.infoEdA
    rw [hi] at h
    simp only [Option.map_some, Option.some.injEq, Prod.mk.injEq] at h
    obtain ⟨hiz, hs, hby⟩ := h
    have hl := hz.len
    have key : ∀ ad : Addr, p = some ad → (∀ j u, (zs.flatMap Ed.cells)[j]? = some u → W.cell? (ad.add j) = some u) → ∃ v' w', (Builtin.append_ #[31, 31] 31 #[v, .slice p m c]).run Try.prog W = .ok v' w' ∧ w'.ownsRow B 56 10 v' (n + m) ((ys ++ zs).flatMap Ed.cells) ∧ Below B W w' := fun ad e hcell => by
      obtain ⟨v', w', hr, ho, hg, -, hat⟩ := run_append_own_at (P := Try.prog) W B 31 31 56 i _ 10 80 Try.underlying31 hi hiz hs hby rfl (by decide) v n (ys.flatMap Ed.cells) hown ad m c (zs.flatMap Ed.cells) (by rw [flat_lenL Ed.cells_len, hl]) hcell
        (fun u hu => by obtain ⟨x, _, hx⟩ := List.mem_flatMap.1 hu; have := Ed.one x; rw [Array.all_eq_true_iff_forall_mem] at this; exact this u (by simpa using hx)) (by unfold maxLen; omega) (by omega) hB
      exact ⟨v', w', by rw [e]; exact hr, by rw [List.flatMap_append]; exact ho, (Below.refl _ _).grown hg hB (fun j e => (hown.lt j e).1)⟩
    by_cases h0 : m = 0
    · subst h0
      obtain rfl : zs = [] := List.eq_nil_of_length_eq_zero hl
      cases p with
      | some ad => exact key ad rfl (fun j u hu => by simp at hu)
      | none =>
        rcases hown.2 with ⟨rfl, rfl⟩ | ⟨g, cap, cur, rfl, hb, hg, hnc, hcm, hcs, htk⟩
        · refine ⟨.slice none 0 0, W, ?_, by simpa using hown, Below.refl _ _⟩
          simp [Builtin.append_, run_underlying Try.underlying31, sizeOf, typeInfo, hi, Builtin.lenOf, Builtin.firstCells, loadCells, loadCellsFrom]
        · refine ⟨.slice (some ⟨g, 0, none⟩) n cap, W, ?_, by simpa using hown, Below.refl _ _⟩
          have h63 : ¬ (9223372036854775807 < (n : Int)) := by omega
          simp [Builtin.append_, run_underlying Try.underlying31, sizeOf, typeInfo, hi, Builtin.lenOf, Builtin.firstCells, loadCells, loadCellsFrom, hnc, storeCells]
    · obtain ⟨b, off, hp, lb, hc⟩ := hz.at 0 _ (List.getElem?_eq_getElem (by omega : 0 < zs.length))
      refine key _ hp fun j u hu => ?_
      have hj : j < zs.length * 10 := by have := (List.getElem?_eq_some_iff.1 hu).1; rwa [flat_lenL Ed.cells_len] at this
      have hd : j / 10 < zs.length := by omega
      have e : j = j / 10 * 10 + j % 10 := by omega
      obtain ⟨b', off', hp', _, hc'⟩ := hz.at (j / 10) _ (List.getElem?_eq_getElem hd)
      rw [hp] at hp'
      simp only [Option.some.injEq, Addr.mk.injEq] at hp'
      obtain ⟨rfl, rfl, -⟩ := hp'
      have hf := flat_getK Ed.cells 10 Ed.cells_len zs (j / 10) (j % 10) (by omega) hd
      rw [← e, hu] at hf
      have hx : zs[j / 10]! = zs[j / 10] := by simp [List.getElem!_eq_getElem?_getD, List.getElem?_eq_getElem hd]
      rw [hx] at hf
      have := hc' (j % 10) u hf.symm
      rw [add_plainC, show off + j = off + j / 10 * 10 + j % 10 by omega]
      exact this
/-- so many are in the first lists -/
def lenTEd (Ls : List (List Ed)) (i : Nat) : Nat := (Ls.take i).flatten.length
theorem lenT_succEd (Ls : List (List Ed)) (i : Nat) (L : List Ed) (h : Ls[i]? = some L) : lenTEd Ls (i + 1) = lenTEd Ls i + L.length := by
  unfold lenTEd
  rw [List.take_add_one, h]; simp
theorem flat_succEd (Ls : List (List Ed)) (i : Nat) (L : List Ed) (h : Ls[i]? = some L) : (Ls.take (i + 1)).flatten = (Ls.take i).flatten ++ L := by
  rw [List.take_add_one, h]; simp
theorem lenT_leEd (Ls : List (List Ed)) (i : Nat) : lenTEd Ls i ≤ Ls.flatten.length := by
  unfold lenTEd
  conv => rhs; rw [← List.take_append_drop i Ls]
  rw [List.flatten_append, List.length_append]; omega
set_option maxRecDepth 100000 in
set_option maxHeartbeats 4000000 in
theorem concat_ed (b c0 k : Nat) (Ls : List (List Ed)) (W : World) (hk : Ls.length = k) (hkk : k ≤ 1000) (hT : Ls.flatten.length ≤ 900000) (hb : b < W.heap.size)
    (hL : ∀ i L, Ls[i]? = some L → ∃ p c, W.cell? ⟨b, i, none⟩ = some (.slice p L.length c) ∧ RowsK Ed.cells 10 W (.slice p L.length c) L) :
    Calls Try.prog 35 #[.slice (some ⟨b, 0, none⟩) k c0] W fun e X => ∃ v, e = .returned v ∧ RowsK Ed.cells 10 X v Ls.flatten ∧ Below W.heap.size W X := by
  have HL : Hid (∀ X, Below W.heap.size W X → ∀ i L, Ls[i]? = some L → ∃ p c, X.cell? ⟨b, i, none⟩ = some (.slice p L.length c) ∧ RowsK Ed.cells 10 X (.slice p L.length c) L) := Lib.hid (fun X hX i L h => by
    obtain ⟨p, c, h1, h2⟩ := hL i L h
    exact ⟨p, c, (hX.cell (p := ⟨b, i, none⟩) hb).trans h1, h2.below hX⟩)
  have HK := Lib.hid hk
  have HT := Lib.hid hT
  have HLE := Lib.hid (fun i => lenT_leEd Ls i)
  have HTT : Hid (lenTEd Ls k = Ls.flatten.length ∧ (Ls.take k).flatten = Ls.flatten) := Lib.hid (by unfold lenTEd; rw [List.take_of_length_le (by omega)]; exact ⟨rfl, rfl⟩)
  clear hL hk hT
  go_enter Try.func35, Try.ntmps35
  go_wp2
  go_loopw [3, 11] (fun s3 s11 X => ∃ i : Nat, i ≤ k ∧ s11 = .int .i64 (i : Int) ∧ s3 = .int .i64 ((lenTEd Ls i : Nat) : Int) ∧ Hid (W = X)) (fun _ s11 _ => k - (intOf s11).toNat)
  case atStart => exact ⟨0, Nat.zero_le _, rfl, rfl, Lib.hid rfl⟩
  case round =>
    obtain ⟨i, hi, rfl, rfl, HX⟩ := hrel
    have hX := HX.out
    subst hX
    by_cases hlt : i < k
    · obtain ⟨L, hL⟩ : ∃ L, Ls[i]? = some L := ⟨_, List.getElem?_eq_getElem (by rw [HK.out]; exact hlt)⟩
      obtain ⟨p, c, hc, hR⟩ := HL.out W (Below.refl _ _) i L hL
      have hs := lenT_succEd Ls i L hL
      have h1 := HLE.out (i + 1)
      have h2 := HT.out
      have HS := Lib.hid hs
      obtain ⟨n1, hn1⟩ : ∃ n, n = lenTEd Ls (i + 1) := ⟨_, rfl⟩
      have HN1 := Lib.hid hn1
      obtain ⟨n0, hn0⟩ : ∃ n, n = lenTEd Ls i := ⟨_, rfl⟩
      obtain ⟨ll, hll⟩ : ∃ n, n = L.length := ⟨_, rfl⟩
      rw [← hn1] at hs h1
      rw [← hn0] at hs ⊢
      rw [← hll] at hs hc
      have hw : IntKind.i64.wrap ((n0 : Int) + (ll : Int)) = (n1 : Int) := by rw [IntKind.wrap_i64]; omega
      have hn1p : ¬ (n1 : Int) < 0 := by omega
      have hn1d : decide ((n1 : Int) < 0) = false := by simp
      clear hs h1 h2 hn1 hn0 hll hR hL
      go_wp2
      go_roundw
      case rel => exact ⟨i + 1, by omega, by go_num, by rw [← HN1.out], Lib.hid (by first | trivial | rfl)⟩
      case measure => simp [intOf]; omega
    · obtain rfl : k = i := by omega
      have e0 := HTT.out.1
      obtain ⟨n0, hn0⟩ : ∃ n, n = lenTEd Ls k := ⟨_, rfl⟩
      rw [← hn0] at e0 ⊢
      have HG := Lib.hid (fun X => grow_ed n0 (by have := HT.out; omega) X)
      clear e0 hn0 HX hlt hi
      go_wp2_with fail
      refine (HG.out _).mono ?_
      rintro e w1 ⟨v0, rfl, hown, hb1⟩
      have O1 : Hid (w1.ownsRow W.heap.size 56 10 v0 (lenTEd Ls 0) ((Ls.take 0).flatten.flatMap Ed.cells)) := Lib.hid (by simpa [lenTEd] using hown)
      have B1 := Lib.hid hb1
      clear hown hb1 HG
      go_wp2
      go_loopw [6, 27] (fun s6 s27 X => ∃ (i : Nat) (v : Value), v = s6 ∧ i ≤ k ∧ s27 = .int .i64 (i : Int) ∧ Hid (X.ownsRow W.heap.size 56 10 v (lenTEd Ls i) ((Ls.take i).flatten.flatMap Ed.cells)) ∧ Hid (Below W.heap.size W X)) (fun _ s27 _ => k - (intOf s27).toNat)
      case atStart => exact ⟨0, v0, rfl, Nat.zero_le _, rfl, O1, B1⟩
      case round =>
        obtain ⟨i, v, rfl, hi, rfl, HO, HB⟩ := hrel
        clear O1 B1
        by_cases hlt : i < k
        · obtain ⟨L, hL⟩ : ∃ L, Ls[i]? = some L := ⟨_, List.getElem?_eq_getElem (by rw [HK.out]; exact hlt)⟩
          obtain ⟨p, c, hc, hR⟩ := HL.out _ HB.out i L hL
          have HS := Lib.hid (lenT_succEd Ls i L hL)
          have HF := Lib.hid (flat_succEd Ls i L hL)
          obtain ⟨v', w2, hr, ho, hb2⟩ := run_appEd wr W.heap.size v (lenTEd Ls i) ((Ls.take i).flatten) L HO.out p L.length c hR (by have := HLE.out i; have := HT.out; omega) (by have := HLE.out (i + 1); have := HS.out; have := HT.out; omega) HB.out.size
          rw [← HF.out, ← HS.out] at ho
          have O2 := Lib.hid ho
          have B2 := Lib.hid (HB.out.trans hb2)
          clear ho hb2 hR hL HS HF HO
          have lb := cell_lt hc
          go_wp2_with (at_builtin; refine Lib.wpList_append_run _ rfl _ _ _ _ rfl _ _ rfl rfl _ _ hr ?_)
          go_roundw
          case rel => exact ⟨i + 1, v', rfl, by omega, by go_num, O2, B2⟩
          case measure => simp [intOf]; omega
        · obtain rfl : k = i := by omega
          have R2 : Hid (RowsK Ed.cells 10 wr v Ls.flatten) := Lib.hid (by
            have h := HO.out
            rw [HTT.out.1, HTT.out.2] at h
            exact own_rowsEd h rfl (by have := HT.out; omega))
          clear HO
          go_wp2
          go_ret
          exact ⟨_, rfl, R2.out, HB.out⟩
end Go.Proofs.Ytceippgkmoijdaa

namespace Go.Proofs.Ytceippgkmoijdaa
open Go.RowKit Go.Shelf
set_option linter.unusedVariables false
set_option linter.unusedSimpArgs false

/-- what the cell that owns a slot claims at a side -/
def cellP (ps : List Pz) (cs : List Fr) (ow : Int) (k : Nat) : Cl := if ow < 0 then Cl.zero else
  ⟨⟨((cs.getD ow.toNat default).at k).st, ((cs.getD ow.toNat default).at k).wd, ((cs.getD ow.toNat default).at k).co, 0, (ps.getD ow.toNat ⟨0, 0, 0, 0, 0⟩).r, (ps.getD ow.toNat ⟨0, 0, 0, 0, 0⟩).c⟩, 1⟩
set_option maxRecDepth 100000 in
set_option maxHeartbeats 4000000 in
theorem cell_none (fr fk : Int) (pp cp : Option Addr) (pn pc cn cc : Nat) (v4 v5 v6 v7 t0 t1 t2 t3 t4 t5 t6 t7 t8 t9 t10 t11 : Value) (ps : List Pz) (cs : List Fr) (ow : Int) (k : Nat) (W : World) (ho : ow < 0) :
    Calls Try.prog 58 #[.agg #[.int .i64 fr, .int .i64 fk, .slice pp pn pc, .slice cp cn cc, v4, v5, v6, v7, t0, t1, t2, t3, t4, t5, t6, t7, t8, t9, t10, t11], .int .i64 ow, .int .i64 (k : Int)] W fun e W' => e = .returned (cellP ps cs ow k).val ∧ Below W.heap.size W W' := by
  unfold cellP
  rw [if_pos ho]
  go_enter Try.func58, Try.ntmps58
  go_wp2
  refine bodyPost_ret (results_clm (g := W.heap.size + 1) rfl rfl (whole_new (W.alloc _) [.int .i64 0, .int .i64 0, .int .u32 0, .int .i64 0, .int .i64 0, .int .i64 0, .int .i64 0] 108 _ (by simp))) rfl ⟨rfl, ?_⟩
  exact ((Below.refl _ W).alloc (Nat.le_refl _) _).alloc (by simp) _
set_option maxRecDepth 100000 in
set_option maxHeartbeats 8000000 in
theorem cell_at (fr fk : Int) (pp cp : Option Addr) (pn pc cn cc : Nat) (v4 v5 v6 v7 t0 t1 t2 t3 t4 t5 t6 t7 t8 t9 t10 t11 : Value) (ps : List Pz) (cs : List Fr) (i : Nat) (k : Nat) (hk : k < 4) (W : World) (hp : PsAt W (.slice pp pn pc) ps) (hc : RowsK Fr.cells 12 W (.slice cp cn cc) cs) (hi : i < ps.length) (hj : i < cs.length) (hpn : ps.length = pn) (hcn : cs.length = cn) :
    Calls Try.prog 58 #[.agg #[.int .i64 fr, .int .i64 fk, .slice pp pn pc, .slice cp cn cc, v4, v5, v6, v7, t0, t1, t2, t3, t4, t5, t6, t7, t8, t9, t10, t11], .int .i64 (i : Int), .int .i64 (k : Int)] W fun e W' => e = .returned (cellP ps cs i k).val ∧ Below W.heap.size W W' := by
  obtain ⟨x, hx⟩ : ∃ x, ps[i]? = some x := ⟨_, List.getElem?_eq_getElem hi⟩
  obtain ⟨y, hy⟩ : ∃ y, cs[i]? = some y := ⟨_, List.getElem?_eq_getElem hj⟩
  have HE : Hid ((cellP ps cs i k).val = .agg #[.int .i64 (y.at k).st, .int .i64 (y.at k).wd, .int .u32 (y.at k).co, .int .i64 0, .int .i64 x.r, .int .i64 x.c, .int .i64 1]) := Lib.hid (by
    unfold cellP
    rw [if_neg (by omega)]
    simp [Cl.val, Cl.cells, Si.cells, hx, hy])
  obtain ⟨hl, ⟨a0, c0, e0, rfl⟩ | ⟨b, off, c0, e0, hcell⟩⟩ := hp
  · simp at hi
  injection e0 with e1 e2 e3
  obtain ⟨q0, q1, q2, q3, q4⟩ := hcell i x hx
  obtain ⟨g, o, e4, lg, hcs⟩ := hc.at i y hy
  subst e1 e4
  have lb := cell_lt q0
  dsimp only at lb
  have hin : (i : Int) < (pn : Int) := by omega
  have hjn : (i : Int) < (cn : Int) := by omega
  obtain ⟨xn, xr, xc, xh, xw⟩ := x
  obtain ⟨⟨a0, a1, a2⟩, ⟨b0, b1, b2⟩, ⟨c0', c1, c2⟩, ⟨d0, d1, d2⟩⟩ := y
  dsimp only at q0 q1 q2 q3 q4 HE
  have HCS := Lib.hid hcs
  clear hx hy hl hcell hcs hc e2 e3 hi hj hpn hcn
  go_enter Try.func58, Try.ntmps58
  go_wp2_with fail
  refine region_still_tailC 13 (by kernel_rfl) (by decide +kernel) (fun w2 hw2 => ?_)
  simp only [List.take_succ_cons, List.take_zero, List.drop_succ_cons, List.drop_zero]
  have BW : Below W.heap.size W w2 := by rw [← hw2]; exact ((((Below.refl _ W).alloc (Nat.le_refl _) _).alloc (by simp) _).alloc (by simp; omega) _).trans (below_dn _ _ 1)
  have KF : Whole w2 W.heap.size 30 [.int .i64 fr, .int .i64 fk, .slice (some ⟨b, off, none⟩) pn pc, .slice (some ⟨g, o, none⟩) cn cc, v4, v5, v6, v7, t0, t1, t2, t3, t4, t5, t6, t7, t8, t9, t10, t11] := by
    rw [← hw2]
    exact (((whole_new W [.int .i64 fr, .int .i64 fk, .slice (some ⟨b, off, none⟩) pn pc, .slice (some ⟨g, o, none⟩) cn cc, v4, v5, v6, v7, t0, t1, t2, t3, t4, t5, t6, t7, t8, t9, t10, t11] 30 _ rfl).alloc _).alloc _).below (below_dn (W.heap.size + 1) _ 1) (by omega)
  have KR : Whole w2 (W.heap.size + 1) 108 [.int .i64 0, .int .i64 0, .int .u32 0, .int .i64 0, .int .i64 0, .int .i64 0, .int .i64 0] := by
    rw [← hw2]
    exact ((whole_new (W.alloc _) [.int .i64 0, .int .i64 0, .int .u32 0, .int .i64 0, .int .i64 0, .int .i64 0, .int .i64 0] 108 _ (by simp)).alloc _).below (below_dn (W.heap.size + 2) _ 1) (by omega)
  have KP : Whole w2 (W.heap.size + 2) 52 [.int .i64 xn, .int .i64 xr, .int .i64 xc, .int .i64 xh, .int .i64 xw] := by
    rw [← hw2]
    exact (whole_new ((W.alloc _).alloc _) [.int .i64 xn, .int .i64 xr, .int .i64 xc, .int .i64 xh, .int .i64 xw] 52 _ (by simp)).below (below_dn (W.heap.size + 3) _ 1) (by omega)
  clear hw2 q0 q1 q2 q3 q4 lb
  have HBW := Lib.hid BW
  have lf := KF.lt
  have lp := KP.lt
  have lr := KR.lt
  have cf := KF.cellAt 3
  have p1 := KP.cellAt 1
  have p2 := KP.cellAt 2
  have r0 := KR.cellAt 0
  have r1 := KR.cellAt 1
  have r2 := KR.cellAt 2
  have r3 := KR.cellAt 3
  have r4 := KR.cellAt 4
  have r5 := KR.cellAt 5
  have r6 := KR.cellAt 6
  have f0 := KR.free 0
  have f1 := KR.free 1
  have f2 := KR.free 2
  have f3 := KR.free 3
  have f4 := KR.free 4
  have f5 := KR.free 5
  have f6 := KR.free 6
  simp only [List.getElem?_cons_zero, List.getElem?_cons_succ] at cf p1 p2 r0 r1 r2 r3 r4 r5 r6
  have HKR := Lib.hid KR
  have lg2 : g < w2.heap.size := by have := BW.size; omega
  have HC2 : Hid (∀ q v, (Fr.cells ⟨⟨a0, a1, a2⟩, ⟨b0, b1, b2⟩, ⟨c0', c1, c2⟩, ⟨d0, d1, d2⟩⟩)[q]? = some v → w2.cell? ⟨g, o + i * 12 + q, none⟩ = some v) := Lib.hid fun q v hv => (BW.cell (p := ⟨g, o + i * 12 + q, none⟩) lg).trans (HCS.out q v hv)
  clear KF KP KR BW HCS lg
  obtain rfl | rfl | rfl | rfl : k = 0 ∨ k = 1 ∨ k = 2 ∨ k = 3 := by omega
  · have z0 : w2.cell? ⟨g, o + i * 12, none⟩ = some (.int .i64 a0) := HC2.out 0 _ rfl
    have z1 : w2.cell? ⟨g, o + i * 12 + 1, none⟩ = some (.int .i64 a1) := HC2.out 1 _ rfl
    have z2 : w2.cell? ⟨g, o + i * 12 + 2, none⟩ = some (.int .u32 a2) := HC2.out 2 _ rfl
    clear HC2
    repeat still_step
    refine wpStill_nil ?_
    go_wp2
    rw [HE.out]
    refine bodyPost_ret (results_clm (g := W.heap.size + 1) rfl rfl (((((((HKR.out.set 0 _).set 1 _).set 2 _).set 3 _).set 4 _).set 5 _).set 6 _)) rfl ⟨rfl, ?_⟩
    have n2 : ∀ o, W.heap.size ≤ (⟨W.heap.size + 1, o, none⟩ : Addr).block := fun o => (by show W.heap.size ≤ W.heap.size + 1; omega)
    exact ((((((HBW.out.setCell (n2 0) _).setCell (n2 1) _).setCell (n2 2) _).setCell (n2 3) _).setCell (n2 4) _).setCell (n2 5) _).setCell (n2 6) _
  · have z0 : w2.cell? ⟨g, o + i * 12 + 3, none⟩ = some (.int .i64 b0) := HC2.out 3 _ rfl
    have z1 : w2.cell? ⟨g, o + i * 12 + 4, none⟩ = some (.int .i64 b1) := HC2.out 4 _ rfl
    have z2 : w2.cell? ⟨g, o + i * 12 + 5, none⟩ = some (.int .u32 b2) := HC2.out 5 _ rfl
    clear HC2
    repeat still_step
    refine wpStill_nil ?_
    go_wp2
    rw [HE.out]
    refine bodyPost_ret (results_clm (g := W.heap.size + 1) rfl rfl (((((((HKR.out.set 0 _).set 1 _).set 2 _).set 3 _).set 4 _).set 5 _).set 6 _)) rfl ⟨rfl, ?_⟩
    have n2 : ∀ o, W.heap.size ≤ (⟨W.heap.size + 1, o, none⟩ : Addr).block := fun o => (by show W.heap.size ≤ W.heap.size + 1; omega)
    exact ((((((HBW.out.setCell (n2 0) _).setCell (n2 1) _).setCell (n2 2) _).setCell (n2 3) _).setCell (n2 4) _).setCell (n2 5) _).setCell (n2 6) _
  · have z0 : w2.cell? ⟨g, o + i * 12 + 6, none⟩ = some (.int .i64 c0') := HC2.out 6 _ rfl
    have z1 : w2.cell? ⟨g, o + i * 12 + 7, none⟩ = some (.int .i64 c1) := HC2.out 7 _ rfl
    have z2 : w2.cell? ⟨g, o + i * 12 + 8, none⟩ = some (.int .u32 c2) := HC2.out 8 _ rfl
    clear HC2
    repeat still_step
    refine wpStill_nil ?_
    go_wp2
    rw [HE.out]
    refine bodyPost_ret (results_clm (g := W.heap.size + 1) rfl rfl (((((((HKR.out.set 0 _).set 1 _).set 2 _).set 3 _).set 4 _).set 5 _).set 6 _)) rfl ⟨rfl, ?_⟩
    have n2 : ∀ o, W.heap.size ≤ (⟨W.heap.size + 1, o, none⟩ : Addr).block := fun o => (by show W.heap.size ≤ W.heap.size + 1; omega)
    exact ((((((HBW.out.setCell (n2 0) _).setCell (n2 1) _).setCell (n2 2) _).setCell (n2 3) _).setCell (n2 4) _).setCell (n2 5) _).setCell (n2 6) _
  · have z0 : w2.cell? ⟨g, o + i * 12 + 9, none⟩ = some (.int .i64 d0) := HC2.out 9 _ rfl
    have z1 : w2.cell? ⟨g, o + i * 12 + 10, none⟩ = some (.int .i64 d1) := HC2.out 10 _ rfl
    have z2 : w2.cell? ⟨g, o + i * 12 + 11, none⟩ = some (.int .u32 d2) := HC2.out 11 _ rfl
    clear HC2
    repeat still_step
    refine wpStill_nil ?_
    go_wp2
    rw [HE.out]
    refine bodyPost_ret (results_clm (g := W.heap.size + 1) rfl rfl (((((((HKR.out.set 0 _).set 1 _).set 2 _).set 3 _).set 4 _).set 5 _).set 6 _)) rfl ⟨rfl, ?_⟩
    have n2 : ∀ o, W.heap.size ≤ (⟨W.heap.size + 1, o, none⟩ : Addr).block := fun o => (by show W.heap.size ≤ W.heap.size + 1; omega)
    exact ((((((HBW.out.setCell (n2 0) _).setCell (n2 1) _).setCell (n2 2) _).setCell (n2 3) _).setCell (n2 4) _).setCell (n2 5) _).setCell (n2 6) _
end Go.Proofs.Ytceippgkmoijdaa
