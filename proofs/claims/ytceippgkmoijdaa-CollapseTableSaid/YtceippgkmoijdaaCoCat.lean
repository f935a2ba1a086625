/- slices.Grow of nothing, slices.Concat, at stretch. Written by mk_CoCat.py. -/
import Derived.Test.YtceippgkmoijdaaCoStr
import Derived.Maps.AppendAt
import Derived.Lib.AppendZeros
namespace Go.Proofs.Ytceippgkmoijdaa
open Go.RowKit Go.Shelf Go.Maps
set_option linter.unusedVariables false
set_option linter.unusedSimpArgs false
attribute [local go_sem] Oper.semAt_some

theorem Try.intX : Try.prog.underlying 3 = some (.int .i64) := by kernel_rfl
set_option maxRecDepth 100000 in
set_option maxHeartbeats 2000000 in
theorem grow_str (n : Nat) (hn : n ≤ 1000000) (W : World) :
    Calls Try.prog 70 #[.slice none 0 0, .int .i64 (n : Int)] W fun e X => ∃ v, e = .returned v ∧ X.ownsRow W.heap.size 99 20 v 0 [] ∧ Below W.heap.size W X := by
  by_cases h0 : n = 0
  · subst h0
    go_enter Try.func70, Try.ntmps70
    go_wp2
    go_ret
    exact ⟨_, rfl, World.ownsRow_nil _ _ _ _, Below.refl _ _⟩
  cases hi : Try.prog.info? 99 with
  | none => have := Try.infoSr; rw [hi] at this; cases this
  | some i =>
    have h := Try.infoSr
    rw [hi] at h
    simp only [Option.map_some, Option.some.injEq, Prod.mk.injEq] at h
    obtain ⟨hz, h1, h2⟩ := h
    have hr := Lib.run_append_nil_zeros (P := Try.prog) W 82 3 82 99 i _ .i64 .i64 Try.underlying82 Try.intX hi hz n (by omega) (by rw [h1]; omega) (by omega) (by rw [h2]; omega)
    have hge := grownCap_ge W n 0 99
    have hcm : grownCap W n 0 99 ≤ maxLen := grownCap_le_maxLen W n 0 99 (by unfold maxLen; omega)
    obtain ⟨gc, hgc⟩ : ∃ gc, grownCap W n 0 99 = gc := ⟨_, rfl⟩
    rw [hgc] at hr hge hcm
    obtain ⟨cur, hcur⟩ : ∃ cur, Builtin.zeroCells (Value.agg #[.int .i64 0, .int .i64 0, .int .i64 0, .int .i64 0, .int .u32 0, .int .i64 0, .int .i64 0, .int .u32 0, .int .i64 0, .int .i64 0, .int .u32 0, .int .i64 0, .int .i64 0, .int .u32 0, .int .i64 0, .int .i64 0, .int .u32 0, .int .i64 0, .int .i64 0, .int .i64 0]).cells n ++ Builtin.zeroCells (Value.agg #[.int .i64 0, .int .i64 0, .int .i64 0, .int .i64 0, .int .u32 0, .int .i64 0, .int .i64 0, .int .u32 0, .int .i64 0, .int .i64 0, .int .u32 0, .int .i64 0, .int .i64 0, .int .u32 0, .int .i64 0, .int .i64 0, .int .u32 0, .int .i64 0, .int .i64 0, .int .i64 0]).cells (gc - n) = cur := ⟨_, rfl⟩
    have hcs : cur.size = gc * 20 := by
      rw [← hcur]
      simp only [Array.size_append, size_zeroCells]
      have e : (Value.agg #[.int .i64 0, .int .i64 0, .int .i64 0, .int .i64 0, .int .u32 0, .int .i64 0, .int .i64 0, .int .u32 0, .int .i64 0, .int .i64 0, .int .u32 0, .int .i64 0, .int .i64 0, .int .u32 0, .int .i64 0, .int .i64 0, .int .u32 0, .int .i64 0, .int .i64 0, .int .i64 0]).cells.size = 20 := rfl
      rw [e]; omega
    rw [hcur] at hr
    have HC := Lib.hid hcs
    have hgc63 : gc ≤ 9223372036854775807 := by unfold maxLen at hcm; omega
    have hni : ¬ (n : Int) ≤ 0 := by omega
    have hni2 : (0 : Int) < (n : Int) := by omega
    have hns : (n : Int) - 0 = (n : Int) := by omega
    have hwn : IntKind.i64.wrap (n : Int) = (n : Int) := by rw [IntKind.wrap_i64]; omega
    clear hcs hcur hi hz h1 h2 hgc
    go_enter Try.func70, Try.ntmps70
    go_wp2_with (at_builtin; refine Lib.wpList_append_run _ rfl _ _ _ _ rfl _ _ rfl rfl _ _ hr ?_)
    go_ret
    refine ⟨_, rfl, ⟨rfl, .inr ⟨W.heap.size, gc, cur, rfl, Nat.le_refl _, ?_, Nat.zero_le _, hcm, HC.out, by simp⟩⟩, ((Below.refl _ W).alloc (Nat.le_refl _) _).trans (below_dn _ _ 1)⟩
    exact heap_alloc_new W _
theorem own_rowsS {X : World} {base k : Nat} {v : Value} {ys : List Sr} (h : X.ownsRow base 99 20 v k (ys.flatMap Sr.cells)) (hk : ys.length = k) (hm : k ≤ 9223372036854775807) : RowsK Sr.cells 20 X v ys := by
  subst hk
  refine ⟨hm, ?_⟩
  rcases h.2 with ⟨rfl, h0⟩ | ⟨g, cap, cur, rfl, hb, hg, hnc, hcm, hcs, htk⟩
  · exact .inl ⟨none, 0, rfl, List.length_eq_zero_iff.1 h0⟩
  · refine .inr ⟨g, 0, cap, rfl, (Array.getElem?_eq_some_iff.1 hg).1, fun j hj i v hv => ?_⟩
    have hi : i < 20 := (List.getElem?_eq_some_iff.1 hv).1
    have hf := flat_getK Sr.cells 20 Sr.cells_len ys j i hi hj
    rw [← htk, List.getElem?_take_of_lt (by have := Nat.mul_le_mul_right 20 (show j + 1 ≤ ys.length by omega); omega)] at hf
    rw [show 0 + j * 20 + i = j * 20 + i by omega]
    simp [World.cell?, hg]
    rw [← hv, ← hf]; simp
/-- stretches appended to a list of its own -/
theorem run_appS (W : World) (B : Nat) (v : Value) (n : Nat) (ys zs : List Sr) (hown : W.ownsRow B 99 20 v n (ys.flatMap Sr.cells)) (p : Option Addr) (m c : Nat) (hz : RowsK Sr.cells 20 W (.slice p m c) zs) (hn : n ≤ 1000000) (hm : m ≤ 1000000) (hB : B ≤ W.heap.size) :
    ∃ v' w', (Builtin.append_ #[82, 82] 82 #[v, .slice p m c]).run Try.prog W = .ok v' w' ∧ w'.ownsRow B 99 20 v' (n + m) ((ys ++ zs).flatMap Sr.cells) ∧ Below B W w' := by
  cases hi : Try.prog.info? 99 with
  | none => have := Try.infoSr; rw [hi] at this; cases this
  | some i =>
    have h := Try.infoSr
    rw [hi] at h
    simp only [Option.map_some, Option.some.injEq, Prod.mk.injEq] at h
    obtain ⟨hiz, hs, hby⟩ := h
    have hl := hz.len
    have key : ∀ ad : Addr, p = some ad → (∀ j u, (zs.flatMap Sr.cells)[j]? = some u → W.cell? (ad.add j) = some u) → ∃ v' w', (Builtin.append_ #[82, 82] 82 #[v, .slice p m c]).run Try.prog W = .ok v' w' ∧ w'.ownsRow B 99 20 v' (n + m) ((ys ++ zs).flatMap Sr.cells) ∧ Below B W w' := fun ad e hcell => by
      obtain ⟨v', w', hr, ho, hg, -, hat⟩ := run_append_own_at (P := Try.prog) W B 82 82 99 i _ 20 160 Try.underlying82 hi hiz hs hby rfl (by decide) v n (ys.flatMap Sr.cells) hown ad m c (zs.flatMap Sr.cells) (by rw [flat_lenL Sr.cells_len, hl]) hcell
        (fun u hu => by obtain ⟨x, _, hx⟩ := List.mem_flatMap.1 hu; have := Sr.one x; rw [Array.all_eq_true_iff_forall_mem] at this; exact this u (by simpa using hx)) (by unfold maxLen; omega) (by omega) hB
      exact ⟨v', w', by rw [e]; exact hr, by rw [List.flatMap_append]; exact ho, (Below.refl _ _).grown hg hB (fun j e => (hown.lt j e).1)⟩
    by_cases h0 : m = 0
    · subst h0
      obtain rfl : zs = [] := List.eq_nil_of_length_eq_zero hl
      cases p with
      | some ad => exact key ad rfl (fun j u hu => by simp at hu)
      | none =>
        rcases hown.2 with ⟨rfl, rfl⟩ | ⟨g, cap, cur, rfl, hb, hg, hnc, hcm, hcs, htk⟩
        · refine ⟨.slice none 0 0, W, ?_, by simpa using hown, Below.refl _ _⟩
          simp [Builtin.append_, run_underlying Try.underlying82, sizeOf, typeInfo, hi, Builtin.lenOf, Builtin.firstCells, loadCells, loadCellsFrom]
        · refine ⟨.slice (some ⟨g, 0, none⟩) n cap, W, ?_, by simpa using hown, Below.refl _ _⟩
          have h63 : ¬ (9223372036854775807 < (n : Int)) := by omega
          simp [Builtin.append_, run_underlying Try.underlying82, sizeOf, typeInfo, hi, Builtin.lenOf, Builtin.firstCells, loadCells, loadCellsFrom, hnc, storeCells]
    · obtain ⟨b, off, hp, lb, hc⟩ := hz.at 0 _ (List.getElem?_eq_getElem (by omega : 0 < zs.length))
      refine key _ hp fun j u hu => ?_
      have hj : j < zs.length * 20 := by have := (List.getElem?_eq_some_iff.1 hu).1; rwa [flat_lenL Sr.cells_len] at this
      have hd : j / 20 < zs.length := by omega
      have e : j = j / 20 * 20 + j % 20 := by omega
      obtain ⟨b', off', hp', _, hc'⟩ := hz.at (j / 20) _ (List.getElem?_eq_getElem hd)
      rw [hp] at hp'
      simp only [Option.some.injEq, Addr.mk.injEq] at hp'
      obtain ⟨rfl, rfl, -⟩ := hp'
      have hf := flat_getK Sr.cells 20 Sr.cells_len zs (j / 20) (j % 20) (by omega) hd
      rw [← e, hu] at hf
      have hx : zs[j / 20]! = zs[j / 20] := by simp [List.getElem!_eq_getElem?_getD, List.getElem?_eq_getElem hd]
      rw [hx] at hf
      have := hc' (j % 20) u hf.symm
      rw [add_plainC, show off + j = off + j / 20 * 20 + j % 20 by omega]
      exact this
/-- so many are in the first lists -/
def lenT (Ls : List (List Sr)) (i : Nat) : Nat := (Ls.take i).flatten.length
theorem lenT_succ (Ls : List (List Sr)) (i : Nat) (L : List Sr) (h : Ls[i]? = some L) : lenT Ls (i + 1) = lenT Ls i + L.length := by
  unfold lenT
  rw [List.take_add_one, h]; simp
theorem flat_succ (Ls : List (List Sr)) (i : Nat) (L : List Sr) (h : Ls[i]? = some L) : (Ls.take (i + 1)).flatten = (Ls.take i).flatten ++ L := by
  rw [List.take_add_one, h]; simp
theorem lenT_le (Ls : List (List Sr)) (i : Nat) : lenT Ls i ≤ Ls.flatten.length := by
  unfold lenT
  conv => rhs; rw [← List.take_append_drop i Ls]
  rw [List.flatten_append, List.length_append]; omega
set_option maxRecDepth 100000 in
set_option maxHeartbeats 4000000 in
theorem concat_str (b c0 k : Nat) (Ls : List (List Sr)) (W : World) (hk : Ls.length = k) (hkk : k ≤ 1000) (hT : Ls.flatten.length ≤ 900000) (hb : b < W.heap.size)
    (hL : ∀ i L, Ls[i]? = some L → ∃ p c, W.cell? ⟨b, i, none⟩ = some (.slice p L.length c) ∧ RowsK Sr.cells 20 W (.slice p L.length c) L) :
    Calls Try.prog 44 #[.slice (some ⟨b, 0, none⟩) k c0] W fun e X => ∃ v, e = .returned v ∧ RowsK Sr.cells 20 X v Ls.flatten ∧ Below W.heap.size W X := by
  have HL : Hid (∀ X, Below W.heap.size W X → ∀ i L, Ls[i]? = some L → ∃ p c, X.cell? ⟨b, i, none⟩ = some (.slice p L.length c) ∧ RowsK Sr.cells 20 X (.slice p L.length c) L) := Lib.hid (fun X hX i L h => by
    obtain ⟨p, c, h1, h2⟩ := hL i L h
    exact ⟨p, c, (hX.cell (p := ⟨b, i, none⟩) hb).trans h1, h2.below hX⟩)
  have HK := Lib.hid hk
  have HT := Lib.hid hT
  have HLE := Lib.hid (fun i => lenT_le Ls i)
  have HTT : Hid (lenT Ls k = Ls.flatten.length ∧ (Ls.take k).flatten = Ls.flatten) := Lib.hid (by unfold lenT; rw [List.take_of_length_le (by omega)]; exact ⟨rfl, rfl⟩)
  clear hL hk hT
  go_enter Try.func44, Try.ntmps44
  go_wp2
  go_loopw [3, 11] (fun s3 s11 X => ∃ i : Nat, i ≤ k ∧ s11 = .int .i64 (i : Int) ∧ s3 = .int .i64 ((lenT Ls i : Nat) : Int) ∧ Hid (W = X)) (fun _ s11 _ => k - (intOf s11).toNat)
  case atStart => exact ⟨0, Nat.zero_le _, rfl, rfl, Lib.hid rfl⟩
  case round =>
    obtain ⟨i, hi, rfl, rfl, HX⟩ := hrel
    have hX := HX.out
    subst hX
    by_cases hlt : i < k
    · obtain ⟨L, hL⟩ : ∃ L, Ls[i]? = some L := ⟨_, List.getElem?_eq_getElem (by rw [HK.out]; exact hlt)⟩
      obtain ⟨p, c, hc, hR⟩ := HL.out W (Below.refl _ _) i L hL
      have hs := lenT_succ Ls i L hL
      have h1 := HLE.out (i + 1)
      have h2 := HT.out
      have HS := Lib.hid hs
      obtain ⟨n1, hn1⟩ : ∃ n, n = lenT Ls (i + 1) := ⟨_, rfl⟩
      have HN1 := Lib.hid hn1
      obtain ⟨n0, hn0⟩ : ∃ n, n = lenT Ls i := ⟨_, rfl⟩
      obtain ⟨ll, hll⟩ : ∃ n, n = L.length := ⟨_, rfl⟩
      rw [← hn1] at hs h1
      rw [← hn0] at hs ⊢
      rw [← hll] at hs hc
      have hw : IntKind.i64.wrap ((n0 : Int) + (ll : Int)) = (n1 : Int) := by rw [IntKind.wrap_i64]; omega
      have hn1p : ¬ (n1 : Int) < 0 := by omega
      have hn1d : decide ((n1 : Int) < 0) = false := by simp
      clear hs h1 h2 hn1 hn0 hll hR hL
      go_wp2
      go_roundw
      case rel => exact ⟨i + 1, by omega, by go_num, by rw [← HN1.out], Lib.hid (by first | trivial | rfl)⟩
      case measure => simp [intOf]; omega
    · obtain rfl : k = i := by omega
      have e0 := HTT.out.1
      obtain ⟨n0, hn0⟩ : ∃ n, n = lenT Ls k := ⟨_, rfl⟩
      rw [← hn0] at e0 ⊢
      have HG := Lib.hid (fun X => grow_str n0 (by have := HT.out; omega) X)
      clear e0 hn0 HX hlt hi
      go_wp2_with fail
      refine (HG.out _).mono ?_
      rintro e w1 ⟨v0, rfl, hown, hb1⟩
      have O1 : Hid (w1.ownsRow W.heap.size 99 20 v0 (lenT Ls 0) ((Ls.take 0).flatten.flatMap Sr.cells)) := Lib.hid (by simpa [lenT] using hown)
      have B1 := Lib.hid hb1
      clear hown hb1 HG
      go_wp2
      go_loopw [6, 27] (fun s6 s27 X => ∃ (i : Nat) (v : Value), v = s6 ∧ i ≤ k ∧ s27 = .int .i64 (i : Int) ∧ Hid (X.ownsRow W.heap.size 99 20 v (lenT Ls i) ((Ls.take i).flatten.flatMap Sr.cells)) ∧ Hid (Below W.heap.size W X)) (fun _ s27 _ => k - (intOf s27).toNat)
      case atStart => exact ⟨0, v0, rfl, Nat.zero_le _, rfl, O1, B1⟩
      case round =>
        obtain ⟨i, v, rfl, hi, rfl, HO, HB⟩ := hrel
        clear O1 B1
        by_cases hlt : i < k
        · obtain ⟨L, hL⟩ : ∃ L, Ls[i]? = some L := ⟨_, List.getElem?_eq_getElem (by rw [HK.out]; exact hlt)⟩
          obtain ⟨p, c, hc, hR⟩ := HL.out _ HB.out i L hL
          have HS := Lib.hid (lenT_succ Ls i L hL)
          have HF := Lib.hid (flat_succ Ls i L hL)
          obtain ⟨v', w2, hr, ho, hb2⟩ := run_appS wr W.heap.size v (lenT Ls i) ((Ls.take i).flatten) L HO.out p L.length c hR (by have := HLE.out i; have := HT.out; omega) (by have := HLE.out (i + 1); have := HS.out; have := HT.out; omega) HB.out.size
          rw [← HF.out, ← HS.out] at ho
          have O2 := Lib.hid ho
          have B2 := Lib.hid (HB.out.trans hb2)
          clear ho hb2 hR hL HS HF HO
          have lb := cell_lt hc
          go_wp2_with (at_builtin; refine Lib.wpList_append_run _ rfl _ _ _ _ rfl _ _ rfl rfl _ _ hr ?_)
          go_roundw
          case rel => exact ⟨i + 1, v', rfl, by omega, by go_num, O2, B2⟩
          case measure => simp [intOf]; omega
        · obtain rfl : k = i := by omega
          have R2 : Hid (RowsK Sr.cells 20 wr v Ls.flatten) := Lib.hid (by
            have h := HO.out
            rw [HTT.out.1, HTT.out.2] at h
            exact own_rowsS h rfl (by have := HT.out; omega))
          clear HO
          go_wp2
          go_ret
          exact ⟨_, rfl, R2.out, HB.out⟩
end Go.Proofs.Ytceippgkmoijdaa
