/- A grid of bands tiles the rectangle that it makes; with one of its rectangles less, or one twice, it does not: for every bands and place. -/
import Derived.Test.YtjdnhpbifblneaaRows
import Derived.WalkKit
import Derived.ProofKit
import Derived.OpenShut
import Derived.Below
import Derived.Test.YtjdnhpbifblneaaRGridW
import Derived.Test.YtjdnhpbifblneaaRShown
import Derived.Test.YtjdnhpbifblneaaROpen
import Derived.ShutString
namespace Go.Proofs.Ytjdnhpbifblneaa.rectGrids
open Go.ChangeShapes Go.WideShapes Go.ChangeAt Go.RowKit
set_option linter.unusedVariables false

theorem own : ownKnob Try.prog.godebug = none := by kernel_rfl
theorem laidOut : laidOutB Try.prog = true := by kernel_rfl

theorem gtiles_is (x y u v : Int) (sv : Value) (zs : List R) (w : World) (hI : Rects w sv zs) (hn : ∀ n c, sv = .slice none n c → n = 0 ∧ c = 0) (hl : zs.length ≤ 400) (hr : rightB ⟨x, y, u, v⟩ = true) (ha : ∀ q ∈ zs, rightB q = true) (b : Bool) (hb : tilesB ⟨x, y, u, v⟩ zs = b) :
    Calls Try.prog 6 #[.agg #[.int .i64 x, .int .i64 y, .int .i64 u, .int .i64 v], sv] w fun e W' => e = .returned (.tuple #[.bool b, .int .i64 0]) ∧ Below w.heap.size w W' := by
  have hk : tilesOk ⟨x, y, u, v⟩ zs = true := by
    unfold tilesOk
    rw [hr, List.all_eq_true.2 ha]
    simp; omega
  refine (tiles_any ⟨x, y, u, v⟩ sv zs w hI hn).mono fun e W' h => ?_
  unfold TilesPost at h
  rw [hk, hb] at h
  exact h
theorem rightI (x y w h : Int) (hx : -10 ≤ x ∧ x ≤ 100000) (hy : -10 ≤ y ∧ y ≤ 100000) (hw : 0 ≤ w ∧ w ≤ 100000) (hh : 0 ≤ h ∧ h ≤ 100000) : rightB ⟨x, y, w, h⟩ = true := by
  rw [rightB_iff]; dsimp only; omega
theorem own_none {X : World} {base e k : Nat} {v : Value} {xs : List Value} (h : X.ownsRow base e 4 v k xs) : ∀ n c, v = .slice none n c → n = 0 ∧ c = 0 := by
  intro n c he
  rcases h.2 with ⟨e1, _⟩ | ⟨g, cap, cur, e1, _⟩
  · rw [e1] at he; injection he with h1 h2 h3; omega
  · rw [e1] at he; injection he with h1; cases h1
theorem cell_rects {X : World} {b : Nat} {L : List R} {k : Nat} {q : R} (hc : ∀ j u, (L.flatMap R.cells)[j]? = some u → X.cell? ⟨b, j, none⟩ = some u) (hq : L[k]? = some q) :
    X.cell? ⟨b, k * 4, none⟩ = some (.int .i64 q.x) ∧ X.cell? ⟨b, k * 4 + 1, none⟩ = some (.int .i64 q.y) ∧ X.cell? ⟨b, k * 4 + 2, none⟩ = some (.int .i64 q.w) ∧ X.cell? ⟨b, k * 4 + 3, none⟩ = some (.int .i64 q.h) := by
  have key : ∀ i u, q.cells[i]? = some u → (L.flatMap R.cells)[k * 4 + i]? = some u := fun i u hu => by
    have hk := (List.getElem?_eq_some_iff.1 hq).1
    have h1 : (L.drop k).flatMap R.cells = q.cells ++ (L.drop (k + 1)).flatMap R.cells := by
      rw [List.drop_eq_getElem_cons hk, List.flatMap_cons, (List.getElem?_eq_some_iff.1 hq).2]
    rw [flat_drop] at h1
    have h2 : ((L.flatMap R.cells).drop (k * 4))[i]? = some u := by
      rw [h1, List.getElem?_append_left (List.getElem?_eq_some_iff.1 hu).1]; exact hu
    rwa [List.getElem?_drop] at h2
  exact ⟨hc _ _ (key 0 _ rfl), hc _ _ (key 1 _ rfl), hc _ _ (key 2 _ rfl), hc _ _ (key 3 _ rfl)⟩
set_option maxRecDepth 100000 in
set_option maxHeartbeats 4000000 in
theorem grids_all (a0 : Option Addr) (len0 cap0 : Nat) (za : List Int) (a1 : Option Addr) (len1 cap1 : Nat) (zb : List Int) (which : Int) (hwf : (Lit.int .i64 which).wf = true) (w : World) (hA : Ints w (.slice a0 len0 cap0) za) (hza : za.length = len0) (hca : len0 ≤ cap0) (hma : cap0 ≤ 9223372036854775807) (hB : Ints w (.slice a1 len1 cap1) zb) (hzb : zb.length = len1) (hcb : len1 ≤ cap1) (hmb : cap1 ≤ 9223372036854775807) (ma mb : Nat) (hmn0 : min (len0 : Int) 8 = (ma : Int)) (hmn1 : min (len1 : Int) 8 = (mb : Int)) :
    Calls Try.prog 4 #[.slice a0 len0 cap0, .slice a1 len1 cap1, .int .i64 which] w fun e w' => e = .returned (.bool true) ∧ Below w.heap.size w w' := by
  have hma8 : ma ≤ 8 ∧ ma ≤ len0 := by omega
  have hmb8 : mb ≤ 8 ∧ mb ≤ len1 := by omega
  have HA := Lib.hid (ints_takeR hA hza ma (by omega))
  have HB := Lib.hid (ints_takeR hB hzb mb (by omega))
  obtain ⟨ya, hya⟩ : ∃ ya, za.take ma = ya := ⟨_, rfl⟩
  obtain ⟨yb, hyb⟩ : ∃ yb, zb.take mb = yb := ⟨_, rfl⟩
  have HLA : Hid (ya.length = ma) := Lib.hid (by rw [← hya, List.length_take]; omega)
  have HLB : Hid (yb.length = mb) := Lib.hid (by rw [← hyb, List.length_take]; omega)
  rw [hya] at HA
  rw [hyb] at HB
  have SH := Lib.hid (fun X => shown_any X)
  obtain ⟨i0, hi0, hz0, hz1, hz2⟩ := info_parts Try.infoR
  have HZ0 := Lib.hid hz0
  have HZ1 := Lib.hid hz1
  have HZ2 := Lib.hid hz2
  have HSA := Lib.hid (sum_in (l := ya.map bandP) band_in)
  have HSB := Lib.hid (sum_in (l := yb.map bandP) band_in)
  rw [List.length_map, HLA.out] at HSA
  rw [List.length_map, HLB.out] at HSB
  have HIA : Hid (∀ k, ((ya.map bandP).take k).sum ≤ 8000 ∧ 0 ≤ ((ya.map bandP).take k).sum) := Lib.hid fun k => by
    have h := sum_in (l := (ya.map bandP).take k) (fun n hn => band_in n (List.mem_of_mem_take hn))
    have h2 : ((ya.map bandP).take k).length ≤ ma := by rw [List.length_take, List.length_map, HLA.out]; omega
    omega
  have HIB : Hid (∀ k, ((yb.map bandP).take k).sum ≤ 8000 ∧ 0 ≤ ((yb.map bandP).take k).sum) := Lib.hid fun k => by
    have h := sum_in (l := (yb.map bandP).take k) (fun n hn => band_in n (List.mem_of_mem_take hn))
    have h2 : ((yb.map bandP).take k).length ≤ mb := by rw [List.length_take, List.length_map, HLB.out]; omega
    omega
  have hwf2 : -9223372036854775808 ≤ which ∧ which ≤ 9223372036854775807 := by
    have h' : (decide (-9223372036854775808 ≤ which) && decide (which ≤ 9223372036854775807)) = true := hwf
    simp at h'
    exact h'
  clear hA hB hza hzb hya hyb hz0 hz1 hz2 hwf
  go_enter Try.func4, Try.ntmps4
  go_wp2_with (go_at_call 5; refine (SH.out _).mono ?_; clear SH; rintro e w1 ⟨rfl, hb1⟩; have HB1 := Lib.hid hb1; clear hb1)
  clear hmn0 hmn1
  go_loopw [11, 8, 9, 10] (fun s11 s8 s9 s10 X => ∃ (i : Nat) (ys ws : Int), i ≤ mb ∧ s11 = .int .i64 (i : Int) ∧ s9 = .int .i64 ys ∧ s10 = .int .i64 ws ∧ (5 ≤ ys ∧ ys ≤ 9000) ∧ (0 ≤ ws ∧ ws ≤ 9000) ∧ Hid (ys = 5 + ((yb.map bandP).take i).sum) ∧ Hid (ws = if i = 0 then 0 else (ya.map bandP).sum) ∧ Hid (GW w s8 (gridR (-7) 5 (ya.map bandP) ((yb.map bandP).take i)) X)) (fun s11 _ _ _ _ => mb - (intOf s11).toNat)
  case atStart => exact ⟨0, 5, 0, Nat.zero_le _, rfl, rfl, rfl, by omega, by omega, Lib.hid (by simp), Lib.hid (by simp), Lib.hid (GW.nil w _ HB1.out)⟩
  case round =>
    clear HB1
    obtain ⟨i, ys, ws, hi, rfl, rfl, rfl, hys, hws, HY, HW, HG⟩ := hrel
    by_cases hlt : i < mb
    · obtain ⟨z, hz⟩ : ∃ z, yb[i]? = some z := ⟨_, List.getElem?_eq_getElem (by rw [HLB.out]; exact hlt)⟩
      obtain ⟨bb, ob, hpb, lbb, cbb⟩ := ints_cellR HB.out i z hz
      subst hpb
      obtain ⟨zu, t, hzu, hzt, hu0, ht0, ht1, htw, hbz⟩ := band_facts z
      have lw := HG.out.lo.size
      have e0 := (HG.out.lo.cell (p := ⟨bb, ob + i, none⟩) lbb).trans cbb
      have lbb1 : bb < wr.heap.size := by omega
      have HTS := Lib.hid (take_snoc hz)
      rw [hbz] at HTS
      have HIN := Lib.hid (HIB.out (i + 1))
      rw [HTS.out, List.sum_append] at HIN
      have hyn : ys + (1 + t) ≤ 9000 := by have h1 := HIN.out.1; have h2 := HY.out; simp only [List.sum_cons, List.sum_nil] at h1; omega
      have HG0 : Hid (GW w u8 (gridR (-7) 5 (ya.map bandP) ((yb.map bandP).take i) ++ rowR (-7) ys (1 + t) ((ya.map bandP).take 0)) wr) := Lib.hid (by rw [List.take_zero, rowR, List.append_nil]; exact HG.out)
      clear hz cbb hbz lw HG
      go_wp2
      clear e0 lbb1
      go_loopw [14, 8, 13] (fun s14 s8 s13 X => ∃ (k : Nat) (xs : Int), k ≤ ma ∧ s14 = .int .i64 (k : Int) ∧ s13 = .int .i64 xs ∧ (-7 ≤ xs ∧ xs ≤ 8500) ∧ Hid (xs = -7 + ((ya.map bandP).take k).sum) ∧ Hid (GW w s8 (gridR (-7) 5 (ya.map bandP) ((yb.map bandP).take i) ++ rowR (-7) ys (1 + t) ((ya.map bandP).take k)) X)) (fun s14 _ _ _ => ma - (intOf s14).toNat)
      case atStart => exact ⟨0, -7, Nat.zero_le _, rfl, rfl, by omega, Lib.hid (by simp), HG0⟩
      case round =>
        clear HG0
        obtain ⟨k, xs, hk, rfl, rfl, hxs, HX, HG⟩ := hrel
        by_cases hlk : k < ma
        · obtain ⟨z2, hz2⟩ : ∃ z2, ya[k]? = some z2 := ⟨_, List.getElem?_eq_getElem (by rw [HLA.out]; exact hlk)⟩
          obtain ⟨ba, oa, hpa, lba, cba⟩ := ints_cellR HA.out k z2 hz2
          subst hpa
          obtain ⟨zu2, t2, hzu2, hzt2, hu02, ht02, ht12, htw2, hbz2⟩ := band_facts z2
          have lw := HG.out.lo.size
          have e0 := (HG.out.lo.cell (p := ⟨ba, oa + k, none⟩) lba).trans cba
          have lba1 : ba < wr.heap.size := by omega
          have HTS2 := Lib.hid (take_snoc hz2)
          rw [hbz2] at HTS2
          have HIN2 := Lib.hid (HIA.out (k + 1))
          rw [HTS2.out, List.sum_append] at HIN2
          have hxn : xs + (1 + t2) ≤ 8500 := by have h1 := HIN2.out.1; have h2 := HX.out; simp only [List.sum_cons, List.sum_nil] at h1; omega
          obtain ⟨p8, n8, c8, rfl⟩ := own_slice HG.out.ow
          have HOW := Lib.hid HG.out.ow
          have HPUT := Lib.hid (fun (Y : World) (v' : Value) ho hg => GW.push (Y := Y) (v' := v') (q := ⟨xs, ys, 1 + t2, 1 + t⟩) (o := .cells #[.int .i64 xs, .int .i64 ys, .int .i64 (1 + t2), .int .i64 (1 + t)] 23) HG.out ho hg)
          have hlen : (gridR (-7) 5 (ya.map bandP) ((yb.map bandP).take i) ++ rowR (-7) ys (1 + t) ((ya.map bandP).take k)).length ≤ 200 := by
            rw [List.length_append, grid_len, row_len, List.length_map, List.length_take, List.length_take, List.length_map, List.length_map, HLA.out, HLB.out]
            have h1 : min i mb ≤ 8 := by omega
            have h2 : min k ma ≤ 8 := by omega
            have h3 : ma * min i mb ≤ 8 * 8 := Nat.mul_le_mul (by omega) h1
            omega
          have t1 : ∀ u ∈ [Value.int .i64 xs, Value.int .i64 ys, Value.int .i64 (1 + t2), Value.int .i64 (1 + t)], u.oneCell' = true := by simp [Value.oneCell']
          have t3 : (gridR (-7) 5 (ya.map bandP) ((yb.map bandP).take i) ++ rowR (-7) ys (1 + t) ((ya.map bandP).take k)).length + 1 ≤ maxLen := by unfold maxLen; omega
          have t4 : ((gridR (-7) 5 (ya.map bandP) ((yb.map bandP).take i) ++ rowR (-7) ys (1 + t) ((ya.map bandP).take k)).length + 1) * 32 ≤ 140737488355328 := by omega
          have t5 : w.heap.size ≤ (wr.alloc (.cells #[.int .i64 xs, .int .i64 ys, .int .i64 (1 + t2), .int .i64 (1 + t)] 23)).heap.size := by simp <;> omega
          clear hz2 cba hbz2 lw HG hlen
          go_wp2_with (at_builtin; refine wpList_append_own_at _ rfl _ _ 24 rfl w.heap.size 23 i0 (.agg #[.int .i64 0, .int .i64 0, .int .i64 0, .int .i64 0]) 4 32 Try.underlying24 hi0 HZ0.out HZ1.out HZ2.out rfl (by decide) (.slice p8 n8 c8) _ _ rfl (own_later HOW.out ((Below.refl _ _).alloc (Nat.le_refl _) _)) ⟨wr.heap.size, 0, none⟩ 1 1 [.int .i64 xs, .int .i64 ys, .int .i64 (1 + t2), .int .i64 (1 + t)] rfl rfl (fun j u hu => by rw [add_plain, Nat.zero_add]; exact ((whole_new wr [.int .i64 xs, .int .i64 ys, .int .i64 (1 + t2), .int .i64 (1 + t)] 23 _ rfl).cellAt j).trans hu) t1 t3 t4 t5 ?_; intro v9 w9 hown9 hgrow9 _ _; have HO9 := Lib.hid (HPUT.out w9 _ hown9 hgrow9); clear hown9 hgrow9 HPUT HOW)
          have HX2 : Hid (xs + (1 + t2) = -7 + ((ya.map bandP).take (k + 1)).sum) := Lib.hid (by rw [HTS2.out, List.sum_append, HX.out]; simp; omega)
          have HG2 : Hid (GW w v9 (gridR (-7) 5 (ya.map bandP) ((yb.map bandP).take i) ++ rowR (-7) ys (1 + t) ((ya.map bandP).take (k + 1))) w9) := Lib.hid (by
            have h := HO9.out
            rw [HTS2.out, row_snoc, ← List.append_assoc, ← HX.out]
            exact h)
          clear HX HO9 HTS2 HIN2
          go_roundw
          case rel => exact ⟨k + 1, xs + (1 + t2), by omega, by go_num, by go_num, by omega, HX2, HG2⟩
          case measure => simp [intOf]; omega
        · have hka : k = ma := by omega
          have HTA : Hid ((ya.map bandP).take k = ya.map bandP) := Lib.hid (List.take_of_length_le (by rw [List.length_map, HLA.out]; omega))
          rw [HTA.out] at HX HG
          have HY2 : Hid (ys + (1 + t) = 5 + ((yb.map bandP).take (i + 1)).sum) := Lib.hid (by rw [HTS.out, List.sum_append, HY.out]; simp; omega)
          have HW2 : Hid (xs + 7 = if i + 1 = 0 then 0 else (ya.map bandP).sum) := Lib.hid (by rw [if_neg (Nat.succ_ne_zero i), HX.out]; omega)
          have HG2 : Hid (GW w u8 (gridR (-7) 5 (ya.map bandP) ((yb.map bandP).take (i + 1))) wr) := Lib.hid (by
            rw [HTS.out, grid_snoc, ← HY.out]
            exact HG.out)
          clear hka HTA HX HG HY HW HTS HIN
          go_wp2
          go_roundw
          case rel => exact ⟨i + 1, ys + (1 + t), xs + 7, by omega, by go_num, by go_num, by go_num, by omega, by omega, HY2, HW2, HG2⟩
          case measure => simp [intOf]; omega
    · have hib : i = mb := by omega
      have HTB : Hid ((yb.map bandP).take i = yb.map bandP) := Lib.hid (List.take_of_length_le (by rw [List.length_map, HLB.out]; omega))
      rw [HTB.out] at HY HG
      obtain ⟨hs, hhs⟩ : ∃ hs, ys - 5 = hs := ⟨_, rfl⟩
      have hhs0 : 0 ≤ hs ∧ hs ≤ 9000 := by omega
      have HHS : Hid (hs = (yb.map bandP).sum) := Lib.hid (by rw [← hhs, HY.out]; omega)
      obtain ⟨L, hL⟩ : ∃ L, gridR (-7) 5 (ya.map bandP) (yb.map bandP) = L := ⟨_, rfl⟩
      rw [hL] at HG
      have hlen : L.length = ma * mb := by rw [← hL, grid_len, List.length_map, List.length_map, HLA.out, HLB.out]
      have hlen64 : L.length ≤ 64 := by rw [hlen]; exact Nat.le_trans (Nat.mul_le_mul (show ma ≤ 8 by omega) (show mb ≤ 8 by omega)) (by omega)
      have HAL : Hid (∀ q ∈ L, rightB q = true) := Lib.hid (fun q hq => by
        rw [← hL] at hq
        have h := grid_in (-7) 5 (ya.map bandP) (yb.map bandP) (fun n hn => (band_in n hn).1) (fun n hn => (band_in n hn).1) q hq
        have h1 := HSA.out
        have h2 := HSB.out
        obtain ⟨q1, q2, q3, q4⟩ := q
        dsimp only at h
        exact rightI q1 q2 q3 q4 (by omega) (by omega) (by omega) (by omega))
      have HPOS : Hid (∀ q ∈ L, 1 ≤ q.w ∧ 1 ≤ q.h) := Lib.hid (fun q hq => by
        rw [← hL] at hq
        have h := grid_in (-7) 5 (ya.map bandP) (yb.map bandP) (fun n hn => (band_in n hn).1) (fun n hn => (band_in n hn).1) q hq
        omega)
      have HRR : Hid (rightB ⟨-7, 5, ws, hs⟩ = true) := Lib.hid (rightI _ _ _ _ (by omega) (by omega) (by omega) (by omega))
      have HTT : Hid (tilesB ⟨-7, 5, ws, hs⟩ L = true) := Lib.hid (by
        by_cases h0 : i = 0
        · have hn : L = [] := List.length_eq_zero_iff.1 (by rw [hlen, ← hib, h0, Nat.mul_zero])
          rw [hn, tiles_none _ HRR.out]
          have := HW.out
          rw [if_pos h0] at this
          simp [this]
        · have h1 := HW.out
          rw [if_neg h0] at h1
          rw [h1, HHS.out, ← hL]
          refine grid_tiles (-7) 5 _ _ (fun n hn => (band_in n hn).1) (fun n hn => (band_in n hn).1) ?_ ?_ ?_
          · rw [← grid_len (-7) 5, hL]; omega
          · rw [← h1, ← HHS.out]; exact HRR.out
          · rw [hL]; exact HAL.out)
      obtain ⟨nL, hnL⟩ : ∃ nL, L.length = nL := ⟨_, rfl⟩
      have HLN := Lib.hid hnL
      obtain ⟨p8, c8, hv8, hp8, hc8⟩ := HG.out.form
      rw [hnL] at hv8 hp8 hc8 hlen64
      subst hv8
      have HTI := Lib.hid (fun X (hX : Below wr.heap.size wr X) => gtiles_is (-7) 5 ws hs (.slice p8 nL c8) L X (own_rects (own_later HG.out.ow hX)) (own_none HG.out.ow) (by omega) HRR.out HAL.out true HTT.out)
      have HL0 := Lib.hid hL
      have hyw : IntKind.i64.wrap (ys - 5) = hs := by rw [← hhs]; simp [IntKind.wrap, IntKind.bits, IntKind.signed]; omega
      have HC8 := Lib.hid hc8
      have HP8 := Lib.hid hp8
      clear hib HTB HY HW hL hlen hnL hp8 hi hc8
      go_wp2_with fail
      have kr := whole_new wr [.int .i64 (-7), .int .i64 5, .int .i64 ws, .int .i64 hs] 23 _ rfl
      have bW : Below wr.heap.size wr (wr.alloc (.cells #[.int .i64 (-7), .int .i64 5, .int .i64 ws, .int .i64 hs] 23)) := (Below.refl _ _).alloc (Nat.le_refl _) _
      refine (HTI.out _ bW).mono ?_
      rintro e w3 ⟨rfl, hb3⟩
      have HGW := Lib.hid ((HG.out.below bW).below hb3)
      have HKR := Lib.hid (kr.below hb3 kr.lt)
      clear hb3 kr bW HTI HG
      generalize wr.heap.size = rb at HKR ⊢
      have HWR := Lib.hid HGW.out.lo
      generalize w3 = wr at HGW HKR HWR ⊢
      by_cases hn0 : nL = 0
      · subst hn0
        clear HGW HKR
        go_wp2
        go_ret
        exact ⟨rfl, HWR.out⟩
      · obtain ⟨lb, hlb, llb, hLC⟩ := HGW.out.cell (by rw [HLN.out]; omega)
        subst hlb
        obtain ⟨wu, hwu⟩ : ∃ wu, IntKind.u64.wrap which = wu := ⟨_, rfl⟩
        have hwu0 : 0 ≤ wu := by rw [← hwu]; simp [IntKind.wrap, IntKind.bits, IntKind.signed]; omega
        obtain ⟨at_, hat⟩ := Int.eq_ofNat_of_zero_le (Int.tmod_nonneg (nL : Int) hwu0)
        have hatl : at_ < nL := by have := Int.tmod_lt_of_pos wu (show (0 : Int) < (nL : Int) by omega); omega
        have hat64 : at_ ≤ 64 := by omega
        have hwat : IntKind.i64.wrap ((at_ : Int) + 1) = (at_ : Int) + 1 := by simp [IntKind.wrap, IntKind.bits, IntKind.signed]; omega
        obtain ⟨q, hq⟩ : ∃ q, L[at_]? = some q := ⟨_, List.getElem?_eq_getElem (by rw [HLN.out]; exact hatl)⟩
        have hqm : q ∈ L := List.mem_iff_getElem?.2 ⟨at_, hq⟩
        obtain ⟨k0, k1, k2, k3⟩ := cell_rects hLC hq
        have HLESS : Hid (tilesB ⟨-7, 5, ws, hs⟩ (L.take at_ ++ L.drop (at_ + 1)) = false) := Lib.hid (tiles_less _ L at_ (by rw [HLN.out]; exact hatl) (by rw [HLN.out]; omega) HRR.out HAL.out HTT.out (by rw [(List.getElem?_eq_some_iff.1 hq).2]; exact HPOS.out q hqm))
        have HMORE : Hid (tilesB ⟨-7, 5, ws, hs⟩ (L ++ [q]) = false) := Lib.hid (by
          have h := tiles_more ⟨-7, 5, ws, hs⟩ L at_ (by rw [HLN.out]; exact hatl) (by rw [HLN.out]; omega) HRR.out HAL.out HTT.out (by rw [(List.getElem?_eq_some_iff.1 hq).2]; exact HPOS.out q hqm)
          rwa [(List.getElem?_eq_some_iff.1 hq).2] at h)
        have HLQ := Lib.hid hq
        have hc8 := HC8.out
        obtain ⟨a3, hA3v, hA3⟩ : ∃ a3 : Addr, (if c8 = at_ + 1 then some (⟨lb, 0, none⟩ : Addr) else (some (⟨lb, 0, none⟩ : Addr)).map (·.add ((at_ + 1) * 4))) = some a3 ∧ ∀ j u, ((L.drop (at_ + 1)).flatMap R.cells)[j]? = some u → a3.add j = ⟨lb, (at_ + 1) * 4 + j, none⟩ ∧ (L.flatMap R.cells)[(at_ + 1) * 4 + j]? = some u := by
          by_cases hc : c8 = at_ + 1
          · refine ⟨⟨lb, 0, none⟩, by rw [if_pos hc], fun j u hu => ?_⟩
            have hl := (List.getElem?_eq_some_iff.1 hu).1
            rw [flat_len, List.length_drop, HLN.out] at hl
            omega
          · refine ⟨(⟨lb, 0, none⟩ : Addr).add ((at_ + 1) * 4), by rw [if_neg hc]; rfl, fun j u hu => ⟨?_, ?_⟩⟩
            · rw [add_at, Nat.zero_add]
            · rwa [flat_drop, List.getElem?_drop] at hu
        have HA3 := Lib.hid hA3
        obtain ⟨qx, qy, qw, qh⟩ := q
        dsimp only at k0 k1 k2 k3
        have r0 : wr.cell? ⟨rb, 0, none⟩ = some (.int .i64 (-7)) := HKR.out.cellAt 0
        have r1 : wr.cell? ⟨rb, 1, none⟩ = some (.int .i64 5) := HKR.out.cellAt 1
        have r2 : wr.cell? ⟨rb, 2, none⟩ = some (.int .i64 ws) := HKR.out.cellAt 2
        have r3 : wr.cell? ⟨rb, 3, none⟩ = some (.int .i64 hs) := HKR.out.cellAt 3
        have lrb := HKR.out.lt
        clear hq hqm hA3 HGW HKR
        go_wp2
        refine region_held_at (S := fun X => Hid (Below wr.heap.size wr X)) (by kernel_rfl) (fun w9 hw9 => ?_)
        have SV : Hid (Below wr.heap.size wr w9) := Lib.hid (by rw [← hw9]; exact (Below.refl _ _).drew)
        clear hw9
        try simp only [Act.put, List.setIfInBounds_toArray, List.set_cons_succ, List.set_cons_zero]
        refine wpAnyH_takeD (i := 0) (v := .agg #[.int .i64 (-7), .int .i64 5, .int .i64 ws, .int .i64 hs]) (some 108) rfl rfl (by kernel_rfl) (by kernel_rfl) (by kernel_rfl) (fun _ _ _ h => h) (Or.inl ⟨by rfl, ?_⟩) SV ?_
        · intro X hX; have o0 := (hX.out.cell (p := ⟨rb, 0, none⟩) lrb).trans r0; have o1 := (hX.out.cell (p := ⟨rb, 1, none⟩) lrb).trans r1; have o2 := (hX.out.cell (p := ⟨rb, 2, none⟩) lrb).trans r2; have o3 := (hX.out.cell (p := ⟨rb, 3, none⟩) lrb).trans r3; go_simp
        try simp only [Act.put, List.setIfInBounds_toArray, List.set_cons_succ, List.set_cons_zero]
        refine wpAnyH_takeD (i := 2) (v := .slice (some ⟨lb, 0, none⟩) nL c8) (some 110) rfl rfl (by kernel_rfl) (by kernel_rfl) (by kernel_rfl) (fun _ _ _ h => h) (Or.inl ⟨by rfl, ?_⟩) SV ?_
        · intro X hX; go_simp
        try simp only [Act.put, List.setIfInBounds_toArray, List.set_cons_succ, List.set_cons_zero]
        refine wpAnyH_takeD (i := 3) (v := .int .i64 at_) (some 111) rfl rfl (by kernel_rfl) (by kernel_rfl) (by kernel_rfl) (fun _ _ _ h => h) (Or.inl ⟨by rfl, ?_⟩) SV ?_
        · intro X hX; go_simp
        try simp only [Act.put, List.setIfInBounds_toArray, List.set_cons_succ, List.set_cons_zero]
        refine wpAnyH_takeD (i := 4) (v := .slice (some ⟨lb, 0, none⟩) at_ c8) (some 112) rfl rfl (by kernel_rfl) (by kernel_rfl) (by kernel_rfl) (fun _ _ _ h => h) (Or.inl ⟨by rfl, ?_⟩) SV ?_
        · intro X hX; exact exec_sliceR_h 24 _ _ rfl 23 Try.underlying24 (by kernel_rfl) _ nL c8 at_ rfl rfl (by omega)
        try simp only [Act.put, List.setIfInBounds_toArray, List.set_cons_succ, List.set_cons_zero]
        refine wpAnyH_takeD (i := 6) (v := .slice (some ⟨lb, 0, none⟩) nL c8) (some 114) rfl rfl (by kernel_rfl) (by kernel_rfl) (by kernel_rfl) (fun _ _ _ h => h) (Or.inl ⟨by rfl, ?_⟩) SV ?_
        · intro X hX; go_simp
        try simp only [Act.put, List.setIfInBounds_toArray, List.set_cons_succ, List.set_cons_zero]
        refine wpAnyH_takeD (i := 7) (v := .int .i64 at_) (some 115) rfl rfl (by kernel_rfl) (by kernel_rfl) (by kernel_rfl) (fun _ _ _ h => h) (Or.inl ⟨by rfl, ?_⟩) SV ?_
        · intro X hX; go_simp
        try simp only [Act.put, List.setIfInBounds_toArray, List.set_cons_succ, List.set_cons_zero]
        refine wpAnyH_takeD (i := 8) (v := .int .i64 ((at_ : Int) + 1)) (some 116) rfl rfl (by kernel_rfl) (by kernel_rfl) (by kernel_rfl) (fun _ _ _ h => h) (Or.inl ⟨by rfl, ?_⟩) SV ?_
        · intro X hX; go_simp
        try simp only [Act.put, List.setIfInBounds_toArray, List.set_cons_succ, List.set_cons_zero]
        refine wpAnyH_takeD (i := 9) (v := .slice (some a3) (nL - (at_ + 1)) (c8 - (at_ + 1))) (some 117) rfl rfl (by kernel_rfl) (by kernel_rfl) (by kernel_rfl) (fun _ _ _ h => h) (Or.inl ⟨by rfl, ?_⟩) SV ?_
        · intro X hX; rw [← hA3v]; exact exec_sliceR_l 24 _ _ rfl 23 Try.underlying24 (by kernel_rfl) (some ⟨lb, 0, none⟩) nL c8 (at_ + 1) rfl (by simp [Act.eval, go_sem]) (by omega)
        try simp only [Act.put, List.setIfInBounds_toArray, List.set_cons_succ, List.set_cons_zero]
        refine wpAnyH_all (rs := [1]) (by kernel_rfl) (by simp) ?_
        intro ii hii; obtain rfl : ii = 1 := by simpa using hii
        obtain ⟨csa, hcsa, hmka⟩ := make_rects 64 (by omega) w9
        rw [show ((64 : Nat) : Int) = 64 from rfl] at hmka
        have owna := made_own (base := wr.heap.size) hcsa (by omega) SV.out.size
        refine wpOp_step rfl (fun K hK => ?_)
        go_simp
        have SVn : Hid (Below wr.heap.size wr (w9.alloc (.cells csa 23))) := Lib.hid (SV.out.alloc SV.out.size _)
        refine hK _ _ ⟨SVn, ?_⟩
        clear hK K hii SV hmka hcsa
        have SV := SVn
        clear SVn
        generalize w9.heap.size = ga at owna ⊢
        generalize w9.alloc (.cells csa 23) = Xa at owna SV ⊢
        try simp only [Act.put, List.setIfInBounds_toArray, List.set_cons_succ, List.set_cons_zero]
        refine wpAnyH_all (rs := [5]) (by kernel_rfl) (by simp) ?_
        intro ii hii; obtain rfl : ii = 5 := by simpa using hii
        have hszb := SV.out.size
        obtain ⟨vb, Xb, hrb, ownb, hgb⟩ := app_rects (M := L.take at_) (m := at_) owna (by have hln := HLN.out; first | rfl | (simp; done) | (simp; omega) | omega) (fun j u hu => by rw [add_plain, Nat.zero_add]; refine (SV.out.cell (p := ⟨lb, j, none⟩) llb).trans (hLC j u ?_); rw [flat_take] at hu; have hj := (List.getElem?_eq_some_iff.1 hu).1; rw [List.length_take] at hj; rwa [List.getElem?_take_of_lt (by omega)] at hu) (by have hln := HLN.out; first | rfl | (simp; done) | (simp; omega) | omega) hszb
        have SVn : Hid (Below wr.heap.size wr Xb) := Lib.hid (own_below SV.out owna (Nat.le_refl _) hgb hszb)
        refine wpOp_step rfl (fun K hK => ?_)
        refine wp_append_runD (some 113) rfl _ _ _ rfl _ _ _ rfl rfl hrb ?_
        refine hK _ _ ⟨SVn, ?_⟩
        clear hK K hii SV hrb hgb hszb
        have SV := SVn
        clear SVn
        try simp only [Act.put, List.setIfInBounds_toArray, List.set_cons_succ, List.set_cons_zero]
        refine wpAnyH_all (rs := [10]) (by kernel_rfl) (by simp) ?_
        intro ii hii; obtain rfl : ii = 10 := by simpa using hii
        have hszc := SV.out.size
        obtain ⟨vc, Xc, hrc, ownc, hgc⟩ := app_rects (M := L.drop (at_ + 1)) (m := nL - (at_ + 1)) ownb (by have hln := HLN.out; first | rfl | (simp; done) | (simp; omega) | omega) (fun j u hu => by obtain ⟨e1, e2⟩ := HA3.out j u hu; rw [e1]; exact (SV.out.cell (p := ⟨lb, (at_ + 1) * 4 + j, none⟩) llb).trans (hLC _ u e2)) (by have hln := HLN.out; first | rfl | (simp; done) | (simp; omega) | omega) hszc
        have SVn : Hid (Below wr.heap.size wr Xc) := Lib.hid (own_below SV.out ownb (Nat.le_refl _) hgc hszc)
        refine wpOp_step rfl (fun K hK => ?_)
        refine wp_append_runD (some 118) rfl _ _ _ rfl _ _ _ rfl rfl hrc ?_
        refine hK _ _ ⟨SVn, ?_⟩
        clear hK K hii SV hrc hgc hszc
        have SV := SVn
        clear SVn
        try simp only [Act.put, List.setIfInBounds_toArray, List.set_cons_succ, List.set_cons_zero]
        have hId := own_rects ownc
        have hTd := gtiles_is (-7) 5 ws hs _ (([] ++ L.take at_) ++ L.drop (at_ + 1)) _ hId (own_none ownc) (by rw [List.nil_append, List.length_append, List.length_take, List.length_drop, HLN.out]; omega) HRR.out (fun q hq => HAL.out q (by rw [List.nil_append] at hq; rcases List.mem_append.1 hq with h | h; exact List.mem_of_mem_take h; exact List.mem_of_mem_drop h)) false (HLESS.out)
        clear hId
        refine wpAnyH_all (rs := [11]) (by kernel_rfl) (by simp) ?_
        intro ii hii; obtain rfl : ii = 11 := by simpa using hii
        refine wpOp_step rfl (fun K hK => ?_)
        go_simp
        refine hTd.mono ?_
        rintro e Yd ⟨rfl, hbY⟩
        have SVn : Hid (Below wr.heap.size wr Yd) := Lib.hid (SV.out.trans (hbY.mono SV.out.size))
        refine hK _ _ ⟨SVn, ?_⟩
        clear hK K hii SV hbY hTd ownc
        have SV := SVn
        clear SVn
        try simp only [Act.put, List.setIfInBounds_toArray, List.set_cons_succ, List.set_cons_zero]
        refine wpAnyH_takeD (i := 12) (v := .tuple #[.bool false, .int .i64 0]) (some 107) rfl rfl (by kernel_rfl) (by kernel_rfl) (by kernel_rfl) (fun _ _ _ h => h) (Or.inl ⟨by rfl, ?_⟩) SV ?_
        · intro X hX; go_simp
        try simp only [Act.put, List.setIfInBounds_toArray, List.set_cons_succ, List.set_cons_zero]
        refine wpAnyH_takeD (i := 13) (v := .bool false) (some 120) rfl rfl (by kernel_rfl) (by kernel_rfl) (by kernel_rfl) (fun _ _ _ h => h) (Or.inl ⟨by rfl, ?_⟩) SV ?_
        · intro X hX; go_simp
        try simp only [Act.put, List.setIfInBounds_toArray, List.set_cons_succ, List.set_cons_zero]
        refine wpAnyH_takeD (i := 14) (v := .int .i64 0) (some 121) rfl rfl (by kernel_rfl) (by kernel_rfl) (by kernel_rfl) (fun _ _ _ h => h) (Or.inl ⟨by rfl, ?_⟩) SV ?_
        · intro X hX; go_simp
        try simp only [Act.put, List.setIfInBounds_toArray, List.set_cons_succ, List.set_cons_zero]
        refine wpAnyH_takeD (i := 15) (v := .bool false) (some 20) rfl rfl (by kernel_rfl) (by kernel_rfl) (by kernel_rfl) (fun _ _ _ h => h) (Or.inl ⟨by rfl, ?_⟩) SV ?_
        · intro X hX; go_simp
        try simp only [Act.put, List.setIfInBounds_toArray, List.set_cons_succ, List.set_cons_zero]
        refine wpAnyH_takeD (i := 16) (v := .int .i64 0) (some 21) rfl rfl (by kernel_rfl) (by kernel_rfl) (by kernel_rfl) (fun _ _ _ h => h) (Or.inl ⟨by rfl, ?_⟩) SV ?_
        · intro X hX; go_simp
        try simp only [Act.put, List.setIfInBounds_toArray, List.set_cons_succ, List.set_cons_zero]
        refine wpAnyH_done (by kernel_rfl) ?_ _
        refine at_worldQ (fun Y => Below wr.heap.size wr Y) SV.out (fun Y SY => ?_)
        have hLC2 := fun j u hu => (SY.cell (p := ⟨lb, j, none⟩) llb).trans (hLC j u hu)
        have llb2 : lb < Y.heap.size := by have := SY.size; omega
        have lrb2 : rb < Y.heap.size := by have := SY.size; omega
        have r02 := (SY.cell (p := ⟨rb, 0, none⟩) lrb).trans r0
        have r12 := (SY.cell (p := ⟨rb, 1, none⟩) lrb).trans r1
        have r22 := (SY.cell (p := ⟨rb, 2, none⟩) lrb).trans r2
        have r32 := (SY.cell (p := ⟨rb, 3, none⟩) lrb).trans r3
        have k02 := (SY.cell (p := ⟨lb, at_ * 4, none⟩) llb).trans k0
        have k12 := (SY.cell (p := ⟨lb, at_ * 4 + 1, none⟩) llb).trans k1
        have k22 := (SY.cell (p := ⟨lb, at_ * 4 + 2, none⟩) llb).trans k2
        have k32 := (SY.cell (p := ⟨lb, at_ * 4 + 3, none⟩) llb).trans k3
        have HWR2 := Lib.hid (HWR.out.trans (SY.mono HWR.out.size))
        clear SY SV hLC llb lrb r0 r1 r2 r3 k0 k1 k2 k3 HWR
        have hLC := hLC2
        have llb := llb2
        have lrb := lrb2
        have r0 := r02
        have r1 := r12
        have r2 := r22
        have r3 := r32
        have k0 := k02
        have k1 := k12
        have k2 := k22
        have k3 := k32
        have HWR := HWR2
        clear hLC2 llb2 lrb2 r02 r12 r22 r32 k02 k12 k22 k32 HWR2
        generalize Y = wr at *
        go_wp2
        refine region_held_at (S := fun X => Hid (Below wr.heap.size wr X)) (by kernel_rfl) (fun w9 hw9 => ?_)
        have SV : Hid (Below wr.heap.size wr w9) := Lib.hid (by rw [← hw9]; exact (Below.refl _ _).drew)
        clear hw9
        try simp only [Act.put, List.setIfInBounds_toArray, List.set_cons_succ, List.set_cons_zero]
        refine wpAnyH_takeD (i := 0) (v := .agg #[.int .i64 (-7), .int .i64 5, .int .i64 ws, .int .i64 hs]) (some 123) rfl rfl (by kernel_rfl) (by kernel_rfl) (by kernel_rfl) (fun _ _ _ h => h) (Or.inl ⟨by rfl, ?_⟩) SV ?_
        · intro X hX; have o0 := (hX.out.cell (p := ⟨rb, 0, none⟩) lrb).trans r0; have o1 := (hX.out.cell (p := ⟨rb, 1, none⟩) lrb).trans r1; have o2 := (hX.out.cell (p := ⟨rb, 2, none⟩) lrb).trans r2; have o3 := (hX.out.cell (p := ⟨rb, 3, none⟩) lrb).trans r3; go_simp
        try simp only [Act.put, List.setIfInBounds_toArray, List.set_cons_succ, List.set_cons_zero]
        refine wpAnyH_takeD (i := 2) (v := .slice (some ⟨lb, 0, none⟩) nL c8) (some 125) rfl rfl (by kernel_rfl) (by kernel_rfl) (by kernel_rfl) (fun _ _ _ h => h) (Or.inl ⟨by rfl, ?_⟩) SV ?_
        · intro X hX; go_simp
        try simp only [Act.put, List.setIfInBounds_toArray, List.set_cons_succ, List.set_cons_zero]
        refine wpAnyH_takeD (i := 4) (v := .slice (some ⟨lb, 0, none⟩) nL c8) (some 127) rfl rfl (by kernel_rfl) (by kernel_rfl) (by kernel_rfl) (fun _ _ _ h => h) (Or.inl ⟨by rfl, ?_⟩) SV ?_
        · intro X hX; go_simp
        try simp only [Act.put, List.setIfInBounds_toArray, List.set_cons_succ, List.set_cons_zero]
        refine wpAnyH_takeD (i := 5) (v := .int .i64 at_) (some 128) rfl rfl (by kernel_rfl) (by kernel_rfl) (by kernel_rfl) (fun _ _ _ h => h) (Or.inl ⟨by rfl, ?_⟩) SV ?_
        · intro X hX; go_simp
        try simp only [Act.put, List.setIfInBounds_toArray, List.set_cons_succ, List.set_cons_zero]
        refine wpAnyH_takeD (i := 6) (v := .pointer (some ⟨lb, at_ * 4, none⟩)) (some 129) rfl rfl (by kernel_rfl) (by kernel_rfl) (by kernel_rfl) (fun _ _ _ h => h) (Or.inl ⟨by rfl, ?_⟩) SV ?_
        · intro X hX; go_simp
        try simp only [Act.put, List.setIfInBounds_toArray, List.set_cons_succ, List.set_cons_zero]
        refine wpAnyH_takeD (i := 7) (v := .agg #[.int .i64 qx, .int .i64 qy, .int .i64 qw, .int .i64 qh]) (some 130) rfl rfl (by kernel_rfl) (by kernel_rfl) (by kernel_rfl) (fun _ _ _ h => h) (Or.inl ⟨by rfl, ?_⟩) SV ?_
        · intro X hX; have q0 := (hX.out.cell (p := ⟨lb, at_ * 4, none⟩) llb).trans k0; have q1 := (hX.out.cell (p := ⟨lb, at_ * 4 + 1, none⟩) llb).trans k1; have q2 := (hX.out.cell (p := ⟨lb, at_ * 4 + 2, none⟩) llb).trans k2; have q3 := (hX.out.cell (p := ⟨lb, at_ * 4 + 3, none⟩) llb).trans k3; have lX := hX.out.size; have lbX : lb < X.heap.size := by omega
          go_simp
        try simp only [Act.put, List.setIfInBounds_toArray, List.set_cons_succ, List.set_cons_zero]
        refine wpAnyH_all (rs := [1, 8]) (by kernel_rfl) (by simp) ?_
        intro ii hii
        rcases (show ii = 1 ∨ ii = 8 by simpa using hii) with rfl | rfl
        · skip
          obtain ⟨csa, hcsa, hmka⟩ := make_rects 65 (by omega) w9
          rw [show ((65 : Nat) : Int) = 65 from rfl] at hmka
          have owna := made_own (base := wr.heap.size) hcsa (by omega) SV.out.size
          refine wpOp_step rfl (fun K hK => ?_)
          go_simp
          have SVn : Hid (Below wr.heap.size wr (w9.alloc (.cells csa 23))) := Lib.hid (SV.out.alloc SV.out.size _)
          refine hK _ _ ⟨SVn, ?_⟩
          clear hK K hii SV hmka hcsa
          have SV := SVn
          clear SVn
          generalize w9.heap.size = ga at owna ⊢
          generalize w9.alloc (.cells csa 23) = Xa at owna SV ⊢
          try simp only [Act.put, List.setIfInBounds_toArray, List.set_cons_succ, List.set_cons_zero]
          refine wpAnyH_all (rs := [3, 8]) (by kernel_rfl) (by simp) ?_
          intro ii hii
          rcases (show ii = 3 ∨ ii = 8 by simpa using hii) with rfl | rfl
          · skip
            have hszb := SV.out.size
            obtain ⟨vb, Xb, hrb, ownb, hgb⟩ := app_rects (M := L) (m := nL) owna (by have hln := HLN.out; first | rfl | (simp; done) | (simp; omega) | omega) (fun j u hu => by rw [add_plain, Nat.zero_add]; exact (SV.out.cell (p := ⟨lb, j, none⟩) llb).trans (hLC j u hu)) (by have hln := HLN.out; first | rfl | (simp; done) | (simp; omega) | omega) hszb
            have SVn : Hid (Below wr.heap.size wr Xb) := Lib.hid (own_below SV.out owna (Nat.le_refl _) hgb hszb)
            refine wpOp_step rfl (fun K hK => ?_)
            refine wp_append_runD (some 126) rfl _ _ _ rfl _ _ _ rfl rfl hrb ?_
            refine hK _ _ ⟨SVn, ?_⟩
            clear hK K hii SV hrb hgb hszb
            have SV := SVn
            clear SVn
            try simp only [Act.put, List.setIfInBounds_toArray, List.set_cons_succ, List.set_cons_zero]
            refine wpAnyH_all (rs := [8]) (by kernel_rfl) (by simp) ?_
            intro ii hii; obtain rfl : ii = 8 := by simpa using hii
            refine wpOp_step rfl (fun K hK => ?_)
            go_simp
            have hzq := whole_new Xb [.int .i64 qx, .int .i64 qy, .int .i64 qw, .int .i64 qh] 23 _ rfl
            have SVn : Hid (Below wr.heap.size wr (Xb.alloc (.cells #[.int .i64 qx, .int .i64 qy, .int .i64 qw, .int .i64 qh] 23))) := Lib.hid (SV.out.alloc SV.out.size _)
            have ownb2 := own_later ownb ((Below.refl Xb.heap.size Xb).alloc (Nat.le_refl _) (.cells #[.int .i64 qx, .int .i64 qy, .int .i64 qw, .int .i64 qh] 23))
            refine hK _ _ ⟨SVn, ?_⟩
            clear hK K hii SV ownb
            have SV := SVn
            clear SVn
            generalize Xb.heap.size = gq at *
            generalize Xb.alloc (.cells #[.int .i64 qx, .int .i64 qy, .int .i64 qw, .int .i64 qh] 23) = Xq at *
            try simp only [Act.put, List.setIfInBounds_toArray, List.set_cons_succ, List.set_cons_zero]
            refine wpAnyH_all (rs := [9]) (by kernel_rfl) (by simp) ?_
            intro ii hii; obtain rfl : ii = 9 := by simpa using hii
            have hszc := SV.out.size
            obtain ⟨vc, Xc, hrc, ownc, hgc⟩ := app_rects (M := [(⟨qx, qy, qw, qh⟩ : R)]) (m := 1) ownb2 (by have hln := HLN.out; first | rfl | (simp; done) | (simp; omega) | omega) (fun j u hu => by rw [add_plain, Nat.zero_add, hzq.cellAt]; exact hu) (by have hln := HLN.out; first | rfl | (simp; done) | (simp; omega) | omega) hszc
            have SVn : Hid (Below wr.heap.size wr Xc) := Lib.hid (own_below SV.out ownb2 (Nat.le_refl _) hgc hszc)
            refine wpOp_step rfl (fun K hK => ?_)
            refine wp_append_runD (some 132) rfl _ _ _ rfl _ _ _ rfl rfl hrc ?_
            refine hK _ _ ⟨SVn, ?_⟩
            clear hK K hii SV hrc hgc hszc
            have SV := SVn
            clear SVn
            try simp only [Act.put, List.setIfInBounds_toArray, List.set_cons_succ, List.set_cons_zero]
            have hIf := own_rects ownc
            have hTf := gtiles_is (-7) 5 ws hs _ (([] ++ L) ++ [(⟨qx, qy, qw, qh⟩ : R)]) _ hIf (own_none ownc) (by rw [List.nil_append, List.length_append, HLN.out]; simp; omega) HRR.out (fun q hq => by rw [List.nil_append] at hq; rcases List.mem_append.1 hq with h | h; exact HAL.out q h; exact HAL.out q (by rw [List.mem_singleton.1 h]; exact List.mem_iff_getElem?.2 ⟨at_, HLQ.out⟩)) false (by rw [List.nil_append]; exact HMORE.out)
            clear hIf
            refine wpAnyH_all (rs := [10]) (by kernel_rfl) (by simp) ?_
            intro ii hii; obtain rfl : ii = 10 := by simpa using hii
            refine wpOp_step rfl (fun K hK => ?_)
            go_simp
            refine hTf.mono ?_
            rintro e Yf ⟨rfl, hbY⟩
            have SVn : Hid (Below wr.heap.size wr Yf) := Lib.hid (SV.out.trans (hbY.mono SV.out.size))
            refine hK _ _ ⟨SVn, ?_⟩
            clear hK K hii SV hbY hTf ownc
            have SV := SVn
            clear SVn
            try simp only [Act.put, List.setIfInBounds_toArray, List.set_cons_succ, List.set_cons_zero]
            refine wpAnyH_takeD (i := 11) (v := .tuple #[.bool false, .int .i64 0]) (some 122) rfl rfl (by kernel_rfl) (by kernel_rfl) (by kernel_rfl) (fun _ _ _ h => h) (Or.inl ⟨by rfl, ?_⟩) SV ?_
            · intro X hX; go_simp
            try simp only [Act.put, List.setIfInBounds_toArray, List.set_cons_succ, List.set_cons_zero]
            refine wpAnyH_takeD (i := 12) (v := .bool false) (some 134) rfl rfl (by kernel_rfl) (by kernel_rfl) (by kernel_rfl) (fun _ _ _ h => h) (Or.inl ⟨by rfl, ?_⟩) SV ?_
            · intro X hX; go_simp
            try simp only [Act.put, List.setIfInBounds_toArray, List.set_cons_succ, List.set_cons_zero]
            refine wpAnyH_takeD (i := 13) (v := .int .i64 0) (some 135) rfl rfl (by kernel_rfl) (by kernel_rfl) (by kernel_rfl) (fun _ _ _ h => h) (Or.inl ⟨by rfl, ?_⟩) SV ?_
            · intro X hX; go_simp
            try simp only [Act.put, List.setIfInBounds_toArray, List.set_cons_succ, List.set_cons_zero]
            refine wpAnyH_takeD (i := 14) (v := .bool false) (some 22) rfl rfl (by kernel_rfl) (by kernel_rfl) (by kernel_rfl) (fun _ _ _ h => h) (Or.inl ⟨by rfl, ?_⟩) SV ?_
            · intro X hX; go_simp
            try simp only [Act.put, List.setIfInBounds_toArray, List.set_cons_succ, List.set_cons_zero]
            refine wpAnyH_takeD (i := 15) (v := .int .i64 0) (some 23) rfl rfl (by kernel_rfl) (by kernel_rfl) (by kernel_rfl) (fun _ _ _ h => h) (Or.inl ⟨by rfl, ?_⟩) SV ?_
            · intro X hX; go_simp
            try simp only [Act.put, List.setIfInBounds_toArray, List.set_cons_succ, List.set_cons_zero]
            refine wpAnyH_done (by kernel_rfl) ?_ _
            have HF := Lib.hid (HWR.out.trans (SV.out.mono HWR.out.size))
            clear SV
            go_wp2
            go_ret
            exact ⟨rfl, HF.out⟩
          · skip
            refine wpOp_step rfl (fun K hK => ?_)
            go_simp
            have hzq := whole_new Xa [.int .i64 qx, .int .i64 qy, .int .i64 qw, .int .i64 qh] 23 _ rfl
            have SVn : Hid (Below wr.heap.size wr (Xa.alloc (.cells #[.int .i64 qx, .int .i64 qy, .int .i64 qw, .int .i64 qh] 23))) := Lib.hid (SV.out.alloc SV.out.size _)
            have owna2 := own_later owna ((Below.refl Xa.heap.size Xa).alloc (Nat.le_refl _) (.cells #[.int .i64 qx, .int .i64 qy, .int .i64 qw, .int .i64 qh] 23))
            have hgq : ga < Xa.heap.size := (owna.lt ga rfl).2
            refine hK _ _ ⟨SVn, ?_⟩
            clear hK K hii SV owna
            have SV := SVn
            clear SVn
            generalize Xa.heap.size = gq at *
            generalize Xa.alloc (.cells #[.int .i64 qx, .int .i64 qy, .int .i64 qw, .int .i64 qh] 23) = Xq at *
            try simp only [Act.put, List.setIfInBounds_toArray, List.set_cons_succ, List.set_cons_zero]
            refine wpAnyH_all (rs := [3]) (by kernel_rfl) (by simp) ?_
            intro ii hii; obtain rfl : ii = 3 := by simpa using hii
            have hszb := SV.out.size
            obtain ⟨vb, Xb, hrb, ownb, hgb⟩ := app_rects (M := L) (m := nL) owna2 (by have hln := HLN.out; first | rfl | (simp; done) | (simp; omega) | omega) (fun j u hu => by rw [add_plain, Nat.zero_add]; exact (SV.out.cell (p := ⟨lb, j, none⟩) llb).trans (hLC j u hu)) (by have hln := HLN.out; first | rfl | (simp; done) | (simp; omega) | omega) hszb
            have SVn : Hid (Below wr.heap.size wr Xb) := Lib.hid (own_below SV.out owna2 (Nat.le_refl _) hgb hszb)
            have hz3 := Whole.grown hzq hgb (by simp only [Value.ownBlock]; intro e; injection e with e; omega)
            refine wpOp_step rfl (fun K hK => ?_)
            refine wp_append_runD (some 126) rfl _ _ _ rfl _ _ _ rfl rfl hrb ?_
            refine hK _ _ ⟨SVn, ?_⟩
            clear hK K hii SV hrb hgb hszb
            have SV := SVn
            clear SVn
            try simp only [Act.put, List.setIfInBounds_toArray, List.set_cons_succ, List.set_cons_zero]
            refine wpAnyH_all (rs := [9]) (by kernel_rfl) (by simp) ?_
            intro ii hii; obtain rfl : ii = 9 := by simpa using hii
            have hszc := SV.out.size
            obtain ⟨vc, Xc, hrc, ownc, hgc⟩ := app_rects (M := [(⟨qx, qy, qw, qh⟩ : R)]) (m := 1) ownb (by have hln := HLN.out; first | rfl | (simp; done) | (simp; omega) | omega) (fun j u hu => by rw [add_plain, Nat.zero_add, hz3.cellAt]; exact hu) (by have hln := HLN.out; first | rfl | (simp; done) | (simp; omega) | omega) hszc
            have SVn : Hid (Below wr.heap.size wr Xc) := Lib.hid (own_below SV.out ownb (Nat.le_refl _) hgc hszc)
            refine wpOp_step rfl (fun K hK => ?_)
            refine wp_append_runD (some 132) rfl _ _ _ rfl _ _ _ rfl rfl hrc ?_
            refine hK _ _ ⟨SVn, ?_⟩
            clear hK K hii SV hrc hgc hszc
            have SV := SVn
            clear SVn
            try simp only [Act.put, List.setIfInBounds_toArray, List.set_cons_succ, List.set_cons_zero]
            have hIf := own_rects ownc
            have hTf := gtiles_is (-7) 5 ws hs _ (([] ++ L) ++ [(⟨qx, qy, qw, qh⟩ : R)]) _ hIf (own_none ownc) (by rw [List.nil_append, List.length_append, HLN.out]; simp; omega) HRR.out (fun q hq => by rw [List.nil_append] at hq; rcases List.mem_append.1 hq with h | h; exact HAL.out q h; exact HAL.out q (by rw [List.mem_singleton.1 h]; exact List.mem_iff_getElem?.2 ⟨at_, HLQ.out⟩)) false (by rw [List.nil_append]; exact HMORE.out)
            clear hIf
            refine wpAnyH_all (rs := [10]) (by kernel_rfl) (by simp) ?_
            intro ii hii; obtain rfl : ii = 10 := by simpa using hii
            refine wpOp_step rfl (fun K hK => ?_)
            go_simp
            refine hTf.mono ?_
            rintro e Yf ⟨rfl, hbY⟩
            have SVn : Hid (Below wr.heap.size wr Yf) := Lib.hid (SV.out.trans (hbY.mono SV.out.size))
            refine hK _ _ ⟨SVn, ?_⟩
            clear hK K hii SV hbY hTf ownc
            have SV := SVn
            clear SVn
            try simp only [Act.put, List.setIfInBounds_toArray, List.set_cons_succ, List.set_cons_zero]
            refine wpAnyH_takeD (i := 11) (v := .tuple #[.bool false, .int .i64 0]) (some 122) rfl rfl (by kernel_rfl) (by kernel_rfl) (by kernel_rfl) (fun _ _ _ h => h) (Or.inl ⟨by rfl, ?_⟩) SV ?_
            · intro X hX; go_simp
            try simp only [Act.put, List.setIfInBounds_toArray, List.set_cons_succ, List.set_cons_zero]
            refine wpAnyH_takeD (i := 12) (v := .bool false) (some 134) rfl rfl (by kernel_rfl) (by kernel_rfl) (by kernel_rfl) (fun _ _ _ h => h) (Or.inl ⟨by rfl, ?_⟩) SV ?_
            · intro X hX; go_simp
            try simp only [Act.put, List.setIfInBounds_toArray, List.set_cons_succ, List.set_cons_zero]
            refine wpAnyH_takeD (i := 13) (v := .int .i64 0) (some 135) rfl rfl (by kernel_rfl) (by kernel_rfl) (by kernel_rfl) (fun _ _ _ h => h) (Or.inl ⟨by rfl, ?_⟩) SV ?_
            · intro X hX; go_simp
            try simp only [Act.put, List.setIfInBounds_toArray, List.set_cons_succ, List.set_cons_zero]
            refine wpAnyH_takeD (i := 14) (v := .bool false) (some 22) rfl rfl (by kernel_rfl) (by kernel_rfl) (by kernel_rfl) (fun _ _ _ h => h) (Or.inl ⟨by rfl, ?_⟩) SV ?_
            · intro X hX; go_simp
            try simp only [Act.put, List.setIfInBounds_toArray, List.set_cons_succ, List.set_cons_zero]
            refine wpAnyH_takeD (i := 15) (v := .int .i64 0) (some 23) rfl rfl (by kernel_rfl) (by kernel_rfl) (by kernel_rfl) (fun _ _ _ h => h) (Or.inl ⟨by rfl, ?_⟩) SV ?_
            · intro X hX; go_simp
            try simp only [Act.put, List.setIfInBounds_toArray, List.set_cons_succ, List.set_cons_zero]
            refine wpAnyH_done (by kernel_rfl) ?_ _
            have HF := Lib.hid (HWR.out.trans (SV.out.mono HWR.out.size))
            clear SV
            go_wp2
            go_ret
            exact ⟨rfl, HF.out⟩
        · skip
          refine wpOp_step rfl (fun K hK => ?_)
          go_simp
          have hzq := whole_new w9 [.int .i64 qx, .int .i64 qy, .int .i64 qw, .int .i64 qh] 23 _ rfl
          have SVn : Hid (Below wr.heap.size wr (w9.alloc (.cells #[.int .i64 qx, .int .i64 qy, .int .i64 qw, .int .i64 qh] 23))) := Lib.hid (SV.out.alloc SV.out.size _)
          refine hK _ _ ⟨SVn, ?_⟩
          clear hK K hii SV
          have SV := SVn
          clear SVn
          generalize w9.heap.size = gq at *
          generalize w9.alloc (.cells #[.int .i64 qx, .int .i64 qy, .int .i64 qw, .int .i64 qh] 23) = Xq at *
          try simp only [Act.put, List.setIfInBounds_toArray, List.set_cons_succ, List.set_cons_zero]
          refine wpAnyH_all (rs := [1]) (by kernel_rfl) (by simp) ?_
          intro ii hii; obtain rfl : ii = 1 := by simpa using hii
          obtain ⟨csa, hcsa, hmka⟩ := make_rects 65 (by omega) Xq
          rw [show ((65 : Nat) : Int) = 65 from rfl] at hmka
          have owna := made_own (base := wr.heap.size) hcsa (by omega) SV.out.size
          refine wpOp_step rfl (fun K hK => ?_)
          go_simp
          have SVn : Hid (Below wr.heap.size wr (Xq.alloc (.cells csa 23))) := Lib.hid (SV.out.alloc SV.out.size _)
          refine hK _ _ ⟨SVn, ?_⟩
          have hz2 := hzq.alloc (.cells csa 23)
          have hgq : gq < Xq.heap.size := hzq.lt
          clear hK K hii SV hmka hcsa hzq
          have SV := SVn
          clear SVn
          generalize Xq.heap.size = ga at *
          generalize Xq.alloc (.cells csa 23) = Xa at *
          try simp only [Act.put, List.setIfInBounds_toArray, List.set_cons_succ, List.set_cons_zero]
          refine wpAnyH_all (rs := [3]) (by kernel_rfl) (by simp) ?_
          intro ii hii; obtain rfl : ii = 3 := by simpa using hii
          have hszb := SV.out.size
          obtain ⟨vb, Xb, hrb, ownb, hgb⟩ := app_rects (M := L) (m := nL) owna (by have hln := HLN.out; first | rfl | (simp; done) | (simp; omega) | omega) (fun j u hu => by rw [add_plain, Nat.zero_add]; exact (SV.out.cell (p := ⟨lb, j, none⟩) llb).trans (hLC j u hu)) (by have hln := HLN.out; first | rfl | (simp; done) | (simp; omega) | omega) hszb
          have SVn : Hid (Below wr.heap.size wr Xb) := Lib.hid (own_below SV.out owna (Nat.le_refl _) hgb hszb)
          have hz3 := Whole.grown hz2 hgb (by simp only [Value.ownBlock]; intro e; injection e with e; omega)
          refine wpOp_step rfl (fun K hK => ?_)
          refine wp_append_runD (some 126) rfl _ _ _ rfl _ _ _ rfl rfl hrb ?_
          refine hK _ _ ⟨SVn, ?_⟩
          clear hK K hii SV hrb hgb hszb
          have SV := SVn
          clear SVn
          try simp only [Act.put, List.setIfInBounds_toArray, List.set_cons_succ, List.set_cons_zero]
          refine wpAnyH_all (rs := [9]) (by kernel_rfl) (by simp) ?_
          intro ii hii; obtain rfl : ii = 9 := by simpa using hii
          have hszc := SV.out.size
          obtain ⟨vc, Xc, hrc, ownc, hgc⟩ := app_rects (M := [(⟨qx, qy, qw, qh⟩ : R)]) (m := 1) ownb (by have hln := HLN.out; first | rfl | (simp; done) | (simp; omega) | omega) (fun j u hu => by rw [add_plain, Nat.zero_add, hz3.cellAt]; exact hu) (by have hln := HLN.out; first | rfl | (simp; done) | (simp; omega) | omega) hszc
          have SVn : Hid (Below wr.heap.size wr Xc) := Lib.hid (own_below SV.out ownb (Nat.le_refl _) hgc hszc)
          refine wpOp_step rfl (fun K hK => ?_)
          refine wp_append_runD (some 132) rfl _ _ _ rfl _ _ _ rfl rfl hrc ?_
          refine hK _ _ ⟨SVn, ?_⟩
          clear hK K hii SV hrc hgc hszc
          have SV := SVn
          clear SVn
          try simp only [Act.put, List.setIfInBounds_toArray, List.set_cons_succ, List.set_cons_zero]
          have hIf := own_rects ownc
          have hTf := gtiles_is (-7) 5 ws hs _ (([] ++ L) ++ [(⟨qx, qy, qw, qh⟩ : R)]) _ hIf (own_none ownc) (by rw [List.nil_append, List.length_append, HLN.out]; simp; omega) HRR.out (fun q hq => by rw [List.nil_append] at hq; rcases List.mem_append.1 hq with h | h; exact HAL.out q h; exact HAL.out q (by rw [List.mem_singleton.1 h]; exact List.mem_iff_getElem?.2 ⟨at_, HLQ.out⟩)) false (by rw [List.nil_append]; exact HMORE.out)
          clear hIf
          refine wpAnyH_all (rs := [10]) (by kernel_rfl) (by simp) ?_
          intro ii hii; obtain rfl : ii = 10 := by simpa using hii
          refine wpOp_step rfl (fun K hK => ?_)
          go_simp
          refine hTf.mono ?_
          rintro e Yf ⟨rfl, hbY⟩
          have SVn : Hid (Below wr.heap.size wr Yf) := Lib.hid (SV.out.trans (hbY.mono SV.out.size))
          refine hK _ _ ⟨SVn, ?_⟩
          clear hK K hii SV hbY hTf ownc
          have SV := SVn
          clear SVn
          try simp only [Act.put, List.setIfInBounds_toArray, List.set_cons_succ, List.set_cons_zero]
          refine wpAnyH_takeD (i := 11) (v := .tuple #[.bool false, .int .i64 0]) (some 122) rfl rfl (by kernel_rfl) (by kernel_rfl) (by kernel_rfl) (fun _ _ _ h => h) (Or.inl ⟨by rfl, ?_⟩) SV ?_
          · intro X hX; go_simp
          try simp only [Act.put, List.setIfInBounds_toArray, List.set_cons_succ, List.set_cons_zero]
          refine wpAnyH_takeD (i := 12) (v := .bool false) (some 134) rfl rfl (by kernel_rfl) (by kernel_rfl) (by kernel_rfl) (fun _ _ _ h => h) (Or.inl ⟨by rfl, ?_⟩) SV ?_
          · intro X hX; go_simp
          try simp only [Act.put, List.setIfInBounds_toArray, List.set_cons_succ, List.set_cons_zero]
          refine wpAnyH_takeD (i := 13) (v := .int .i64 0) (some 135) rfl rfl (by kernel_rfl) (by kernel_rfl) (by kernel_rfl) (fun _ _ _ h => h) (Or.inl ⟨by rfl, ?_⟩) SV ?_
          · intro X hX; go_simp
          try simp only [Act.put, List.setIfInBounds_toArray, List.set_cons_succ, List.set_cons_zero]
          refine wpAnyH_takeD (i := 14) (v := .bool false) (some 22) rfl rfl (by kernel_rfl) (by kernel_rfl) (by kernel_rfl) (fun _ _ _ h => h) (Or.inl ⟨by rfl, ?_⟩) SV ?_
          · intro X hX; go_simp
          try simp only [Act.put, List.setIfInBounds_toArray, List.set_cons_succ, List.set_cons_zero]
          refine wpAnyH_takeD (i := 15) (v := .int .i64 0) (some 23) rfl rfl (by kernel_rfl) (by kernel_rfl) (by kernel_rfl) (fun _ _ _ h => h) (Or.inl ⟨by rfl, ?_⟩) SV ?_
          · intro X hX; go_simp
          try simp only [Act.put, List.setIfInBounds_toArray, List.set_cons_succ, List.set_cons_zero]
          refine wpAnyH_done (by kernel_rfl) ?_ _
          have HF := Lib.hid (HWR.out.trans (SV.out.mono HWR.out.size))
          clear SV
          go_wp2
          go_ret
          exact ⟨rfl, HF.out⟩
theorem walk (w : World) (a0 : Option Addr) (len0 cap0 : Nat) (z0 : List Int) (h0 : Ints w (.slice a0 len0 cap0) z0 ∧ z0.length = len0 ∧ len0 ≤ cap0 ∧ cap0 ≤ maxLen) (a1 : Option Addr) (len1 cap1 : Nat) (z1 : List Int) (h1 : Ints w (.slice a1 len1 cap1) z1 ∧ z1.length = len1 ∧ len1 ≤ cap1 ∧ cap1 ≤ maxLen) (a2 : Int) (h2 : (Lit.int .i64 a2).wf = true) :
    Calls Try.prog 4 #[.slice a0 len0 cap0, .slice a1 len1 cap1, .int .i64 a2] w fun e w' => e = .returned (.bool true) ∧ Below w.heap.size w w' := by
  obtain ⟨k1, k2, k3, k4⟩ := h0
  obtain ⟨j1, j2, j3, j4⟩ := h1
  unfold maxLen at k4 j4
  obtain ⟨ma, hma⟩ : ∃ ma : Nat, min (len0 : Int) 8 = (ma : Int) := ⟨min len0 8, by omega⟩
  obtain ⟨mb, hmb⟩ : ∃ mb : Nat, min (len1 : Int) 8 = (mb : Int) := ⟨min len1 8, by omega⟩
  exact grids_all a0 len0 cap0 z0 a1 len1 cap1 z1 a2 h2 w k1 k2 k3 k4 j1 j2 j3 j4 ma mb hma hmb

set_option maxRecDepth 100000 in
theorem lifted (os : Os) (started : os.Started) (H : Type) (enc : TypeId × Value → H) :
    ReturnsInHanded {} Try.checked os 4 .any (Rows.rectGridsSpec.pre6 enc Try.prog Try.f4 Rows.rectGridsRow.domain false) (Rows.rectGridsSpec.post enc Try.prog Try.f4 false true false false) := by
  refine returnsInHanded_of_change (C := Try.checked) own started (by kernel_rfl) Try.func4
    (ChangeSpec.witness6 (enc := enc) (C := Try.checked) false ⟨#[], #[.slice none 0 0, .slice none 0 0, .int .i64 0], []⟩ 8 (by kernel_rfl) (by kernel_rfl) (by kernel_rfl) (by kernel_rfl)) ?_
  intro W base args ds gs before hval0 hW hcnd _
  have hval : ∀ (j : Nat) t v, Try.f4.params[j]? = some t → args[j]? = some v → Value.okWide Try.prog W .any base t v := hval0
  have hW' := hW
  obtain ⟨p, q, hA0, hV, rfl, hfz, hnd⟩ := hW
  have hA : DataW.TrodAll enc Try.prog W 0 (fun _ => true) true Try.f4.params.toList args.toList ds p := hA0
  rw [Try.params4] at hA hval
  obtain ⟨v0, vs0, d0, ds0, p0, q0, hargs, rfl, rfl, h0, r0⟩ := trodAll_cons hA
  obtain ⟨v1, vs1, d1, ds1, p1, q1, rfl, rfl, rfl, h1, r1⟩ := trodAll_cons r0
  obtain ⟨v2, vs2, d2, ds2, p2, q2, rfl, rfl, rfl, h2, r2⟩ := trodAll_cons r1
  obtain ⟨rfl, rfl, rfl⟩ := trodAll_nil r2
  obtain rfl : args = #[v0, v1, v2] := by cases args; simp_all
  obtain ⟨rfl, rfl⟩ := trodVars_none hV
  obtain ⟨a0, len0, cap0, rfl⟩ := okWide_slice Try.underlying31 (hval 0 31 v0 rfl rfl)
  have k0 := h0
  have lt0 : ∀ x ∈ p0, x.block < W.heap.size := by obtain ⟨m, hm⟩ := k0; exact DataW.trod_lt m _ _ _ hm
  obtain ⟨z0, w0⟩ : ∃ zs, Ints W (.slice a0 len0 cap0) zs ∧ zs.length = len0 ∧ len0 ≤ cap0 ∧ cap0 ≤ maxLen := by
    obtain ⟨fuel, hf⟩ := h0
    exact open_ints64 (by simpa [Value.cells] using hf)
  obtain ⟨a1, len1, cap1, rfl⟩ := okWide_slice Try.underlying31 (hval 1 31 v1 rfl rfl)
  have k1 := h1
  have lt1 : ∀ x ∈ p1, x.block < W.heap.size := by obtain ⟨m, hm⟩ := k1; exact DataW.trod_lt m _ _ _ hm
  obtain ⟨z1, w1⟩ : ∃ zs, Ints W (.slice a1 len1 cap1) zs ∧ zs.length = len1 ∧ len1 ≤ cap1 ∧ cap1 ≤ maxLen := by
    obtain ⟨fuel, hf⟩ := h1
    exact open_ints64 (by simpa [Value.cells] using hf)
  obtain ⟨a2, rfl, rfl, rfl, w2⟩ := open_int Try.underlying3 (hval 2 3 v2 rfl rfl) h2
  clear hA0 hval0
  simp only [List.append_nil] at hW'
  refine (walk W a0 len0 cap0 z0 w0 a1 len1 cap1 z1 w1 a2 w2).mono fun e W' ⟨he, hg⟩ => ?_
  subst he
  exact ⟨_, rfl, _, _, _, [], _, [], hW', (trodAll_cons_mk (shut_bool Try.underlying4 _) trodAll_mk0), (trodAll_cons_mk (Below.trod laidOut (by kernel_rfl) (of_decide_eq_true (by kernel_rfl)) k0 hg lt0) (trodAll_cons_mk (Below.trod laidOut (by kernel_rfl) (of_decide_eq_true (by kernel_rfl)) k1 hg lt1) (trodAll_cons_mk (shut_int Try.underlying3 w2) trodAll_mk0))), rfl, hg.frame _, fun h => by cases h⟩

theorem over : Rows.rectGridsRow.holds Try.pinned (OpenSpec.ofChange Rows.rectGridsSpec) :=
  OpenClaim.holds_of_wide 4 Try.f4 rfl rfl rfl rfl rfl rfl rfl ⟨rfl, rfl, rfl, rfl, rfl⟩ rfl rfl rfl rfl rfl (by kernel_rfl) Try.func4 (by kernel_rfl)
    (of_decide_eq_true (by kernel_rfl)) (by unfold Func.isWrapper; first | (rw [if_pos (by decide +kernel)]; kernel_rfl) | (rw [if_neg (by decide +kernel)]; exact ⟨rfl, rfl⟩))
    (fun os started H enc _ => lifted os started H enc)

/-- the statement -/
theorem proved : Rows.RectGridsSaid :=
  over
#print axioms proved
end Go.Proofs.Ytjdnhpbifblneaa.rectGrids
