/- The document's Slots: its answer. -/
import Derived.Test.YtcgnldcdcbnofaaGRMat
namespace Go.Proofs.Ytcgnldcdcbnofaa
open Go.RowKit Go.Shelf
set_option linter.unusedVariables false
set_option linter.unusedSimpArgs false
attribute [local go_sem] Oper.semAt_some

/-- an owned row under way beside the rows that are made -/
def RC (w : World) (out : Value) (hs : List Value) (M : List (List Int)) (v : Value) (l : List Int) (X : World) : Prop :=
  RM w out hs M X ∧ X.ownsRow w.heap.size 3 1 v l.length (l.map (Value.int .i64)) ∧ ∀ (r : Nat) (u : Value), hs[r]? = some u → Apart u v
theorem RC.more {w X Y : World} {out v v' : Value} {hs : List Value} {M : List (List Int)} {l : List Int} {z : Int} {o : Obj} (h : RC w out hs M v l X)
    (ho : Y.ownsRow w.heap.size 3 1 v' (l.length + 1) (l.map (Value.int .i64) ++ [.int .i64 z])) (hg : (X.alloc o).grownBy Y v.ownBlock) (hf : v'.ownBlock = v.ownBlock ∨ v'.ownBlock = some (X.alloc o).heap.size) : RC w out hs M v' (l ++ [z]) Y := by
  obtain ⟨h1, h2, h3⟩ := h
  refine ⟨(h1.alloc o).apart (h2.alloc o) h3 hg, by rw [List.length_append, List.map_append]; exact ho, fun r u hu => ?_⟩
  unfold Apart at *
  rcases hf with hf | hf
  · rw [hf]; exact h3 r u hu
  · cases hq : u.ownBlock with
    | none => exact .inl rfl
    | some b =>
      right
      rw [hf]
      intro e
      injection e with e
      obtain ⟨l', hl'⟩ : ∃ l', M[r]? = some l' := ⟨_, List.getElem?_eq_getElem (by rw [← h1.hl]; exact (List.getElem?_eq_some_iff.1 hu).1)⟩
      have := (h1.ro r u l' hu hl').lt b hq
      simp at e; omega
def blankM (rows cols : Nat) : List (List Int) := List.replicate rows (List.replicate cols (-1))
set_option maxRecDepth 100000 in
set_option maxHeartbeats 4000000 in
theorem refSlots_any (pp : Option Addr) (m cap rows cols : Nat) (L : List Pz) (w : World) (hm : L.length = m) (hP : PsAt w (.slice pp m cap) L) (hS : SizeQ rows cols) (hI : ∀ p ∈ L, p.ok) :
    Calls Try.prog 13 #[.slice pp m cap, .int .i64 rows, .int .i64 cols] w fun e W' => Below w.heap.size w W' ∧ ((¬ OwnQ rows cols L ∧ e = .returned (.tuple #[.slice none 0 0, .int .i64 70])) ∨ (OwnQ rows cols L ∧ ∃ v hs, e = .returned (.tuple #[v, .int .i64 0]) ∧ RM w v hs (matM (tookM L m []) rows cols) W')) := by
  have hrc : rows ≤ 65536 ∧ cols ≤ 10000 := by have := hS.1; have := hS.2.1; omega
  have hpr : (rows : Int) * (cols : Int) ≤ 1000000 := hS.2.2
  have hpr0 : 0 ≤ (rows : Int) * (cols : Int) := Int.mul_nonneg (by omega) (by omega)
  obtain ⟨pq, hpq⟩ : ∃ pq, (rows : Int) * (cols : Int) = pq := ⟨_, rfl⟩
  rw [hpq] at hpr hpr0
  have hml : m ≤ 9223372036854775807 := by have := hP.1; omega
  have HP := Lib.hid hP
  have HM := Lib.hid hm
  have HI := Lib.hid hI
  have H0 := Lib.hid (RM.nil w w (Below.refl _ w))
  clear hP hm hI hS
  go_enter Try.func13, Try.ntmps13
  go_wp2
  clear hpr hpr0 hpq
  go_loopw [8, 9] (fun s8 s9 X => ∃ (i : Nat) (hs : List Value), i ≤ rows ∧ s9 = .int .i64 (i : Int) ∧ Hid (RM w s8 hs (blankM i cols) X)) (fun _ s9 _ => rows - (intOf s9).toNat)
  case atStart => exact ⟨0, [], Nat.zero_le _, rfl, H0⟩
  case round =>
    clear H0
    obtain ⟨i, hs, hi, rfl, HX⟩ := hrel
    by_cases hlt : i < rows
    · obtain ⟨po, no, co, rfl⟩ := own_slice HX.out.ot
      have HC0 : Hid (RC w (.slice po no co) hs (blankM i cols) (.slice none 0 0) (List.replicate 0 (-1)) wr) := Lib.hid ⟨HX.out, World.ownsRow_nil _ _ _ _, fun r u _ => Apart.symm (.inl rfl)⟩
      clear HX
      go_wp2
      go_loopw [10, 11] (fun s10 s11 X => ∃ k : Nat, k ≤ cols ∧ s11 = .int .i64 (k : Int) ∧ Hid (RC w (.slice po no co) hs (blankM i cols) s10 (List.replicate k (-1)) X)) (fun _ s11 _ => cols - (intOf s11).toNat)
      case atStart => exact ⟨0, Nat.zero_le _, rfl, HC0⟩
      case round =>
        clear HC0
        obtain ⟨k, hk, rfl, HX⟩ := hrel
        by_cases hlk : k < cols
        · obtain ⟨pu, nu, cu, rfl⟩ := own_slice HX.out.2.1
          obtain ⟨i1, hi1, hz0', hz1', hz2'⟩ := info_parts Try.infoIntG
          have HZ1 := Lib.hid hz0'
          have HZ2 := Lib.hid hz1'
          have HZ3 := Lib.hid hz2'
          have HOW := Lib.hid HX.out.2.1
          have HPUT := Lib.hid (fun (Y : World) (v' : Value) ho hg hf => RC.more (Y := Y) (v' := v') (z := -1) (o := .cells #[.int .i64 (-1)] 3) HX.out ho hg hf)
          have t0 := HX.out.1.lo.size
          have t1 : ∀ u ∈ [Value.int .i64 (-1)], u.oneCell' = true := by simp [Value.oneCell']
          have t2 : (List.replicate k (-1 : Int)).length + 1 ≤ maxLen := by rw [List.length_replicate]; unfold maxLen; omega
          have t3 : ((List.replicate k (-1 : Int)).length + 1) * 8 ≤ 140737488355328 := by rw [List.length_replicate]; omega
          have t4 : w.heap.size ≤ (wr.alloc (.cells #[.int .i64 (-1)] 3)).heap.size := by simp <;> omega
          clear hz0' hz1' hz2' HX
          go_wp2_with (at_builtin; refine wpList_append_own_at _ rfl _ _ 26 rfl w.heap.size 3 i1 (.int .i64 0) 1 8 Try.underlying26 hi1 HZ1.out HZ2.out HZ3.out rfl (by decide) (.slice pu nu cu) _ _ rfl (HOW.out.alloc _) ⟨wr.heap.size, 0, none⟩ 1 1 [.int .i64 (-1)] rfl rfl (lay_newG _ [.int .i64 (-1)] 3 wr.heap.size rfl) t1 t2 t3 t4 ?_; intro v9 w9 hown9 hgrow9 _ hf9; have HO9 := Lib.hid (HPUT.out w9 _ hown9 hgrow9 hf9); clear hown9 hgrow9 hf9 HPUT HOW)
          go_roundw
          case rel => exact ⟨k + 1, by omega, by go_num, by rw [List.replicate_succ']; exact HO9⟩
          case measure => simp [intOf]; omega
        · obtain rfl : k = cols := by omega
          obtain ⟨pu, nu, cu, rfl⟩ := own_slice HX.out.2.1
          obtain ⟨i1, hi1, hz0', hz1', hz2'⟩ := info_parts Try.infoInts
          have HZ1 := Lib.hid hz0'
          have HZ2 := Lib.hid hz1'
          have HZ3 := Lib.hid hz2'
          have HOW := Lib.hid HX.out.1.ot
          have hln : hs.length = i := by rw [HX.out.1.hl]; simp [blankM]
          have HPUT := Lib.hid (fun (Y : World) (v' : Value) ho hg => RM.push (Y := Y) (out' := v') (o := .cells #[.slice pu nu cu] 26) HX.out.1 HX.out.2.1 HX.out.2.2 ho hg)
          have t0 := HX.out.1.lo.size
          have t1 : ∀ u ∈ [Value.slice pu nu cu], u.oneCell' = true := by simp [Value.oneCell']
          have t2 : hs.length + 1 ≤ maxLen := by unfold maxLen; omega
          have t3 : (hs.length + 1) * 24 ≤ 140737488355328 := by omega
          have t4 : w.heap.size ≤ (wr.alloc (.cells #[.slice pu nu cu] 26)).heap.size := by simp <;> omega
          clear hz0' hz1' hz2' HX
          go_wp2_with (at_builtin; refine wpList_append_own_at _ rfl _ _ 37 rfl w.heap.size 26 i1 (.slice none 0 0) 1 24 Try.underlying37 hi1 HZ1.out HZ2.out HZ3.out rfl (by decide) (.slice po no co) _ _ rfl (HOW.out.alloc _) ⟨wr.heap.size, 0, none⟩ 1 1 [.slice pu nu cu] rfl rfl (lay_newG _ [.slice pu nu cu] 26 wr.heap.size rfl) t1 t2 t3 t4 ?_; intro v9 w9 hown9 hgrow9 _ hf9; have HO9 := Lib.hid (HPUT.out w9 _ hown9 hgrow9); clear hown9 hgrow9 hf9 HPUT HOW)
          go_roundw
          case rel => exact ⟨i + 1, _, by omega, by go_num, by unfold blankM at *; rw [List.replicate_succ' (n := i)]; exact HO9⟩
          case measure => simp [intOf]; omega
    · obtain rfl : i = rows := by omega
      obtain ⟨po, no, co, rfl⟩ := own_slice HX.out.ot
      have HX1 : Hid (RM w (.slice po no co) hs (matM (tookM L 0 []) i cols) wr ∧ ((tookM L 0 []).map Prod.fst).Nodup ∧ ∀ p ∈ L.take 0, placeB i cols p = true) := Lib.hid ⟨by
        rw [show tookM L 0 [] = [] by simp [tookM, entL], matM_nil]; exact HX.out, by simp [tookM, entL], by simp⟩
      clear HX
      go_wp2
      go_loopw [12] (fun s12 X => ∃ k : Nat, k ≤ m ∧ s12 = .int .i64 (k : Int) ∧ Hid (RM w (.slice po no co) hs (matM (tookM L k []) i cols) X ∧ ((tookM L k []).map Prod.fst).Nodup ∧ ∀ p ∈ L.take k, placeB i cols p = true)) (fun s12 _ => m - (intOf s12).toNat)
      case atStart => exact ⟨0, Nat.zero_le _, rfl, HX1⟩
      case round =>
        clear HX1
        obtain ⟨k, hk, rfl, HX⟩ := hrel
        by_cases hlk : k < m
        · obtain ⟨x, hx⟩ : ∃ x, L[k]? = some x := ⟨_, List.getElem?_eq_getElem (by rw [HM.out]; exact hlk)⟩
          obtain ⟨b, off, rfl, lb, c0, c1, c2, c3, c4⟩ := HP.out.at k x hx
          have HXX := Lib.hid hx
          obtain ⟨hx0, hx1, hx2, hx3, hx4⟩ := HI.out x (List.mem_iff_getElem?.2 ⟨k, hx⟩)
          unfold I64 at hx0 hx1 hx2 hx3 hx4
          have e0 := (HX.out.1.lo.cell (p := ⟨b, off + k * 5, none⟩) lb).trans c0
          have e1 := (HX.out.1.lo.cell (p := ⟨b, off + k * 5 + 1, none⟩) lb).trans c1
          have e2 := (HX.out.1.lo.cell (p := ⟨b, off + k * 5 + 2, none⟩) lb).trans c2
          have e3 := (HX.out.1.lo.cell (p := ⟨b, off + k * 5 + 3, none⟩) lb).trans c3
          have e4 := (HX.out.1.lo.cell (p := ⟨b, off + k * 5 + 4, none⟩) lb).trans c4
          have lb2 : b < wr.heap.size := by have := HX.out.1.lo.size; omega
          clear hx c0 c1 c2 c3 c4
          obtain ⟨xn, xr, xc, xh, xw⟩ := x
          dsimp only at *
          cases hq : placeB i cols ⟨xn, xr, xc, xh, xw⟩ with
          | false =>
            have hbad : xh < 1 ∨ xw < 1 ∨ xr < 0 ∨ xc < 0 ∨ (i : Int) < xr + xh ∨ (cols : Int) < xc + xw := by
              simp [placeB, liesB] at hq
              omega
            have HBA := Lib.hid (fun o => HX.out.1.lo.alloc HX.out.1.lo.size o)
            have HNQ : Hid (¬ OwnQ i cols L) := Lib.hid fun h => by
              have := h.1 _ (List.mem_iff_getElem?.2 ⟨k, HXX.out⟩)
              rw [hq] at this; cases this
            clear HX hq
            go_wp2
            all_goals first
              | (exfalso; omega)
              | (go_ret2; exact ⟨HBA.out _, .inl ⟨HNQ.out, rfl⟩⟩)
          | true =>
            have hgood : 1 ≤ xh ∧ 1 ≤ xw ∧ 0 ≤ xr ∧ 0 ≤ xc ∧ xr + xh ≤ (i : Int) ∧ xc + xw ≤ (cols : Int) := by
              simp [placeB, liesB] at hq
              omega
            obtain ⟨hg1, hg2, hg3, hg4, hg5, hg6⟩ := hgood
            obtain ⟨r, rfl⟩ := Int.eq_ofNat_of_zero_le hg3
            obtain ⟨c, rfl⟩ := Int.eq_ofNat_of_zero_le hg4
            obtain ⟨h, rfl⟩ := Int.eq_ofNat_of_zero_le (a := xh) (by omega)
            obtain ⟨wd, rfl⟩ := Int.eq_ofNat_of_zero_le (a := xw) (by omega)
            obtain ⟨X0, hX0⟩ : ∃ X0, X0 = wr := ⟨_, rfl⟩
            subst hX0
            have HS0 : Hid (RM w (.slice po no co) hs (matM (tookM L k (aheadL r c wd 0 0)) i cols) (X0.alloc (.cells #[.int .i64 xn, .int .i64 r, .int .i64 c, .int .i64 h, .int .i64 wd] 52)) ∧ ((tookM L k (aheadL r c wd 0 0)).map Prod.fst).Nodup ∧ Whole (X0.alloc (.cells #[.int .i64 xn, .int .i64 r, .int .i64 c, .int .i64 h, .int .i64 wd] 52)) X0.heap.size 52 [.int .i64 xn, .int .i64 r, .int .i64 c, .int .i64 h, .int .i64 wd]) := Lib.hid (by
              rw [show aheadL r c wd 0 0 = [] by simp [aheadL, slotsL, rowsS]]
              exact ⟨HX.out.1.alloc _, HX.out.2.1, whole_new X0 [.int .i64 xn, .int .i64 r, .int .i64 c, .int .i64 h, .int .i64 wd] 52 _ rfl⟩)
            have HPL := Lib.hid HX.out.2.2
            have HQ := Lib.hid hq
            have hwX := HX.out.1.lo.size
            have hli : hs.length = i := by rw [HX.out.1.hl, matM_len]
            clear HX hq
            go_wp2
            clear e0 e1 e2 e3 e4
            go_loopw [14] (fun s14 X => ∃ a : Nat, a ≤ h ∧ s14 = .int .i64 ((r : Int) + (a : Int)) ∧ Hid (RM w (.slice po no co) hs (matM (tookM L k (aheadL r c wd a 0)) i cols) X ∧ ((tookM L k (aheadL r c wd a 0)).map Prod.fst).Nodup ∧ Whole X X0.heap.size 52 [.int .i64 xn, .int .i64 r, .int .i64 c, .int .i64 h, .int .i64 wd])) (fun s14 _ => r + h - (intOf s14).toNat)
            case atStart => exact ⟨0, Nat.zero_le _, by simp, HS0⟩
            case round =>
              clear HS0
              obtain ⟨a, ha, rfl, HX⟩ := hrel
              have l13 := HX.out.2.2.lt
              have p1 := HX.out.2.2.cellAt 1
              have p2 := HX.out.2.2.cellAt 2
              have p3 := HX.out.2.2.cellAt 3
              simp at p1 p2 p3
              by_cases hla : a < h
              · go_wp2
                clear p1 p2 p3 l13
                go_loopw [15] (fun s15 X => ∃ j : Nat, j ≤ wd ∧ s15 = .int .i64 ((c : Int) + (j : Int)) ∧ Hid (RM w (.slice po no co) hs (matM (tookM L k (aheadL r c wd a j)) i cols) X ∧ ((tookM L k (aheadL r c wd a j)).map Prod.fst).Nodup ∧ Whole X X0.heap.size 52 [.int .i64 xn, .int .i64 r, .int .i64 c, .int .i64 h, .int .i64 wd])) (fun s15 _ => c + wd - (intOf s15).toNat)
                case atStart => exact ⟨0, Nat.zero_le _, by simp, HX⟩
                case round =>
                  clear HX
                  obtain ⟨j, hj, rfl, HX⟩ := hrel
                  have l13 := HX.out.2.2.lt
                  have p2 := HX.out.2.2.cellAt 2
                  have p4 := HX.out.2.2.cellAt 4
                  simp at p2 p4
                  by_cases hlj : j < wd
                  · obtain ⟨b1, cap1, ob, ocap, he, lob, cob, hur, lb1, fb1, cb1⟩ := HX.out.1.cell (r := r + a) (c := c + j) (matM_get _ _ _ _ (by omega)) (rowM_get _ _ _ _ (by omega))
                    injection he with h1 h2 h3
                    subst h1 h2 h3
                    rw [rowM_len] at cob hur
                    have HBL := Lib.hid HX.out.1.lo
                    obtain ⟨z, hz⟩ : ∃ z, ownA (tookM L k (aheadL r c wd a j)) (r + a, c + j) = z := ⟨_, rfl⟩
                    rw [hz] at cb1
                    cases hb : ((tookM L k (aheadL r c wd a j)).any fun e => e.1 == (r + a, c + j)) with
                    | true =>
                      have hge : 0 ≤ z := hz ▸ (ownA_hit _ _).2 hb
                      have HNQ : Hid (¬ OwnQ i cols L) := Lib.hid fun hO => by
                        obtain ⟨rest, hr⟩ := ahead_split r c wd (h - a - 1) a j hlj
                        rw [show a + 1 + (h - a - 1) = h by omega] at hr
                        exact own_bad HXX.out hr hb hO.2
                      clear HX hz hb hur
                      go_wp2
                      go_ret2
                      exact ⟨HBL.out, .inl ⟨HNQ.out, rfl⟩⟩
                    | false =>
                      have hge : ¬ 0 ≤ z := fun h0 => by
                        have := (ownA_hit (tookM L k (aheadL r c wd a j)) (r + a, c + j)).1 (hz ▸ h0)
                        rw [hb] at this; cases this
                      have hw := HX.out.1.write (c := c + j) (k : Int) hur (matM_get _ _ _ _ (by omega))
                      rw [matM_set, ← tookM_snoc, ← ahead_next] at hw
                      have hnd := nodup_more (i := k) HX.out.2.1 hb
                      rw [← tookM_snoc, ← ahead_next] at hnd
                      have hne : X0.heap.size ≠ b1 := fun e => by
                        have h0 := HX.out.1.ro (r + a) _ _ hur (matM_get _ _ _ _ (by omega))
                        exact whole_own HX.out.2.2 h0 (by decide) (by rw [e]; rfl)
                      have HW := Lib.hid (show _ ∧ _ ∧ _ from ⟨hw, hnd, HX.out.2.2.other (⟨b1, c + j, none⟩ : Addr) (.int .i64 (k : Int)) hne⟩)
                      clear HX hz hb hur hw hnd
                      go_wp2
                      go_roundw
                      case rel => exact ⟨j + 1, by omega, by go_num, HW⟩
                      case measure => simp [intOf]; omega
                  · obtain rfl : j = wd := by omega
                    have HX1 := Lib.hid (by have := HX.out; rw [ahead_row] at this; exact this)
                    clear HX
                    go_wp2
                    go_roundw
                    case rel => exact ⟨a + 1, by omega, by go_num, HX1⟩
                    case measure => simp [intOf]; omega
              · obtain rfl : a = h := by omega
                have HX1 : Hid (RM w (.slice po no co) hs (matM (tookM L (k + 1) []) i cols) wr ∧ ((tookM L (k + 1) []).map Prod.fst).Nodup ∧ ∀ p ∈ L.take (k + 1), placeB i cols p = true) := Lib.hid (by
                  have e : tookM L k (aheadL r c wd a 0) = tookM L (k + 1) [] := by rw [ahead_zero]; exact tookM_next L k _ HXX.out
                  have h := HX.out
                  rw [e] at h
                  refine ⟨h.1, h.2.1, fun p hp => ?_⟩
                  rw [List.take_add_one, HXX.out, List.mem_append] at hp
                  rcases hp with hp | hp
                  · exact HPL.out p hp
                  · simp at hp; subst hp; exact HQ.out)
                clear HX
                go_wp2
                go_roundw
                case rel => exact ⟨k + 1, by omega, by go_num, HX1⟩
                case measure => simp [intOf]; omega
        · obtain rfl : k = m := by omega
          have HQ : Hid (OwnQ i cols L) := Lib.hid ⟨fun p hp => HX.out.2.2 p (by rw [List.take_of_length_le (by rw [HM.out]; exact Nat.le_refl _)]; exact hp), by
            have h := HX.out.2.1
            unfold tookM at h
            rw [List.take_of_length_le (by rw [HM.out]; exact Nat.le_refl _)] at h
            simp only [List.map_nil, List.reverse_nil, List.nil_append, List.map_reverse] at h
            exact nodup_rev.1 h⟩
          have HR := Lib.hid HX.out.1
          clear HX
          go_wp2
          go_ret2
          exact ⟨HR.out.lo, .inr ⟨HQ.out, _, hs, rfl, HR.out⟩⟩
end Go.Proofs.Ytcgnldcdcbnofaa
