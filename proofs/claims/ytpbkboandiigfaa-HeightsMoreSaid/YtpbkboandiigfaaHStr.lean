/- Contracts of heights' left, shared, stretchable. Written by mk_HStr.py. -/
import Derived.Test.YtpbkboandiigfaaHLeast
import Derived.ScopeJumps
namespace Go.Proofs.Ytpbkboandiigfaa
open Go.RowKit Go.Shelf Go.Sort Go.Lib Go.Maps
set_option linter.unusedVariables false
set_option linter.unusedSimpArgs false
attribute [local go_sem] Oper.semAt_some

theorem excess_eqH (n : Int) (l : List Int) (n0 : 0 ≤ n) (n1 : n ≤ 576460752303423488) (hl : OkW l) : max 0 (sat (n - addS l)) = max 0 (n - sumZ l) := by
  have h0 := sumZ_nn l hl
  rw [addS_nn l (fun z hz => (hl z hz).1), sat_in (by omega) (by omega)]
  omega
set_option maxHeartbeats 1000000 in
theorem left_any (n : Int) (p : Option Addr) (m c : Nat) (l : List Int) (W : World) (n0 : 0 ≤ n) (n1 : n ≤ 576460752303423488) (hl : Nums .i64 W (.slice p m c) l) (hk : OkW l) :
    Calls Try.prog 34 #[.int .i64 n, .slice p m c] W fun e X => e = .returned (.int .i64 (max 0 (n - sumZ l))) ∧ X = W := by
  have HA := Lib.hid (add_any (.slice p m c) l W hl (in64_ok l hk))
  have hE := excess_eqH n l n0 n1 hk
  obtain ⟨q, hq⟩ : ∃ q, q = addS l := ⟨_, rfl⟩
  have hq1 : -9223372036854775808 ≤ q ∧ q ≤ 9223372036854775807 := by rw [hq, addS_nn l (fun z hz => (hk z hz).1)]; have := sumZ_nn l hk; omega
  have HS := Lib.hid (sub_any n q W (by omega) (by omega) hq1.1 hq1.2)
  rw [← hq] at HA hE
  obtain ⟨u, hu⟩ : ∃ u, u = sat (n - q) := ⟨_, rfl⟩
  rw [← hu] at HS hE
  rw [← hE]
  clear hl hk hq hu hE hq1
  go_enter Try.func34, Try.ntmps34
  go_wp2_with fail
  refine HA.out.mono ?_
  rintro e w1 ⟨rfl, rfl⟩
  clear HA
  go_wp2_with fail
  refine HS.out.mono ?_
  rintro e w1 ⟨rfl, rfl⟩
  clear HS
  go_wp2
  go_ret
  exact ⟨by first | rfl | (simp; done), rfl⟩
set_option maxHeartbeats 1000000 in
theorem sharedH_any (t : Int) (a0 : Option Addr) (k c : Nat) (zs : List Int) (W : World) (hk : zs.length = k) (k1 : 1 ≤ k) (k2 : k ≤ 10000) (t0 : 0 ≤ t) (t1 : t ≤ 576460752303423488) (hw : Nums .i64 W (.slice a0 k c) zs) (ho : OkW zs) :
    Calls Try.prog 33 #[.int .i64 t, .slice a0 k c] W fun e X => ∃ g cap sp, e = .returned (.slice (some ⟨g, 0, none⟩) k cap) ∧ IRow X g (shrW t zs) sp ∧ W.heap.size ≤ g ∧ k ≤ cap ∧ cap ≤ 9223372036854775807 ∧ Below W.heap.size W X := by
  have hsh := share_good (ordS zs.length) a0 c t zs W (by rw [hk]; have := order_at (k - 1) (by omega); rwa [show k - 1 + 1 = k by omega] at this) (by rw [hk]; exact hw) (by rw [hk]; simp [mayB]; omega) ho
  have hea : shareL (ordS zs.length) t (counted zs) = shrW t zs := by unfold shrW shareS; rw [counted_length]
  rw [hea, hk] at hsh
  have HSH := Lib.hid hsh
  have hal : (shrW t zs).length = k := by rw [shrW_len t zs t0 ho (by omega), hk]
  have HAL := Lib.hid hal
  obtain ⟨a, ha⟩ : ∃ a, a = shrW t zs := ⟨_, rfl⟩
  rw [← ha] at HSH HAL ⊢
  clear hsh hea hal ha hw ho hk
  go_enter Try.func33, Try.ntmps33
  go_wp2_with fail
  refine HSH.out.mono ?_
  rintro e w1 ⟨⟨v, rfl, hmd⟩, hb⟩
  obtain ⟨g, cap, sp, rfl, hg, hcap, hcm, hir⟩ := made_row hmd (by rw [HAL.out]; exact k1)
  have HB := Lib.hid hb
  have HI := Lib.hid hir
  rw [HAL.out] at hcap ⊢
  clear hmd hb hir HSH
  go_wp2
  go_ret
  exact ⟨g, cap, sp, rfl, HI.out, hg, hcap, hcm, HB.out⟩
/-- a list of numbers that grows, in a block of its own from B on -/
structure OwnN (t : Nat) (B : Nat) (W X : World) (zs : List Int) (v : Value) : Prop where
  lo : Below W.heap.size W X
  own : X.ownsRow B t 1 v zs.length (zs.map (Value.int .i64))
theorem OwnN.app {t B : Nat} {W X X1 : World} {zs : List Int} {v v' : Value} {z : Int} (h : OwnN t B W X zs v) (hB : W.heap.size ≤ B) (o : Obj) (ho : X1.ownsRow B t 1 v' (zs.length + 1) (zs.map (Value.int .i64) ++ [.int .i64 z])) (hg : (X.alloc o).grownBy X1 v.ownBlock) : OwnN t B W X1 (zs ++ [z]) v' :=
  ⟨(h.lo.alloc h.lo.size o).grown hg (by simp; have := h.lo.size; omega) (fun j e => by have := (h.own.lt j e).1; omega), by simpa using ho⟩
theorem OwnN.below {t B : Nat} {W X Y : World} {zs : List Int} {v : Value} (h : OwnN t B W X zs v) (hb : Below X.heap.size X Y) : OwnN t B W Y zs v := by
  refine ⟨h.lo.trans (hb.mono h.lo.size), h.own.1, h.own.2.imp id ?_⟩
  rintro ⟨g, cap, cur, e, h1, h2, h3⟩
  exact ⟨g, cap, cur, e, h1, (hb.block g (Array.getElem?_eq_some_iff.1 h2).1).trans h2, h3⟩
theorem own_len {W : World} {B t n m c : Nat} {p : Option Addr} {xs : List Value} (h : W.ownsRow B t 1 (.slice p m c) n xs) : m = n := by
  rcases h.2 with ⟨e, h0⟩ | ⟨g, cap, cur, e, _⟩
  · injection e with e1 e2 e3
    have := h.1
    rw [h0] at this
    simp at this
    omega
  · injection e
theorem OwnN.row {B : Nat} {W X : World} {zs : List Int} {v : Value} (h : OwnN 2 B W X zs v) (h1 : 1 ≤ zs.length) : ∃ g cap sp, v = .slice (some ⟨g, 0, none⟩) zs.length cap ∧ B ≤ g ∧ zs.length ≤ cap ∧ cap ≤ 9223372036854775807 ∧ IRow X g zs sp :=
  made_row (show Made .i64 2 B X v zs from h.own) h1
theorem OwnN.cells {t B : Nat} {W X : World} {zs : List Int} {v : Value} (h : OwnN t B W X zs v) (h1 : 1 ≤ zs.length) : ∃ g cap, v = .slice (some ⟨g, 0, none⟩) zs.length cap ∧ B ≤ g ∧ g < X.heap.size ∧ ∀ j z, zs[j]? = some z → X.cell? ⟨g, j, none⟩ = some (.int .i64 z) := by
  obtain ⟨hl, hn | ⟨g, cap, cur, rfl, hb, hg, hnc, hcm, hcs, htk⟩⟩ := h.own
  · have : zs = [] := by simpa using hn.2
    rw [this] at h1; simp at h1
  · refine ⟨g, cap, rfl, hb, (Array.getElem?_eq_some_iff.1 hg).1, fun j z hz => ?_⟩
    have hj := (List.getElem?_eq_some_iff.1 hz).1
    have h2 : (zs.map (Value.int .i64))[j]? = some (.int .i64 z) := by rw [List.getElem?_map, hz]; rfl
    rw [← htk, List.getElem?_take_of_lt (by omega)] at h2
    simp [World.cell?, hg]
    simpa using h2
theorem Try.infoIntN : (Try.prog.info? 3).map (fun i => (i.zero, i.size, i.bytes)) = some (some (.int .i64 0), 1, 8) := by kernel_rfl
theorem Try.infoI64N : (Try.prog.info? 2).map (fun i => (i.zero, i.size, i.bytes)) = some (some (.int .i64 0), 1, 8) := by kernel_rfl
theorem info_partsH {t : Nat} {z : Option Value} {s b : Nat} (h : (Try.prog.info? t).map (fun i => (i.zero, i.size, i.bytes)) = some (z, s, b)) : ∃ i, Try.prog.info? t = some i ∧ i.zero = z ∧ i.size = s ∧ i.bytes = b := by
  cases hi : Try.prog.info? t with
  | none => rw [hi] at h; cases h
  | some i =>
    rw [hi] at h
    simp only [Option.map_some, Option.some.injEq, Prod.mk.injEq] at h
    exact ⟨i, rfl, h.1, h.2.1, h.2.2⟩
/-- a number appended to a list of its own -/
theorem wpList_appN {ops : Array Oper} {rest : List Oper} {o : Oper} {a : Act} {w : World} {Q : Exit → Act → World → Prop} (dst : Option Tmp) (hd : o.dst = dst) (hgd : o.guard = none) (s x : Operand) (T E : TypeId)
    (ho : o.op = .call { callee := .builtin .append, args := #[s, x], argTypes := #[T, T] }) (hT : Try.prog.underlying T = some (.slice E)) (hI : (Try.prog.info? E).map (fun i => (i.zero, i.size, i.bytes)) = some (some (.int .i64 0), 1, 8)) (B : Nat) (v : Value) (zs : List Int) (hs : a.eval s = v)
    (hown : w.ownsRow B E 1 v zs.length (zs.map (Value.int .i64))) (g : Nat) (z : Int) (hx : a.eval x = .slice (some ⟨g, 0, none⟩) 1 1) (hz : w.cell? ⟨g, 0, none⟩ = some (.int .i64 z)) (hl : zs.length ≤ 1000000) (hB : B ≤ w.heap.size)
    (h : ∀ v' w', w'.ownsRow B E 1 v' (zs.length + 1) (zs.map (Value.int .i64) ++ [.int .i64 z]) → w.grownBy w' v.ownBlock → wpList Try.prog ops Q rest (a.put dst v') w') :
    wpList Try.prog ops Q (o :: rest) a w := by
  obtain ⟨i0, hi, hz0, hz1, hz2⟩ := info_partsH hI
  subst hd
  refine wpList_append_own_at _ hgd s x T ho B E i0 (.int .i64 0) 1 8 hT hi hz0 hz1 hz2 rfl (by decide) v zs.length _ hs hown ⟨g, 0, none⟩ 1 1 [.int .i64 z] hx rfl
    (fun j u hj => ?_) (by simp [Value.oneCell']) (by unfold maxLen; omega) (by omega) hB fun v' w' h1 h2 _ h4 => h v' w' h1 h2
  cases j with
  | zero => simp only [List.getElem?_cons_zero, Option.some.injEq] at hj; rw [add_plainC, ← hj]; exact hz
  | succ j => simp at hj
/-- the rows, of the first so many, that ask for at most so much -/
def leI (ws : List Int) (q : Int) (j : Nat) : List Int := ((List.range j).filter fun i => decide (ws[i]?.getD 0 ≤ q)).map fun (i : Nat) => (i : Int)
theorem leI_len (ws : List Int) (q : Int) (j : Nat) : (leI ws q j).length ≤ j := by
  unfold leI
  rw [List.length_map]
  exact Nat.le_trans (List.length_filter_le _ _) (by simp)
theorem leI_yes (ws : List Int) (q : Int) (j : Nat) (h : ws[j]?.getD 0 ≤ q) : leI ws q (j + 1) = leI ws q j ++ [(j : Int)] := by
  unfold leI
  rw [List.range_succ, List.filter_append, List.map_append]
  simp [h]
theorem leI_no (ws : List Int) (q : Int) (j : Nat) (h : ¬ ws[j]?.getD 0 ≤ q) : leI ws q (j + 1) = leI ws q j := by
  unfold leI
  rw [List.range_succ, List.filter_append, List.map_append]
  simp [h]
theorem leI_all (ws : List Int) (q : Int) (h : ∀ z ∈ ws, z ≤ q) (j : Nat) (hj : j ≤ ws.length) : leI ws q j = (List.range j).map fun (i : Nat) => (i : Int) := by
  unfold leI
  congr 1
  rw [List.filter_eq_self]
  intro i hi
  have hi' : i < ws.length := by have := List.mem_range.1 hi; omega
  rw [List.getElem?_eq_getElem hi']
  simpa using h _ (List.getElem_mem hi')
/-- the rows that are stretched -/
def choP (ws : List Int) : List Int := if leI ws (-1) ws.length = [] then leI ws 1073741824 ws.length else leI ws (-1) ws.length
def JS (p : Option Addr) (m c : Nat) (bad : Prop) (w : World) (a : Act) (X : World) : Prop :=
  (∃ u4 u5 u6 u7 u8 u9 u10 u11 u12 u13 u14 u15 u16 u17 u18 u19 u20 u21 u22 u23 u24 u25 : Value, a = { tmps := #[.slice p m c, undef, .slice none 0 0, .int .i64 1073741824, u4, u5, u6, u7, u8, u9, u10, u11, u12, u13, u14, u15, u16, u17, u18, u19, u20, u21, u22, u23, u24, u25], defers := [] }) ∧ bad ∧ Below w.heap.size w X
set_option maxRecDepth 100000 in
set_option maxHeartbeats 8000000 in
theorem stretchable_any (p : Option Addr) (m c : Nat) (ws : List Int) (W : World) (hw : IArg W p m c ws) (m1 : 1 ≤ m) (m2 : m ≤ 10000) (hv : ∀ z ∈ ws, z ≤ 1073741824) :
    Calls Try.prog 32 #[.slice p m c] W fun e X => ∃ v, e = .returned v ∧ OwnN 3 W.heap.size W X (choP ws) v := by
  have HWL := Lib.hid hw.len
  have HALL := Lib.hid (leI_all ws 1073741824 hv m (by rw [hw.len]; exact Nat.le_refl _))
  have HAT : Hid (∀ X, Below W.heap.size W X → ∀ j, j < m → ∃ b off, p = some ⟨b, off, none⟩ ∧ X.cell? ⟨b, off + j, none⟩ = some (.int .i64 (ws[j]?.getD 0))) := Lib.hid (fun X hX j hj => by
    obtain ⟨_, ⟨a, c', e, he⟩ | ⟨b, off, c', e, hc⟩⟩ := (hw.ints.below hX)
    · have := hw.len; rw [he] at this; simp at this; omega
    · injection e with e1
      exact ⟨b, off, e1, hc j (by rw [hw.len]; exact hj)⟩)
  clear hw hv
  go_enter Try.func32, Try.ntmps32
  go_wp2_with fail
  refine wp_scope_jumps 0 (JS p m c (leI ws (-1) m = []) W) (fun _ _ => 0) rfl ?first ?pass
  case first =>
    go_wp2_with fail
    refine wp_label ?_
    go_wp2
    go_loopw [4, 9] (fun s4 s9 X => ∃ (j : Nat) (v : Value), j ≤ m ∧ s9 = .int .i64 (j : Int) ∧ v = s4 ∧ Hid (OwnN 3 W.heap.size W X (leI ws (-1) j) v)) (fun _ s9 _ => m - (intOf s9).toNat)
    case atStart => exact ⟨0, _, Nat.zero_le _, rfl, rfl, Lib.hid ⟨Below.refl _ _, World.ownsRow_nil _ _ _ _⟩⟩
    case round =>
      obtain ⟨j, v, hj, rfl, rfl, HO⟩ := hrel
      by_cases hlt : j < m
      · obtain ⟨b, off, rfl, hc⟩ := HAT.out wr HO.out.lo j hlt
        have lb := cell_lt hc
        obtain ⟨pv, pk, pc, hv⟩ := own_slice HO.out.own
        by_cases hle : ws[j]?.getD 0 ≤ -1
        · have hd : decide (ws[j]?.getD 0 ≤ -1) = true := by simpa using hle
          have HS := Lib.hid (leI_yes ws (-1) j hle)
          generalize ws[j]?.getD 0 = x at *
          have HBX := Lib.hid (whole_new wr [.int .i64 (j : Int)] 3 _ rfl)
          have HL := Lib.hid (show (leI ws (-1) j).length ≤ 1000000 from Nat.le_trans (leI_len _ _ _) (by omega))
          obtain ⟨LL, hLL⟩ : ∃ L, leI ws (-1) j = L := ⟨_, rfl⟩
          rw [hLL] at HO HL HS
          clear hLL HAT
          go_wp2_with (first
            | (at_builtin; refine wpList_appN (some 20) rfl rfl _ _ 54 3 rfl Try.underlying54 Try.infoIntN W.heap.size v LL rfl (HO.out.own.alloc _) wr.heap.size (j : Int) rfl (HBX.out.cellAt 0) HL.out (by have := HO.out.lo.size; simp; omega) ?_; intro v' w' h1 h2; refine Hid.out ?_)
            | fail)
          have HN : Hid (OwnN 3 W.heap.size W w' (leI ws (-1) (j + 1)) v') := Lib.hid (by rw [HS.out]; exact HO.out.app (Nat.le_refl _) _ h1 h2)
          clear h1 h2 HO HS HBX HL
          refine Lib.hid ?_
          go_wp2
          go_roundw
          case rel => exact ⟨j + 1, _, by omega, by go_num, rfl, HN⟩
          case measure => simp [intOf]; omega
        · have hd : decide (ws[j]?.getD 0 ≤ -1) = false := by simpa using hle
          have HN : Hid (OwnN 3 W.heap.size W wr (leI ws (-1) (j + 1)) v) := Lib.hid (by rw [leI_no ws (-1) j hle]; exact HO.out)
          generalize ws[j]?.getD 0 = x at *
          clear HO HAT
          go_wp2
          go_roundw
          case rel => exact ⟨j + 1, _, by omega, by go_num, rfl, HN⟩
          case measure => simp [intOf]; omega
      · obtain rfl : m = j := by omega
        have HOO := HO
        clear HO HAT
        obtain ⟨pv, pk, pc, rfl⟩ := own_slice HOO.out.own
        have hkl : pk = (leI ws (-1) m).length := own_len HOO.out.own
        by_cases he : leI ws (-1) m = []
        · have hk0 : pk = 0 := by rw [hkl, he]; rfl
          subst hk0
          have HB := Lib.hid (And.intro he HOO.out.lo)
          clear he hkl HOO
          go_wp2
          refine wp_goto ?_
          exact ⟨rfl, ⟨_, _, _, _, _, _, _, _, _, _, _, _, _, _, _, _, _, _, _, _, _, _, rfl⟩, HB.out.1, HB.out.2⟩
        · have hk0 : pk ≠ 0 := by rw [hkl]; intro e; exact he (List.length_eq_zero_iff.1 e)
          have hkb : ((pk : Int) == 0) = false := by simp; omega
          have HF : Hid (OwnN 3 W.heap.size W wr (choP ws) (.slice pv pk pc)) := Lib.hid (by unfold choP; rw [HWL.out, if_neg he]; exact HOO.out)
          clear he hkl HOO
          go_wp2
          simp only [Exit.jump]
          go_ret
          exact ⟨_, rfl, HF.out⟩
  case pass =>
    rintro a X ⟨⟨u4, u5, u6, u7, u8, u9, u10, u11, u12, u13, u14, u15, u16, u17, u18, u19, u20, u21, u22, u23, u24, u25, rfl⟩, hbad, hb⟩
    have HBAD := Lib.hid hbad
    have HB := Lib.hid hb
    clear hbad hb
    go_wp2
    go_loopw [4, 9] (fun s4 s9 X => ∃ (j : Nat) (v : Value), j ≤ m ∧ s9 = .int .i64 (j : Int) ∧ v = s4 ∧ Hid (OwnN 3 W.heap.size W X (leI ws (1073741824) j) v)) (fun _ s9 _ => m - (intOf s9).toNat)
    case atStart => exact ⟨0, _, Nat.zero_le _, rfl, rfl, Lib.hid ⟨HB.out, World.ownsRow_nil _ _ _ _⟩⟩
    case round =>
      obtain ⟨j, v, hj, rfl, rfl, HO⟩ := hrel
      by_cases hlt : j < m
      · obtain ⟨b, off, rfl, hc⟩ := HAT.out wr HO.out.lo j hlt
        have lb := cell_lt hc
        obtain ⟨pv, pk, pc, hv⟩ := own_slice HO.out.own
        by_cases hle : ws[j]?.getD 0 ≤ 1073741824
        · have hd : decide (ws[j]?.getD 0 ≤ 1073741824) = true := by simpa using hle
          have HS := Lib.hid (leI_yes ws (1073741824) j hle)
          generalize ws[j]?.getD 0 = x at *
          have HBX := Lib.hid (whole_new wr [.int .i64 (j : Int)] 3 _ rfl)
          have HL := Lib.hid (show (leI ws (1073741824) j).length ≤ 1000000 from Nat.le_trans (leI_len _ _ _) (by omega))
          obtain ⟨LL, hLL⟩ : ∃ L, leI ws (1073741824) j = L := ⟨_, rfl⟩
          rw [hLL] at HO HL HS
          clear hLL HAT
          go_wp2_with (first
            | (at_builtin; refine wpList_appN (some 20) rfl rfl _ _ 54 3 rfl Try.underlying54 Try.infoIntN W.heap.size v LL rfl (HO.out.own.alloc _) wr.heap.size (j : Int) rfl (HBX.out.cellAt 0) HL.out (by have := HO.out.lo.size; simp; omega) ?_; intro v' w' h1 h2; refine Hid.out ?_)
            | fail)
          have HN : Hid (OwnN 3 W.heap.size W w' (leI ws (1073741824) (j + 1)) v') := Lib.hid (by rw [HS.out]; exact HO.out.app (Nat.le_refl _) _ h1 h2)
          clear h1 h2 HO HS HBX HL
          refine Lib.hid ?_
          go_wp2
          go_roundw
          case rel => exact ⟨j + 1, _, by omega, by go_num, rfl, HN⟩
          case measure => simp [intOf]; omega
        · have hd : decide (ws[j]?.getD 0 ≤ 1073741824) = false := by simpa using hle
          have HN : Hid (OwnN 3 W.heap.size W wr (leI ws (1073741824) (j + 1)) v) := Lib.hid (by rw [leI_no ws (1073741824) j hle]; exact HO.out)
          generalize ws[j]?.getD 0 = x at *
          clear HO HAT
          go_wp2
          go_roundw
          case rel => exact ⟨j + 1, _, by omega, by go_num, rfl, HN⟩
          case measure => simp [intOf]; omega
      · obtain rfl : m = j := by omega
        have HOO := HO
        clear HO HAT
        obtain ⟨pv, pk, pc, rfl⟩ := own_slice HOO.out.own
        have hkl : pk = (leI ws 1073741824 m).length := own_len HOO.out.own
        have hk0 : pk ≠ 0 := by rw [hkl, HALL.out]; simp; omega
        have hkb : ((pk : Int) == 0) = false := by simp; omega
        have HF : Hid (OwnN 3 W.heap.size W wr (choP ws) (.slice pv pk pc)) := Lib.hid (by unfold choP; rw [HWL.out, if_pos HBAD.out]; exact HOO.out)
        clear hkl HOO
        go_wp2
        simp only [Exit.jump]
        go_ret
        exact ⟨_, rfl, HF.out⟩
end Go.Proofs.Ytpbkboandiigfaa
