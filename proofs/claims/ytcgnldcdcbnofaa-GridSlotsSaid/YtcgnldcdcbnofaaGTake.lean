/- Contracts of grid.high and of the columns' take: a list that its caller owns, and that grows. -/
import Derived.Test.YtcgnldcdcbnofaaGGap
import Derived.Test.YtcgnldcdcbnofaaSlice
namespace Go.Proofs.Ytcgnldcdcbnofaa
open Go.RowKit Go.Shelf
set_option linter.unusedVariables false
attribute [local go_sem] Oper.semAt_some

/-- a cell's place -/
structure Pl where
  n : Int
  r : Nat
  c : Nat
  h : Nat
  w : Nat
deriving DecidableEq
def Pl.cells (p : Pl) : List Value := [.int .i64 p.n, .int .i64 (p.r : Int), .int .i64 (p.c : Int), .int .i64 (p.h : Int), .int .i64 (p.w : Int)]
def highF (r : Int) (left : Nat) : Nat := if r = 0 then left else min r.toNat left
set_option maxHeartbeats 1000000 in
theorem high_any (x1 x2 x3 : Int) (left : Nat) (w : World) (hr : 0 ≤ x3) :
    Calls Try.prog 27 #[.agg #[.int .i64 x1, .int .i64 x2, .int .i64 x3], .int .i64 left] w fun e w' => e = .returned (.int .i64 (highF x3 left : Nat)) ∧ Below w.heap.size w w' := by
  obtain ⟨k, rfl⟩ : ∃ k : Nat, x3 = (k : Int) := ⟨x3.toNat, by omega⟩
  have hb : Hid (Below w.heap.size w (w.alloc (.cells #[.int .i64 x1, .int .i64 x2, .int .i64 (k : Int)] 48))) := Lib.hid ((Below.refl _ w).alloc (Nat.le_refl _) _)
  by_cases h : k = 0
  · subst h
    have e : Hid (highF ((0 : Nat) : Int) left = left) := Lib.hid rfl
    go_enter Try.func27, Try.ntmps27
    go_wp2
    go_ret
    exact ⟨by rw [e.out]; rfl, hb.out⟩
  · have hq : ((k : Int) == 0) = false := by simpa using h
    have e : Hid (highF (k : Int) left = min k left) := Lib.hid (by unfold highF; rw [if_neg (by omega)]; simp)
    have hm : ((min k left : Nat) : Int) = min (k : Int) (left : Int) := by omega
    go_enter Try.func27, Try.ntmps27
    go_wp2
    all_goals
      go_ret
      refine ⟨?_, hb.out⟩
      rw [e.out, hm]
      simp
      try omega
/-- the columns' list, as its owner holds it -/
def OwnT (base : Nat) (X : World) (v : Value) (t : List Nat) : Prop := X.ownsRow base 3 1 v t.length ((zz t).map (Value.int .i64))
theorem OwnT.form {base : Nat} {X : World} {v : Value} {t : List Nat} (h : OwnT base X v t) : ∃ p c, v = .slice p t.length c := by
  rcases h.2 with ⟨rfl, h0⟩ | ⟨g', cap, cur, rfl, _⟩
  · exact ⟨none, 0, by rw [h0]⟩
  · exact ⟨_, _, rfl⟩
theorem OwnT.ints {base : Nat} {X : World} {v : Value} {t : List Nat} (h : OwnT base X v t) (hl : t.length ≤ 1000000) : Ints X v (zz t) := by
  rcases h.2 with ⟨rfl, h0⟩ | ⟨g', cap, cur, rfl, hb, hg, _, _, hcs, htk⟩
  · refine ⟨by rw [zz_len]; omega, .inl ⟨none, 0, rfl, ?_⟩⟩
    have : t = [] := List.length_eq_zero_iff.1 h0
    rw [this]; rfl
  · refine ⟨by rw [zz_len]; omega, .inr ⟨g', 0, cap, by rw [zz_len], fun j hj => ?_⟩⟩
    rw [zz_len] at hj
    have hq := congrArg (fun l => l[j]?) htk
    simp only [Nat.mul_one] at hq
    rw [List.getElem?_take_of_lt hj] at hq
    rw [Nat.zero_add]
    simp only [World.cell?, hg]
    rw [← Array.getElem?_toList, hq]
    simp [zz, hj]
theorem zz_snoc (t : List Nat) (z : Nat) : (zz (t ++ [z])).map (Value.int .i64) = (zz t).map (Value.int .i64) ++ [.int .i64 (z : Int)] := by simp [zz]
theorem zz_set (t : List Nat) (i z : Nat) : (zz (t.set i z)).map (Value.int .i64) = ((zz t).map (Value.int .i64)).set i (.int .i64 (z : Int)) := by simp [zz, List.map_set]
/-- what a call leaves that may write a list of its caller's -/
structure Left (v : Value) (w X : World) (v' : Value) : Prop where
  grown : w.grownBy X v.ownBlock
  own : v'.ownBlock = v.ownBlock ∨ ∃ k, v'.ownBlock = some k ∧ w.heap.size ≤ k
theorem Left.step {v v1 v2 : Value} {w X Y : World} (h : Left v w X v1) (k : Left v1 X Y v2) : Left v w Y v2 := by
  refine ⟨h.grown.andThen k.grown fun j hj => ?_, ?_⟩
  · rcases h.own with h1 | ⟨k1, h1, h2⟩
    · exact .inr (by rw [← h1]; exact hj)
    · rw [h1] at hj; cases hj; exact .inl h2
  · rcases k.own with h1 | ⟨k1, h1, h2⟩
    · rw [h1]; exact h.own
    · exact .inr ⟨k1, h1, Nat.le_trans h.grown.size h2⟩
theorem Try.infoIntG : (Try.prog.info? 3).map (fun i => (i.zero, i.size, i.bytes)) = some (some (.int .i64 0), 1, 8) := by kernel_rfl
theorem lay_newG (w : World) (xs : List Value) (t g : Nat) (hg : g = w.heap.size) : ∀ j u, xs[j]? = some u → (w.alloc (.cells xs.toArray t)).cell? ((⟨g, 0, none⟩ : Addr).add j) = some u := by
  intro j u hj
  have h := (whole_new w xs t g hg).cellAt j
  rw [show (⟨g, 0, none⟩ : Addr).add j = ⟨g, j, none⟩ by unfold Addr.add; split <;> simp_all]
  exact h.trans hj
theorem Left.refl (v : Value) (w : World) : Left v w w v := ⟨World.grownBy.refl w _, .inl rfl⟩
theorem Left.alloc {v v1 : Value} {w X : World} (h : Left v w X v1) (o : Obj) : Left v w (X.alloc o) v1 := h.step ⟨World.grownBy_alloc X o _, .inl rfl⟩
set_option maxRecDepth 100000 in
set_option maxHeartbeats 2000000 in
theorem take_at (base : Nat) (v : Value) (t : List Nat) (x : Int) (row c h wd : Nat) (w : World) (hb : base ≤ w.heap.size) (hO : OwnT base w v t) (hc : c ≤ t.length) (ht : t.length ≤ 100000) (hw : wd ≤ 100000) (hr : row ≤ 100000) (hh : h ≤ 100000) :
    Calls Try.prog 29 #[v, .agg #[.int .i64 x, .int .i64 row, .int .i64 c, .int .i64 h, .int .i64 wd]] w fun e w' => ∃ v', e = .returned v' ∧ OwnT base w' v' (takeN t c (row + h) wd) ∧ Left v w w' v' := by
  obtain ⟨i0, hi0, hz0', hz1', hz2'⟩ := info_parts Try.infoIntG
  have HZ1 := Lib.hid hz0'
  have HZ2 := Lib.hid hz1'
  have HZ3 := Lib.hid hz2'
  obtain ⟨W1, hW1⟩ : ∃ W1, w.alloc (.cells #[.int .i64 x, .int .i64 row, .int .i64 c, .int .i64 h, .int .i64 wd] 52) = W1 := ⟨_, rfl⟩
  have k1 : Whole W1 w.heap.size 52 [.int .i64 x, .int .i64 row, .int .i64 c, .int .i64 h, .int .i64 wd] := hW1 ▸ whole_new w [.int .i64 x, .int .i64 row, .int .i64 c, .int .i64 h, .int .i64 wd] 52 _ rfl
  have l1 : Left v w W1 v := hW1 ▸ (Left.refl v w).alloc _
  have o1 : OwnT base W1 v t := hW1 ▸ World.ownsRow.alloc hO _
  have HS : Hid (OwnT base W1 v (takeN t c (row + h) 0) ∧ Left v w W1 v ∧ Whole W1 w.heap.size 52 [.int .i64 x, .int .i64 row, .int .i64 c, .int .i64 h, .int .i64 wd]) := Lib.hid ⟨o1, l1, k1⟩
  have HTL := Lib.hid (takeN_len t c (row + h) hc)
  have c4 := k1.cellAt 4
  have lw1 := k1.lt
  clear hz0' hz1' hz2' hO k1 l1 o1
  go_enter Try.func29, Try.ntmps29
  go_wp2
  go_loopw [0, 8] (fun s0 s8 X => ∃ k : Nat, k ≤ wd ∧ s8 = .int .i64 (k : Int) ∧ Hid (OwnT base X s0 (takeN t c (row + h) k) ∧ Left v w X s0 ∧ Whole X w.heap.size 52 [.int .i64 x, .int .i64 row, .int .i64 c, .int .i64 h, .int .i64 wd])) (fun _ s8 _ => wd - (intOf s8).toNat)
  case atStart => exact ⟨0, Nat.zero_le _, rfl, HS⟩
  case round =>
    obtain ⟨k, hk, rfl, HX⟩ := hrel
    clear HS c4 lw1 hW1
    by_cases hlt : k < wd
    · have hl := HTL.out k
      obtain ⟨tk, htk⟩ : ∃ tk, takeN t c (row + h) k = tk := ⟨_, rfl⟩
      have hnext : takeN t c (row + h) (k + 1) = (if c + k = tk.length then tk ++ [0] else tk).set (c + k) (row + h) := by rw [← htk]; rfl
      rw [htk] at hl HX
      have HN := Lib.hid hnext
      obtain ⟨p0, c0, rfl⟩ := OwnT.form HX.out.1
      obtain ⟨hO, hL, hP⟩ := HX.out
      obtain ⟨n, hn⟩ : ∃ n, tk.length = n := ⟨_, rfl⟩
      have e0 : Hid (tk.length = n) := Lib.hid hn
      rw [hn] at hl hL
      unfold OwnT at hO
      rw [hn] at hO ⊢
      have HO := Lib.hid hO
      have HL := Lib.hid hL
      have HP := Lib.hid hP
      have p1 := hP.cellAt 1
      have p2 := hP.cellAt 2
      have p3 := hP.cellAt 3
      have lp := hP.lt
      have hbx : base ≤ wr.heap.size := by have := hL.grown.size; omega
      have erh : ((row + h : Nat) : Int) = (row : Int) + (h : Int) := by omega
      have HERH := Lib.hid erh
      clear erh
      clear hO hL hP hnext htk HX hn
      by_cases hat : c + k = n
      · have hq : ((c : Int) + (k : Int) == (n : Int)) = true := by simp; omega
        have HF : Hid (∀ (w1 : World) (v1 : Value), w1.ownsRow base 3 1 v1 (n + 1) ((zz tk).map (Value.int .i64) ++ [.int .i64 0]) → (wr.alloc (.cells #[.int .i64 0] 3)).grownBy w1 (Value.slice p0 n c0).ownBlock → (v1.ownBlock = (Value.slice p0 n c0).ownBlock ∨ v1.ownBlock = some (wr.alloc (.cells #[.int .i64 0] 3)).heap.size) →
            ∃ g1 cap1, v1 = .slice (some ⟨g1, 0, none⟩) (n + 1) cap1 ∧ g1 < w1.heap.size ∧ w1.frozen? ⟨g1, c + k, none⟩ = false ∧ w1.cell? ⟨g1, c + k, none⟩ = some (.int .i64 0) ∧ Whole w1 w.heap.size 52 [.int .i64 x, .int .i64 row, .int .i64 c, .int .i64 h, .int .i64 wd] ∧
              Hid (OwnT base (w1.setCell ⟨g1, c + k, none⟩ (.int .i64 ((row : Int) + (h : Int)))) (.slice (some ⟨g1, 0, none⟩) (n + 1) cap1) (takeN t c (row + h) (k + 1)) ∧ Left v w (w1.setCell ⟨g1, c + k, none⟩ (.int .i64 ((row : Int) + (h : Int)))) (.slice (some ⟨g1, 0, none⟩) (n + 1) cap1) ∧
                Whole (w1.setCell ⟨g1, c + k, none⟩ (.int .i64 ((row : Int) + (h : Int)))) w.heap.size 52 [.int .i64 x, .int .i64 row, .int .i64 c, .int .i64 h, .int .i64 wd])) := Lib.hid fun w1 v1 hown hgrow hf => by
          obtain ⟨g1, cap1, rfl, hb1, hl1⟩ := hown.form (by omega)
          have hst := hown.stored (c + k) (.int .i64 ((row : Int) + (h : Int)))
          have hP1 := Whole.app HP.out HO.out (by decide) hgrow
          have hne : w.heap.size ≠ g1 := fun e => whole_own hP1 hown (by decide) (by rw [e]; rfl)
          refine ⟨g1, cap1, rfl, hl1, hown.frozenAt _, ?_, hP1, Lib.hid ⟨?_, ?_, hP1.other _ _ hne⟩⟩
          · rw [hown.cellAt _ (by omega), List.getElem?_append_right (by simp [zz, e0.out]; omega)]
            simp [zz, e0.out, hat]
          · rw [HN.out, if_pos (by rw [e0.out]; exact hat)]
            unfold OwnT
            rw [zz_set, zz_snoc, List.length_set, List.length_append, e0.out, HERH.out]
            exact hst.1
          · refine (HL.out.alloc (.cells #[.int .i64 0] 3)).step (Left.step (v1 := .slice (some ⟨g1, 0, none⟩) (n + 1) cap1) ⟨hgrow, ?_⟩ ⟨hst.2, .inl rfl⟩)
            rcases hf with hf | hf
            · exact .inl hf
            · exact .inr ⟨_, hf, Nat.le_refl _⟩
        clear HN HL HTL
        have hnn : n ≤ 200000 := by omega
        have hcn : c + k ≤ n := by omega
        clear hl hat
        go_wp2_with (at_builtin; refine wpList_append_own_at _ rfl _ _ 84 rfl base 3 i0 (.int .i64 0) 1 8 Try.underlying84 hi0 HZ1.out HZ2.out HZ3.out rfl (by decide) (.slice p0 n c0) n _ rfl (HO.out.alloc _) ⟨wr.heap.size, 0, none⟩ 1 1 [.int .i64 0] rfl rfl (lay_newG _ [.int .i64 0] 3 wr.heap.size rfl) (by simp [Value.oneCell']) (by unfold maxLen; omega) (by omega) (by simp; omega) ?_; intro v1 w1 hown1 hgrow1 _ hf1; obtain ⟨g1, cap1, rfl, lg1, fg1, cg1, hP1, HX1⟩ := HF.out w1 v1 hown1 hgrow1 hf1; have p1 := hP1.cellAt 1; have p2 := hP1.cellAt 2; have p3 := hP1.cellAt 3; have lp := hP1.lt; clear hown1 hgrow1 hf1 hP1 HF HO)
        go_roundw
        case rel => exact ⟨k + 1, by omega, by go_num, HX1⟩
        case measure => simp [intOf]; omega
      · have hq : ((c : Int) + (k : Int) == (n : Int)) = false := by simp; omega
        obtain ⟨g1, cap1, e1, hb1, hl1⟩ := HO.out.form (by omega)
        injection e1 with e1 e2 e3
        subst e1 e3
        clear e2
        have hst := HO.out.stored (c + k) (.int .i64 ((row : Int) + (h : Int)))
        have hne : w.heap.size ≠ g1 := fun e => whole_own HP.out HO.out (by decide) (by rw [e]; rfl)
        have HX1 : Hid (OwnT base (wr.setCell ⟨g1, c + k, none⟩ (.int .i64 ((row : Int) + (h : Int)))) (.slice (some ⟨g1, 0, none⟩) n c0) (takeN t c (row + h) (k + 1)) ∧ Left v w (wr.setCell ⟨g1, c + k, none⟩ (.int .i64 ((row : Int) + (h : Int)))) (.slice (some ⟨g1, 0, none⟩) n c0) ∧
                Whole (wr.setCell ⟨g1, c + k, none⟩ (.int .i64 ((row : Int) + (h : Int)))) w.heap.size 52 [.int .i64 x, .int .i64 row, .int .i64 c, .int .i64 h, .int .i64 wd]) := Lib.hid (by
          refine ⟨?_, HL.out.step ⟨hst.2, .inl rfl⟩, HP.out.other _ _ hne⟩
          rw [HN.out, if_neg (by rw [e0.out]; exact hat)]
          unfold OwnT
          rw [zz_set, List.length_set, e0.out, HERH.out]
          exact hst.1)
        have fg1 := HO.out.frozenAt (c + k)
        obtain ⟨old, cg1⟩ : ∃ old, wr.cell? ⟨g1, c + k, none⟩ = some old := by
          rw [HO.out.cellAt _ (by omega)]
          exact ⟨_, List.getElem?_eq_getElem (by simp [zz, e0.out]; omega)⟩
        have hcn : c + k < n := by omega
        have hnn : n ≤ 200000 := by omega
        clear HN HL HTL hst hne HO HP hl hat
        go_wp2
        go_roundw
        case rel => exact ⟨k + 1, by omega, by go_num, HX1⟩
        case measure => simp [intOf]; omega
    · obtain rfl : k = wd := by omega
      have p4 := HX.out.2.2.cellAt 4
      go_wp2
      go_ret
      exact ⟨_, rfl, HX.out.1, HX.out.2.1⟩
end Go.Proofs.Ytcgnldcdcbnofaa
