/- Runs, and lists of runs; the iterator collapse.runs. -/
import Derived.Test.YtceippgkmoijdaaROwn
import Derived.Test.YtceippgkmoijdaaMarks
import Derived.Maps.OwnIn
import Derived.Sort.LoopGhostIn
import Derived.ScopeJumps
import Derived.WalkMore
namespace Go.Proofs.Ytceippgkmoijdaa
open Go.RowKit Go.Shelf Go.Sort
set_option linter.unusedVariables false
set_option linter.unusedSimpArgs false
attribute [local go_sem] Oper.semAt_some

/-- a run -/
structure Rn where
  fr : Int
  to : Int
  ln : Fr
  deriving DecidableEq, Inhabited
def Rn.cells (s : Rn) : List Value := [.int .i64 s.fr, .int .i64 s.to] ++ s.ln.cells
def Rn.val (s : Rn) : Value := .agg s.cells.toArray
theorem Rn.cells_len (s : Rn) : s.cells.length = 14 := rfl
/-- is a run right, of so many bands? -/
def rnB (n : Int) (s : Rn) : Bool := decide (0 ≤ s.fr) && (decide (s.to ≤ n) && (decide (s.fr < s.to) && frB s.ln))
/-- lists of runs, one behind the other -/
def LsAt (W : World) (sv : Value) (Ls : List (List Rn)) : Prop := Ls.length ≤ 1000 ∧ ∃ b c, sv = .slice (some ⟨b, 0, none⟩) Ls.length c ∧ b < W.heap.size ∧ ∀ i L, Ls[i]? = some L → ∃ p k, W.cell? ⟨b, i, none⟩ = some (.slice p L.length k) ∧ RowsK Rn.cells 14 W (.slice p L.length k) L
theorem LsAt.below {W W' : World} {sv : Value} {Ls : List (List Rn)} (h : LsAt W sv Ls) (hb : Below W.heap.size W W') : LsAt W' sv Ls := by
  obtain ⟨h0, b, c, e, hl, hc⟩ := h
  refine ⟨h0, b, c, e, Nat.lt_of_lt_of_le hl hb.size, fun i L hi => ?_⟩
  obtain ⟨p, k, h1, h2⟩ := hc i L hi
  exact ⟨p, k, (hb.cell (p := ⟨b, i, none⟩) hl).trans h1, h2.below hb⟩
def nxtU (Ls : List (List Rn)) (pre : List Rn) (x : Rn) : Prop := Ls.flatten[pre.length]? = some x
def encU (x : Rn) : Array Value := #[x.val]
theorem flat_at (Ls : List (List Rn)) (i : Nat) (L : List Rn) (hi : Ls[i]? = some L) (j : Nat) (x : Rn) (hj : L[j]? = some x) :
    nxtU Ls ((Ls.take i).flatten ++ L.take j) x := by
  have hs : Ls = Ls.take i ++ L :: Ls.drop (i + 1) := by
    have hl := (List.getElem?_eq_some_iff.1 hi).1
    have e := (List.getElem?_eq_some_iff.1 hi).2
    conv => lhs; rw [← List.take_append_drop i Ls, List.drop_eq_getElem_cons hl, e]
  have hjl := (List.getElem?_eq_some_iff.1 hj).1
  have hlen : ((Ls.take i).flatten ++ L.take j).length = (Ls.take i).flatten.length + j := by rw [List.length_append, List.length_take]; omega
  have hf : Ls.flatten = (Ls.take i).flatten ++ (L ++ (Ls.drop (i + 1)).flatten) := by
    conv => lhs; rw [hs, List.flatten_append, List.flatten_cons]
  unfold nxtU
  rw [hlen, hf, List.getElem?_append_right (by omega), Nat.add_sub_cancel_left, List.getElem?_append_left hjl, hj]
theorem flat_take (Ls : List (List Rn)) (i : Nat) (L : List Rn) (hi : Ls[i]? = some L) : (Ls.take (i + 1)).flatten = (Ls.take i).flatten ++ L := by
  rw [List.take_add_one, hi, List.flatten_append]; simp
set_option maxRecDepth 100000 in
set_option maxHeartbeats 4000000 in
theorem runs_in (n : Nat) (hn : 1 ≤ n) (l gl B : Nat) (E : List Nat) (sv : Value) (Ls : List (List Rn)) (J Jx : List Rn → World → Prop)
    (W : World) (hY : ∀ pre x V, J pre V → nxtU Ls pre x → YieldAt Fence.wide (n - 1) Try.prog l (encU x) V fun e V' =>
      (e = .returned (.bool true) ∧ J (pre ++ [x]) V' ∧ KeepBut E V V') ∨ (e = .returned (.bool false) ∧ Jx (pre ++ [x]) V'))
    (hB : B + 2 ≤ W.heap.size) (hJ : ∀ s X Y, J s X → Below W.heap.size X Y → J s Y) (hgl : gl < B) (el : ∀ k ∈ E, B ≤ k)
    (hbl : W.cell? ⟨gl, 0, none⟩ = some sv) (w0 : World) (hw0 : w0.heap.size = B) (hL : LsAt w0 sv Ls) (hbw : Below B w0 W) (h0 : J [] W) :
    CallsIn Fence.wide n Try.prog 76 #[.func (.yield l) #[] #[], .pointer (some ⟨gl, 0, none⟩)] W fun e W' => (∃ v, e = .returned v) ∧
      ((∃ ys, ys = Ls.flatten ∧ J ys W') ∨ (∃ pre, True ∧ Jx pre W')) := by
  obtain ⟨hk1, bb, cc, rfl, hlb, hrows⟩ := hL
  refine callsIn_of_wp Try.func76 rfl trivial ?_ rfl
  simp only [Try.ntmps76, List.size_toArray, List.length_cons, List.length_nil, Nat.reduceAdd, Nat.reduceSub, Array.replicate_succ, Array.replicate_zero, List.push_toArray, List.append_toArray, List.nil_append, List.cons_append]
  -- what was below stays
  have HLOW : Hid (∀ X, KeepBut E W X → ∀ (a : Addr) u, a.block < B → w0.cell? a = some u → X.cell? a = some u) := Lib.hid fun X hX a u ha hu => by
    have h1 := World.cell?_of_block (a := a) (hX.2 a.block (fun hm => by have := el _ hm; omega) (by omega))
    rw [h1]; exact (hbw.cell ha).trans hu
  have HROW := Lib.hid hrows
  have HY := Lib.hid hY
  have HJ := Lib.hid hJ
  have H0 := Lib.hid h0
  have lgl := cell_lt hbl
  obtain ⟨M, hM⟩ : ∃ M, Ls.length = M := ⟨_, rfl⟩
  have HM := Lib.hid hM
  rw [hM] at hbl hk1
  clear hY hJ h0 hM hrows hbw el
  refine wpIn_wide.2 (wp_scope_straight ((wpIn_wide (n := n)).1 ?_))
  gi_wp2
  refine wpIn_label ?_
  gi_wp2
  gi_loopw [9] (fun s9 X => ∃ i : Nat, i ≤ M ∧ s9 = .int .i64 i ∧ Hid (J (Ls.take i).flatten X) ∧ Hid (KeepBut E W X)) (fun s9 _ => M - (intOf s9).toNat)
  case atStart => exact ⟨0, Nat.zero_le _, rfl, Lib.hid (by simpa using H0.out), Lib.hid (KeepBut.refl _ _)⟩
  case round =>
    obtain ⟨i, hi, rfl, HJ1, HK⟩ := hrel
    clear hbl lgl
    by_cases hlt : i < M
    · obtain ⟨L, hL⟩ : ∃ L, Ls[i]? = some L := ⟨_, List.getElem?_eq_getElem (by rw [HM.out]; exact hlt)⟩
      obtain ⟨p, k, hc0, hrw⟩ := HROW.out i L hL
      have hc1 : wr.cell? ⟨bb, i, none⟩ = some (.slice p L.length k) := HLOW.out wr HK.out _ _ (by show bb < B; omega) hc0
      have hb1 : bb < wr.heap.size := by have := HK.out.1; omega
      have hLl := hrw.1
      have HFT := Lib.hid (flat_take Ls i L hL)
      have HNX := Lib.hid (fun j x h => flat_at Ls i L hL j x h)
      have HAT := Lib.hid (fun X (hX : KeepBut E W X) j x (hj : L[j]? = some x) => by
        obtain ⟨g, o, e, hg, hc⟩ := hrw.at j x hj
        have h2 : ∃ g o, p = some ⟨g, o, none⟩ ∧ g < X.heap.size ∧ ∀ q v, x.cells[q]? = some v → X.cell? ⟨g, o + j * 14 + q, none⟩ = some v :=
          ⟨g, o, e, by have := hX.1; omega, fun q v hv => HLOW.out X hX _ _ (by show g < B; omega) (hc q v hv)⟩
        exact h2)
      obtain ⟨m, hm⟩ : ∃ m, L.length = m := ⟨_, rfl⟩
      have HML := Lib.hid hm
      rw [hm] at hc1 hLl
      clear hL hm hc0 hrw
      obtain ⟨V0, hV0⟩ : ∃ V, V = wr := ⟨_, rfl⟩
      subst hV0
      gi_wp2
      clear hc1 hb1
      gi_loopw [15] (fun s15 X => ∃ j : Nat, j ≤ m ∧ s15 = .int .i64 j ∧ Hid (J ((Ls.take i).flatten ++ L.take j) X) ∧ Hid (KeepBut E W X)) (fun s15 _ => m - (intOf s15).toNat)
      case atStart => exact ⟨0, Nat.zero_le _, rfl, Lib.hid (by simpa using HJ1.out), HK⟩
      case round =>
        clear HJ1 HK
        obtain ⟨j, hj, rfl, HJ1, HK⟩ := hrel
        by_cases hlt2 : j < m
        · obtain ⟨x, hx⟩ : ∃ x, L[j]? = some x := ⟨_, List.getElem?_eq_getElem (by rw [HML.out]; exact hlt2)⟩
          obtain ⟨g, o, rfl, lg, hcs⟩ := HAT.out wr HK.out j x hx
          have HN1 := Lib.hid (HNX.out j x hx)
          have HTK : Hid (L.take (j + 1) = L.take j ++ [x]) := Lib.hid (by rw [List.take_add_one, hx]; rfl)
          clear hx
          obtain ⟨fr, to, ⟨⟨a0, a1, a2⟩, ⟨b0, b1, b2⟩, ⟨c0, c1, c2⟩, ⟨d0, d1, d2⟩⟩⟩ := x
          have q0 : wr.cell? ⟨g, o + j * 14, none⟩ = some (.int .i64 fr) := hcs 0 _ rfl
          have q1 : wr.cell? ⟨g, o + j * 14 + 1, none⟩ = some (.int .i64 to) := hcs 1 _ rfl
          have q2 : wr.cell? ⟨g, o + j * 14 + 2, none⟩ = some (.int .i64 a0) := hcs 2 _ rfl
          have q3 : wr.cell? ⟨g, o + j * 14 + 3, none⟩ = some (.int .i64 a1) := hcs 3 _ rfl
          have q4 : wr.cell? ⟨g, o + j * 14 + 4, none⟩ = some (.int .u32 a2) := hcs 4 _ rfl
          have q5 : wr.cell? ⟨g, o + j * 14 + 5, none⟩ = some (.int .i64 b0) := hcs 5 _ rfl
          have q6 : wr.cell? ⟨g, o + j * 14 + 6, none⟩ = some (.int .i64 b1) := hcs 6 _ rfl
          have q7 : wr.cell? ⟨g, o + j * 14 + 7, none⟩ = some (.int .u32 b2) := hcs 7 _ rfl
          have q8 : wr.cell? ⟨g, o + j * 14 + 8, none⟩ = some (.int .i64 c0) := hcs 8 _ rfl
          have q9 : wr.cell? ⟨g, o + j * 14 + 9, none⟩ = some (.int .i64 c1) := hcs 9 _ rfl
          have q10 : wr.cell? ⟨g, o + j * 14 + 10, none⟩ = some (.int .u32 c2) := hcs 10 _ rfl
          have q11 : wr.cell? ⟨g, o + j * 14 + 11, none⟩ = some (.int .i64 d0) := hcs 11 _ rfl
          have q12 : wr.cell? ⟨g, o + j * 14 + 12, none⟩ = some (.int .i64 d1) := hcs 12 _ rfl
          have q13 : wr.cell? ⟨g, o + j * 14 + 13, none⟩ = some (.int .u32 d2) := hcs 13 _ rfl
          have HYS := Lib.hid (fun V => HY.out ((Ls.take i).flatten ++ L.take j) ⟨fr, to, ⟨⟨a0, a1, a2⟩, ⟨b0, b1, b2⟩, ⟨c0, c1, c2⟩, ⟨d0, d1, d2⟩⟩⟩ V)
          obtain ⟨V, hV⟩ : ∃ V, wr.alloc (.cells #[.int .i64 fr, .int .i64 to, .int .i64 a0, .int .i64 a1, .int .u32 a2, .int .i64 b0, .int .i64 b1, .int .u32 b2, .int .i64 c0, .int .i64 c1, .int .u32 c2, .int .i64 d0, .int .i64 d1, .int .u32 d2] 81) = V := ⟨_, rfl⟩
          have KV : Hid (Whole V wr.heap.size 81 [.int .i64 fr, .int .i64 to, .int .i64 a0, .int .i64 a1, .int .u32 a2, .int .i64 b0, .int .i64 b1, .int .u32 b2, .int .i64 c0, .int .i64 c1, .int .u32 c2, .int .i64 d0, .int .i64 d1, .int .u32 d2]) := Lib.hid (hV ▸ whole_new wr [.int .i64 fr, .int .i64 to, .int .i64 a0, .int .i64 a1, .int .u32 a2, .int .i64 b0, .int .i64 b1, .int .u32 b2, .int .i64 c0, .int .i64 c1, .int .u32 c2, .int .i64 d0, .int .i64 d1, .int .u32 d2] 81 _ rfl)
          have BV : Hid (Below wr.heap.size wr V) := Lib.hid (by rw [← hV]; exact (Below.refl _ wr).alloc (Nat.le_refl _) _)
          have HK2 : Hid (KeepBut E W V) := Lib.hid (HK.out.trans (KeepBut.of_below BV.out))
          have HJ2 := Lib.hid (HJ.out _ _ _ HJ1.out (BV.out.mono HK.out.1))
          obtain ⟨fn, tmps, assign, body, hy, hR⟩ := HYS.out V HJ2.out HN1.out
          simp only [encU, Rn.val, Rn.cells, Fr.cells, Li.cells, List.cons_append, List.nil_append] at hy
          have HR := Lib.hid hR
          have lV := KV.out.lt
          have k0 := KV.out.cellAt 0
          have k1 := KV.out.cellAt 1
          have k2 := KV.out.cellAt 2
          have k3 := KV.out.cellAt 3
          have k4 := KV.out.cellAt 4
          have k5 := KV.out.cellAt 5
          have k6 := KV.out.cellAt 6
          have k7 := KV.out.cellAt 7
          have k8 := KV.out.cellAt 8
          have k9 := KV.out.cellAt 9
          have k10 := KV.out.cellAt 10
          have k11 := KV.out.cellAt 11
          have k12 := KV.out.cellAt 12
          have k13 := KV.out.cellAt 13
          clear hR hcs HYS
          gi_wp2_with fail
          try rw [hV]
          clear q0 q1 q2 q3 q4 q5 q6 q7 q8 q9 q10 q11 q12 q13
          refine HR.out.mono ?_
          rintro e W3 (⟨rfl, hJ3, hk3⟩ | ⟨rfl, hJx3⟩)
          · have H3 := Lib.hid hJ3
            have K3 := Lib.hid (HK2.out.trans hk3)
            clear hJ3 hk3 k0 k1 k2 k3 k4 k5 k6 k7 k8 k9 k10 k11 k12 k13 hy HR hV
            gi_wp2
            go_roundw
            case rel => exact ⟨j + 1, by omega, by go_num, Lib.hid (by rw [HTK.out, ← List.append_assoc]; exact H3.out), K3⟩
            case measure => simp [intOf]; omega
          · have H3 := Lib.hid hJx3
            clear hJx3 k0 k1 k2 k3 k4 k5 k6 k7 k8 k9 k10 k11 k12 k13 hy HR hV
            gi_wp2
            simp only [Exit.noGoto]
            go_end0
            exact ⟨⟨_, rfl⟩, .inr ⟨_, trivial, H3.out⟩⟩
        · have HTE : Hid (L.take j = L) := Lib.hid (List.take_of_length_le (by have := HML.out; omega))
          gi_wp2
          go_roundw
          case rel => exact ⟨i + 1, by omega, by go_num, Lib.hid (by rw [HFT.out]; have := HJ1.out; rwa [HTE.out] at this), HK⟩
          case measure => simp [intOf]; omega
    · have HE : Hid (Ls.take i = Ls) := Lib.hid (List.take_of_length_le (by have := HM.out; omega))
      gi_wp2
      simp only [Exit.noGoto]
      go_end0
      exact ⟨⟨_, rfl⟩, .inl ⟨_, rfl, by have := HJ1.out; rwa [HE.out] at this⟩⟩
end Go.Proofs.Ytceippgkmoijdaa
