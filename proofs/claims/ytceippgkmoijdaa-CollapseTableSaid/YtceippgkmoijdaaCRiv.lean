/- Whether one side wins against another: the contract of contest.Wins. -/
/- The iterator contest.rivals: the sides that are not the same as one of them, each with its place, in order. -/
import Derived.Test.YtceippgkmoijdaaCOrder
import Derived.Test.YtceippgkmoijdaaCEq
import Derived.Test.YtceippgkmoijdaaMarks
import Derived.Maps.OwnIn
import Derived.Sort.LoopGhostIn
import Derived.ScopeJumps
import Derived.WalkMore
namespace Go.Proofs.Ytceippgkmoijdaa
open Go.RowKit Go.Shelf Go.Sort
set_option linter.unusedVariables false
set_option linter.unusedSimpArgs false

/-- the colour is a colour -/
def Si.hue (s : Si) : Prop := 0 ≤ s.co ∧ s.co ≤ 4294967295
def winsR (a b : Si) : Bool × Int := if rightS a && rightS b then (decide (cmpS a b < 0), 0) else (false, 110)
theorem winsR_bad {a b : Si} (h : (rightS a && rightS b) = false) : winsR a b = (false, 110) := by unfold winsR; rw [h]; rfl
theorem winsR_good {a b : Si} (h : (rightS a && rightS b) = true) : winsR a b = (decide (cmpS a b < 0), 0) := by unfold winsR; rw [h]; rfl
theorem sides_two {W : World} {g t : Nat} {a b : Si} (h : Whole W g t (a.cells ++ b.cells)) : Sides W (.slice (some ⟨g, 0, none⟩) 2 2) [a, b] :=
  Sides.whole (t := t) (by simpa using h) rfl (by omega)
theorem all_two (a b : Si) : [a, b].all rightS = (rightS a && rightS b) := by simp
end Go.Proofs.Ytceippgkmoijdaa

namespace Go.Proofs.Ytceippgkmoijdaa
open Go.RowKit Go.Shelf Go.Sort
set_option linter.unusedVariables false
set_option linter.unusedSimpArgs false
attribute [local go_sem] Oper.semAt_some

/-- the rivals among the first k -/
def rivF (top : Si) (zs : List Si) : Nat → List (Nat × Si)
  | 0 => []
  | k + 1 => rivF top zs k ++ (match zs[k]? with | some s => if rankL s = rankL top then [] else [(k, s)] | none => [])
theorem rivF_same {top : Si} {zs : List Si} {k : Nat} {s : Si} (h : zs[k]? = some s) (e : rankL s = rankL top) : rivF top zs (k + 1) = rivF top zs k := by simp [rivF, h, e]
theorem rivF_new {top : Si} {zs : List Si} {k : Nat} {s : Si} (h : zs[k]? = some s) (e : rankL s ≠ rankL top) : rivF top zs (k + 1) = rivF top zs k ++ [(k, s)] := by simp [rivF, h, e]
/-- the next rival -/
def nxtR (top : Si) (zs : List Si) (pre : List (Nat × Si)) (x : Nat × Si) : Prop := zs[x.1]? = some x.2 ∧ rankL x.2 ≠ rankL top ∧ pre = rivF top zs x.1
def encR (x : Nat × Si) : Array Value := #[.int .i64 (x.1 : Int), x.2.val]
theorem Sides.at {W : World} {p : Option Addr} {m c : Nat} {zs : List Si} (h : Sides W (.slice p m c) zs) (k : Nat) (s : Si) (hs : zs[k]? = some s) :
    ∃ b off, p = some ⟨b, off, none⟩ ∧ b < W.heap.size ∧ ∀ i v, s.cells[i]? = some v → W.cell? ⟨b, off + k * 6 + i, none⟩ = some v := by
  obtain ⟨hm, ⟨a, cap, e, rfl⟩ | ⟨b, off, cap, e, hlt, hc⟩⟩ := h
  · simp at hs
  · injection e with e1 e2 e3
    have hk := (List.getElem?_eq_some_iff.1 hs).1
    refine ⟨b, off, e1, hlt, fun i v hv => hc k hk i v ?_⟩
    have : zs[k]! = s := by simp [List.getElem!_eq_getElem?_getD, hs]
    rw [this]; exact hv
set_option maxRecDepth 100000 in
set_option maxHeartbeats 4000000 in
theorem riv_in (n : Nat) (hn : 1 ≤ n) (l gof gl B : Nat) (top : Si) (htop : Fit top) (p : Option Addr) (m c : Nat) (zs : List Si) (hm : zs.length = m) (hmm : m ≤ 9223372036854775807) (hfit : ∀ s ∈ zs, Fit s) (J Jx : List (Nat × Si) → World → Prop)
    (hY : ∀ pre x V, J pre V → nxtR top zs pre x → YieldAt Fence.wide (n - 1) Try.prog l (encR x) V fun e V' =>
      (e = .returned (.bool true) ∧ J (pre ++ [x]) V' ∧ KeepBut [B + 1] V V') ∨ (e = .returned (.bool false) ∧ Jx (pre ++ [x]) V'))
    (W : World) (hB : B + 2 ≤ W.heap.size) (hJ : ∀ s X Y, J s X → Below W.heap.size X Y → J s Y) (hof : Whole W gof 54 top.cells) (hgl : gl < B) (hbl : W.cell? ⟨gl, 0, none⟩ = some (.slice p m c))
    (hz : ∀ k s, zs[k]? = some s → ∃ b off, p = some ⟨b, off, none⟩ ∧ b < B ∧ ∀ i v, s.cells[i]? = some v → W.cell? ⟨b, off + k * 6 + i, none⟩ = some v) (h0 : J [] W) :
    CallsIn Fence.wide n Try.prog 97 #[.func (.yield l) #[] #[], .pointer (some ⟨gof, 0, none⟩), .pointer (some ⟨gl, 0, none⟩)] W fun e W' => (∃ v, e = .returned v) ∧
      ((∃ ys, ys = rivF top zs zs.length ∧ J ys W') ∨ (∃ pre, True ∧ Jx pre W')) := by
  refine callsIn_of_wp Try.func97 rfl trivial ?_ rfl
  simp only [Try.ntmps97, List.size_toArray, List.length_cons, List.length_nil, Nat.reduceAdd, Nat.reduceSub, Array.replicate_succ, Array.replicate_zero, List.push_toArray, List.append_toArray, List.nil_append, List.cons_append]
  have HRK := Lib.hid (fun X => rankOf_any top htop X)
  have HRS := Lib.hid (fun s (hs : Fit s) X => rankOf_any s hs X)
  obtain ⟨hd, hrt⟩ : ∃ hd : List Int, hd = rankL top := ⟨_, rfl⟩
  obtain ⟨t0, t1, t2, t3, t4, t5, t6, htl⟩ : ∃ t0 t1 t2 t3 t4 t5 t6 : Int, rankL top = [t0, t1, t2, t3, t4, t5, t6] := ⟨_, _, _, _, _, _, _, rfl⟩
  clear hrt
  have HTL := Lib.hid htl
  rw [htl] at HRK
  simp only [List.map_cons, List.map_nil] at HRK
  have HY := Lib.hid hY
  have HJ := Lib.hid hJ
  have HZ := Lib.hid hz
  have H0 := Lib.hid h0
  have HM := Lib.hid hm
  have HF := Lib.hid hfit
  have c0 := hof.cellAt 0
  have c1 := hof.cellAt 1
  have c2 := hof.cellAt 2
  have c3 := hof.cellAt 3
  have c4 := hof.cellAt 4
  have c5 := hof.cellAt 5
  have lof := hof.lt
  have lgl := cell_lt hbl
  clear hY hJ hz h0 hm hfit hof htl htop hd
  refine wpIn_wide.2 (wp_scope_straight ((wpIn_wide (n := n)).1 ?_))
  obtain ⟨st, wd, co, bb, ro, cl⟩ := top
  simp only [Si.cells, List.getElem?_cons_zero, List.getElem?_cons_succ] at c0 c1 c2 c3 c4 c5
  unfold Si.val at HRK
  dsimp only at HRK
  gi_wp2_with fail
  refine ⟨trivial, (callsIn_wide.2 (HRK.out _)).mono ?_⟩
  rintro e w1 ⟨rfl, hg1⟩
  have hbl1 := (hg1.lo.cell (p := ⟨gl, 0, none⟩) lgl).trans hbl
  have lgl1 : gl < w1.heap.size := by have := hg1.lo.size; omega
  obtain ⟨W1, hW1⟩ : ∃ W1, w1.alloc (.cells #[.int .i64 t0, .int .i64 t1, .int .i64 t2, .int .i64 t3, .int .i64 t4, .int .i64 t5, .int .i64 t6] 161) = W1 := ⟨_, rfl⟩
  have KT : Hid (Whole W1 w1.heap.size 161 [.int .i64 t0, .int .i64 t1, .int .i64 t2, .int .i64 t3, .int .i64 t4, .int .i64 t5, .int .i64 t6]) := Lib.hid (hW1 ▸ whole_new w1 [.int .i64 t0, .int .i64 t1, .int .i64 t2, .int .i64 t3, .int .i64 t4, .int .i64 t5, .int .i64 t6] 161 _ rfl)
  have HB1 : Hid (Below W.heap.size W W1) := Lib.hid (by rw [← hW1]; exact hg1.lo.alloc hg1.lo.size _)
  have hbl2 : W1.cell? ⟨gl, 0, none⟩ = some (.slice p m c) := (HB1.out.cell (p := ⟨gl, 0, none⟩) lgl).trans hbl
  have hN1 : B + 2 ≤ w1.heap.size := by have := hg1.lo.size; omega
  have lgl2 : gl < W1.heap.size := by have := HB1.out.size; omega
  obtain ⟨N, hN⟩ : ∃ N, w1.heap.size = N := ⟨_, rfl⟩
  rw [hN] at KT hN1
  clear c0 c1 c2 c3 c4 c5 HRK hg1 hbl lof
  gi_wp2
  try rw [hW1, hN]
  clear hW1 hN hbl1 lgl1
  refine wpIn_label ?_
  gi_wp2
  gi_loopw [11] (fun s11 X => ∃ k : Nat, k ≤ m ∧ s11 = .int .i64 k ∧ Hid (J (rivF ⟨st, wd, co, bb, ro, cl⟩ zs k) X) ∧ Hid (KeepBut [B + 1] W1 X)) (fun s11 _ => m - (intOf s11).toNat)
  case atStart => exact ⟨0, Nat.zero_le _, rfl, Lib.hid (HJ.out _ _ _ H0.out HB1.out), Lib.hid (KeepBut.refl _ _)⟩
  case round =>
    obtain ⟨k, hk, rfl, HJ1, HK⟩ := hrel
    clear hbl2 lgl2
    by_cases hlt : k < m
    · obtain ⟨s, hs⟩ : ∃ s, zs[k]? = some s := ⟨_, List.getElem?_eq_getElem (by rw [HM.out]; exact hlt)⟩
      obtain ⟨b, off, rfl, hbB, hcs⟩ := HZ.out k s hs
      have HRS2 := Lib.hid (HRS.out s (HF.out s (List.mem_of_getElem? hs)))
      have HX := Lib.hid hs
      clear hs
      obtain ⟨st', wd', co', bb', ro', cl'⟩ := s
      obtain ⟨r0, r1, r2, r3, r4, r5, r6, hrl⟩ : ∃ r0 r1 r2 r3 r4 r5 r6 : Int, rankL ⟨st', wd', co', bb', ro', cl'⟩ = [r0, r1, r2, r3, r4, r5, r6] := ⟨_, _, _, _, _, _, _, rfl⟩
      rw [hrl] at HRS2
      have HRL := Lib.hid hrl
      simp only [List.map_cons, List.map_nil] at HRS2
      unfold Si.val at HRS2
      dsimp only at HRS2
      clear hrl
      have hWW1 := HB1.out.size
      have hWr := HK.out.1
      have hsame : ∀ i v, (⟨st', wd', co', bb', ro', cl'⟩ : Si).cells[i]? = some v → wr.cell? ⟨b, off + k * 6 + i, none⟩ = some v := fun i v hv => by
        have h1 := World.cell?_of_block (a := ⟨b, off + k * 6 + i, none⟩) (HK.out.2 b (by simp; omega) (by show b < W1.heap.size; omega))
        rw [h1]
        exact (HB1.out.cell (p := ⟨b, off + k * 6 + i, none⟩) (by show b < W.heap.size; omega)).trans (hcs i v hv)
      have q0 : wr.cell? ⟨b, off + k * 6, none⟩ = some (.int .i64 st') := hsame 0 _ rfl
      have q1 : wr.cell? ⟨b, off + k * 6 + 1, none⟩ = some (.int .i64 wd') := hsame 1 _ rfl
      have q2 : wr.cell? ⟨b, off + k * 6 + 2, none⟩ = some (.int .u32 co') := hsame 2 _ rfl
      have q3 : wr.cell? ⟨b, off + k * 6 + 3, none⟩ = some (.int .i64 bb') := hsame 3 _ rfl
      have q4 : wr.cell? ⟨b, off + k * 6 + 4, none⟩ = some (.int .i64 ro') := hsame 4 _ rfl
      have q5 : wr.cell? ⟨b, off + k * 6 + 5, none⟩ = some (.int .i64 cl') := hsame 5 _ rfl
      have lb : b < wr.heap.size := by have := HK.out.1; have := HB1.out.size; omega
      have KT2 : Hid (Whole wr N 161 [.int .i64 t0, .int .i64 t1, .int .i64 t2, .int .i64 t3, .int .i64 t4, .int .i64 t5, .int .i64 t6]) := Lib.hid ((HK.out.2 N (by simp; omega) KT.out.lt).trans KT.out)
      obtain ⟨V, hV⟩ : ∃ V, wr.alloc (.cells #[.int .i64 st', .int .i64 wd', .int .u32 co', .int .i64 bb', .int .i64 ro', .int .i64 cl'] 54) = V := ⟨_, rfl⟩
      have KV : Hid (Whole V wr.heap.size 54 [.int .i64 st', .int .i64 wd', .int .u32 co', .int .i64 bb', .int .i64 ro', .int .i64 cl']) := Lib.hid (hV ▸ whole_new wr [.int .i64 st', .int .i64 wd', .int .u32 co', .int .i64 bb', .int .i64 ro', .int .i64 cl'] 54 _ rfl)
      have BV : Hid (Below wr.heap.size wr V) := Lib.hid (by rw [← hV]; exact (Below.refl _ wr).alloc (Nat.le_refl _) _)
      clear hsame hcs HRS
      gi_wp2
      try rw [hV]
      clear hV q0 q1 q2 q3 q4 q5
      refine wpIn_wide.2 ?_
      have lV := KV.out.lt
      have f0 := KV.out.cellAt 0
      have f1 := KV.out.cellAt 1
      have f2 := KV.out.cellAt 2
      have f3 := KV.out.cellAt 3
      have f4 := KV.out.cellAt 4
      have f5 := KV.out.cellAt 5
      have KT3 := KT2.out.below BV.out KT2.out.lt
      have lN := KT3.lt
      have g0 := KT3.cellAt 0
      have g1 := KT3.cellAt 1
      have g2 := KT3.cellAt 2
      have g3 := KT3.cellAt 3
      have g4 := KT3.cellAt 4
      have g5 := KT3.cellAt 5
      have g6 := KT3.cellAt 6
      refine region_held_atC (S := fun X => Hid (Grew V X)) (by kernel_rfl) (fun w9 hw9 => ?_)
      have SV : Hid (Grew V w9) := Lib.hid (by rw [← hw9]; exact (Grew.refl _).drew)
      clear hw9
      try simp only [Act.put, List.setIfInBounds_toArray, List.set_cons_succ, List.set_cons_zero]
      refine wpAnyH_takeC (i := 0) (v := .agg #[.int .i64 st', .int .i64 wd', .int .u32 co', .int .i64 bb', .int .i64 ro', .int .i64 cl']) (some 17) rfl rfl (by kernel_rfl) (by kernel_rfl) (by kernel_rfl) (fun _ _ _ h => h) (Or.inl ⟨by rfl, ?_⟩) SV ?_
      · intro X hX; have o0 := (hX.out.lo.cell (p := ⟨wr.heap.size, 0, none⟩) lV).trans f0; have o1 := (hX.out.lo.cell (p := ⟨wr.heap.size, 1, none⟩) lV).trans f1; have o2 := (hX.out.lo.cell (p := ⟨wr.heap.size, 2, none⟩) lV).trans f2; have o3 := (hX.out.lo.cell (p := ⟨wr.heap.size, 3, none⟩) lV).trans f3; have o4 := (hX.out.lo.cell (p := ⟨wr.heap.size, 4, none⟩) lV).trans f4; have o5 := (hX.out.lo.cell (p := ⟨wr.heap.size, 5, none⟩) lV).trans f5; have lX := hX.out.lo.size; go_simp
      try simp only [Act.put, List.setIfInBounds_toArray, List.set_cons_succ, List.set_cons_zero]
      refine wpAnyH_takeC (i := 2) (v := .agg #[.int .i64 t0, .int .i64 t1, .int .i64 t2, .int .i64 t3, .int .i64 t4, .int .i64 t5, .int .i64 t6]) (some 19) rfl rfl (by kernel_rfl) (by kernel_rfl) (by kernel_rfl) (fun _ _ _ h => h) (Or.inl ⟨by rfl, ?_⟩) SV ?_
      · intro X hX; have o0 := (hX.out.lo.cell (p := ⟨N, 0, none⟩) lN).trans g0; have o1 := (hX.out.lo.cell (p := ⟨N, 1, none⟩) lN).trans g1; have o2 := (hX.out.lo.cell (p := ⟨N, 2, none⟩) lN).trans g2; have o3 := (hX.out.lo.cell (p := ⟨N, 3, none⟩) lN).trans g3; have o4 := (hX.out.lo.cell (p := ⟨N, 4, none⟩) lN).trans g4; have o5 := (hX.out.lo.cell (p := ⟨N, 5, none⟩) lN).trans g5; have o6 := (hX.out.lo.cell (p := ⟨N, 6, none⟩) lN).trans g6; have lX := hX.out.lo.size; go_simp
      try simp only [Act.put, List.setIfInBounds_toArray, List.set_cons_succ, List.set_cons_zero]
      refine wpAnyH_all (rs := [1]) (by kernel_rfl) (by simp) ?_
      intro ii hii; obtain rfl : ii = 1 := by simpa using hii
      clear hii
      refine wpOp_step rfl (fun K hK => ?_)
      go_simp
      refine (HRS2.out _).mono ?_
      rintro e w2 ⟨rfl, hg2⟩
      have SX : Hid (Grew V w2) := Lib.hid (SV.out.trans hg2)
      refine hK _ _ ⟨SX, ?_⟩
      clear hK K hg2 SV
      have SV := SX
      clear SX
      try simp only [Act.put, List.setIfInBounds_toArray, List.set_cons_succ, List.set_cons_zero]
      have HEQ := Lib.hid (fun X => rank_in r0 r1 r2 r3 r4 r5 r6 t0 t1 t2 t3 t4 t5 t6 X)
      rw [← HRL.out, ← HTL.out] at HEQ
      obtain ⟨q, hq⟩ : ∃ q, decide (rankL ⟨st', wd', co', bb', ro', cl'⟩ = rankL ⟨st, wd, co, bb, ro, cl⟩) = q := ⟨_, rfl⟩
      rw [hq] at HEQ
      have HQ := Lib.hid hq
      clear hq
      refine wpAnyH_takeC (i := 3) (v := .bool q) (some 20) rfl rfl (by kernel_rfl) (by kernel_rfl) (by kernel_rfl) (fun _ _ _ h => h) (Or.inl ⟨by rfl, ?_⟩) SV ?_
      · intro X hX; have hE := HEQ.out X; go_simp
      try simp only [Act.put, List.setIfInBounds_toArray, List.set_cons_succ, List.set_cons_zero]
      refine wpAnyH_takeC (i := 4) (v := .bool q) (some 16) rfl rfl (by kernel_rfl) (by kernel_rfl) (by kernel_rfl) (fun _ _ _ h => h) (Or.inl ⟨by rfl, ?_⟩) SV ?_
      · intro X hX; go_simp
      try simp only [Act.put, List.setIfInBounds_toArray, List.set_cons_succ, List.set_cons_zero]
      refine wpAnyH_done (by kernel_rfl) ?_ _
      have HK2 : Hid (KeepBut [B + 1] W1 w2) := Lib.hid (HK.out.trans ((KeepBut.of_below BV.out).trans (KeepBut.of_below SV.out.lo)))
      have hWw : W.heap.size ≤ wr.heap.size := by omega
      have BJ : Hid (Below W.heap.size wr w2) := Lib.hid ((BV.out.mono hWw).trans (SV.out.lo.mono (by have := BV.out.size; omega)))
      have HJ2 := Lib.hid (HJ.out _ _ _ HJ1.out BJ.out)
      have h2 : wr.heap.size < w2.heap.size := by have := SV.out.lo.size; omega
      have e0 := (SV.out.lo.cell (p := ⟨wr.heap.size, 0, none⟩) lV).trans f0
      have e1 := (SV.out.lo.cell (p := ⟨wr.heap.size, 1, none⟩) lV).trans f1
      have e2 := (SV.out.lo.cell (p := ⟨wr.heap.size, 2, none⟩) lV).trans f2
      have e3 := (SV.out.lo.cell (p := ⟨wr.heap.size, 3, none⟩) lV).trans f3
      have e4 := (SV.out.lo.cell (p := ⟨wr.heap.size, 4, none⟩) lV).trans f4
      have e5 := (SV.out.lo.cell (p := ⟨wr.heap.size, 5, none⟩) lV).trans f5
      simp only [List.getElem?_cons_zero, List.getElem?_cons_succ] at e0 e1 e2 e3 e4 e5
      clear f0 f1 f2 f3 f4 f5 g0 g1 g2 g3 g4 g5 g6 lV lN KT3 KV BV SV BJ HK HJ1 HEQ KT2 HRS2 lb hWW1 hWr
      cases q with
      | true =>
        have hel : Hid (rivF ⟨st, wd, co, bb, ro, cl⟩ zs (k + 1) = rivF ⟨st, wd, co, bb, ro, cl⟩ zs k) := Lib.hid (rivF_same HX.out (by simpa using HQ.out))
        clear e0 e1 e2 e3 e4 e5
        gi_wp2
        go_roundw
        case rel => exact ⟨k + 1, by omega, by go_num, by rw [hel.out]; exact HJ2, HK2⟩
        case measure => simp [intOf]; omega
      | false =>
        have hne : rankL ⟨st', wd', co', bb', ro', cl'⟩ ≠ rankL ⟨st, wd, co, bb, ro, cl⟩ := by simpa using HQ.out
        have hel : Hid (rivF ⟨st, wd, co, bb, ro, cl⟩ zs (k + 1) = rivF ⟨st, wd, co, bb, ro, cl⟩ zs k ++ [(k, ⟨st', wd', co', bb', ro', cl'⟩)]) := Lib.hid (rivF_new HX.out hne)
        obtain ⟨fn, tmps, assign, body, hy, hR⟩ := HY.out _ (k, ⟨st', wd', co', bb', ro', cl'⟩) _ HJ2.out ⟨HX.out, hne, rfl⟩
        dsimp only [encR, Si.val] at hy
        have HR := Lib.hid hR
        clear hR hne
        gi_wp2
        refine HR.out.mono ?_
        rintro e W3 (⟨rfl, hJ3, hk3⟩ | ⟨rfl, hJx3⟩)
        · have H3 := Lib.hid hJ3
          have K3 := Lib.hid (HK2.out.trans hk3)
          clear hJ3 hk3 e0 e1 e2 e3 e4 e5 hy HR
          gi_wp2
          go_roundw
          case rel => exact ⟨k + 1, by omega, by go_num, by rw [hel.out]; exact H3, K3⟩
          case measure => simp [intOf]; omega
        · have H3 := Lib.hid hJx3
          clear hJx3 e0 e1 e2 e3 e4 e5 hy HR
          gi_wp2
          simp only [Exit.noGoto]
          go_end0
          exact ⟨⟨_, rfl⟩, .inr ⟨_, trivial, H3.out⟩⟩
    · have e : Hid (k = zs.length) := Lib.hid (by have := HM.out; omega)
      clear HRS KT
      gi_wp2
      simp only [Exit.noGoto]
      go_end0
      exact ⟨⟨_, rfl⟩, .inl ⟨_, rfl, by rw [← e.out]; exact HJ1.out⟩⟩
theorem riv_next (n : Nat) (hn : 1 ≤ n) (gof gl : Nat) (top : Si) (htop : Fit top) (p : Option Addr) (m c : Nat) (zs : List Si) (hm : zs.length = m) (hfit : ∀ s ∈ zs, Fit s) (w : World) (hof : Whole w gof 54 top.cells) (hbl : w.cell? ⟨gl, 0, none⟩ = some (.slice p m c)) (hz : Sides w (.slice p m c) zs) :
    SeqKeep Fence.wide n Try.prog 97 #[.pointer (some ⟨gof, 0, none⟩), .pointer (some ⟨gl, 0, none⟩)] encR (KeepBut [w.heap.size + 1]) (nxtR top zs) (fun ys => ys = rivF top zs zs.length) (fun _ => True) w := fun l J Jx W hW hs hJ hY h0 =>
  riv_in n hn l gof gl w.heap.size top htop p m c zs hm (by have := hz.1; omega) hfit J Jx hY W hs hJ (hof.below hW hof.lt) (cell_lt hbl) ((hW.cell (p := ⟨gl, 0, none⟩) (cell_lt hbl)).trans hbl)
    (fun k s hk => by
      obtain ⟨b, off, e, hb, hc⟩ := hz.at k s hk
      exact ⟨b, off, e, hb, fun i v hv => (hW.cell (p := ⟨b, off + k * 6 + i, none⟩) hb).trans (hc i v hv)⟩) h0
theorem rivals_any (s : Si) (p : Option Addr) (m c : Nat) (w : World) :
    Calls Try.prog 85 #[s.val, .slice p m c] w fun e w' => e = .returned (.func (.func 97) #[] #[.pointer (some ⟨w.heap.size, 0, none⟩), .pointer (some ⟨w.heap.size + 1, 0, none⟩)]) ∧
      w' = (w.alloc (.cells s.cells.toArray 54)).alloc (.cells #[.slice p m c] 132) := by
  unfold Si.val Si.cells
  go_enter Try.func85, Try.ntmps85
  go_wp2
  go_ret
  exact ⟨rfl, rfl⟩
end Go.Proofs.Ytceippgkmoijdaa
