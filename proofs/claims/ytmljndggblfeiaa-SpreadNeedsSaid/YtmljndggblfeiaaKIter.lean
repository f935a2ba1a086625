/- The iterator columns.chosen: the needs that a function lets by, in order; for each of the two functions that it is called with. -/
import Derived.Test.YtmljndggblfeiaaKAsk
import Derived.Test.YtmljndggblfeiaaTKeep
import Derived.Test.YtmljndggblfeiaaMarks
import Derived.Maps.OwnIn
import Derived.Sort.LoopGhostIn
import Derived.ScopeJumps
import Derived.WalkMore
namespace Go.Proofs.Ytmljndggblfeiaa
open Go.RowKit Go.Shelf Go.Sort
set_option linter.unusedVariables false
set_option linter.unusedSimpArgs false
attribute [local go_sem] Oper.semAt_some

/-- the next need that is let by -/
def nxtK (P : Ne → Bool) (zs : List Ne) (pre : List Ne) (x : Ne) : Prop := ∃ k : Nat, zs[k]? = some x ∧ P x = true ∧ pre = (zs.take k).filter P
def encK (x : Ne) : Array Value := #[x.val]
theorem choF_not {P : Ne → Bool} {zs : List Ne} {k : Nat} {s : Ne} (h : zs[k]? = some s) (e : P s = false) : (zs.take (k + 1)).filter P = (zs.take k).filter P := by
  rw [List.take_add_one, h, List.filter_append]; simp [e]
theorem choF_yes {P : Ne → Bool} {zs : List Ne} {k : Nat} {s : Ne} (h : zs[k]? = some s) (e : P s = true) : (zs.take (k + 1)).filter P = (zs.take k).filter P ++ [s] := by
  rw [List.take_add_one, h, List.filter_append]; simp [e]

set_option maxRecDepth 100000 in
set_option maxHeartbeats 4000000 in
theorem cho_inR (n : Nat) (hn : 1 ≤ n) (l gm gl B : Nat) (g : Nat) (E : List Nat) (P : Ne → Bool) (p : Option Addr) (m c : Nat) (zs : List Ne) (hm : zs.length = m) (hmm : m ≤ 9223372036854775807) (J Jx : List Ne → World → Prop)
    (W : World) (hP : ∀ s X, KeepBut E W X → Calls Try.prog 51 #[s.val, .pointer (some ⟨g, 0, none⟩)] X fun e X' => e = .returned (.bool (P s)) ∧ Below X.heap.size X X')
    (hY : ∀ pre x V, J pre V → nxtK P zs pre x → YieldAt Fence.wide (n - 1) Try.prog l (encK x) V fun e V' =>
      (e = .returned (.bool true) ∧ J (pre ++ [x]) V' ∧ KeepBut E V V') ∨ (e = .returned (.bool false) ∧ Jx (pre ++ [x]) V'))
    (hB : B + 2 ≤ W.heap.size) (hJ : ∀ s X Y, J s X → Below W.heap.size X Y → J s Y) (hgm : gm < B) (hgl : gl < B) (em : gm ∉ E) (el : gl ∉ E)
    (hbm : W.cell? ⟨gm, 0, none⟩ = some (.func (.func 51) #[] #[.pointer (some ⟨g, 0, none⟩)])) (hbl : W.cell? ⟨gl, 0, none⟩ = some (.slice p m c))
    (hz : ∀ k s, zs[k]? = some s → ∃ b off, p = some ⟨b, off, none⟩ ∧ b < B ∧ b ∉ E ∧ ∀ i v, s.cells[i]? = some v → W.cell? ⟨b, off + k * 9 + i, none⟩ = some v) (h0 : J [] W) :
    CallsIn Fence.wide n Try.prog 73 #[.func (.yield l) #[] #[], .pointer (some ⟨gl, 0, none⟩), .pointer (some ⟨gm, 0, none⟩)] W fun e W' => (∃ v, e = .returned v) ∧
      ((∃ ys, ys = zs.filter P ∧ J ys W') ∨ (∃ pre, True ∧ Jx pre W')) := by
  refine callsIn_of_wp Try.func73 rfl trivial ?_ rfl
  simp only [Try.ntmps73, List.size_toArray, List.length_cons, List.length_nil, Nat.reduceAdd, Nat.reduceSub, Array.replicate_succ, Array.replicate_zero, List.push_toArray, List.append_toArray, List.nil_append, List.cons_append]
  have HP := Lib.hid hP
  have HY := Lib.hid hY
  have HJ := Lib.hid hJ
  have HZ := Lib.hid hz
  have H0 := Lib.hid h0
  have HM := Lib.hid hm
  have EM := Lib.hid em
  have EL := Lib.hid el
  have HBM := Lib.hid hbm
  have lgl := cell_lt hbl
  clear hP hY hJ hz h0 hm em el hbm
  refine wpIn_wide.2 (wp_scope_straight ((wpIn_wide (n := n)).1 ?_))
  gi_wp2
  refine wpIn_label ?_
  gi_wp2
  gi_loopw [8] (fun s8 X => ∃ k : Nat, k ≤ m ∧ s8 = .int .i64 k ∧ Hid (J ((zs.take k).filter P) X) ∧ Hid (KeepBut E W X)) (fun s8 _ => m - (intOf s8).toNat)
  case atStart => exact ⟨0, Nat.zero_le _, rfl, Lib.hid (by simpa using H0.out), Lib.hid (KeepBut.refl _ _)⟩
  case round =>
    obtain ⟨k, hk, rfl, HJ1, HK⟩ := hrel
    clear hbl lgl
    by_cases hlt : k < m
    · obtain ⟨s, hs⟩ : ∃ s, zs[k]? = some s := ⟨_, List.getElem?_eq_getElem (by rw [HM.out]; exact hlt)⟩
      obtain ⟨b, off, rfl, hbB, hbE, hcs⟩ := HZ.out k s hs
      have HPS := Lib.hid (HP.out s)
      have HX := Lib.hid hs
      have HSM := Lib.hid (show nxtK P zs ((zs.take k).filter P) s ∨ P s = false by
        cases e : P s
        · exact .inr rfl
        · exact .inl ⟨k, hs, e, rfl⟩)
      have HYS := Lib.hid (fun V => HY.out ((zs.take k).filter P) s V)
      have HNO := Lib.hid (fun e => choF_not (P := P) hs e)
      have HYE := Lib.hid (fun e => choF_yes (P := P) hs e)
      clear hs HP HY
      obtain ⟨q, hq⟩ : ∃ q, P s = q := ⟨_, rfl⟩
      rw [hq] at HPS HSM HNO HYE
      have hsame : ∀ i v, s.cells[i]? = some v → wr.cell? ⟨b, off + k * 9 + i, none⟩ = some v := fun i v hv => by
        have h1 := World.cell?_of_block (a := ⟨b, off + k * 9 + i, none⟩) (HK.out.2 b hbE (by show b < W.heap.size; omega))
        rw [h1]; exact hcs i v hv
      have hm2 : wr.cell? ⟨gm, 0, none⟩ = some (.func (.func 51) #[] #[.pointer (some ⟨g, 0, none⟩)]) := (World.cell?_of_block (a := ⟨gm, 0, none⟩) (HK.out.2 gm EM.out (by show gm < W.heap.size; omega))).trans HBM.out
      have lb : b < wr.heap.size := by have := HK.out.1; omega
      have lm : gm < wr.heap.size := by have := HK.out.1; omega
      have lW : W.heap.size ≤ wr.heap.size := HK.out.1
      clear hcs hq
      obtain ⟨nd, ro, co, rs, cs, mn, mx, ⟨wk, wn⟩⟩ := s
      have q0 : wr.cell? ⟨b, off + k * 9, none⟩ = some (.int .i64 nd) := hsame 0 _ rfl
      have q1 : wr.cell? ⟨b, off + k * 9 + 1, none⟩ = some (.int .i64 ro) := hsame 1 _ rfl
      have q2 : wr.cell? ⟨b, off + k * 9 + 2, none⟩ = some (.int .i64 co) := hsame 2 _ rfl
      have q3 : wr.cell? ⟨b, off + k * 9 + 3, none⟩ = some (.int .i64 rs) := hsame 3 _ rfl
      have q4 : wr.cell? ⟨b, off + k * 9 + 4, none⟩ = some (.int .i64 cs) := hsame 4 _ rfl
      have q5 : wr.cell? ⟨b, off + k * 9 + 5, none⟩ = some (.int .i64 mn) := hsame 5 _ rfl
      have q6 : wr.cell? ⟨b, off + k * 9 + 6, none⟩ = some (.int .i64 mx) := hsame 6 _ rfl
      have q7 : wr.cell? ⟨b, off + k * 9 + 7, none⟩ = some (.int .i64 wk) := hsame 7 _ rfl
      have q8 : wr.cell? ⟨b, off + k * 9 + 8, none⟩ = some (.int .i64 wn) := hsame 8 _ rfl
      obtain ⟨V, hV⟩ : ∃ V, wr.alloc (.cells #[.int .i64 nd, .int .i64 ro, .int .i64 co, .int .i64 rs, .int .i64 cs, .int .i64 mn, .int .i64 mx, .int .i64 wk, .int .i64 wn] 37) = V := ⟨_, rfl⟩
      have KV : Hid (Whole V wr.heap.size 37 [.int .i64 nd, .int .i64 ro, .int .i64 co, .int .i64 rs, .int .i64 cs, .int .i64 mn, .int .i64 mx, .int .i64 wk, .int .i64 wn]) := Lib.hid (hV ▸ whole_new wr [.int .i64 nd, .int .i64 ro, .int .i64 co, .int .i64 rs, .int .i64 cs, .int .i64 mn, .int .i64 mx, .int .i64 wk, .int .i64 wn] 37 _ rfl)
      have BV : Hid (Below wr.heap.size wr V) := Lib.hid (by rw [← hV]; exact (Below.refl _ wr).alloc (Nat.le_refl _) _)
      have HPV := Lib.hid (HPS.out V (HK.out.trans (KeepBut.of_below BV.out)))
      unfold Ne.val at HPV
      dsimp only at HPV
      have hm3 : V.cell? ⟨gm, 0, none⟩ = some (.func (.func 51) #[] #[.pointer (some ⟨g, 0, none⟩)]) := (BV.out.cell (p := ⟨gm, 0, none⟩) lm).trans hm2
      have lm3 : gm < V.heap.size := by have := BV.out.size; omega
      have lV := KV.out.lt
      have g0 := KV.out.cellAt 0
      have g1 := KV.out.cellAt 1
      have g2 := KV.out.cellAt 2
      have g3 := KV.out.cellAt 3
      have g4 := KV.out.cellAt 4
      have g5 := KV.out.cellAt 5
      have g6 := KV.out.cellAt 6
      have g7 := KV.out.cellAt 7
      have g8 := KV.out.cellAt 8
      clear hsame HPS
      gi_wp2_with fail
      try rw [hV]
      refine ⟨trivial, (callsIn_wide.2 HPV.out).mono ?_⟩
      rintro e w2 ⟨rfl, hb2⟩
      have HB2 := Lib.hid hb2
      have K2 := KV.out.below hb2 KV.out.lt
      have l2 := K2.lt
      have f0 := K2.cellAt 0
      have f1 := K2.cellAt 1
      have f2 := K2.cellAt 2
      have f3 := K2.cellAt 3
      have f4 := K2.cellAt 4
      have f5 := K2.cellAt 5
      have f6 := K2.cellAt 6
      have f7 := K2.cellAt 7
      have f8 := K2.cellAt 8
      have HK2 : Hid (KeepBut E W w2) := Lib.hid ((HK.out.trans (KeepBut.of_below BV.out)).trans (KeepBut.of_below hb2))
      have HJ2 := Lib.hid (HJ.out _ _ _ HJ1.out ((BV.out.mono lW).trans (hb2.mono (by have := BV.out.size; omega))))
      clear hb2 K2 q0 q1 q2 q3 q4 q5 q6 q7 q8 hm2 HPV KV BV hV HB2 HK HJ1 g0 g1 g2 g3 g4 g5 g6 g7 g8 hm3 lm3 lV
      cases q with
      | false =>
        have hel := Lib.hid (HNO.out rfl)
        clear f0 f1 f2 f3 f4 f5 f6 f7 f8 HSM HYE HNO HYS
        gi_wp2
        go_roundw
        case rel => exact ⟨k + 1, by omega, by go_num, by rw [hel.out]; exact HJ2, HK2⟩
        case measure => simp [intOf]; omega
      | true =>
        have hel := Lib.hid (HYE.out rfl)
        obtain ⟨fn, tmps, assign, body, hy, hR⟩ := HYS.out _ HJ2.out (HSM.out.resolve_right (by simp))
        dsimp only [encK, Ne.val] at hy
        have HR := Lib.hid hR
        clear hR HSM HNO HYE HYS
        gi_wp2
        refine HR.out.mono ?_
        rintro e W3 (⟨rfl, hJ3, hk3⟩ | ⟨rfl, hJx3⟩)
        · have H3 := Lib.hid hJ3
          have K3 := Lib.hid (HK2.out.trans hk3)
          clear hJ3 hk3 f0 f1 f2 f3 f4 f5 f6 f7 f8 hy HR
          gi_wp2
          go_roundw
          case rel => exact ⟨k + 1, by omega, by go_num, by rw [hel.out]; exact H3, K3⟩
          case measure => simp [intOf]; omega
        · have H3 := Lib.hid hJx3
          clear hJx3 f0 f1 f2 f3 f4 f5 f6 f7 f8 hy HR
          gi_wp2
          simp only [Exit.noGoto]
          go_end0
          exact ⟨⟨_, rfl⟩, .inr ⟨_, trivial, H3.out⟩⟩
    · have e : Hid (zs.take k = zs) := Lib.hid (List.take_of_length_le (by have := HM.out; omega))
      gi_wp2
      simp only [Exit.noGoto]
      go_end0
      exact ⟨⟨_, rfl⟩, .inl ⟨_, rfl, by have := HJ1.out; rwa [e.out] at this⟩⟩

theorem cho_nextR (n : Nat) (hn : 1 ≤ n) (gm gl : Nat) (g : Nat) (E : List Nat) (P : Ne → Bool) (p : Option Addr) (m c : Nat) (zs : List Ne) (hm : zs.length = m) (hmm : m ≤ 9223372036854775807) (w : World)
    (hP : ∀ s X, KeepBut E w X → Calls Try.prog 51 #[s.val, .pointer (some ⟨g, 0, none⟩)] X fun e X' => e = .returned (.bool (P s)) ∧ Below X.heap.size X X')
    (em : gm ∉ E) (el : gl ∉ E) (hbm : w.cell? ⟨gm, 0, none⟩ = some (.func (.func 51) #[] #[.pointer (some ⟨g, 0, none⟩)])) (hbl : w.cell? ⟨gl, 0, none⟩ = some (.slice p m c))
    (hz : ∀ k s, zs[k]? = some s → ∃ b off, p = some ⟨b, off, none⟩ ∧ b < w.heap.size ∧ b ∉ E ∧ ∀ i v, s.cells[i]? = some v → w.cell? ⟨b, off + k * 9 + i, none⟩ = some v) :
    SeqKeep Fence.wide n Try.prog 73 #[.pointer (some ⟨gl, 0, none⟩), .pointer (some ⟨gm, 0, none⟩)] encK (KeepBut E) (nxtK P zs) (fun ys => ys = zs.filter P) (fun _ => True) w := fun l J Jx W hW hs hJ hY h0 =>
  cho_inR n hn l gm gl w.heap.size g E P p m c zs hm hmm J Jx W (fun s X hX => hP s X ((KeepBut.of_below hW).trans hX)) hY hs hJ (cell_lt hbm) (cell_lt hbl) em el
    ((hW.cell (p := ⟨gm, 0, none⟩) (cell_lt hbm)).trans hbm) ((hW.cell (p := ⟨gl, 0, none⟩) (cell_lt hbl)).trans hbl)
    (fun k s hk => by
      obtain ⟨b, off, e, hb, hE, hc⟩ := hz k s hk
      exact ⟨b, off, e, hb, hE, fun i v hv => (hW.cell (p := ⟨b, off + k * 9 + i, none⟩) hb).trans (hc i v hv)⟩) h0

end Go.Proofs.Ytmljndggblfeiaa
