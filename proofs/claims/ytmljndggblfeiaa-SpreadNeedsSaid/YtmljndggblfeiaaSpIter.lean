/- Contracts of slices.SortedStableFunc at needs, and of inTurn. -/
/- The iterator slices.Values over needs, where the round writes memory that was there before: the needs, in order. -/
import Derived.Test.YtmljndggblfeiaaSpSort
import Derived.Test.YtmljndggblfeiaaSpVal
import Derived.Test.YtmljndggblfeiaaTKeep
import Derived.Test.YtmljndggblfeiaaMarks
import Derived.Maps.OwnIn
import Derived.Sort.LoopGhostIn
import Derived.ScopeJumps
import Derived.WalkMore
namespace Go.Proofs.Ytmljndggblfeiaa
open Go.RowKit Go.Shelf Go.Sort Go.Lib
set_option linter.unusedVariables false
set_option linter.unusedSimpArgs false
attribute [local go_sem] Oper.semAt_some

set_option maxHeartbeats 1000000 in
theorem stable_noneN (p : Option Addr) (cap : Nat) (fv : Value) (w : World) : Calls Try.prog 55 #[.slice p 0 cap, fv] w fun e w' => e = .returned (.tuple #[]) ∧ w' = w := by
  have H1 := Lib.hid (fun w => show Calls Try.prog 90 _ _ _ from AnyF.insertionSortCmpFunc_none KS.insLaysK p cap fv w)
  have hs : Calls Try.prog 75 #[.slice p 0 cap, .int .i64 0, fv] w fun e w' => e = .returned (.tuple #[]) ∧ w' = w := by
    go_enter Try.func75, Try.ntmps75
    go_wp2
    go_loopw [7, 8] (fun s7 s8 X => s7 = .int .i64 0 ∧ s8 = .int .i64 20 ∧ Hid (X = w)) (fun _ _ _ => 0)
    case atStart => exact ⟨rfl, rfl, Lib.hid rfl⟩
    case round =>
      obtain ⟨rfl, rfl, HX⟩ := hrel
      go_wp2_with fail
      refine (H1.out _).mono ?_
      rintro e w' ⟨rfl, hw⟩
      replace HX : Hid (w' = w) := Lib.hid (hw.trans HX.out)
      clear hw
      go_wp2
      go_loopw [6] (fun s6 X => s6 = .int .i64 20 ∧ Hid (X = w)) (fun _ _ => 0)
      case atStart => exact ⟨rfl, HX⟩
      case round =>
        obtain ⟨rfl, HX⟩ := hrel
        go_wp2
        go_end0
        exact ⟨rfl, HX.out⟩
  have HS := Lib.hid hs
  clear hs
  go_enter Try.func55, Try.ntmps55
  go_wp2_with fail
  refine HS.out.mono ?_
  rintro e w' ⟨rfl, rfl⟩
  go_wp2
  go_end0
  exact ⟨rfl, rfl⟩
theorem sorted_nil (M : Nat) : sortedL M [] = [] := by
  unfold sortedL turnL
  simp
set_option maxHeartbeats 1000000 in
theorem stableN_own (M : Nat) (hM : M ≤ 10000) (base : Nat) (v : Value) (ns : List Ne) (W : World) (ho : W.ownsRow base 37 9 v ns.length (ns.flatMap Ne.cells)) (h : ∀ s ∈ ns, 1 ≤ s.cs ∧ s.cs ≤ M) (hn2 : ns.length ≤ 1000000) :
    Calls Try.prog 55 #[v, .func (.func 34) #[] #[]] W fun e W' => e = .returned (.tuple #[]) ∧ W'.ownsRow base 37 9 v ns.length ((sortedL M ns).flatMap Ne.cells) ∧ Below base W W' := by
  cases ns with
  | nil =>
    obtain ⟨p, k, c, rfl⟩ := own_sliceK ho
    have hk : k = 0 := by
      rcases ho.2 with ⟨e, _⟩ | ⟨g, cap, cur, e, _⟩
      · simp only [Value.slice.injEq] at e; exact e.2.1
      · simp only [Value.slice.injEq, List.length_nil] at e; exact e.2.1
    subst hk
    refine (stable_noneN p c _ W).mono ?_
    rintro e w' ⟨rfl, rfl⟩
    exact ⟨rfl, by rw [sorted_nil]; exact ho, Below.refl _ _⟩
  | cons s ns => exact sortN_own M hM base v (s :: ns) W ho h (by simp) hn2
set_option maxHeartbeats 1000000 in
theorem sortedStable_any (M : Nat) (hM : M ≤ 10000) (Bs : Nat) (sv : Value) (zs : List Ne) (w : World) (hBs : w.cell? ⟨Bs, 0, none⟩ = some sv) (hI : RowsK Ne.cells 9 w sv zs) (h : ∀ s ∈ zs, 1 ≤ s.cs ∧ s.cs ≤ M) (hn : zs.length ≤ 1000000) :
    Calls Try.prog 33 #[.func (.func 32) #[] #[.pointer (some ⟨Bs, 0, none⟩)], .func (.func 34) #[] #[]] w
      fun e W' => ∃ v, e = .returned v ∧ W'.ownsRow w.heap.size 37 9 v zs.length ((sortedL M zs).flatMap Ne.cells) ∧ Below w.heap.size w W' := by
  have HA := Lib.hid (collect_anyN Bs sv zs w hBs hI hn)
  have HS := Lib.hid (fun v W ho => stableN_own M hM w.heap.size v zs W ho h hn)
  clear hBs hI h
  go_enter Try.func33, Try.ntmps33
  go_wp2_with fail
  refine HA.out.mono ?_
  rintro e w1 ⟨v, rfl, ho, hb⟩
  have HB := Lib.hid hb
  have HS1 := Lib.hid (HS.out v w1 ho)
  clear ho hb HS HA
  go_wp2_with fail
  refine HS1.out.mono ?_
  rintro e w2 ⟨rfl, ho2, hb2⟩
  have HO2 := Lib.hid ho2
  have HB2 := Lib.hid (HB.out.trans hb2)
  clear ho2 hb2 HS1 HB
  go_wp2
  go_ret
  exact ⟨v, rfl, HO2.out, HB2.out⟩
theorem own_rowsN {W : World} {base m : Nat} {v : Value} {zs : List Ne} (h : W.ownsRow base 37 9 v m (zs.flatMap Ne.cells)) (hz : zs.length = m) (hl : m ≤ 9223372036854775807) : RowsK Ne.cells 9 W v zs := by
  subst hz
  refine ⟨hl, ?_⟩
  rcases h.2 with ⟨rfl, h0⟩ | ⟨g, cap, cur, rfl, hb, hg, hnc, hcm, hcs, htk⟩
  · exact .inl ⟨none, 0, rfl, List.length_eq_zero_iff.1 h0⟩
  · refine .inr ⟨g, 0, cap, rfl, (Array.getElem?_eq_some_iff.1 hg).1, fun j hj i v hv => ?_⟩
    have hi : i < 9 := (List.getElem?_eq_some_iff.1 hv).1
    have hf := flat_getK Ne.cells 9 Ne.cells_len zs j i hi hj
    rw [← htk, List.getElem?_take_of_lt (by have := Nat.mul_le_mul_right 9 (show j + 1 ≤ zs.length by omega); omega)] at hf
    rw [show 0 + j * 9 + i = j * 9 + i by omega]
    simp [World.cell?, hg]
    rw [← hv, ← hf]; simp
set_option maxHeartbeats 1000000 in
theorem inTurn_any (M : Nat) (hM : M ≤ 10000) (p : Option Addr) (m c : Nat) (zs : List Ne) (w : World) (hI : RowsK Ne.cells 9 w (.slice p m c) zs) (h : ∀ s ∈ zs, 1 ≤ s.cs ∧ s.cs ≤ M) (hn : zs.length ≤ 1000000) :
    Calls Try.prog 18 #[.slice p m c] w fun e W' => ∃ v, e = .returned v ∧ W'.ownsRow (w.heap.size + 1) 37 9 v zs.length ((sortedL M zs).flatMap Ne.cells) ∧ Below w.heap.size w W' := by
  have HV := Lib.hid (values_anyN p m c w)
  have HN := Lib.hid (fun w1 (hw : w1 = w.alloc (.cells #[.slice p m c] 23)) => sortedStable_any M hM w.heap.size (.slice p m c) zs w1 (by rw [hw]; simp) (by rw [hw]; exact hI.below ((Below.refl _ w).alloc (Nat.le_refl _) _)) h hn)
  clear hI h
  go_enter Try.func18, Try.ntmps18
  go_wp2_with fail
  refine HV.out.mono ?_
  rintro e w1 ⟨rfl, hw1⟩
  have HN1 := Lib.hid (HN.out w1 hw1)
  have HB1 : Hid (Below w.heap.size w w1 ∧ w1.heap.size = w.heap.size + 1) := Lib.hid (by rw [hw1]; exact ⟨(Below.refl _ w).alloc (Nat.le_refl _) _, by simp⟩)
  clear hw1 HN HV
  go_wp2_with fail
  refine HN1.out.mono ?_
  rintro e w2 ⟨v, rfl, ho, hb⟩
  rw [HB1.out.2] at ho hb
  have HO := Lib.hid ho
  have HB2 := Lib.hid (HB1.out.1.trans (hb.mono (Nat.le_succ _)))
  clear ho hb HN1 HB1
  go_wp2
  go_ret
  exact ⟨v, rfl, HO.out, HB2.out⟩
end Go.Proofs.Ytmljndggblfeiaa

namespace Go.Proofs.Ytmljndggblfeiaa
open Go.RowKit Go.Shelf Go.Sort
set_option linter.unusedVariables false
set_option linter.unusedSimpArgs false
attribute [local go_sem] Oper.semAt_some

/-- the next need -/
def nxtV (zs : List Ne) (pre : List Ne) (x : Ne) : Prop := ∃ k : Nat, zs[k]? = some x ∧ pre = zs.take k
def encV (x : Ne) : Array Value := #[x.val]
set_option maxRecDepth 100000 in
set_option maxHeartbeats 4000000 in
theorem valE_in (n : Nat) (hn : 1 ≤ n) (l Bs B : Nat) (E : List Nat) (p : Option Addr) (m c : Nat) (zs : List Ne) (hm : zs.length = m) (hmm : m ≤ 9223372036854775807) (J Jx : List Ne → World → Prop) (W : World)
    (hY : ∀ pre x V, J pre V → nxtV zs pre x → YieldAt Fence.wide (n - 1) Try.prog l (encV x) V fun e V' =>
      (e = .returned (.bool true) ∧ J (pre ++ [x]) V' ∧ KeepBut E V V') ∨ (e = .returned (.bool false) ∧ Jx (pre ++ [x]) V'))
    (hB : B + 2 ≤ W.heap.size) (hJ : ∀ s X Y, J s X → Below W.heap.size X Y → J s Y) (el : Bs ∉ E)
    (hbl : W.cell? ⟨Bs, 0, none⟩ = some (.slice p m c))
    (hz : ∀ k s, zs[k]? = some s → ∃ b off, p = some ⟨b, off, none⟩ ∧ b < B ∧ b ∉ E ∧ ∀ i v, s.cells[i]? = some v → W.cell? ⟨b, off + k * 9 + i, none⟩ = some v) (h0 : J [] W) :
    CallsIn Fence.wide n Try.prog 32 #[.func (.yield l) #[] #[], .pointer (some ⟨Bs, 0, none⟩)] W fun e W' => (∃ v, e = .returned v) ∧
      ((∃ ys, ys = zs ∧ J ys W') ∨ (∃ pre, True ∧ Jx pre W')) := by
  refine callsIn_of_wp Try.func32 rfl trivial ?_ rfl
  simp only [Try.ntmps32, List.size_toArray, List.length_cons, List.length_nil, Nat.reduceAdd, Nat.reduceSub, Array.replicate_succ, Array.replicate_zero, List.push_toArray, List.append_toArray, List.nil_append, List.cons_append]
  have HY := Lib.hid hY
  have HJ := Lib.hid hJ
  have HZ := Lib.hid hz
  have H0 := Lib.hid h0
  have HM := Lib.hid hm
  have EL := Lib.hid el
  have lgl := cell_lt hbl
  clear hY hJ hz h0 hm el
  gi_wp2
  gi_loopw [7] (fun s7 X => ∃ k : Nat, k ≤ m ∧ s7 = .int .i64 k ∧ Hid (J (zs.take k) X) ∧ Hid (KeepBut E W X)) (fun s7 _ => m - (intOf s7).toNat)
  case atStart => exact ⟨0, Nat.zero_le _, rfl, Lib.hid (by simpa using H0.out), Lib.hid (KeepBut.refl _ _)⟩
  case round =>
    obtain ⟨k, hk, rfl, HJ1, HK⟩ := hrel
    clear hbl lgl
    by_cases hlt : k < m
    · obtain ⟨s, hs⟩ : ∃ s, zs[k]? = some s := ⟨_, List.getElem?_eq_getElem (by rw [HM.out]; exact hlt)⟩
      obtain ⟨b, off, rfl, hbB, hbE, hcs⟩ := HZ.out k s hs
      have HSM : Hid (nxtV zs (zs.take k) s) := Lib.hid ⟨k, hs, rfl⟩
      have HEL : Hid (zs.take (k + 1) = zs.take k ++ [s]) := Lib.hid (by rw [List.take_add_one, hs]; rfl)
      have HYS := Lib.hid (fun V => HY.out (zs.take k) s V)
      clear hs HY
      have hsame : ∀ i v, s.cells[i]? = some v → wr.cell? ⟨b, off + k * 9 + i, none⟩ = some v := fun i v hv => by
        have h1 := World.cell?_of_block (a := ⟨b, off + k * 9 + i, none⟩) (HK.out.2 b hbE (by show b < W.heap.size; omega))
        rw [h1]; exact hcs i v hv
      have lb : b < wr.heap.size := by have := HK.out.1; omega
      have lW : W.heap.size ≤ wr.heap.size := HK.out.1
      clear hcs
      obtain ⟨nd, ro, co, rs, cs, mn, mx, ⟨wk, wn⟩⟩ := s
      have q0 : wr.cell? ⟨b, off + k * 9, none⟩ = some (.int .i64 nd) := hsame 0 _ rfl
      have q1 : wr.cell? ⟨b, off + k * 9 + 1, none⟩ = some (.int .i64 ro) := hsame 1 _ rfl
      have q2 : wr.cell? ⟨b, off + k * 9 + 2, none⟩ = some (.int .i64 co) := hsame 2 _ rfl
      have q3 : wr.cell? ⟨b, off + k * 9 + 3, none⟩ = some (.int .i64 rs) := hsame 3 _ rfl
      have q4 : wr.cell? ⟨b, off + k * 9 + 4, none⟩ = some (.int .i64 cs) := hsame 4 _ rfl
      have q5 : wr.cell? ⟨b, off + k * 9 + 5, none⟩ = some (.int .i64 mn) := hsame 5 _ rfl
      have q6 : wr.cell? ⟨b, off + k * 9 + 6, none⟩ = some (.int .i64 mx) := hsame 6 _ rfl
      have q7 : wr.cell? ⟨b, off + k * 9 + 7, none⟩ = some (.int .i64 wk) := hsame 7 _ rfl
      have q8 : wr.cell? ⟨b, off + k * 9 + 8, none⟩ = some (.int .i64 wn) := hsame 8 _ rfl
      have HK2 : Hid (KeepBut E W (wr.alloc (.cells #[.int .i64 nd, .int .i64 ro, .int .i64 co, .int .i64 rs, .int .i64 cs, .int .i64 mn, .int .i64 mx, .int .i64 wk, .int .i64 wn] 37))) := Lib.hid (HK.out.trans (KeepBut.of_below ((Below.refl _ wr).alloc (Nat.le_refl _) _)))
      have hJ1 : J (zs.take k) (wr.alloc (.cells #[.int .i64 nd, .int .i64 ro, .int .i64 co, .int .i64 rs, .int .i64 cs, .int .i64 mn, .int .i64 mx, .int .i64 wk, .int .i64 wn] 37)) := HJ.out _ _ _ HJ1.out (((Below.refl _ wr).alloc (Nat.le_refl _) _).mono lW)
      obtain ⟨fn, tmps, assign, body, hy, hR⟩ := HYS.out _ hJ1 HSM.out
      dsimp only [encV, Ne.val] at hy
      have HR := Lib.hid hR
      clear hsame hR HSM HYS hJ1
      gi_wp2
      refine HR.out.mono ?_
      rintro e W3 (⟨rfl, hJ3, hk3⟩ | ⟨rfl, hJx3⟩)
      · have H3 := Lib.hid hJ3
        have K3 := Lib.hid (HK2.out.trans hk3)
        clear hJ3 hk3 hy HR q0 q1 q2 q3 q4 q5 q6 q7 q8
        gi_wp2
        go_roundw
        case rel => exact ⟨k + 1, by omega, by go_num, by rw [HEL.out]; exact H3, K3⟩
        case measure => simp [intOf]; omega
      · have H3 := Lib.hid hJx3
        clear hJx3 hy HR q0 q1 q2 q3 q4 q5 q6 q7 q8
        gi_wp2
        refine bodyPost_ret (results_none rfl _ _ _) rfl ?_
        exact ⟨⟨_, rfl⟩, .inr ⟨_, trivial, H3.out⟩⟩
    · have e : Hid (zs.take k = zs) := Lib.hid (List.take_of_length_le (by have := HM.out; omega))
      gi_wp2
      go_end0
      exact ⟨⟨_, rfl⟩, .inl ⟨_, rfl, by have := HJ1.out; rwa [e.out] at this⟩⟩
theorem valE_next (n : Nat) (hn : 1 ≤ n) (Bs : Nat) (E : List Nat) (p : Option Addr) (m c : Nat) (zs : List Ne) (hm : zs.length = m) (hmm : m ≤ 9223372036854775807) (w : World)
    (el : Bs ∉ E) (hbl : w.cell? ⟨Bs, 0, none⟩ = some (.slice p m c))
    (hz : ∀ k s, zs[k]? = some s → ∃ b off, p = some ⟨b, off, none⟩ ∧ b < w.heap.size ∧ b ∉ E ∧ ∀ i v, s.cells[i]? = some v → w.cell? ⟨b, off + k * 9 + i, none⟩ = some v) :
    SeqKeep Fence.wide n Try.prog 32 #[.pointer (some ⟨Bs, 0, none⟩)] encV (KeepBut E) (nxtV zs) (fun ys => ys = zs) (fun _ => True) w := fun l J Jx W hW hs hJ hY h0 =>
  valE_in n hn l Bs w.heap.size E p m c zs hm hmm J Jx W hY hs hJ el ((hW.cell (p := ⟨Bs, 0, none⟩) (cell_lt hbl)).trans hbl)
    (fun k s hk => by
      obtain ⟨b, off, e, hb, hE, hc⟩ := hz k s hk
      exact ⟨b, off, e, hb, hE, fun i v hv => (hW.cell (p := ⟨b, off + k * 9 + i, none⟩) hb).trans (hc i v hv)⟩) h0
end Go.Proofs.Ytmljndggblfeiaa
