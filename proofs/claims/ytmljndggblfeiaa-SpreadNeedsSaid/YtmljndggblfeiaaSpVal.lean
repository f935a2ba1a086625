/- slices.Values over needs, slices.AppendSeq and Collect: what they hand back. Written by mk_SpVal.py out of the texts over sides. -/
import Derived.Test.YtmljndggblfeiaaMul
import Derived.Test.YtmljndggblfeiaaKBand
import Derived.Test.YtmljndggblfeiaaKApp
import Derived.Test.YtmljndggblfeiaaROwn
import Derived.RangeFuncNested
import Derived.RangeFuncBound
import Derived.RangeFuncCalls
import Derived.RangeFuncLeaves
import Derived.RangeFuncBox
import Derived.ScopeJumps
import Derived.WalkMore
import Derived.Shelf.Abstract
import Derived.Shelf.RegionOpen
import Derived.WalkKit
import Derived.OwnWalkIn
import Derived.TacticsInMore
import Derived.LoopNIn
import Derived.LoopIn
namespace Go.Proofs.Ytmljndggblfeiaa
open Go.RowKit Go.Shelf Go.Sort Go.Lib
set_option linter.unusedVariables false
set_option linter.unusedSimpArgs false
attribute [local go_sem] Oper.semAt_some

theorem grown_of_belowN {W W' : World} (hb : Below W.heap.size W W') : W.grownBy W' none := ⟨hb.os, hb.tape, hb.output, hb.size, fun k hk _ => hb.block k hk⟩
theorem abides_belowN {β : Type} {B : Nat} {J : β → World → Prop} (h : AbidesFrom B J) {s : β} {W W' : World} (hs : J s W) (hb : Below W.heap.size W W') : J s W' :=
  h s W W' none hs (grown_of_belowN hb) (fun r e => by cases e)

set_option maxRecDepth 100000 in
set_option maxHeartbeats 2000000 in
theorem values1_inN (F : Fence) (n : Nat) (hf : F.fn 32) (hro : F.round = none) (hn : 1 ≤ n) (l Bs n₀ b off cap : Nat) {α : Type} (f : α → Ne) (rs : List α) (hreach : rs.length ≤ 9223372036854775807) (hb : 0 < rs.length → b < n₀)
    (J Jx : List α → World → Prop)
    (hY : ∀ pre x W, J pre W → pre.length < rs.length → YieldAt F (n - 1) Try.prog l #[(f x).val] W fun e W' =>
      (e = .returned (.bool true) ∧ J (pre ++ [x]) W' ∧ Below n₀ W W') ∨ (e = .returned (.bool false) ∧ Jx (pre ++ [x]) W'))
    (W : World) (hn₀ : n₀ ≤ W.heap.size) (hJ : AbidesFrom W.heap.size J) (hBs : W.cell? ⟨Bs, 0, none⟩ = some (.slice (some ⟨b, off, none⟩) rs.length cap)) (hc : ∀ j r, rs[j]? = some r → ∀ i v, (f r).cells[i]? = some v → W.cell? ⟨b, off + j * 9 + i, none⟩ = some v) (h0 : J [] W) :
    CallsIn F n Try.prog 32 #[.func (.yield l) #[] #[], .pointer (some ⟨Bs, 0, none⟩)] W fun e W' => (∃ v, e = .returned v) ∧
      ((∃ ys, ys = rs ∧ J ys W') ∨ (∃ pre, (∃ k, k ≤ rs.length ∧ pre = rs.take k) ∧ Jx pre W')) := by
  refine callsIn_of_wp Try.func32 rfl hf ?_ hro
  simp only [Try.ntmps32, List.size_toArray, List.length_cons, List.length_nil, Nat.reduceAdd, Nat.reduceSub, Array.replicate_succ, Array.replicate_zero, List.push_toArray, List.append_toArray, List.nil_append, List.cons_append]
  gi_wp2
  gi_loopw [7] (fun i wr => ∃ k : Nat, k ≤ rs.length ∧ i = .int .i64 k ∧ J (rs.take k) wr ∧ Hid (Below n₀ W wr))
    (fun i _ => rs.length - (intOf i).toNat)
  case atStart => exact ⟨0, Nat.zero_le _, rfl, h0, Lib.hid (Below.refl _ _)⟩
  case round =>
    obtain ⟨k, hk, rfl, hJs, hnx⟩ := hrel
    by_cases hlt : k < rs.length
    · obtain ⟨r, hr⟩ : ∃ r, rs[k] = r := ⟨_, rfl⟩
      have hr' : rs[k]? = some r := by rw [List.getElem?_eq_getElem hlt, hr]
      obtain ⟨⟨nd, ro, co, rz, cs, mn, mx, ⟨wk, wn⟩⟩, hfr⟩ : ∃ q, f r = q := ⟨_, rfl⟩
      have cc := fun i v (h : (Ne.cells (f r))[i]? = some v) => (hnx.out.cell (p := ⟨b, off + k * 9 + i, none⟩) (hb (by omega))).trans (hc k r hr' i v h)
      rw [hfr] at cc
      have c0 : wr.cell? ⟨b, off + k * 9, none⟩ = some (.int .i64 nd) := cc 0 (.int .i64 nd) rfl
      have c1 := cc 1 (.int .i64 ro) rfl
      have c2 := cc 2 (.int .i64 co) rfl
      have c3 := cc 3 (.int .i64 rz) rfl
      have c4 := cc 4 (.int .i64 cs) rfl
      have c5 := cc 5 (.int .i64 mn) rfl
      have c6 := cc 6 (.int .i64 mx) rfl
      have c7 := cc 7 (.int .i64 wk) rfl
      have c8 := cc 8 (.int .i64 wn) rfl
      have hsn : Hid (rs.take (k + 1) = rs.take k ++ [r]) := by
        apply Lib.hid
        rw [List.take_succ_eq_append_getElem hlt, hr]
      have hJ1 : J (rs.take k) (wr.alloc (.cells #[.int .i64 nd, .int .i64 ro, .int .i64 co, .int .i64 rz, .int .i64 cs, .int .i64 mn, .int .i64 mx, .int .i64 wk, .int .i64 wn] 37)) := abides_belowN hJ hJs ((Below.refl _ _).alloc (Nat.le_refl _) _)
      obtain ⟨fn, tmps, assign, body, hy, hR⟩ := hY _ r _ hJ1 (by rw [List.length_take]; omega)
      rw [hfr] at hy
      have HR := Lib.hid hR
      have hz : W.heap.size ≤ wr.heap.size := hnx.out.size
      clear cc hc hr hr' hfr hY hJs hBs h0 hJ1 hR
      dsimp only [Ne.val] at hy
      gi_wp2
      refine HR.out.mono ?_
      rintro e W3 (⟨rfl, hJ3, hk3⟩ | ⟨rfl, hJx3⟩)
      · have H3 := Lib.hid hJ3
        have K3 := Lib.hid hk3
        clear hJ3 hk3
        gi_wp2
        go_roundw
        case rel => exact ⟨k + 1, by omega, by simp, by rw [hsn.out]; exact H3.out, Lib.hid ((hnx.out.trans ((Below.refl _ _).alloc (by omega) _)).trans K3.out)⟩
        case measure => simp [intOf]; omega
      · have H3 := Lib.hid hJx3
        clear hJx3
        gi_wp2
        refine bodyPost_ret (results_none rfl _ _ _) rfl ?_
        exact ⟨⟨_, rfl⟩, .inr ⟨_, ⟨k + 1, by omega, hsn.out.symm⟩, H3.out⟩⟩
    · have e : Hid (rs.take k = rs) := Lib.hid (List.take_of_length_le (by omega))
      have HJ := Lib.hid hJs
      clear hc hY hJs hBs h0
      gi_wp2
      go_end0
      exact ⟨⟨_, rfl⟩, .inl ⟨_, rfl, by rw [← e.out]; exact HJ.out⟩⟩
set_option maxRecDepth 100000 in
set_option maxHeartbeats 1000000 in
theorem values1_nil_inN (F : Fence) (n : Nat) (hf : F.fn 32) (hro : F.round = none) (l Bs : Nat) (a : Option Addr) (cap : Nat) {α : Type} (J : List α → World → Prop) (W : World) (hBs : W.cell? ⟨Bs, 0, none⟩ = some (.slice a 0 cap)) (h0 : J [] W) :
    CallsIn F n Try.prog 32 #[.func (.yield l) #[] #[], .pointer (some ⟨Bs, 0, none⟩)] W fun e W' => (∃ v, e = .returned v) ∧ J [] W' := by
  refine callsIn_of_wp Try.func32 rfl hf ?_ hro
  simp only [Try.ntmps32, List.size_toArray, List.length_cons, List.length_nil, Nat.reduceAdd, Nat.reduceSub, Array.replicate_succ, Array.replicate_zero, List.push_toArray, List.append_toArray, List.nil_append, List.cons_append]
  have HJ := Lib.hid h0
  clear h0
  gi_wp2
  gi_loopw [7] (fun i wr => i = .int .i64 0 ∧ Hid (J [] wr)) (fun _ _ => 0)
  case atStart => exact ⟨rfl, HJ⟩
  case round =>
    obtain ⟨rfl, hJs⟩ := hrel
    gi_wp2
    go_end0
    exact ⟨⟨_, rfl⟩, hJs.out⟩
set_option maxHeartbeats 1000000 in
theorem values_anyN (a : Option Addr) (len cap : Nat) (w : World) :
    Calls Try.prog 17 #[.slice a len cap] w fun e w' => e = .returned (.func (.func 32) #[] #[.pointer (some ⟨w.heap.size, 0, none⟩)]) ∧ w' = w.alloc (.cells #[.slice a len cap] 23) := by
  go_enter Try.func17, Try.ntmps17
  go_wp2
  go_ret
  exact ⟨rfl, rfl⟩
/-- slices.Values(s) hands back a value that yields the sides: all; or the first k of them -/
theorem values_stopsN (F : Fence) (n : Nat) (hf : F.fn 32) (hro : F.round = none) (hn : 1 ≤ n) (Bs : Nat) (sv : Value) {α : Type} (f : α → Ne) (rs : List α) (w w0 : World) (hBs : Bs < w.heap.size)
    (hc : w.cell? ⟨Bs, 0, none⟩ = some sv) (hI : RowsK Ne.cells 9 w0 sv (rs.map f)) (hw0 : Below w0.heap.size w0 w) :
    SeqStopsK F n Try.prog 32 #[.pointer (some ⟨Bs, 0, none⟩)] (fun x => #[(f x).val]) (Below w0.heap.size) (fun ys => ys = rs)
      (fun pre => ∃ k, k ≤ rs.length ∧ pre = rs.take k) rs.length w := fun l J Jx W hW hJ _ hY h0 => by
  have hc' := (hW.cell (p := ⟨Bs, 0, none⟩) hBs).trans hc
  have hsz := hW.size
  have hsz0 := hw0.size
  have hWW := hw0.trans (hW.mono hsz0)
  obtain ⟨hm, ⟨a, cap, rfl, he⟩ | ⟨b, off, cap, rfl, hlt, hcs⟩⟩ := hI
  · obtain rfl : rs = [] := List.map_eq_nil_iff.1 he
    exact (values1_nil_inN F n hf hro l Bs a cap J W hc' h0).mono fun e W' ⟨he, hj⟩ => ⟨he, .inl ⟨_, rfl, hj⟩⟩
  · rw [List.length_map] at hm hc'
    refine values1_inN F n hf hro hn l Bs w0.heap.size b off cap f rs hm (fun _ => hlt) J Jx hY W (by omega) hJ hc' (fun j r hj i v hv => (hWW.cell (p := ⟨b, off + j * 9 + i, none⟩) hlt).trans (hcs j (by rw [List.length_map]; exact (List.getElem?_eq_some_iff.1 hj).1) i v ?_)) h0
    have hl : j < rs.length := (List.getElem?_eq_some_iff.1 hj).1
    rw [getElem!_pos (rs.map f) j (by rw [List.length_map]; exact hl), List.getElem_map, (List.getElem?_eq_some_iff.1 hj).2]
    exact hv
theorem Try.infoSide3N : (Try.prog.info? 37).map (fun i => (i.zero, i.size, i.bytes)) = some (some (.agg #[.int .i64 0, .int .i64 0, .int .i64 0, .int .i64 0, .int .i64 0, .int .i64 0, .int .i64 0, .int .i64 0, .int .i64 0]), 9, 72) := by kernel_rfl
theorem info_threeN {t : Nat} {z : Option Value} {s b : Nat} (h : (Try.prog.info? t).map (fun i => (i.zero, i.size, i.bytes)) = some (z, s, b)) : ∃ i, Try.prog.info? t = some i ∧ i.zero = z ∧ i.size = s ∧ i.bytes = b := by
  cases hi : Try.prog.info? t with
  | none => rw [hi] at h; cases h
  | some i =>
    rw [hi] at h
    simp only [Option.map_some, Option.some.injEq, Prod.mk.injEq] at h
    exact ⟨i, rfl, h.1, h.2.1, h.2.2⟩
theorem lay_newN (w : World) (xs : List Value) (t g : Nat) (hg : g = w.heap.size) : ∀ j u, xs[j]? = some u → (w.alloc (.cells xs.toArray t)).cell? ((⟨g, 0, none⟩ : Addr).add j) = some u := by
  intro j u hj
  have h := (whole_new w xs t g hg).cellAt j
  rw [add_plainC, Nat.zero_add]
  exact h.trans hj
/-- what holds when the sides pre have been collected -/
def ApN (B base : Nat) (w : World) (pre : List Ne) (W : World) : Prop :=
  (∃ v, Whole W B 23 [v] ∧ W.ownsRow base 37 9 v pre.length (pre.flatMap Ne.cells)) ∧ Below B w W ∧ base ≤ W.heap.size
theorem ApN.own (B base : Nat) (w : World) (K : Nat) (h1 : B ≤ w.heap.size) (h2 : B ≤ K) : OwnFrom K (ApN B base w) :=
  OwnFrom.and (fun s X Y row ⟨v, hb, ho⟩ hg hr => ⟨v, hb.grown hg (hb.ne fun r e => (hr r e).2), own_grown ho hg fun r e => (hr r e).2⟩) (OwnFrom.and (ownFrom_below h1 h2) (fun s X Y row hs hg hr => Nat.le_trans hs hg.size))
theorem flat_snocN (pre : List Ne) (x : Ne) : (pre ++ [x]).flatMap Ne.cells = pre.flatMap Ne.cells ++ x.cells := by simp
set_option maxRecDepth 100000 in
set_option maxHeartbeats 4000000 in
theorem append_anyN (Bs : Nat) (sv : Value) (zs : List Ne) (w : World) (hBs : w.cell? ⟨Bs, 0, none⟩ = some sv) (hI : RowsK Ne.cells 9 w sv zs) (hn : zs.length ≤ 1000000) :
    Calls Try.prog 74 #[.slice none 0 0, .func (.func 32) #[] #[.pointer (some ⟨Bs, 0, none⟩)]] w
      fun e W' => ∃ v, e = .returned v ∧ W'.ownsRow w.heap.size 37 9 v zs.length (zs.flatMap Ne.cells) ∧ Below w.heap.size w W' := by
  obtain ⟨i0, hi, hz0, hz1, hz2⟩ := info_threeN Try.infoSide3N
  have hBl := cell_lt hBs
  refine (callsIn_wide (n := 3)).1 (callsIn_of_wp_marks Try.func74 rfl trivial (wpIn_wide.2 ?_) rfl)
  simp only [Try.ntmps74, List.size_toArray, List.length_cons, List.length_nil, Nat.reduceAdd, Nat.reduceSub, Array.replicate_succ, Array.replicate_zero, List.push_toArray, List.append_toArray, List.nil_append, List.cons_append]
  go_wp2
  have hB : Below w.heap.size w (w.alloc (.cells #[.slice none 0 0] 23)) := (Below.refl _ w).alloc (Nat.le_refl _) _
  have kb := whole_new w [.slice none 0 0] 23 w.heap.size rfl
  have hsz : (w.alloc (.cells #[.slice none 0 0] 23)).heap.size = w.heap.size + 1 := by simp
  have hc1 : (w.alloc (.cells #[.slice none 0 0] 23)).cell? ⟨Bs, 0, none⟩ = some sv := (hB.cell (p := ⟨Bs, 0, none⟩) hBl).trans hBs
  obtain ⟨W1, hW1⟩ : ∃ W1, w.alloc (.cells #[.slice none 0 0] 23) = W1 := ⟨_, rfl⟩
  replace kb : Whole W1 w.heap.size 23 [.slice none 0 0] := by rw [← hW1]; exact kb
  rw [hW1] at hB hsz hc1 ⊢
  clear hW1
  have hsz1 : w.heap.size + 1 ≤ W1.heap.size := by omega
  clear hsz
  refine (wpIn_wide (n := 3)).1 (wpIn_rangeFunc_ownH (F := Fence.wide) rfl (by omega) (gf := 32) (lb := #[.pointer (some ⟨Bs, 0, none⟩)]) rfl trivial (enters_of Try.func32 (by kernel_rfl) rfl)
    (values_stopsN Fence.wide _ trivial rfl (by omega) Bs sv id zs W1 w (by omega) hc1 (by simpa using hI) hB) belowK_t (belowK_b (by omega)) (Below.refl _ _) (fun _ => rfl)
    (ApN w.heap.size W1.heap.size w) (fun _ _ _ => False) (ApN.own _ _ _ _ (Nat.le_refl _) (by omega)) (fun _ _ _ _ _ hs _ _ => hs)
    ⟨⟨_, kb, World.ownsRow_nil _ _ _ _⟩, hB, Nat.le_refl _⟩
    (fun x a' W' => ∃ g, a' = { tmps := #[.slice none 0 0, .func (.func 32) #[] #[.pointer (some ⟨Bs, 0, none⟩)], .pointer (some ⟨w.heap.size, 0, none⟩), undef, .slice none 0 0, .pointer (some ⟨g, 0, none⟩), .func (.func 32) #[] #[.pointer (some ⟨Bs, 0, none⟩)], x.val, undef, undef, undef, undef, undef], defers := [] } ∧ W1.heap.size ≤ g ∧ Whole W' g 37 x.cells) ?hax ?assign ?body ?done ?stop)
  case hax =>
    rintro x a' s X Y row ⟨g, he, hg, hk⟩ hgr hr
    exact ⟨g, he, hg, hk.grown hgr (hk.ne fun r e => (hr r e).2)⟩
  case assign =>
    rintro l pre ⟨nd, ro, co, rz, cs, mn, mx, ⟨wk, wn⟩⟩ V K hi' hK
    have hbase := hi'.2.2
    have hB' := Lib.hid hi'
    clear hi' kb hB hI hi hz0 hz1 hz2 hc1 hBs
    dsimp only [id, Ne.val]
    gi_wp2
    refine hK _ _ ((KeepsOthers.alloc V _).from _) ((Below.refl _ V).alloc (by omega) _) ((ApN.own _ _ _ W1.heap.size (Nat.le_refl _) (by omega)).alloc _ hB'.out) ⟨V.heap.size, rfl, hbase, ?_⟩
    exact whole_new V (Ne.cells ⟨nd, ro, co, rz, cs, mn, mx, ⟨wk, wn⟩⟩) 37 _ rfl
  case body =>
    rintro l pre ⟨nd, ro, co, rz, cs, mn, mx, ⟨wk, wn⟩⟩ a' V hl hlr ⟨⟨v, hbx, ho⟩, hb, hbs⟩ ⟨g, rfl, hg, hk⟩ hlen
    have c0 : V.cell? ⟨w.heap.size, 0, none⟩ = some v := hbx.cellAt 0
    have r0 : V.cell? ⟨g, 0, none⟩ = some (.int .i64 nd) := hk.cellAt 0
    have r1 : V.cell? ⟨g, 1, none⟩ = some (.int .i64 ro) := hk.cellAt 1
    have r2 : V.cell? ⟨g, 2, none⟩ = some (.int .i64 co) := hk.cellAt 2
    have r3 : V.cell? ⟨g, 3, none⟩ = some (.int .i64 rz) := hk.cellAt 3
    have r4 : V.cell? ⟨g, 4, none⟩ = some (.int .i64 cs) := hk.cellAt 4
    have r5 : V.cell? ⟨g, 5, none⟩ = some (.int .i64 mn) := hk.cellAt 5
    have r6 : V.cell? ⟨g, 6, none⟩ = some (.int .i64 mx) := hk.cellAt 6
    have r7 : V.cell? ⟨g, 7, none⟩ = some (.int .i64 wk) := hk.cellAt 7
    have r8 : V.cell? ⟨g, 8, none⟩ = some (.int .i64 wn) := hk.cellAt 8
    clear kb hB hI hlr hc1 hBs
    dsimp only [Ne.val]
    gi_wp2_with (gi_at_builtin; refine wpListIn_append_own_at _ rfl _ _ 23 rfl W1.heap.size 37 i0 (.agg #[.int .i64 0, .int .i64 0, .int .i64 0, .int .i64 0, .int .i64 0, .int .i64 0, .int .i64 0, .int .i64 0, .int .i64 0]) 9 72 Try.underlying23 hi hz0 hz1 hz2 rfl (by decide) v pre.length _ rfl (ho.alloc _) ⟨V.heap.size, 0, none⟩ 1 1 [.int .i64 nd, .int .i64 ro, .int .i64 co, .int .i64 rz, .int .i64 cs, .int .i64 mn, .int .i64 mx, .int .i64 wk, .int .i64 wn] rfl rfl (lay_newN _ _ _ _ rfl) (by simp [Value.oneCell']) (by unfold maxLen; omega) (by omega) (by simp <;> omega) ?_)
    intro v' w1 hown1 hgrow1 _ hf1
    obtain ⟨pa, pn, pc, rfl⟩ := own_slice hown1
    have kb1 : Whole w1 w.heap.size 23 [v] := hbx.app ho (by decide) hgrow1
    have B1 := Lib.hid (step_below (b := w.heap.size) (off := 0) (v' := .slice pa pn pc) (Below.refl w.heap.size V) ho hgrow1 (by omega) (by omega) (by omega))
    have K1 := Lib.hid (step_keeps (b := w.heap.size) (off := 0) (v' := .slice pa pn pc) ho hgrow1)
    have z1 := hgrow1.size
    simp only [World.size_alloc] at z1
    have d0 : w1.cell? ⟨w.heap.size, 0, none⟩ = some v := kb1.cellAt 0
    have e0 : w1.frozen? ⟨w.heap.size, 0, none⟩ = false := kb1.free 0
    have ll := kb1.lt
    have HO := Lib.hid hown1
    have KB := Lib.hid kb1
    clear r0 r1 r2 r3 r4 r5 r6 r7 r8 c0 hk hown1 hgrow1 hf1 kb1
    gi_wp2
    have hne := whole_own KB.out HO.out (by decide)
    refine ⟨K1.out.from _, B1.out, ⟨.slice pa pn pc, KB.out.set 0 _, ?_⟩, hb.trans B1.out, ?_⟩
    · have h := own_setCell (o := 0) (u := .slice pa pn pc) HO.out hne
      rw [flat_snocN, List.length_append]
      exact h
    · simp <;> omega
  case done =>
    rintro D ys V hD rfl ⟨⟨v, hbx, ho⟩, hb, hbs⟩ hK
    have c0 : V.cell? ⟨w.heap.size, 0, none⟩ = some v := hbx.cellAt 0
    have l0 := hbx.lt
    have HO := Lib.hid ho
    have HB := Lib.hid hb
    have HK := Lib.hid hK
    clear ho hb hK kb hB hI hi hz0 hz1 hz2 hc1 hBs hbx
    go_wp2
    refine leaves_marks w.heap.size [D] _ ((Marks.nil w.heap.size V).cons (D := D) (by omega) HK.out (fun E hE => by cases hE)) (fun W' hck hbk => ⟨v, by simp [results, Try.results74, go_sem], v, rfl, ?_, HB.out.trans hbk⟩)
    refine ⟨HO.out.1, ?_⟩
    rcases HO.out.2 with hn' | ⟨g', cap, cur, rfl, hb', hgg, rest⟩
    · exact .inl hn'
    · exact .inr ⟨g', cap, cur, rfl, by omega, hck _ _ hgg rfl, rest⟩
  case stop =>
    rintro D c pre W _ _ h _
    exact h.elim
theorem collect_anyN (Bs : Nat) (sv : Value) (zs : List Ne) (w : World) (hBs : w.cell? ⟨Bs, 0, none⟩ = some sv) (hI : RowsK Ne.cells 9 w sv zs) (hn : zs.length ≤ 1000000) :
    Calls Try.prog 54 #[.func (.func 32) #[] #[.pointer (some ⟨Bs, 0, none⟩)]] w
      fun e W' => ∃ v, e = .returned v ∧ W'.ownsRow w.heap.size 37 9 v zs.length (zs.flatMap Ne.cells) ∧ Below w.heap.size w W' := by
  have HA := Lib.hid (append_anyN Bs sv zs w hBs hI hn)
  clear hBs hI
  go_enter Try.func54, Try.ntmps54
  go_wp2_with fail
  refine HA.out.mono ?_
  rintro e W' ⟨v, rfl, ho, hb⟩
  have HO := Lib.hid ho
  have HB := Lib.hid hb
  clear ho hb
  go_wp2
  go_ret
  exact ⟨v, rfl, HO.out, HB.out⟩
end Go.Proofs.Ytmljndggblfeiaa
