/- The order of needs makes no difference, nor do needs that come twice, for any sizes (the first forty), needs (the first hundred). -/
import Derived.Test.YtmfllaanobafkaaRows
import Derived.WalkKit
import Derived.ProofKit
import Derived.OpenShut
import Derived.Below
import Derived.Test.YtmfllaanobafkaaKApp
import Derived.ShutString
namespace Go.Proofs.Ytmfllaanobafkaa.columnsOrder
open Go.ChangeShapes Go.WideShapes Go.ChangeAt Go.RowKit
set_option linter.unusedVariables false

theorem own : ownKnob Try.prog.godebug = none := by kernel_rfl
theorem laidOut : laidOutB Try.prog = true := by kernel_rfl

open Go.Shelf Go.Maps
theorem wp_appendK {P : Program} {o : Oper} {a : Act} {w w' : World} {K : Act → World → Prop} {Q : Exit → Act → World → Prop} (s x : Operand) (t : TypeId) (ho : o.op = .call { callee := .builtin .append, args := #[s, x], argTypes := #[t, t] })
    (v u v' : Value) (hs : a.eval s = v) (hx : a.eval x = u) (hr : (Builtin.append_ #[t, t] o.type #[v, u]).run P w = .ok v' w') (h : K (a.put o.dst v') w') : o.wp P a w K Q := by
  unfold Oper.wp execOp
  simp only [ho, resolve, invoke, builtin, Sem.run_bind, Sem.run_pure, Result.andThen_ok, List.map_toArray, List.map_cons, List.map_nil, hs, hx, hr]
  exact h
/-- the needs from place i on, twice each, backwards -/
def dblK (ns : List Ne) (i : Nat) : List Ne := (ns.drop i).reverse.flatMap fun x => [x, x]
theorem dblK_end (ns : List Ne) : dblK ns ns.length = [] := by simp [dblK]
theorem dblK_step (ns : List Ne) (i : Nat) (s : Ne) (h : ns[i]? = some s) : dblK ns i = dblK ns (i + 1) ++ [s, s] := by
  have hi := (List.getElem?_eq_some_iff.1 h).1
  unfold dblK
  rw [List.drop_eq_getElem_cons hi, (List.getElem?_eq_some_iff.1 h).2, List.reverse_cons, List.flatMap_append]
  rfl
theorem dblK_len (ns : List Ne) (i : Nat) : (dblK ns i).length = 2 * (ns.length - i) := by
  have h : ∀ l : List Ne, (l.flatMap fun x => [x, x]).length = 2 * l.length := fun l => by
    induction l with
    | nil => rfl
    | cons a l ih => rw [List.flatMap_cons, List.length_append, ih]; simp; omega
  unfold dblK
  rw [h]; simp
theorem dblK_mem (ns : List Ne) (x : Ne) : x ∈ ns ↔ x ∈ dblK ns 0 := by simp [dblK, List.mem_flatMap]
set_option maxRecDepth 100000 in
set_option maxHeartbeats 8000000 in
theorem walk (w : World) (a0 : Option Addr) (len0 cap0 : Nat) (z0 : List Sz) (w0 : SizeArg w a0 len0 cap0 z0) (a1 : Option Addr) (len1 cap1 : Nat) (z1 : List Ne) (w1 : NeedArg w a1 len1 cap1 z1) :
    Calls Try.prog 5 #[.slice a0 len0 cap0, .slice a1 len1 cap1] w fun e w' => e = .returned (.bool true) ∧ Below w.heap.size w w' := by
  obtain ⟨hz, hzl, hz1, hz2, hzw, hzs⟩ := RowArg.take Sz.cells_len (by omega) w0 40
  obtain ⟨hn, hnl, hn1, hn2, hnw, hns⟩ := RowArg.take Ne.cells_len (by omega) w1 100
  have HC := Lib.hid (fun X => cut_k a0 a1 len0 cap0 len1 cap1 X hz1 hz2 hn1 hn2 hzs hns)
  have HS := Lib.hid (fun X => shown13_any X)
  have hml : min len0 40 ≤ 40 := by omega
  have hml2 : min len1 100 ≤ 100 := by omega
  generalize min len0 40 = m at *
  generalize min len1 100 = m' at *
  generalize z0.take 40 = zs at *
  generalize z1.take 100 = ns at *
  have HZ := Lib.hid (fun X (hX : Below w.heap.size w X) => hz.below hX)
  have HN := Lib.hid (fun X (hX : Below w.heap.size w X) => hn.below hX)
  have HZL := Lib.hid hzl
  have HNL := Lib.hid hnl
  clear w0 w1 hzw hnw hz1 hn1 hzs hns hz hn hzl hnl hz2 hn2
  go_enter Try.func5, Try.ntmps5
  go_wp2_with fail
  refine (HS.out _).mono ?_
  rintro e wa ⟨rfl, ba⟩
  have BA := Lib.hid ba
  clear ba HS
  go_wp2_with fail
  refine (HC.out _).mono ?_
  rintro e wb ⟨rfl, bb⟩
  have BB := Lib.hid (BA.out.trans (bb.mono BA.out.size))
  clear bb BA HC
  obtain ⟨i0, hi0, hz0, hz1, hz2⟩ := infoNe4
  have HI0 := Lib.hid hi0
  have HZ0 := Lib.hid hz0
  have HZ1 := Lib.hid hz1
  have HZ2 := Lib.hid hz2
  clear hi0 hz0 hz1 hz2
  have hwr : IntKind.i64.wrap ((m' : Int) - 1) = (m' : Int) - 1 := by simp [IntKind.wrap, IntKind.bits, IntKind.signed]; omega
  go_wp2
  go_loopw [6, 7] (fun s6 s7 X => ∃ (j : Int) (ys : List Ne), -1 ≤ j ∧ j ≤ (m' : Int) - 1 ∧ s7 = .int .i64 j ∧ (∃ p k c, s6 = .slice p k c) ∧ Hid (ys = dblK ns (j + 1).toNat) ∧ Hid (GK wb s6 ys X)) (fun _ s7 _ => (intOf s7 + 1).toNat)
  case atStart => exact ⟨(m' : Int) - 1, [], by omega, by omega, rfl, ⟨_, _, _, rfl⟩, Lib.hid (by rw [show ((m' : Int) - 1 + 1).toNat = ns.length by have := HNL.out; omega, dblK_end]), Lib.hid (GK.nil wb)⟩
  case round =>
    obtain ⟨j, ys, hj1, hj2, rfl, ⟨pv, kv, cv, rfl⟩, HY, HG⟩ := hrel
    clear hwr
    by_cases hlt : 0 ≤ j
    · obtain ⟨i, rfl⟩ : ∃ i : Nat, j = (i : Int) := ⟨j.toNat, by omega⟩
      have hi : i < m' := by omega
      obtain ⟨s, hs⟩ : ∃ s, ns[i]? = some s := ⟨_, List.getElem?_eq_getElem (by rw [HNL.out]; exact hi)⟩
      have HWX := Lib.hid (BB.out.trans (HG.out.2.mono BB.out.size))
      obtain ⟨g1, o1, rfl, l0, hc⟩ := (HN.out w (Below.refl _ _)).at i s hs
      have HST := Lib.hid (dblK_step ns i s hs)
      rw [show ((i : Int) + 1).toNat = i + 1 by omega] at HY
      have hyl : ys.length ≤ 200 := by
        rw [HY.out, dblK_len]
        have := HNL.out
        omega
      obtain ⟨nd, ro, co, rs, cs, mn, mx, ⟨wk, wn⟩⟩ := s
      have z0 : w.cell? ⟨g1, o1 + i * 9, none⟩ = some (.int .i64 nd) := hc 0 _ rfl
      have z1 : w.cell? ⟨g1, o1 + i * 9 + 1, none⟩ = some (.int .i64 ro) := hc 1 _ rfl
      have z2 : w.cell? ⟨g1, o1 + i * 9 + 2, none⟩ = some (.int .i64 co) := hc 2 _ rfl
      have z3 : w.cell? ⟨g1, o1 + i * 9 + 3, none⟩ = some (.int .i64 rs) := hc 3 _ rfl
      have z4 : w.cell? ⟨g1, o1 + i * 9 + 4, none⟩ = some (.int .i64 cs) := hc 4 _ rfl
      have z5 : w.cell? ⟨g1, o1 + i * 9 + 5, none⟩ = some (.int .i64 mn) := hc 5 _ rfl
      have z6 : w.cell? ⟨g1, o1 + i * 9 + 6, none⟩ = some (.int .i64 mx) := hc 6 _ rfl
      have z7 : w.cell? ⟨g1, o1 + i * 9 + 7, none⟩ = some (.int .i64 wk) := hc 7 _ rfl
      have z8 : w.cell? ⟨g1, o1 + i * 9 + 8, none⟩ = some (.int .i64 wn) := hc 8 _ rfl
      clear hs hc hlt hj1 hj2
      have HO := Lib.hid HG.out.1
      obtain ⟨yl, hyl2⟩ : ∃ yl, ys.length = yl := ⟨_, rfl⟩
      have HYL := Lib.hid hyl2
      rw [hyl2] at HO hyl
      clear hyl2
      have hwk : IntKind.i64.wrap ((i : Int) - 1) = (i : Int) - 1 := by simp [IntKind.wrap, IntKind.bits, IntKind.signed]; omega
      go_wp2
      refine region_held_atC (S := fun X => Hid (Below w.heap.size w X)) (by kernel_rfl) (fun w2 hw2 => ?_)
      have SV : Hid (Below w.heap.size w w2) := Lib.hid (HWX.out.trans (hw2 ▸ below_dn _ _ _))
      have HG2 : Hid (GK wb (.slice pv kv cv) ys w2) := Lib.hid (hw2 ▸ HG.out.below (below_dn _ _ _))
      have HO2 : Hid (w2.ownsRow wb.heap.size 40 9 (.slice pv kv cv) yl (ys.flatMap Ne.cells)) := Lib.hid (by rw [← HYL.out]; exact HG2.out.1)
      clear hw2 HG HO HWX
      try simp only [Act.put, List.setIfInBounds_toArray, List.set_cons_succ, List.set_cons_zero]
      refine wpAnyH_takeC (i := 0) (v := .slice pv kv cv) (some 26) rfl rfl (by kernel_rfl) (by kernel_rfl) (by kernel_rfl) (fun _ _ _ h => h) (Or.inl ⟨by rfl, ?_⟩) SV ?_
      · intro X hX; go_simp
      try simp only [Act.put, List.setIfInBounds_toArray, List.set_cons_succ, List.set_cons_zero]
      refine wpAnyH_takeC (i := 1) (v := .slice (some ⟨g1, o1, none⟩) m' cap1) (some 27) rfl rfl (by kernel_rfl) (by kernel_rfl) (by kernel_rfl) (fun _ _ _ h => h) (Or.inl ⟨by rfl, ?_⟩) SV ?_
      · intro X hX; go_simp
      try simp only [Act.put, List.setIfInBounds_toArray, List.set_cons_succ, List.set_cons_zero]
      refine wpAnyH_takeC (i := 2) (v := .int .i64 (i : Int)) (some 28) rfl rfl (by kernel_rfl) (by kernel_rfl) (by kernel_rfl) (fun _ _ _ h => h) (Or.inl ⟨by rfl, ?_⟩) SV ?_
      · intro X hX; go_simp
      try simp only [Act.put, List.setIfInBounds_toArray, List.set_cons_succ, List.set_cons_zero]
      refine wpAnyH_takeC (i := 3) (v := .pointer (some ⟨g1, o1 + i * 9, none⟩)) (some 29) rfl rfl (by kernel_rfl) (by kernel_rfl) (by kernel_rfl) (fun _ _ _ h => h) (Or.inl ⟨by rfl, ?_⟩) SV ?_
      · intro X hX; go_simp
      try simp only [Act.put, List.setIfInBounds_toArray, List.set_cons_succ, List.set_cons_zero]
      refine wpAnyH_takeC (i := 4) (v := .agg #[.int .i64 nd, .int .i64 ro, .int .i64 co, .int .i64 rs, .int .i64 cs, .int .i64 mn, .int .i64 mx, .int .i64 wk, .int .i64 wn]) (some 30) rfl rfl (by kernel_rfl) (by kernel_rfl) (by kernel_rfl) (fun _ _ _ h => h) (Or.inl ⟨by rfl, ?_⟩) SV ?_
      · intro X hX; have r0 := (hX.out.cell (p := ⟨g1, o1 + i * 9, none⟩) l0).trans z0; have r1 := (hX.out.cell (p := ⟨g1, o1 + i * 9 + 1, none⟩) l0).trans z1; have r2 := (hX.out.cell (p := ⟨g1, o1 + i * 9 + 2, none⟩) l0).trans z2; have r3 := (hX.out.cell (p := ⟨g1, o1 + i * 9 + 3, none⟩) l0).trans z3; have r4 := (hX.out.cell (p := ⟨g1, o1 + i * 9 + 4, none⟩) l0).trans z4; have r5 := (hX.out.cell (p := ⟨g1, o1 + i * 9 + 5, none⟩) l0).trans z5; have r6 := (hX.out.cell (p := ⟨g1, o1 + i * 9 + 6, none⟩) l0).trans z6; have r7 := (hX.out.cell (p := ⟨g1, o1 + i * 9 + 7, none⟩) l0).trans z7; have r8 := (hX.out.cell (p := ⟨g1, o1 + i * 9 + 8, none⟩) l0).trans z8; have lX := hX.out.size; have lb : g1 < X.heap.size := (by omega); go_simp
      try simp only [Act.put, List.setIfInBounds_toArray, List.set_cons_succ, List.set_cons_zero]
      refine wpAnyH_takeC (i := 5) (v := .slice (some ⟨g1, o1, none⟩) m' cap1) (some 31) rfl rfl (by kernel_rfl) (by kernel_rfl) (by kernel_rfl) (fun _ _ _ h => h) (Or.inl ⟨by rfl, ?_⟩) SV ?_
      · intro X hX; go_simp
      try simp only [Act.put, List.setIfInBounds_toArray, List.set_cons_succ, List.set_cons_zero]
      refine wpAnyH_takeC (i := 6) (v := .int .i64 (i : Int)) (some 32) rfl rfl (by kernel_rfl) (by kernel_rfl) (by kernel_rfl) (fun _ _ _ h => h) (Or.inl ⟨by rfl, ?_⟩) SV ?_
      · intro X hX; go_simp
      try simp only [Act.put, List.setIfInBounds_toArray, List.set_cons_succ, List.set_cons_zero]
      refine wpAnyH_takeC (i := 7) (v := .pointer (some ⟨g1, o1 + i * 9, none⟩)) (some 33) rfl rfl (by kernel_rfl) (by kernel_rfl) (by kernel_rfl) (fun _ _ _ h => h) (Or.inl ⟨by rfl, ?_⟩) SV ?_
      · intro X hX; go_simp
      try simp only [Act.put, List.setIfInBounds_toArray, List.set_cons_succ, List.set_cons_zero]
      refine wpAnyH_takeC (i := 8) (v := .agg #[.int .i64 nd, .int .i64 ro, .int .i64 co, .int .i64 rs, .int .i64 cs, .int .i64 mn, .int .i64 mx, .int .i64 wk, .int .i64 wn]) (some 34) rfl rfl (by kernel_rfl) (by kernel_rfl) (by kernel_rfl) (fun _ _ _ h => h) (Or.inl ⟨by rfl, ?_⟩) SV ?_
      · intro X hX; have r0 := (hX.out.cell (p := ⟨g1, o1 + i * 9, none⟩) l0).trans z0; have r1 := (hX.out.cell (p := ⟨g1, o1 + i * 9 + 1, none⟩) l0).trans z1; have r2 := (hX.out.cell (p := ⟨g1, o1 + i * 9 + 2, none⟩) l0).trans z2; have r3 := (hX.out.cell (p := ⟨g1, o1 + i * 9 + 3, none⟩) l0).trans z3; have r4 := (hX.out.cell (p := ⟨g1, o1 + i * 9 + 4, none⟩) l0).trans z4; have r5 := (hX.out.cell (p := ⟨g1, o1 + i * 9 + 5, none⟩) l0).trans z5; have r6 := (hX.out.cell (p := ⟨g1, o1 + i * 9 + 6, none⟩) l0).trans z6; have r7 := (hX.out.cell (p := ⟨g1, o1 + i * 9 + 7, none⟩) l0).trans z7; have r8 := (hX.out.cell (p := ⟨g1, o1 + i * 9 + 8, none⟩) l0).trans z8; have lX := hX.out.size; have lb : g1 < X.heap.size := (by omega); go_simp
      try simp only [Act.put, List.setIfInBounds_toArray, List.set_cons_succ, List.set_cons_zero]
      refine wpAnyH_all (rs := [9]) (by kernel_rfl) (by simp) ?_
      intro ii hii
      obtain rfl : ii = 9 := by simpa using hii
      clear hii
      refine wpOp_step rfl (fun K hK => ?_)
      go_simp
      have S3 : Hid (Below w.heap.size w (w2.alloc (.cells #[.int .i64 nd, .int .i64 ro, .int .i64 co, .int .i64 rs, .int .i64 cs, .int .i64 mn, .int .i64 mx, .int .i64 wk, .int .i64 wn, .int .i64 nd, .int .i64 ro, .int .i64 co, .int .i64 rs, .int .i64 cs, .int .i64 mn, .int .i64 mx, .int .i64 wk, .int .i64 wn] 40))) := Lib.hid (SV.out.alloc SV.out.size _)
      refine hK _ _ ⟨S3, ?_⟩
      clear hK K
      try simp only [Act.put, List.setIfInBounds_toArray, List.set_cons_succ, List.set_cons_zero]
      refine wpAnyH_all (rs := [10]) (by kernel_rfl) (by simp) ?_
      intro ii hii
      obtain rfl : ii = 10 := by simpa using hii
      clear hii
      refine wpOp_step rfl (fun K hK => ?_)
      obtain ⟨v9, w9, hr9, hown9, hgrow9, _, _⟩ := run_append_own_at (P := Try.prog) (w2.alloc (.cells #[.int .i64 nd, .int .i64 ro, .int .i64 co, .int .i64 rs, .int .i64 cs, .int .i64 mn, .int .i64 mx, .int .i64 wk, .int .i64 wn, .int .i64 nd, .int .i64 ro, .int .i64 co, .int .i64 rs, .int .i64 cs, .int .i64 mn, .int .i64 mx, .int .i64 wk, .int .i64 wn] 40)) wb.heap.size 23 23 40 i0 (.agg #[.int .i64 0, .int .i64 0, .int .i64 0, .int .i64 0, .int .i64 0, .int .i64 0, .int .i64 0, .int .i64 0, .int .i64 0]) 9 72 Try.underlying23 HI0.out HZ0.out HZ1.out HZ2.out rfl (by decide) (.slice pv kv cv) yl _ (HO2.out.alloc _) ⟨w2.heap.size, 0, none⟩ 2 2 [.int .i64 nd, .int .i64 ro, .int .i64 co, .int .i64 rs, .int .i64 cs, .int .i64 mn, .int .i64 mx, .int .i64 wk, .int .i64 wn, .int .i64 nd, .int .i64 ro, .int .i64 co, .int .i64 rs, .int .i64 cs, .int .i64 mn, .int .i64 mx, .int .i64 wk, .int .i64 wn] rfl (lay_newK _ [.int .i64 nd, .int .i64 ro, .int .i64 co, .int .i64 rs, .int .i64 cs, .int .i64 mn, .int .i64 mx, .int .i64 wk, .int .i64 wn, .int .i64 nd, .int .i64 ro, .int .i64 co, .int .i64 rs, .int .i64 cs, .int .i64 mn, .int .i64 mx, .int .i64 wk, .int .i64 wn] 40 w2.heap.size rfl) (by simp [Value.oneCell']) (by unfold maxLen; omega) (by omega) (by have := HG2.out.2.size; simp; omega)
      obtain ⟨p9, k9, c9, rfl⟩ := own_sliceK hown9
      have HG9 : Hid (GK wb (.slice p9 k9 c9) (ys ++ [⟨nd, ro, co, rs, cs, mn, mx, ⟨wk, wn⟩⟩, ⟨nd, ro, co, rs, cs, mn, mx, ⟨wk, wn⟩⟩]) w9) := Lib.hid (HG2.out.step (zs := [⟨nd, ro, co, rs, cs, mn, mx, ⟨wk, wn⟩⟩, ⟨nd, ro, co, rs, cs, mn, mx, ⟨wk, wn⟩⟩]) (by rw [HYL.out]; exact hown9) hgrow9)
      refine wp_appendK _ _ _ rfl _ _ _ rfl rfl hr9 ?_
      have S9 : Hid (Below w.heap.size w w9) := Lib.hid (BB.out.trans (HG9.out.2.mono BB.out.size))
      refine hK _ _ ⟨S9, ?_⟩
      clear hK K hr9 hown9 hgrow9 S3 HG2 HO2 SV
      have SV := S9
      try simp only [Act.put, List.setIfInBounds_toArray, List.set_cons_succ, List.set_cons_zero]
      refine wpAnyH_takeC (i := 11) (v := .slice p9 k9 c9) (some 6) rfl rfl (by kernel_rfl) (by kernel_rfl) (by kernel_rfl) (fun _ _ _ h => h) (Or.inl ⟨by rfl, ?_⟩) SV ?_
      · intro X hX; go_simp
      refine wpAnyH_done (by kernel_rfl) ?_ _
      clear SV S9 z0 z1 z2 z3 z4 z5 z6 z7 z8 l0
      go_wp2
      go_roundw
      case rel => exact ⟨(i : Int) - 1, _, by omega, by omega, by first | rfl | go_num, ⟨_, _, _, rfl⟩, Lib.hid (by rw [show ((i : Int) - 1 + 1).toNat = i by omega, HST.out, ← HY.out]), HG9⟩
      case measure => (simp [intOf]; try omega)
    · have HY2 : Hid (ys = dblK ns 0) := Lib.hid (by rw [HY.out, show (j + 1).toNat = 0 by omega])
      have hyl : ys.length ≤ 200 := by
        rw [HY2.out, dblK_len]
        have := HNL.out
        omega
      have HWX := Lib.hid (BB.out.trans (HG.out.2.mono BB.out.size))
      have HR := Lib.hid (HG.out.rows (by omega))
      have e1 : rightK zs ys = rightK zs ns := (rightK_alike zs ns ys (fun x => by rw [HY2.out]; exact dblK_mem ns x)).symm
      have e2 : bandsB zs ys = bandsB zs ns := (bandsB_alike zs ns ys (fun x => by rw [HY2.out]; exact dblK_mem ns x)).symm
      have e3 : ansB zs ys = ansB zs ns := by unfold ansB; rw [e1, e2]
      have e4 : errB zs ys = errB zs ns := by unfold errB; rw [e1]
      clear HY HG e1 e2
      have HB1 := Lib.hid (fun X (hX : Below wr.heap.size wr X) => bandsK_any a0 a1 m cap0 m' cap1 zs ns X (HZ.out _ (HWX.out.trans (hX.mono HWX.out.size))) (HN.out _ (HWX.out.trans (hX.mono HWX.out.size))))
      have HB2 := Lib.hid (fun X (hX : Below wr.heap.size wr X) => bandsK_any a0 pv m cap0 kv cv zs ys X (HZ.out _ (HWX.out.trans (hX.mono HWX.out.size))) (HR.out.below hX))
      rw [e3, e4] at HB2
      clear e3 e4
      generalize ansB zs ns = bs at HB1 HB2
      generalize errB zs ns = er at HB1 HB2
      obtain ⟨bl, hbl⟩ : ∃ bl, bs.length = bl := ⟨_, rfl⟩
      rw [hbl] at HB1 HB2
      clear hbl
      go_wp2_with fail
      refine (HB1.out _ (Below.refl _ _)).mono ?_
      rintro e wc ⟨pa, ka, rfl, hra, bc⟩
      have BC := Lib.hid bc
      have RA := Lib.hid hra
      clear bc HB1 hra
      go_wp2_with fail
      refine (HB2.out _ BC.out).mono ?_
      rintro e wd ⟨pb, kb, rfl, hrb, bd⟩
      have HSM := Lib.hid (ksame_any _ _ bs wd (RA.out.below bd) hrb)
      have BD := Lib.hid (BC.out.trans (bd.mono BC.out.size))
      clear bd BC HB2 hrb RA
      go_wp2_with fail
      refine HSM.out.mono ?_
      rintro e we ⟨rfl, be⟩
      have BE := Lib.hid (BD.out.trans (be.mono BD.out.size))
      clear be BD HSM
      go_wp2
      go_ret
      exact ⟨rfl, HWX.out.trans (BE.out.mono HWX.out.size)⟩

set_option maxRecDepth 100000 in
theorem lifted (os : Os) (started : os.Started) (H : Type) (enc : TypeId × Value → H) :
    ReturnsInHanded {} Try.checked os 5 .any (Rows.columnsOrderSpec.pre6 enc Try.prog Try.f5 Rows.columnsOrderRow.domain false) (Rows.columnsOrderSpec.post enc Try.prog Try.f5 false true false false) := by
  refine returnsInHanded_of_change (C := Try.checked) own started (by kernel_rfl) Try.func5
    (ChangeSpec.witness6 (enc := enc) (C := Try.checked) false ⟨#[], #[.slice none 0 0, .slice none 0 0], []⟩ 8 (by kernel_rfl) (by kernel_rfl) (by kernel_rfl) (by kernel_rfl)) ?_
  intro W base args ds gs before hval0 hW hcnd _
  have hval : ∀ (j : Nat) t v, Try.f5.params[j]? = some t → args[j]? = some v → Value.okWide Try.prog W .any base t v := hval0
  have hW' := hW
  obtain ⟨p, q, hA0, hV, rfl, hfz, hnd⟩ := hW
  have hA : DataW.TrodAll enc Try.prog W 0 (fun _ => true) true Try.f5.params.toList args.toList ds p := hA0
  rw [Try.params5] at hA hval
  obtain ⟨v0, vs0, d0, ds0, p0, q0, hargs, rfl, rfl, h0, r0⟩ := trodAll_cons hA
  obtain ⟨v1, vs1, d1, ds1, p1, q1, rfl, rfl, rfl, h1, r1⟩ := trodAll_cons r0
  obtain ⟨rfl, rfl, rfl⟩ := trodAll_nil r1
  obtain rfl : args = #[v0, v1] := by cases args; simp_all
  obtain ⟨rfl, rfl⟩ := trodVars_none hV
  obtain ⟨a0, len0, cap0, rfl⟩ := okWide_slice Try.underlying22 (hval 0 22 v0 rfl rfl)
  have k0 := h0
  have lt0 : ∀ x ∈ p0, x.block < W.heap.size := by obtain ⟨m, hm⟩ := k0; exact DataW.trod_lt m _ _ _ hm
  obtain ⟨z0, w0⟩ : ∃ zs, SizeArg W a0 len0 cap0 zs := by
    obtain ⟨fuel, hf⟩ := h0
    exact open_sizes (by simpa [Value.cells] using hf)
  obtain ⟨a1, len1, cap1, rfl⟩ := okWide_slice Try.underlying23 (hval 1 23 v1 rfl rfl)
  have k1 := h1
  have lt1 : ∀ x ∈ p1, x.block < W.heap.size := by obtain ⟨m, hm⟩ := k1; exact DataW.trod_lt m _ _ _ hm
  obtain ⟨z1, w1⟩ : ∃ zs, NeedArg W a1 len1 cap1 zs := by
    obtain ⟨fuel, hf⟩ := h1
    exact open_needs (by simpa [Value.cells] using hf)
  clear hA0 hval0
  simp only [List.append_nil] at hW'
  refine (walk W a0 len0 cap0 z0 w0 a1 len1 cap1 z1 w1).mono fun e W' ⟨he, hg⟩ => ?_
  subst he
  exact ⟨_, rfl, _, _, _, [], _, [], hW', (trodAll_cons_mk (shut_bool Try.underlying4 _) trodAll_mk0), (trodAll_cons_mk (Below.trod laidOut (by kernel_rfl) (of_decide_eq_true (by kernel_rfl)) k0 hg lt0) (trodAll_cons_mk (Below.trod laidOut (by kernel_rfl) (of_decide_eq_true (by kernel_rfl)) k1 hg lt1) trodAll_mk0)), rfl, hg.frame _, fun h => by cases h⟩

theorem over : Rows.columnsOrderRow.holds Try.pinned (OpenSpec.ofChange Rows.columnsOrderSpec) :=
  OpenClaim.holds_of_wide 5 Try.f5 rfl rfl rfl rfl rfl rfl rfl ⟨rfl, rfl, rfl, rfl, rfl⟩ rfl rfl rfl rfl rfl (by kernel_rfl) Try.func5 (by kernel_rfl)
    (of_decide_eq_true (by kernel_rfl)) (by unfold Func.isWrapper; first | (rw [if_pos (by decide +kernel)]; kernel_rfl) | (rw [if_neg (by decide +kernel)]; exact ⟨rfl, rfl⟩))
    (fun os started H enc _ => lifted os started H enc)

/-- the statement -/
theorem proved : Rows.ColumnsOrderSaid :=
  over
#print axioms proved
end Go.Proofs.Ytmfllaanobafkaa.columnsOrder
