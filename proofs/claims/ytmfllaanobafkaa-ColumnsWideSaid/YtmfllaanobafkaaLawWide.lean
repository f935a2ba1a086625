/- Cells of many columns make no column need anything by themselves, for any sizes (the first forty), needs (the first hundred). -/
import Derived.Test.YtmfllaanobafkaaRows
import Derived.WalkKit
import Derived.ProofKit
import Derived.OpenShut
import Derived.Below
import Derived.Test.YtmfllaanobafkaaKApp
import Derived.ShutString
namespace Go.Proofs.Ytmfllaanobafkaa.columnsWide
open Go.ChangeShapes Go.WideShapes Go.ChangeAt Go.RowKit
set_option linter.unusedVariables false

theorem own : ownKnob Try.prog.godebug = none := by kernel_rfl
theorem laidOut : laidOutB Try.prog = true := by kernel_rfl

open Go.Shelf Go.Maps
theorem filt_yes {P : Ne → Bool} {zs : List Ne} {k : Nat} {s : Ne} (h : zs[k]? = some s) (e : P s = true) : (zs.take (k + 1)).filter P = (zs.take k).filter P ++ [s] := choF_yes h e
set_option maxRecDepth 100000 in
set_option maxHeartbeats 8000000 in
theorem walk (w : World) (a0 : Option Addr) (len0 cap0 : Nat) (z0 : List Sz) (w0 : SizeArg w a0 len0 cap0 z0) (a1 : Option Addr) (len1 cap1 : Nat) (z1 : List Ne) (w1 : NeedArg w a1 len1 cap1 z1) :
    Calls Try.prog 8 #[.slice a0 len0 cap0, .slice a1 len1 cap1] w fun e w' => e = .returned (.bool true) ∧ Below w.heap.size w w' := by
  obtain ⟨hz, hzl, hz1, hz2, hzw, hzs⟩ := RowArg.take Sz.cells_len (by omega) w0 40
  obtain ⟨hn, hnl, hn1, hn2, hnw, hns⟩ := RowArg.take Ne.cells_len (by omega) w1 100
  have HC := Lib.hid (fun X => cut_k a0 a1 len0 cap0 len1 cap1 X hz1 hz2 hn1 hn2 hzs hns)
  have HS := Lib.hid (fun X => shown13_any X)
  have hml : min len0 40 ≤ 40 := by omega
  have hml2 : min len1 100 ≤ 100 := by omega
  generalize min len0 40 = m at *
  generalize min len1 100 = m' at *
  generalize z0.take 40 = zs at *
  generalize z1.take 100 = ns at *
  have HZ := Lib.hid (fun X (hX : Below w.heap.size w X) => hz.below hX)
  have HN := Lib.hid (fun X (hX : Below w.heap.size w X) => hn.below hX)
  have HZL := Lib.hid hzl
  have HNL := Lib.hid hnl
  clear w0 w1 hzw hnw hz1 hn1 hzs hns hz hn hzl hnl hz2 hn2
  go_enter Try.func8, Try.ntmps8
  go_wp2_with fail
  refine (HS.out _).mono ?_
  rintro e wa ⟨rfl, ba⟩
  have BA := Lib.hid ba
  clear ba HS
  go_wp2_with fail
  refine (HC.out _).mono ?_
  rintro e wb ⟨rfl, bb⟩
  have BB := Lib.hid (BA.out.trans (bb.mono BA.out.size))
  clear bb BA HC
  obtain ⟨i0, hi0, hz0, hz1, hz2⟩ := infoNe4
  have HI0 := Lib.hid hi0
  have HZ0 := Lib.hid hz0
  have HZ1 := Lib.hid hz1
  have HZ2 := Lib.hid hz2
  clear hi0 hz0 hz1 hz2
  go_wp2
  go_loopw [6, 7] (fun s6 s7 X => ∃ (i : Nat) (ys : List Ne), i ≤ m' ∧ s7 = .int .i64 (i : Int) ∧ (∃ p k c, s6 = .slice p k c) ∧ Hid (ys = (ns.take i).filter fun n => decide (n.cs = 1)) ∧ Hid (GK wb s6 ys X)) (fun _ s7 _ => m' - (intOf s7).toNat)
  case atStart => exact ⟨0, [], Nat.zero_le _, rfl, ⟨_, _, _, rfl⟩, Lib.hid (by simp), Lib.hid (GK.nil wb)⟩
  case round =>
    obtain ⟨i, ys, hi, rfl, ⟨pv, kv, cv, rfl⟩, HY, HG⟩ := hrel
    by_cases hlt : i < m'
    · obtain ⟨s, hs⟩ : ∃ s, ns[i]? = some s := ⟨_, List.getElem?_eq_getElem (by rw [HNL.out]; exact hlt)⟩
      have HWX := Lib.hid (BB.out.trans (HG.out.2.mono BB.out.size))
      obtain ⟨g1, o1, rfl, l1, ha⟩ := (HN.out _ HWX.out).at i s hs
      have HYE := Lib.hid (fun e => choF_yes (P := fun n => decide (n.cs = 1)) hs e)
      have HNO := Lib.hid (fun e => choF_not (P := fun n => decide (n.cs = 1)) hs e)
      have hyl : ys.length ≤ 100 := by
        rw [HY.out]
        have h1 := List.length_filter_le (fun n : Ne => decide (n.cs = 1)) (ns.take i)
        have h2 : (ns.take i).length ≤ i := by rw [List.length_take]; omega
        omega
      obtain ⟨nd, ro, co, rs, cs, mn, mx, ⟨wk, wn⟩⟩ := s
      have x0 : wr.cell? ⟨g1, o1 + i * 9, none⟩ = some (.int .i64 nd) := ha 0 _ rfl
      have x1 : wr.cell? ⟨g1, o1 + i * 9 + 1, none⟩ = some (.int .i64 ro) := ha 1 _ rfl
      have x2 : wr.cell? ⟨g1, o1 + i * 9 + 2, none⟩ = some (.int .i64 co) := ha 2 _ rfl
      have x3 : wr.cell? ⟨g1, o1 + i * 9 + 3, none⟩ = some (.int .i64 rs) := ha 3 _ rfl
      have x4 : wr.cell? ⟨g1, o1 + i * 9 + 4, none⟩ = some (.int .i64 cs) := ha 4 _ rfl
      have x5 : wr.cell? ⟨g1, o1 + i * 9 + 5, none⟩ = some (.int .i64 mn) := ha 5 _ rfl
      have x6 : wr.cell? ⟨g1, o1 + i * 9 + 6, none⟩ = some (.int .i64 mx) := ha 6 _ rfl
      have x7 : wr.cell? ⟨g1, o1 + i * 9 + 7, none⟩ = some (.int .i64 wk) := ha 7 _ rfl
      have x8 : wr.cell? ⟨g1, o1 + i * 9 + 8, none⟩ = some (.int .i64 wn) := ha 8 _ rfl
      clear hs ha HWX
      by_cases hc : cs = 1
      · have HE := Lib.hid (HYE.out (by simp [hc]))
        subst hc
        have HO := Lib.hid HG.out.1
        obtain ⟨yl, hyl2⟩ : ∃ yl, ys.length = yl := ⟨_, rfl⟩
        have HYL := Lib.hid hyl2
        rw [hyl2] at HO hyl
        clear hyl2 HYE HNO
        go_wp2_with (at_builtin; refine wpList_append_own_at _ rfl _ _ 23 rfl wb.heap.size 40 i0 (.agg #[.int .i64 0, .int .i64 0, .int .i64 0, .int .i64 0, .int .i64 0, .int .i64 0, .int .i64 0, .int .i64 0, .int .i64 0]) 9 72 Try.underlying23 HI0.out HZ0.out HZ1.out HZ2.out rfl (by decide) _ _ _ rfl (HO.out.alloc _) ⟨wr.heap.size, 0, none⟩ 1 1 [.int .i64 nd, .int .i64 ro, .int .i64 co, .int .i64 rs, .int .i64 1, .int .i64 mn, .int .i64 mx, .int .i64 wk, .int .i64 wn] rfl rfl (lay_newK _ [.int .i64 nd, .int .i64 ro, .int .i64 co, .int .i64 rs, .int .i64 1, .int .i64 mn, .int .i64 mx, .int .i64 wk, .int .i64 wn] 40 wr.heap.size rfl) (by simp [Value.oneCell']) (by unfold maxLen; omega) (by omega) (by have := HG.out.2.size; simp; omega) ?_)
        intro v9 w9 hown9 hgrow9 _ _
        obtain ⟨p9, k9, c9, rfl⟩ := own_sliceK hown9
        have HG9 : Hid (GK wb (.slice p9 k9 c9) (ys ++ [⟨nd, ro, co, rs, 1, mn, mx, ⟨wk, wn⟩⟩]) w9) := Lib.hid (HG.out.step (zs := [⟨nd, ro, co, rs, 1, mn, mx, ⟨wk, wn⟩⟩]) (by rw [HYL.out]; exact hown9) hgrow9)
        clear hown9 hgrow9 HO HG x0 x1 x2 x3 x4 x5 x6 x7 x8 l1
        go_wp2
        go_roundw
        case rel => exact ⟨i + 1, _, by omega, by go_num, ⟨_, _, _, rfl⟩, Lib.hid (by rw [HE.out, ← HY.out]), HG9⟩
        case measure => (simp [intOf]; try omega)
      · have HE := Lib.hid (HNO.out (by simp [hc]))
        have hc' : (cs == 1) = false := by simpa using hc
        clear HYE HNO
        go_wp2
        go_roundw
        case rel => exact ⟨i + 1, ys, by omega, by go_num, ⟨_, _, _, rfl⟩, Lib.hid (by rw [HE.out]; exact HY.out), HG⟩
        case measure => (simp [intOf]; try omega)
    · have HY2 : Hid (ys = ns.filter fun n => decide (n.cs = 1)) := Lib.hid (by rw [HY.out, List.take_of_length_le (by have := HNL.out; omega)])
      have hyl : ys.length ≤ 100 := by
        rw [HY2.out]
        have h1 := List.length_filter_le (fun n : Ne => decide (n.cs = 1)) ns
        have := HNL.out
        omega
      have HWX := Lib.hid (BB.out.trans (HG.out.2.mono BB.out.size))
      have HR := Lib.hid (HG.out.rows (by omega))
      have hkv : kv = ys.length := HR.out.len.symm
      clear HY HG
      have HB1 := Lib.hid (fun X (hX : Below wr.heap.size wr X) => bandsK_any a0 a1 m cap0 m' cap1 zs ns X (HZ.out _ (HWX.out.trans (hX.mono HWX.out.size))) (HN.out _ (HWX.out.trans (hX.mono HWX.out.size))))
      have HB2 := Lib.hid (fun X (hX : Below wr.heap.size wr X) => bandsK_any a0 pv m cap0 kv cv zs ys X (HZ.out _ (HWX.out.trans (hX.mono HWX.out.size))) (HR.out.below hX))
      cases hr : rightK zs ns with
      | false =>
        rw [ansB_bad hr, errB_bad hr] at HB1
        simp only [List.length_nil] at HB1
        obtain ⟨er, her⟩ : ∃ er, errB zs ys = er := ⟨_, rfl⟩
        obtain ⟨n1, hn1⟩ : ∃ n1, (ansB zs ys).length = n1 := ⟨_, rfl⟩
        rw [her, hn1] at HB2
        clear hr her hn1 hkv
        go_wp2_with fail
        refine (HB1.out _ (Below.refl _ _)).mono ?_
        rintro e wc ⟨pa, ka, rfl, hra, bc⟩
        have BC := Lib.hid bc
        clear bc HB1 hra
        go_wp2_with fail
        refine (HB2.out _ BC.out).mono ?_
        rintro e wd ⟨pb, kb, rfl, hrb, bd⟩
        have BD := Lib.hid (BC.out.trans (bd.mono BC.out.size))
        clear bd BC HB2 hrb
        go_wp2
        go_ret
        exact ⟨rfl, HWX.out.trans (BD.out.mono HWX.out.size)⟩
      | true =>
        have hr2 : rightK zs ys = true := rightK_sub zs ns _ (fun x hx => by rw [HY2.out] at hx; exact (List.mem_filter.1 hx).1) hr
        have hEQ : bandsB zs ys = bandsB zs ns := by rw [HY2.out]; exact bandsB_one zs ns
        rw [ansB_ok hr, errB_ok hr, bandsB_len, HZL.out] at HB1
        rw [ansB_ok hr2, errB_ok hr2, bandsB_len, HZL.out, hEQ] at HB2
        clear hr hr2 hEQ hkv
        generalize bandsB zs ns = bs at HB1 HB2
        go_wp2_with fail
        refine (HB1.out _ (Below.refl _ _)).mono ?_
        rintro e wc ⟨pa, ka, rfl, hra, bc⟩
        have BC := Lib.hid bc
        have RA := Lib.hid hra
        clear bc HB1 hra
        go_wp2_with fail
        refine (HB2.out _ BC.out).mono ?_
        rintro e wd ⟨pb, kb, rfl, hrb, bd⟩
        have HSM := Lib.hid (ksame_any _ _ bs wd (RA.out.below bd) hrb)
        have BD := Lib.hid (BC.out.trans (bd.mono BC.out.size))
        clear bd BC HB2 hrb RA
        go_wp2_with fail
        refine HSM.out.mono ?_
        rintro e we ⟨rfl, be⟩
        have BE := Lib.hid (BD.out.trans (be.mono BD.out.size))
        clear be BD HSM
        go_wp2
        go_ret
        exact ⟨rfl, HWX.out.trans (BE.out.mono HWX.out.size)⟩

set_option maxRecDepth 100000 in
theorem lifted (os : Os) (started : os.Started) (H : Type) (enc : TypeId × Value → H) :
    ReturnsInHanded {} Try.checked os 8 .any (Rows.columnsWideSpec.pre6 enc Try.prog Try.f8 Rows.columnsWideRow.domain false) (Rows.columnsWideSpec.post enc Try.prog Try.f8 false true false false) := by
  refine returnsInHanded_of_change (C := Try.checked) own started (by kernel_rfl) Try.func8
    (ChangeSpec.witness6 (enc := enc) (C := Try.checked) false ⟨#[], #[.slice none 0 0, .slice none 0 0], []⟩ 8 (by kernel_rfl) (by kernel_rfl) (by kernel_rfl) (by kernel_rfl)) ?_
  intro W base args ds gs before hval0 hW hcnd _
  have hval : ∀ (j : Nat) t v, Try.f8.params[j]? = some t → args[j]? = some v → Value.okWide Try.prog W .any base t v := hval0
  have hW' := hW
  obtain ⟨p, q, hA0, hV, rfl, hfz, hnd⟩ := hW
  have hA : DataW.TrodAll enc Try.prog W 0 (fun _ => true) true Try.f8.params.toList args.toList ds p := hA0
  rw [Try.params8] at hA hval
  obtain ⟨v0, vs0, d0, ds0, p0, q0, hargs, rfl, rfl, h0, r0⟩ := trodAll_cons hA
  obtain ⟨v1, vs1, d1, ds1, p1, q1, rfl, rfl, rfl, h1, r1⟩ := trodAll_cons r0
  obtain ⟨rfl, rfl, rfl⟩ := trodAll_nil r1
  obtain rfl : args = #[v0, v1] := by cases args; simp_all
  obtain ⟨rfl, rfl⟩ := trodVars_none hV
  obtain ⟨a0, len0, cap0, rfl⟩ := okWide_slice Try.underlying22 (hval 0 22 v0 rfl rfl)
  have k0 := h0
  have lt0 : ∀ x ∈ p0, x.block < W.heap.size := by obtain ⟨m, hm⟩ := k0; exact DataW.trod_lt m _ _ _ hm
  obtain ⟨z0, w0⟩ : ∃ zs, SizeArg W a0 len0 cap0 zs := by
    obtain ⟨fuel, hf⟩ := h0
    exact open_sizes (by simpa [Value.cells] using hf)
  obtain ⟨a1, len1, cap1, rfl⟩ := okWide_slice Try.underlying23 (hval 1 23 v1 rfl rfl)
  have k1 := h1
  have lt1 : ∀ x ∈ p1, x.block < W.heap.size := by obtain ⟨m, hm⟩ := k1; exact DataW.trod_lt m _ _ _ hm
  obtain ⟨z1, w1⟩ : ∃ zs, NeedArg W a1 len1 cap1 zs := by
    obtain ⟨fuel, hf⟩ := h1
    exact open_needs (by simpa [Value.cells] using hf)
  clear hA0 hval0
  simp only [List.append_nil] at hW'
  refine (walk W a0 len0 cap0 z0 w0 a1 len1 cap1 z1 w1).mono fun e W' ⟨he, hg⟩ => ?_
  subst he
  exact ⟨_, rfl, _, _, _, [], _, [], hW', (trodAll_cons_mk (shut_bool Try.underlying4 _) trodAll_mk0), (trodAll_cons_mk (Below.trod laidOut (by kernel_rfl) (of_decide_eq_true (by kernel_rfl)) k0 hg lt0) (trodAll_cons_mk (Below.trod laidOut (by kernel_rfl) (of_decide_eq_true (by kernel_rfl)) k1 hg lt1) trodAll_mk0)), rfl, hg.frame _, fun h => by cases h⟩

theorem over : Rows.columnsWideRow.holds Try.pinned (OpenSpec.ofChange Rows.columnsWideSpec) :=
  OpenClaim.holds_of_wide 8 Try.f8 rfl rfl rfl rfl rfl rfl rfl ⟨rfl, rfl, rfl, rfl, rfl⟩ rfl rfl rfl rfl rfl (by kernel_rfl) Try.func8 (by kernel_rfl)
    (of_decide_eq_true (by kernel_rfl)) (by unfold Func.isWrapper; first | (rw [if_pos (by decide +kernel)]; kernel_rfl) | (rw [if_neg (by decide +kernel)]; exact ⟨rfl, rfl⟩))
    (fun os started H enc _ => lifted os started H enc)

/-- the statement -/
theorem proved : Rows.ColumnsWideSaid :=
  over
#print axioms proved
end Go.Proofs.Ytmfllaanobafkaa.columnsWide
