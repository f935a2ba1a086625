/- Each row is at least as high as it wants, and the rows of a cell, and the gaps between them, at least as high as the cell, for any requested heights (the first sixty), places and heights (the first hundred), any gap. -/
import Derived.Test.YtpbkboandiigfaaRows
import Derived.WalkKit
import Derived.ProofKit
import Derived.OpenShut
import Derived.Below
import Derived.Test.YtpbkboandiigfaaHLaw
import Derived.ShutString
namespace Go.Proofs.Ytpbkboandiigfaa.heightsEnough
open Go.ChangeShapes Go.WideShapes Go.ChangeAt Go.RowKit
set_option linter.unusedVariables false

theorem own : ownKnob Try.prog.godebug = none := by kernel_rfl
theorem laidOut : laidOutB Try.prog = true := by kernel_rfl

open Go.Shelf
attribute [local go_sem] Oper.semAt_some
theorem req_ge (ws : List Int) (i : Nat) : 0 ≤ (reqP ws)[i]?.getD 0 ∨ (reqP ws)[i]?.getD 0 = ws[i]?.getD 0 := by
  unfold reqP
  rw [List.getElem?_map]
  cases h : ws[i]? with
  | none => simp
  | some z => simp only [Option.map_some, Option.getD_some]; split <;> omega
theorem req_ge2 {ws : List Int} (hk : OkW (reqP ws)) (i : Nat) : ws[i]?.getD 0 ≤ (reqP ws)[i]?.getD 0 := by
  have h0 := okW_get _ hk i
  unfold reqP at *
  rw [List.getElem?_map] at *
  cases h : ws[i]? with
  | none => simp
  | some z =>
    rw [h] at h0
    simp only [Option.map_some, Option.getD_some] at *
    split <;> omega
theorem seg_step (l : List Int) (c k j : Nat) (hc : c + k ≤ l.length) (hj : j < k) : sumZ ((seg l c k).take (j + 1)) = sumZ ((seg l c k).take j) + l[c + j]?.getD 0 := by
  rw [sumZ_take, seg_get l c k j hj]
theorem seg_bd (l : List Int) (c k j : Nat) (h : OkW l) (hk : k ≤ 100) : 0 ≤ sumZ ((seg l c k).take j) ∧ sumZ ((seg l c k).take j) ≤ 112589990684262300 := by
  have h1 : OkW ((seg l c k).take j) := fun z hz => seg_ok l c k h z (List.mem_of_mem_take hz)
  refine ⟨sumZ_nn _ h1, ?_⟩
  have key : ∀ m : List Int, OkW m → sumZ m ≤ m.length * 1125899906842623 := fun m => by
    induction m with
    | nil => intro _; simp [sumZ]
    | cons x m ih =>
      intro hm
      have := ih fun z hz => hm z (by simp [hz])
      have := hm x (by simp)
      rw [sumZ_cons, List.length_cons]
      omega
  have := key _ h1
  have h2 : (((seg l c k).take j).length : Int) ≤ 100 := by simp [seg]; omega
  omega
theorem least_facts {ws : List Int} {ps : List Pc} {hs : List Int} {gap : Int} (h : leastR ws ps hs gap = true) : hs.length = ps.length ∧ (0 ≤ gap ∧ gap ≤ 1073741824) ∧ (leastP ws (htZ ps hs) gap).length = ws.length ∧ OkW (leastP ws (htZ ps hs) gap) ∧ (∀ i : Nat, ws[i]?.getD 0 ≤ (leastP ws (htZ ps hs) gap)[i]?.getD 0) ∧ ∀ z ∈ htZ ps hs, HtOk gap ws.length z ∧ HasH gap z (leastP ws (htZ ps hs) gap) := by
  unfold leastR at h
  rw [Bool.and_eq_true] at h
  obtain ⟨x1, x2, x3, x4, x5⟩ := rightH_iff h.2
  have hk := req_okW x4
  have hz : ∀ s ∈ htL ws.length (htZ ps hs), HtOk gap ws.length s := fun s hs' => x5 s ((mem_htL _ _ _).1 hs').1
  have hm := meetsH_ok _ (reqP_len ws) hk hz
  refine ⟨x1, x3, hm.1, hm.2, fun i => ?_, fun z hz' => ?_⟩
  · have := meetsH_ge _ (reqP_len ws) hk hz i
    have := req_ge2 hk i
    show _ ≤ (meetsH gap (reqP ws) (htL ws.length (htZ ps hs)))[i]?.getD 0
    omega
  · have h5 := x5 z hz'
    refine ⟨h5, meetsH_has _ (reqP_len ws) hk hz z ((mem_htL _ _ _).2 ⟨hz', h5.k1, ?_⟩)⟩
    have := h5.k2; have := h5.r0; omega
set_option maxRecDepth 100000 in
set_option maxHeartbeats 8000000 in
theorem walk (w : World) (a0 : Option Addr) (len0 cap0 : Nat) (z0 : List Int) (w0 : IntArg w a0 len0 cap0 z0) (a1 : Option Addr) (len1 cap1 : Nat) (z1 : List Pc) (w1 : PlcArg w a1 len1 cap1 z1) (a2 : Option Addr) (len2 cap2 : Nat) (z2 : List Int) (w2 : IntArg w a2 len2 cap2 z2) (gap : Int) (h3 : (Lit.int .i64 gap).wf = true) :
    Calls Try.prog 5 #[.slice a0 len0 cap0, .slice a1 len1 cap1, .slice a2 len2 cap2, .int .i64 gap] w fun e w' => e = .returned (.bool true) ∧ Below w.heap.size w w' := by
  obtain ⟨hw, hwf, hw1, hw2, hw3⟩ := IntArg.take w0 60
  obtain ⟨hp, hpl, hp1, hp2, hpw, hp3⟩ := RowArg.take Pc.cells_len (by omega) w1 100
  obtain ⟨hh, hhf, hh1, hh2, hh3⟩ := IntArg.take w2 100
  have HC := Lib.hid (fun X => cut_h a0 a1 a2 len0 cap0 len1 cap1 len2 cap2 X hw1 hw2 hp1 hp2 hh1 hh2 hw3 hp3 hh3)
  have HS := Lib.hid (fun X => shown16_any X)
  have hml : min len0 60 ≤ 60 := by omega
  have hml2 : min len1 100 ≤ 100 := by omega
  have hg := i64H h3
  generalize min len0 60 = n at *
  generalize min len1 100 = k at *
  generalize min len2 100 = m2 at *
  generalize z0.take 60 = ws at *
  generalize z1.take 100 = ps at *
  generalize z2.take 100 = hs at *
  have HLE := Lib.hid (fun X (hX : Below w.heap.size w X) => least_any a0 a1 a2 n cap0 k cap1 m2 cap2 ws ps hs gap X (hw.below hX) (by omega) (hp.below hX) hpl (hh.below hX).ints hh.len (plc_fit hpw) hg.1 hg.2)
  have HWA := Lib.hid (fun X (hX : Below w.heap.size w X) => (hw.below hX).ints)
  have HPA := Lib.hid (fun X (hX : Below w.heap.size w X) => hp.below hX)
  have HHA := Lib.hid (fun X (hX : Below w.heap.size w X) => (hh.below hX).ints)
  have HWL := Lib.hid hw.len
  have HPL := Lib.hid hpl
  have HHL := Lib.hid hh.len
  clear w0 w1 w2 hw hwf hw1 hw2 hw3 hp hpl hp1 hp2 hpw hp3 hh hhf hh1 hh2 hh3 h3
  go_enter Try.func5, Try.ntmps5
  go_wp2_with fail
  refine (HS.out _).mono ?_
  rintro e wa ⟨rfl, ba⟩
  have BA := Lib.hid ba
  clear ba HS
  go_wp2_with fail
  refine (HC.out _).mono ?_
  rintro e wb ⟨rfl, bb⟩
  have BB := Lib.hid (BA.out.trans (bb.mono BA.out.size))
  clear bb BA HC
  go_wp2_with fail
  refine (HLE.out _ BB.out).mono ?_
  rintro e wd ⟨bd, ⟨hR, p, c, rfl, hn, hln, _⟩ | ⟨hno, rfl⟩⟩
  rotate_left
  · have BD := Lib.hid (BB.out.trans (bd.mono BB.out.size))
    clear bd BB hno HLE HWA HPA HHA
    go_wp2
    go_ret
    exact ⟨by first | rfl | (simp; done), BD.out⟩
  have BD := Lib.hid (BB.out.trans (bd.mono BB.out.size))
  obtain ⟨f1, f2, f3, f4, f5, f6⟩ := least_facts hR
  obtain ⟨L, hL⟩ : ∃ L, leastP ws (htZ ps hs) gap = L := ⟨_, rfl⟩
  rw [hL] at hn hln f3 f4 f5 f6
  have hnn : ws.length = n := HWL.out
  rw [hnn] at hn hln f6 ⊢
  have HN := Lib.hid hn
  have HLN := Lib.hid hln
  have HOK := Lib.hid f4
  have HGE := Lib.hid f5
  have HCE := Lib.hid f6
  have hkm : k = m2 := by have := HPL.out; have := HHL.out; omega
  subst hkm
  clear bd BB hR hn hln f1 f3 f4 f5 f6 hL hnn HLE hg
  have HNC := Lib.hid (fun X (hX : Below wd.heap.size wd X) i (hi : i < n) => show ∃ G o, p = some ⟨G, o, none⟩ ∧ X.cell? ⟨G, o + i, none⟩ = some (.int .i64 (L[i]?.getD 0)) from by
    obtain ⟨_, ⟨a, c', e, _, he⟩ | ⟨b, off, c', e, _, _, hc⟩⟩ := (nums_below HN.out hX)
    · have := HLN.out; rw [he] at this; simp at this; omega
    · injection e with e1
      exact ⟨b, off, e1, hc i (by rw [HLN.out]; exact hi)⟩)
  go_wp2
  go_loopw [12] (fun s12 X => ∃ i : Nat, i ≤ n ∧ s12 = .int .i64 (i : Int) ∧ Hid (Below wd.heap.size wd X)) (fun s12 _ => n - (intOf s12).toNat)
  case atStart => exact ⟨0, Nat.zero_le _, rfl, Lib.hid (Below.refl _ _)⟩
  case round =>
    obtain ⟨i, hi, rfl, HX⟩ := hrel
    have BW := BD.out.trans (HX.out.mono BD.out.size)
    by_cases hlt : i < n
    · obtain ⟨rb, ro, rfl, rc⟩ : ∃ b o, a0 = some ⟨b, o, none⟩ ∧ wr.cell? ⟨b, o + i, none⟩ = some (.int .i64 (ws[i]?.getD 0)) := by
        obtain ⟨_, ⟨a, c', e, he⟩ | ⟨b, off, c', e, hc⟩⟩ := (HWA.out wr BW)
        · have := HWL.out; rw [he] at this; simp at this; omega
        · injection e with e1
          exact ⟨b, off, e1, hc i (by rw [HWL.out]; omega)⟩
      have rl := cell_lt rc
      obtain ⟨G, go, rfl, gc⟩ := HNC.out wr HX.out i hlt
      have gl := cell_lt gc
      have h0 := okW_get L HOK.out i
      have h1 := HGE.out i
      generalize L[i]?.getD 0 = z at *
      generalize ws[i]?.getD 0 = x at *
      have h2 : ¬ z < 0 := by omega
      have h3 : ¬ z < x := by omega
      clear h0 h1 BW HNC HWA HPA HHA HN HOK HGE HCE BD
      go_wp2
      go_quiet (fail)
      go_wp2
      go_roundw
      case rel => exact ⟨i + 1, by omega, by go_num, Lib.hid (by first | exact HX.out.trans (below_dn _ _ _) | exact HX.out)⟩
      case measure => simp [intOf]; omega
    · obtain rfl : n = i := by omega
      clear BW HWA HGE
      go_wp2
      go_loopw [13] (fun s13 X => ∃ i : Nat, i ≤ k ∧ s13 = .int .i64 (i : Int) ∧ Hid (Below wd.heap.size wd X)) (fun s13 _ => k - (intOf s13).toNat)
      case atStart => exact ⟨0, Nat.zero_le _, rfl, HX⟩
      case round =>
        clear HX
        obtain ⟨i, hi, rfl, HX⟩ := hrel
        have BW := BD.out.trans (HX.out.mono BD.out.size)
        by_cases hlt : i < k
        · obtain ⟨pc, hpc⟩ : ∃ pc, ps[i]? = some pc := ⟨_, List.getElem?_eq_getElem (by rw [HPL.out]; exact hlt)⟩
          obtain ⟨hx, hhx⟩ : ∃ hx, hs[i]? = some hx := ⟨_, List.getElem?_eq_getElem (by rw [HHL.out]; exact hlt)⟩
          have hmz : pc.ht hx ∈ htZ ps hs := List.mem_of_getElem? (i := i) (by unfold htZ; rw [List.getElem?_zipWith, hpc, hhx])
          obtain ⟨hok, hhas⟩ := HCE.out _ hmz
          obtain ⟨pb, po, hpe, lpb, pcc⟩ := (HPA.out wr BW).at i pc hpc
          obtain ⟨hb, ho, hhe, hhc⟩ : ∃ b o, a2 = some ⟨b, o, none⟩ ∧ ∀ X, Below wd.heap.size wd X → X.cell? ⟨b, o + i, none⟩ = some (.int .i64 hx) := by
            obtain ⟨_, ⟨a, c', e, he⟩ | ⟨b, off, c', e, hc⟩⟩ := (HHA.out wd BD.out)
            · have := HHL.out; rw [he] at this; simp at this; omega
            · injection e with e1
              refine ⟨b, off, e1, fun X hX => ?_⟩
              have := hc i (by rw [HHL.out]; omega)
              rw [hhx, Option.getD_some] at this
              exact (hX.cell (p := ⟨b, off + i, none⟩) (cell_lt this)).trans this
          have HHC := Lib.hid hhc
          have HPC : Hid (∀ X, Below wr.heap.size wr X → ∀ t v, pc.cells[t]? = some v → X.cell? ⟨pb, po + i * 5 + t, none⟩ = some v) := Lib.hid (fun X hX t v hv => (hX.cell (p := ⟨pb, po + i * 5 + t, none⟩) lpb).trans (pcc t v hv))
          subst hpe hhe
          obtain ⟨nd, ro, co, rs, cs⟩ := pc
          obtain ⟨rn, rfl⟩ : ∃ rn : Nat, ro = (rn : Int) := ⟨ro.toNat, by have := hok.r0; dsimp only [Pc.ht] at this; omega⟩
          obtain ⟨kn, rfl⟩ : ∃ kn : Nat, rs = (kn : Int) := ⟨rs.toNat, by have := hok.k1; dsimp only [Pc.ht] at this; omega⟩
          have hk1 : 1 ≤ kn := by have := hok.k1; dsimp only [Pc.ht] at this; omega
          have hrk : rn + kn ≤ n := by have := hok.k2; dsimp only [Pc.ht] at this; omega
          unfold HasH at hhas
          dsimp only [Pc.ht] at hhas
          rw [Int.toNat_natCast, Int.toNat_natCast] at hhas
          have q1 : wr.cell? ⟨pb, po + i * 5 + 1, none⟩ = some (.int .i64 (rn : Int)) := pcc 1 _ rfl
          have q3 : wr.cell? ⟨pb, po + i * 5 + 3, none⟩ = some (.int .i64 (kn : Int)) := pcc 3 _ rfl
          have hk100 : kn ≤ 100 := by omega
          have hgm : 0 ≤ gap * ((kn : Int) - 1) ∧ gap * ((kn : Int) - 1) ≤ 1073741824 * 100 := ⟨Int.mul_nonneg f2.1 (by omega), Int.mul_le_mul f2.2 (by omega) (by omega) (by omega)⟩
          obtain ⟨ga, hga⟩ : ∃ ga, gap * ((kn : Int) - 1) = ga := ⟨_, rfl⟩
          have r1 : IntKind.i64.wrap ((kn : Int) - 1) = (kn : Int) - 1 := by rw [IntKind.wrap_i64]; omega
          have r2 : IntKind.i64.wrap (gap * ((kn : Int) - 1)) = ga := by rw [IntKind.wrap_i64, ← hga]; omega
          rw [hga] at hhas hgm
          have HAS := Lib.hid hhas
          have hil : (i : Int) < (k : Int) := by omega
          clear hpc hhx hmz hok hhas hhc pcc hga HHA HPA HCE BW
          go_wp2
          go_loopw [14, 15] (fun s14 s15 X => ∃ j : Nat, j ≤ kn ∧ s14 = .int .i64 (ga + sumZ ((seg L rn kn).take j)) ∧ s15 = .int .i64 ((rn + j : Nat) : Int) ∧ Hid (Below wr.heap.size wr X)) (fun _ s15 _ => rn + kn - (intOf s15).toNat)
          case atStart => exact ⟨0, Nat.zero_le _, by simp [sumZ], rfl, Lib.hid (Below.refl _ _)⟩
          case round =>
            obtain ⟨j, hj, rfl, rfl, HY⟩ := hrel
            clear q1 q3
            have o1 : wr.cell? ⟨pb, po + i * 5 + 1, none⟩ = some (.int .i64 (rn : Int)) := HPC.out _ HY.out 1 _ rfl
            have o3 : wr.cell? ⟨pb, po + i * 5 + 3, none⟩ = some (.int .i64 (kn : Int)) := HPC.out _ HY.out 3 _ rfl
            have lo := cell_lt o1
            have r3 : IntKind.i64.wrap ((rn : Int) + (kn : Int)) = ((rn + kn : Nat) : Int) := by rw [IntKind.wrap_i64]; omega
            have bl := seg_bd L rn kn j HOK.out hk100
            by_cases hjk : j < kn
            · obtain ⟨G, go, rfl, gc⟩ := HNC.out wr (HX.out.trans (HY.out.mono HX.out.size)) (rn + j) (by omega)
              have gl := cell_lt gc
              have hss := seg_step L rn kn j (by rw [HLN.out]; exact hrk) hjk
              have hz := okW_get L HOK.out (rn + j)
              generalize L[rn + j]?.getD 0 = z at *
              obtain ⟨q, hq⟩ : ∃ q, sumZ ((seg L rn kn).take j) = q := ⟨_, rfl⟩
              rw [hq] at hss bl
              have HSS := Lib.hid hss
              have r4 : IntKind.i64.wrap (ga + q + z) = ga + (q + z) := by rw [IntKind.wrap_i64]; omega
              have r5 : ((rn + j : Nat) : Int) < ((rn + kn : Nat) : Int) := by omega
              have r6 : ((rn + j : Nat) : Int) < (n : Int) := by omega
              rw [hq]
              clear hq hss HNC HPC HHC HAS HX BD HN HOK HWL HPL HHL HLN
              go_wp2
              go_quiet (fail)
              go_wp2
              go_roundw
              case rel => exact ⟨j + 1, by omega, by rw [HSS.out], by go_num, Lib.hid (by first | exact HY.out.trans (below_dn _ _ _) | exact HY.out)⟩
              case measure => simp [intOf]; omega
            · obtain rfl : kn = j := by omega
              have hall : (seg L rn kn).take kn = seg L rn kn := List.take_of_length_le (by rw [seg_len L rn kn (by rw [HLN.out]; exact hrk)]; exact Nat.le_refl _)
              rw [hall] at bl ⊢
              have hx1 := HHC.out wr (HX.out.trans (HY.out.mono HX.out.size))
              have lhx := cell_lt hx1
              have hh := HAS.out
              obtain ⟨q, hq⟩ : ∃ q, sumZ (seg L rn kn) = q := ⟨_, rfl⟩
              rw [hq] at hh bl ⊢
              have hnl : ¬ ga + q < hx := by omega
              have BZ : Hid (Below wd.heap.size wd wr) := Lib.hid (HX.out.trans (HY.out.mono HX.out.size))
              clear hq hall hh HNC HPC HHC HAS BD HN HOK HWL HPL HHL HLN HX bl
              go_wp2
              go_quiet (fail)
              go_wp2
              go_roundw
              case rel => exact ⟨i + 1, by omega, by go_num, Lib.hid (by first | exact (BZ.out.trans (below_dn _ _ _)) | exact BZ.out)⟩
              case measure => simp [intOf]; omega
        · obtain rfl : k = i := by omega
          have BF := Lib.hid BW
          clear HNC HPA HHA HN HOK HCE HX BW BD
          go_wp2
          go_ret
          exact ⟨by first | rfl | (simp; done), BF.out⟩

set_option maxRecDepth 100000 in
theorem lifted (os : Os) (started : os.Started) (H : Type) (enc : TypeId × Value → H) :
    ReturnsInHanded {} Try.checked os 5 .any (Rows.heightsEnoughSpec.pre6 enc Try.prog Try.f5 Rows.heightsEnoughRow.domain false) (Rows.heightsEnoughSpec.post enc Try.prog Try.f5 false true false false) := by
  refine returnsInHanded_of_change (C := Try.checked) own started (by kernel_rfl) Try.func5
    (ChangeSpec.witness6 (enc := enc) (C := Try.checked) false ⟨#[], #[.slice none 0 0, .slice none 0 0, .slice none 0 0, .int .i64 0], []⟩ 8 (by kernel_rfl) (by kernel_rfl) (by kernel_rfl) (by kernel_rfl)) ?_
  intro W base args ds gs before hval0 hW hcnd _
  have hval : ∀ (j : Nat) t v, Try.f5.params[j]? = some t → args[j]? = some v → Value.okWide Try.prog W .any base t v := hval0
  have hW' := hW
  obtain ⟨p, q, hA0, hV, rfl, hfz, hnd⟩ := hW
  have hA : DataW.TrodAll enc Try.prog W 0 (fun _ => true) true Try.f5.params.toList args.toList ds p := hA0
  rw [Try.params5] at hA hval
  obtain ⟨v0, vs0, d0, ds0, p0, q0, hargs, rfl, rfl, h0, r0⟩ := trodAll_cons hA
  obtain ⟨v1, vs1, d1, ds1, p1, q1, rfl, rfl, rfl, h1, r1⟩ := trodAll_cons r0
  obtain ⟨v2, vs2, d2, ds2, p2, q2, rfl, rfl, rfl, h2, r2⟩ := trodAll_cons r1
  obtain ⟨v3, vs3, d3, ds3, p3, q3, rfl, rfl, rfl, h3, r3⟩ := trodAll_cons r2
  obtain ⟨rfl, rfl, rfl⟩ := trodAll_nil r3
  obtain rfl : args = #[v0, v1, v2, v3] := by cases args; simp_all
  obtain ⟨rfl, rfl⟩ := trodVars_none hV
  obtain ⟨a0, len0, cap0, rfl⟩ := okWide_slice Try.underlying22 (hval 0 22 v0 rfl rfl)
  have k0 := h0
  have lt0 : ∀ x ∈ p0, x.block < W.heap.size := by obtain ⟨m, hm⟩ := k0; exact DataW.trod_lt m _ _ _ hm
  obtain ⟨z0, w0⟩ : ∃ zs, IntArg W a0 len0 cap0 zs := by
    obtain ⟨fuel, hf⟩ := h0
    exact open_intsH (by simpa [Value.cells] using hf)
  obtain ⟨a1, len1, cap1, rfl⟩ := okWide_slice Try.underlying23 (hval 1 23 v1 rfl rfl)
  have k1 := h1
  have lt1 : ∀ x ∈ p1, x.block < W.heap.size := by obtain ⟨m, hm⟩ := k1; exact DataW.trod_lt m _ _ _ hm
  obtain ⟨z1, w1⟩ : ∃ zs, PlcArg W a1 len1 cap1 zs := by
    obtain ⟨fuel, hf⟩ := h1
    exact open_plcs (by simpa [Value.cells] using hf)
  obtain ⟨a2, len2, cap2, rfl⟩ := okWide_slice Try.underlying22 (hval 2 22 v2 rfl rfl)
  have k2 := h2
  have lt2 : ∀ x ∈ p2, x.block < W.heap.size := by obtain ⟨m, hm⟩ := k2; exact DataW.trod_lt m _ _ _ hm
  obtain ⟨z2, w2⟩ : ∃ zs, IntArg W a2 len2 cap2 zs := by
    obtain ⟨fuel, hf⟩ := h2
    exact open_intsH (by simpa [Value.cells] using hf)
  obtain ⟨a3, rfl, rfl, rfl, w3⟩ := open_int Try.underlying2 (hval 3 2 v3 rfl rfl) h3
  clear hA0 hval0
  simp only [List.append_nil] at hW'
  refine (walk W a0 len0 cap0 z0 w0 a1 len1 cap1 z1 w1 a2 len2 cap2 z2 w2 a3 w3).mono fun e W' ⟨he, hg⟩ => ?_
  subst he
  exact ⟨_, rfl, _, _, _, [], _, [], hW', (trodAll_cons_mk (shut_bool Try.underlying4 _) trodAll_mk0), (trodAll_cons_mk (Below.trod laidOut (by kernel_rfl) (of_decide_eq_true (by kernel_rfl)) k0 hg lt0) (trodAll_cons_mk (Below.trod laidOut (by kernel_rfl) (of_decide_eq_true (by kernel_rfl)) k1 hg lt1) (trodAll_cons_mk (Below.trod laidOut (by kernel_rfl) (of_decide_eq_true (by kernel_rfl)) k2 hg lt2) (trodAll_cons_mk (shut_int Try.underlying2 w3) trodAll_mk0)))), rfl, hg.frame _, fun h => by cases h⟩

theorem over : Rows.heightsEnoughRow.holds Try.pinned (OpenSpec.ofChange Rows.heightsEnoughSpec) :=
  OpenClaim.holds_of_wide 5 Try.f5 rfl rfl rfl rfl rfl rfl rfl ⟨rfl, rfl, rfl, rfl, rfl⟩ rfl rfl rfl rfl rfl (by kernel_rfl) Try.func5 (by kernel_rfl)
    (of_decide_eq_true (by kernel_rfl)) (by unfold Func.isWrapper; first | (rw [if_pos (by decide +kernel)]; kernel_rfl) | (rw [if_neg (by decide +kernel)]; exact ⟨rfl, rfl⟩))
    (fun os started H enc _ => lifted os started H enc)

/-- the statement -/
theorem proved : Rows.HeightsEnoughSaid :=
  over
#print axioms proved
end Go.Proofs.Ytpbkboandiigfaa.heightsEnough
