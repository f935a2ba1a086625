/- Needs of no width change nothing, for any bands (the first forty), needs (the first hundred), any gap. -/
import Derived.Test.YtejbngjeleiacaaRows
import Derived.WalkKit
import Derived.ProofKit
import Derived.OpenShut
import Derived.Below
import Derived.Test.YtejbngjeleiacaaSpLaw
import Derived.Test.YtejbngjeleiacaaKApp
import Derived.Test.YtejbngjeleiacaaSpVal
import Derived.ShutString
namespace Go.Proofs.Ytejbngjeleiacaa.spreadNone
open Go.ChangeShapes Go.WideShapes Go.ChangeAt Go.RowKit
set_option linter.unusedVariables false

theorem own : ownKnob Try.prog.godebug = none := by kernel_rfl
theorem laidOut : laidOutB Try.prog = true := by kernel_rfl

open Go.Shelf
def zN (s : Ne) : Ne := { s with mn := 0, mx := 0 }
/-- a need appended to a list of its own -/
theorem wpList_appN {ops : Array Oper} {rest : List Oper} {o : Oper} {a : Act} {w : World} {Q : Exit → Act → World → Prop} (dst : Option Tmp) (hd : o.dst = dst) (hgd : o.guard = none) (s x : Operand)
    (ho : o.op = .call { callee := .builtin .append, args := #[s, x], argTypes := #[23, 23] }) (B : Nat) (v : Value) (zs : List Ne) (hs : a.eval s = v)
    (hown : w.ownsRow B 41 9 v zs.length (zs.flatMap Ne.cells)) (g : Nat) (z : Ne) (hx : a.eval x = .slice (some ⟨g, 0, none⟩) 1 1) (hz : ∀ j u, z.cells[j]? = some u → w.cell? ⟨g, j, none⟩ = some u) (hl : zs.length ≤ 1000000) (hB : B ≤ w.heap.size)
    (h : ∀ v' w', w'.ownsRow B 41 9 v' (zs.length + 1) (zs.flatMap Ne.cells ++ z.cells) → w.grownBy w' v.ownBlock → (v'.ownBlock = v.ownBlock ∨ v'.ownBlock = some w.heap.size) → wpList Try.prog ops Q rest (a.put dst v') w') :
    wpList Try.prog ops Q (o :: rest) a w := by
  obtain ⟨i0, hi, hz0, hz1, hz2⟩ := info_threeN Try.infoSide3N
  subst hd
  exact wpList_append_own_at _ hgd s x 23 ho B 41 i0 (.agg #[.int .i64 0, .int .i64 0, .int .i64 0, .int .i64 0, .int .i64 0, .int .i64 0, .int .i64 0, .int .i64 0, .int .i64 0]) 9 72 Try.underlying23 hi hz0 hz1 hz2 rfl (by decide) v zs.length _ hs hown ⟨g, 0, none⟩ 1 1 z.cells hx rfl
    (fun j u hj => by rw [add_plainC, Nat.zero_add]; exact hz j u hj) (fun u hu => by simp [Ne.cells] at hu; rcases hu with rfl | rfl | rfl | rfl | rfl | rfl | rfl | rfl | rfl <;> rfl) (by unfold maxLen; omega) (by omega) hB fun v' w' h1 h2 _ h4 => h v' w' h1 h2 h4
set_option maxRecDepth 100000 in
set_option maxHeartbeats 8000000 in
theorem walk (w : World) (a0 : Option Addr) (len0 cap0 : Nat) (z0 : List Ba) (w0 : BandArg w a0 len0 cap0 z0) (a1 : Option Addr) (len1 cap1 : Nat) (z1 : List Ne) (w1 : NeedArg w a1 len1 cap1 z1) (gap : Int) (h2 : (Lit.int .i64 gap).wf = true) :
    Calls Try.prog 8 #[.slice a0 len0 cap0, .slice a1 len1 cap1, .int .i64 gap] w fun e w' => e = .returned (.bool true) ∧ Below w.heap.size w w' := by
  obtain ⟨hz, hzl, hz1, hz2, hzw, hzs⟩ := RowArg.take Ba.cells_len (by omega) w0 40
  obtain ⟨hn, hnl, hn1, hn2, hnw, hns⟩ := RowArg.take Ne.cells_len (by omega) w1 100
  have HC := Lib.hid (fun X => cut_s a0 a1 len0 cap0 len1 cap1 X hz1 hz2 hn1 hn2 hzs hns)
  have HS := Lib.hid (fun X => shown14_any X)
  have hml : min len0 40 ≤ 40 := by omega
  have hml2 : min len1 100 ≤ 100 := by omega
  generalize min len0 40 = m at *
  generalize min len1 100 = m' at *
  generalize z0.take 40 = bs at *
  generalize z1.take 100 = ns at *
  have HZ := Lib.hid (fun X (hX : Below w.heap.size w X) => hz.below hX)
  have HN := Lib.hid (fun X (hX : Below w.heap.size w X) => hn.below hX)
  have HZL := Lib.hid hzl
  have HNL := Lib.hid hnl
  have HND := Lib.hid (fun X (hX : Below w.heap.size w X) p k c ls (hb : RowsK Ne.cells 9 X (.slice p k c) ls) => needsF_any a0 p m cap0 k c bs ls gap X (hz.below hX) hb)
  have HG0 := Lib.hid h2
  clear w0 w1 hzw hnw hz1 hn1 hzs hns hz hn hzl hnl hz2 hn2 h2
  go_enter Try.func8, Try.ntmps8
  go_wp2_with fail
  refine (HS.out _).mono ?_
  rintro e wa ⟨rfl, ba⟩
  have BA := Lib.hid ba
  clear ba HS
  go_wp2_with fail
  refine (HC.out _).mono ?_
  rintro e wb ⟨rfl, bb⟩
  have BB := Lib.hid (BA.out.trans (bb.mono BA.out.size))
  clear bb BA HC
  go_wp2
  go_loopw [8, 9] (fun s8 s9 X => ∃ (i : Nat) (p : Option Addr) (k c : Nat), i ≤ m' ∧ s8 = .slice p k c ∧ s9 = .int .i64 (i : Int) ∧ Hid (GK wb (.slice p k c) ((ns.take i).map zN) X)) (fun _ s9 _ => m' - (intOf s9).toNat)
  case atStart => exact ⟨0, none, 0, 0, Nat.zero_le _, rfl, rfl, Lib.hid (by simpa using GK.nil wb)⟩
  case round =>
    obtain ⟨i, p, k, c, hi, rfl, rfl, HG⟩ := hrel
    by_cases hlt : i < m'
    · obtain ⟨s, hs⟩ : ∃ s, ns[i]? = some s := ⟨_, List.getElem?_eq_getElem (by rw [HNL.out]; exact hlt)⟩
      have HWX := Lib.hid (BB.out.trans (HG.out.2.mono BB.out.size))
      obtain ⟨b, off, rfl, lb, hc⟩ := (HN.out _ HWX.out).at i s hs
      have HST : Hid ((ns.take (i + 1)).map zN = (ns.take i).map zN ++ [zN s]) := Lib.hid (by rw [List.take_add_one, hs]; simp)
      have HYL : Hid (((ns.take i).map zN).length = i) := Lib.hid (by have := HNL.out; simp; omega)
      generalize (ns.take i).map zN = ys at *
      obtain ⟨nd, ro, co, rs, cs, mn, mx, ⟨wk, wn⟩⟩ := s
      have q0 : wr.cell? ⟨b, off + i * 9, none⟩ = some (.int .i64 nd) := hc 0 _ rfl
      have q1 : wr.cell? ⟨b, off + i * 9 + 1, none⟩ = some (.int .i64 ro) := hc 1 _ rfl
      have q2 : wr.cell? ⟨b, off + i * 9 + 2, none⟩ = some (.int .i64 co) := hc 2 _ rfl
      have q3 : wr.cell? ⟨b, off + i * 9 + 3, none⟩ = some (.int .i64 rs) := hc 3 _ rfl
      have q4 : wr.cell? ⟨b, off + i * 9 + 4, none⟩ = some (.int .i64 cs) := hc 4 _ rfl
      have q5 : wr.cell? ⟨b, off + i * 9 + 5, none⟩ = some (.int .i64 mn) := hc 5 _ rfl
      have q6 : wr.cell? ⟨b, off + i * 9 + 6, none⟩ = some (.int .i64 mx) := hc 6 _ rfl
      have q7 : wr.cell? ⟨b, off + i * 9 + 7, none⟩ = some (.int .i64 wk) := hc 7 _ rfl
      have q8 : wr.cell? ⟨b, off + i * 9 + 8, none⟩ = some (.int .i64 wn) := hc 8 _ rfl
      have hZ : zN ⟨nd, ro, co, rs, cs, mn, mx, ⟨wk, wn⟩⟩ = ⟨nd, ro, co, rs, cs, 0, 0, ⟨wk, wn⟩⟩ := rfl
      rw [hZ] at HST
      have HGV := Lib.hid (HG.out.below ((Below.refl _ wr).alloc (Nat.le_refl _) (.cells #[.int .i64 nd, .int .i64 ro, .int .i64 co, .int .i64 rs, .int .i64 cs, .int .i64 0, .int .i64 0, .int .i64 wk, .int .i64 wn] 41)))
      have HGZ := Lib.hid (HGV.out.below ((Below.refl _ _).alloc (Nat.le_refl _) (.cells #[.int .i64 nd, .int .i64 ro, .int .i64 co, .int .i64 rs, .int .i64 cs, .int .i64 0, .int .i64 0, .int .i64 wk, .int .i64 wn] 41)))
      clear hc hs HWX hZ
      go_wp2_with (at_builtin; refine Hid.out ?_)
      refine Lib.hid ?_
      refine wpList_appN (some 35) rfl rfl _ _ rfl wb.heap.size (.slice p k c) ys rfl HGZ.out.1 (wr.heap.size + 1) ⟨nd, ro, co, rs, cs, 0, 0, ⟨wk, wn⟩⟩ rfl (fun j u hj => by
        have := (whole_new (wr.alloc (.cells #[.int .i64 nd, .int .i64 ro, .int .i64 co, .int .i64 rs, .int .i64 cs, .int .i64 0, .int .i64 0, .int .i64 wk, .int .i64 wn] 41)) (Ne.cells ⟨nd, ro, co, rs, cs, 0, 0, ⟨wk, wn⟩⟩) 41 (wr.heap.size + 1) (by simp)).cellAt j
        exact this.trans hj) (by have := HYL.out; omega) HGZ.out.2.size ?_
      intro v' w1 ho1 hg1 hat1
      obtain ⟨pa, na, ca, rfl⟩ := own_sliceK ho1
      have HG1 : Hid (GK wb (.slice pa na ca) ((ns.take (i + 1)).map zN) w1) := Lib.hid (by
        rw [HST.out]
        exact HGV.out.step (zs := [⟨nd, ro, co, rs, cs, 0, 0, ⟨wk, wn⟩⟩]) (by simpa using ho1) hg1)
      clear ho1 hg1 hat1 HG HGV HGZ q0 q1 q2 q3 q4 q5 q6 q7 q8 HST
      go_wp2
      go_roundw
      case rel => exact ⟨i + 1, pa, na, ca, by omega, rfl, by go_num, HG1⟩
      case measure => simp [intOf]; omega
    · obtain rfl : m' = i := by omega
      have e1 : Hid ((ns.take m').map zN = ns.map zN) := Lib.hid (by rw [List.take_of_length_le (by have := HNL.out; omega)])
      rw [e1.out] at HG
      have HLL : Hid ((ns.map zN).length = m') := Lib.hid (by rw [List.length_map]; exact HNL.out)
      have hz0 : ∀ s ∈ ns.map zN, s.mn = 0 ∧ s.mx = 0 := fun s hs => by obtain ⟨t, _, rfl⟩ := List.mem_map.1 hs; exact ⟨rfl, rfl⟩
      have HZ0 := Lib.hid hz0
      clear hz0
      generalize ns.map zN = ls at *
      have HBR := Lib.hid (BB.out.trans (HG.out.2.mono BB.out.size))
      have HLS := Lib.hid (HG.out.rows (by have := HLL.out; omega))
      clear HG BB
      go_wp2_with fail
      refine (HND.out _ HBR.out _ _ _ ls HLS.out).mono ?_
      rintro e wd (⟨hrp, G, rfl, hG, hbs, bd⟩ | ⟨hrp, rfl, bd⟩)
      rotate_left
      · have BD := Lib.hid (HBR.out.trans (bd.mono HBR.out.size))
        clear bd HBR hrp HND
        go_wp2
        go_ret
        exact ⟨rfl, BD.out⟩
      rw [spreadP_none hrp HZ0.out] at hbs
      have BD := Lib.hid (HBR.out.trans (bd.mono HBR.out.size))
      have HSM := Lib.hid (ksame_any _ _ bs wd (hbs.rows HZL.out m (by omega)) (HZ.out _ BD.out))
      clear bd HBR hrp HND hbs hG HLS
      go_wp2_with fail
      refine HSM.out.mono ?_
      rintro e wf ⟨rfl, bf⟩
      have BF := Lib.hid (BD.out.trans (bf.mono BD.out.size))
      clear bf BD HSM
      go_wp2
      go_ret
      exact ⟨rfl, BF.out⟩

set_option maxRecDepth 100000 in
theorem lifted (os : Os) (started : os.Started) (H : Type) (enc : TypeId × Value → H) :
    ReturnsInHanded {} Try.checked os 8 .any (Rows.spreadNoneSpec.pre6 enc Try.prog Try.f8 Rows.spreadNoneRow.domain false) (Rows.spreadNoneSpec.post enc Try.prog Try.f8 false true false false) := by
  refine returnsInHanded_of_change (C := Try.checked) own started (by kernel_rfl) Try.func8
    (ChangeSpec.witness6 (enc := enc) (C := Try.checked) false ⟨#[], #[.slice none 0 0, .slice none 0 0, .int .i64 0], []⟩ 8 (by kernel_rfl) (by kernel_rfl) (by kernel_rfl) (by kernel_rfl)) ?_
  intro W base args ds gs before hval0 hW hcnd _
  have hval : ∀ (j : Nat) t v, Try.f8.params[j]? = some t → args[j]? = some v → Value.okWide Try.prog W .any base t v := hval0
  have hW' := hW
  obtain ⟨p, q, hA0, hV, rfl, hfz, hnd⟩ := hW
  have hA : DataW.TrodAll enc Try.prog W 0 (fun _ => true) true Try.f8.params.toList args.toList ds p := hA0
  rw [Try.params8] at hA hval
  obtain ⟨v0, vs0, d0, ds0, p0, q0, hargs, rfl, rfl, h0, r0⟩ := trodAll_cons hA
  obtain ⟨v1, vs1, d1, ds1, p1, q1, rfl, rfl, rfl, h1, r1⟩ := trodAll_cons r0
  obtain ⟨v2, vs2, d2, ds2, p2, q2, rfl, rfl, rfl, h2, r2⟩ := trodAll_cons r1
  obtain ⟨rfl, rfl, rfl⟩ := trodAll_nil r2
  obtain rfl : args = #[v0, v1, v2] := by cases args; simp_all
  obtain ⟨rfl, rfl⟩ := trodVars_none hV
  obtain ⟨a0, len0, cap0, rfl⟩ := okWide_slice Try.underlying22 (hval 0 22 v0 rfl rfl)
  have k0 := h0
  have lt0 : ∀ x ∈ p0, x.block < W.heap.size := by obtain ⟨m, hm⟩ := k0; exact DataW.trod_lt m _ _ _ hm
  obtain ⟨z0, w0⟩ : ∃ zs, BandArg W a0 len0 cap0 zs := by
    obtain ⟨fuel, hf⟩ := h0
    exact open_bands (by simpa [Value.cells] using hf)
  obtain ⟨a1, len1, cap1, rfl⟩ := okWide_slice Try.underlying23 (hval 1 23 v1 rfl rfl)
  have k1 := h1
  have lt1 : ∀ x ∈ p1, x.block < W.heap.size := by obtain ⟨m, hm⟩ := k1; exact DataW.trod_lt m _ _ _ hm
  obtain ⟨z1, w1⟩ : ∃ zs, NeedArg W a1 len1 cap1 zs := by
    obtain ⟨fuel, hf⟩ := h1
    exact open_needs (by simpa [Value.cells] using hf)
  obtain ⟨a2, rfl, rfl, rfl, w2⟩ := open_int Try.underlying2 (hval 2 2 v2 rfl rfl) h2
  clear hA0 hval0
  simp only [List.append_nil] at hW'
  refine (walk W a0 len0 cap0 z0 w0 a1 len1 cap1 z1 w1 a2 w2).mono fun e W' ⟨he, hg⟩ => ?_
  subst he
  exact ⟨_, rfl, _, _, _, [], _, [], hW', (trodAll_cons_mk (shut_bool Try.underlying4 _) trodAll_mk0), (trodAll_cons_mk (Below.trod laidOut (by kernel_rfl) (of_decide_eq_true (by kernel_rfl)) k0 hg lt0) (trodAll_cons_mk (Below.trod laidOut (by kernel_rfl) (of_decide_eq_true (by kernel_rfl)) k1 hg lt1) (trodAll_cons_mk (shut_int Try.underlying2 w2) trodAll_mk0))), rfl, hg.frame _, fun h => by cases h⟩

theorem over : Rows.spreadNoneRow.holds Try.pinned (OpenSpec.ofChange Rows.spreadNoneSpec) :=
  OpenClaim.holds_of_wide 8 Try.f8 rfl rfl rfl rfl rfl rfl rfl ⟨rfl, rfl, rfl, rfl, rfl⟩ rfl rfl rfl rfl rfl (by kernel_rfl) Try.func8 (by kernel_rfl)
    (of_decide_eq_true (by kernel_rfl)) (by unfold Func.isWrapper; first | (rw [if_pos (by decide +kernel)]; kernel_rfl) | (rw [if_neg (by decide +kernel)]; exact ⟨rfl, rfl⟩))
    (fun os started H enc _ => lifted os started H enc)

/-- the statement -/
theorem proved : Rows.SpreadNoneSaid :=
  over
#print axioms proved
end Go.Proofs.Ytejbngjeleiacaa.spreadNone
