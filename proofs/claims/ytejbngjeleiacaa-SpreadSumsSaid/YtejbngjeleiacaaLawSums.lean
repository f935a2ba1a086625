/- What is spread adds up to the length, or to what there was, and nothing is less, for any length, lengths, weights (the first hundred). -/
import Derived.Test.YtejbngjeleiacaaRows
import Derived.WalkKit
import Derived.ProofKit
import Derived.OpenShut
import Derived.Below
import Derived.Test.YtejbngjeleiacaaSpInts
import Derived.ShutString
namespace Go.Proofs.Ytejbngjeleiacaa.spreadSums
open Go.ChangeShapes Go.WideShapes Go.ChangeAt Go.RowKit
set_option linter.unusedVariables false

theorem own : ownKnob Try.prog.godebug = none := by kernel_rfl
theorem laidOut : laidOutB Try.prog = true := by kernel_rfl

open Go.Shelf
set_option maxRecDepth 100000 in
set_option maxHeartbeats 8000000 in
theorem walk (w : World) (n : Int) (h0 : (Lit.int .i64 n).wf = true) (a1 : Option Addr) (len1 cap1 : Nat) (z1 : List Int) (w1 : Ints w (.slice a1 len1 cap1) z1 ∧ z1.length = len1 ∧ len1 ≤ cap1 ∧ cap1 ≤ maxLen) (a2 : Option Addr) (len2 cap2 : Nat) (z2 : List Int) (w2 : Ints w (.slice a2 len2 cap2) z2 ∧ z2.length = len2 ∧ len2 ≤ cap2 ∧ cap2 ≤ maxLen) :
    Calls Try.prog 4 #[.int .i64 n, .slice a1 len1 cap1, .slice a2 len2 cap2] w fun e w' => e = .returned (.bool true) ∧ Below w.heap.size w w' := by
  obtain ⟨i1, l1, c1, m1⟩ := w1
  obtain ⟨i2, l2, c2, m2⟩ := w2
  unfold maxLen at m1 m2
  have HS := Lib.hid (fun X => shown14_any X)
  have t1 := ints_nums (ints_takeR i1 l1 (min len1 100) (by omega)) (by omega) m1
  have t2 := ints_nums (ints_takeR i2 l2 (min len2 100) (by omega)) (by omega) m2
  have e1 : min (len1 : Int) 100 = ((min len1 100 : Nat) : Int) := by omega
  have e2 : min (len2 : Int) 100 = ((min len2 100 : Nat) : Int) := by omega
  have g1 : min len1 100 ≤ cap1 := by omega
  have g2 : min len2 100 ≤ cap2 := by omega
  have k1 : (z1.take (min len1 100)).length = min len1 100 := by simp; omega
  have k2 : (z2.take (min len2 100)).length = min len2 100 := by simp; omega
  have k3 : min len1 100 ≤ 100 := by omega
  generalize z1.take (min len1 100) = l at *
  generalize z2.take (min len2 100) = ws at *
  generalize min len1 100 = m at *
  generalize min len2 100 = m' at *
  have HT1 := Lib.hid (fun X (hX : Below w.heap.size w X) => nums_below t1 hX)
  have HO := Lib.hid (fun X (hX : Below w.heap.size w X) => overF_any a1 a2 m m' cap1 cap2 n l ws X k1 k2 (nums_below t1 hX) (nums_below t2 hX))
  have HL := Lib.hid k1
  clear i1 i2 l1 l2 t1 t2 k1 k2 c1 c2 m1 m2
  go_enter Try.func4, Try.ntmps4
  go_wp2_with fail
  refine (HS.out _).mono ?_
  rintro e wa ⟨rfl, ba⟩
  have BA := Lib.hid ba
  clear ba HS
  go_wp2_with (first
    | (with_reducible refine wpList_valS (some 18) rfl rfl _ (exec_sliceZ_h 1 32 _ _ rfl 2 Try.underlying32 (Try.sizeOf2 _) a1 len1 cap1 m rfl (by first | rfl | exact congrArg _ e1) g1) ?_)
    | (with_reducible refine wpList_valS (some 23) rfl rfl _ (exec_sliceZ_h 1 32 _ _ rfl 2 Try.underlying32 (Try.sizeOf2 _) a2 len2 cap2 m' rfl (by first | rfl | exact congrArg _ e2) g2) ?_)
    | fail)
  refine (HO.out _ BA.out).mono ?_
  rintro e wb (⟨hob, g, cap, sp, rfl, hir, hg, hkc, hcm, bb⟩ | ⟨hob, rfl, bb⟩)
  rotate_left
  · have BB := Lib.hid (BA.out.trans (bb.mono BA.out.size))
    clear bb BA hob HO
    go_wp2
    go_ret
    exact ⟨rfl, BB.out⟩
  have BB := Lib.hid (BA.out.trans (bb.mono BA.out.size))
  have hok := (overB_iff _ _ _).1 hob
  have HR := Lib.hid hir
  have HSUM := Lib.hid hok.sum
  have HGE := Lib.hid hok.ge
  have HOL : Hid ((overP n l ws).length = m) := Lib.hid (by rw [hok.len]; exact HL.out)
  have HOKL := Lib.hid hok.lo
  have HOKO := Lib.hid hok.ok
  clear bb BA hob HO hok hir hg e1 e2 g1 g2 hkc
  generalize overP n l ws = op at *
  have hq : ∀ (l : List Int) (i : Nat), i < l.length → sumZ (l.take (i + 1)) = sumZ (l.take i) + l[i]?.getD 0 := fun l i hi => by
    rw [List.take_add_one, sumZ_append, List.getElem?_eq_getElem hi]; simp [sumZ_cons, sumZ]
  have hbd : ∀ (l : List Int) (i : Nat), OkW l → l.length ≤ 100 → 0 ≤ sumZ (l.take i) ∧ sumZ (l.take i) ≤ 112589990684262300 := fun l i h hl => by
    have h1 : OkW (l.take i) := fun z hz => h z (List.mem_of_mem_take hz)
    have h2 := sumZ_bd (l.take i) h1
    have h3 : (l.take i).length ≤ 100 := by simp; omega
    refine ⟨h2.1, ?_⟩
    have : ((l.take i).length : Int) * 1125899906842623 ≤ 100 * 1125899906842623 := Int.mul_le_mul_of_nonneg_right (by omega) (by omega)
    omega
  have HQ := Lib.hid hq
  have HBD := Lib.hid hbd
  clear hq hbd
  go_wp2
  go_loopw [10, 11, 12] (fun s10 s11 s12 X => ∃ i : Nat, i ≤ m ∧ s10 = .int .i64 (sumZ (l.take i)) ∧ s11 = .int .i64 (sumZ (op.take i)) ∧ s12 = .int .i64 (i : Int) ∧ Hid (Below wb.heap.size wb X)) (fun _ _ s12 _ => m - (intOf s12).toNat)
  case atStart => exact ⟨0, Nat.zero_le _, by simp [sumZ], by simp [sumZ], rfl, Lib.hid (Below.refl _ _)⟩
  case round =>
    obtain ⟨i, hi, rfl, rfl, rfl, HX⟩ := hrel
    by_cases hlt : i < m
    · have HWX := Lib.hid (BB.out.trans (HX.out.mono BB.out.size))
      obtain ⟨b2, o2, rfl, lc⟩ : ∃ b2 o2, a1 = some ⟨b2, o2, none⟩ ∧ wr.cell? ⟨b2, o2 + i, none⟩ = some (.int .i64 (l[i]?.getD 0)) := by
        obtain ⟨_, ⟨a, c, e, _, e2⟩ | ⟨b, off, c, e, _, _, hc⟩⟩ := HT1.out wr HWX.out
        · have := HL.out; rw [e2] at this; simp at this; omega
        · simp only [Value.slice.injEq] at e
          exact ⟨b, off, e.1, hc i (by rw [HL.out]; exact hlt)⟩
      have hRX := HR.out.below HX.out HR.out.lt
      have x2 := hRX.cell i (by rw [HOL.out]; exact hlt)
      have lG := hRX.lt
      have lb2 := cell_lt lc
      have s1 := HQ.out l i (by rw [HL.out]; exact hlt)
      have s2 := HQ.out op i (by rw [HOL.out]; exact hlt)
      have b1 := HBD.out l i HOKL.out (by rw [HL.out]; exact k3)
      have b2' := HBD.out op i HOKO.out (by rw [HOL.out]; exact k3)
      have b3 := HBD.out l (i + 1) HOKL.out (by rw [HL.out]; exact k3)
      have b4 := HBD.out op (i + 1) HOKO.out (by rw [HOL.out]; exact k3)
      have hge := HGE.out i
      have S1 := Lib.hid s1
      have S2 := Lib.hid s2
      rw [s1] at b3
      rw [s2] at b4
      clear s1 s2 hRX
      generalize l[i]?.getD 0 = za at *
      generalize op[i]?.getD 0 = zb at *
      obtain ⟨va, hva⟩ : ∃ v, v = sumZ (l.take i) := ⟨_, rfl⟩
      obtain ⟨vb, hvb⟩ : ∃ v, v = sumZ (op.take i) := ⟨_, rfl⟩
      rw [← hva] at S1 b1 b3 ⊢
      rw [← hvb] at S2 b2' b4 ⊢
      clear hva hvb
      have r1 : IntKind.i64.wrap (va + za) = va + za := by rw [IntKind.wrap_i64]; omega
      have r2 : IntKind.i64.wrap (vb + zb) = vb + zb := by rw [IntKind.wrap_i64]; omega
      have d1 : decide (zb < za) = false := by simp; omega
      have d2 : ¬ zb < za := by omega
      clear b1 b2' b3 b4 hge
      go_wp2
      go_quiet (fail)
      go_wp2
      go_roundw
      case rel => exact ⟨i + 1, by omega, by rw [S1.out], by rw [S2.out], by go_num, Lib.hid (HX.out.trans (below_dn _ _ _))⟩
      case measure => simp [intOf]; omega
    · obtain rfl : m = i := by omega
      have f1 : Hid (l.take m = l ∧ op.take m = op) := Lib.hid ⟨List.take_of_length_le (by rw [HL.out]; exact Nat.le_refl _), List.take_of_length_le (by rw [HOL.out]; exact Nat.le_refl _)⟩
      rw [f1.out.1, f1.out.2, HSUM.out]
      generalize sumZ l = sl at *
      go_wp2
      all_goals go_ret
      all_goals exact ⟨by simp, BB.out.trans (HX.out.mono BB.out.size)⟩

set_option maxRecDepth 100000 in
theorem lifted (os : Os) (started : os.Started) (H : Type) (enc : TypeId × Value → H) :
    ReturnsInHanded {} Try.checked os 4 .any (Rows.spreadSumsSpec.pre6 enc Try.prog Try.f4 Rows.spreadSumsRow.domain false) (Rows.spreadSumsSpec.post enc Try.prog Try.f4 false true false false) := by
  refine returnsInHanded_of_change (C := Try.checked) own started (by kernel_rfl) Try.func4
    (ChangeSpec.witness6 (enc := enc) (C := Try.checked) false ⟨#[], #[.int .i64 0, .slice none 0 0, .slice none 0 0], []⟩ 8 (by kernel_rfl) (by kernel_rfl) (by kernel_rfl) (by kernel_rfl)) ?_
  intro W base args ds gs before hval0 hW hcnd _
  have hval : ∀ (j : Nat) t v, Try.f4.params[j]? = some t → args[j]? = some v → Value.okWide Try.prog W .any base t v := hval0
  have hW' := hW
  obtain ⟨p, q, hA0, hV, rfl, hfz, hnd⟩ := hW
  have hA : DataW.TrodAll enc Try.prog W 0 (fun _ => true) true Try.f4.params.toList args.toList ds p := hA0
  rw [Try.params4] at hA hval
  obtain ⟨v0, vs0, d0, ds0, p0, q0, hargs, rfl, rfl, h0, r0⟩ := trodAll_cons hA
  obtain ⟨v1, vs1, d1, ds1, p1, q1, rfl, rfl, rfl, h1, r1⟩ := trodAll_cons r0
  obtain ⟨v2, vs2, d2, ds2, p2, q2, rfl, rfl, rfl, h2, r2⟩ := trodAll_cons r1
  obtain ⟨rfl, rfl, rfl⟩ := trodAll_nil r2
  obtain rfl : args = #[v0, v1, v2] := by cases args; simp_all
  obtain ⟨rfl, rfl⟩ := trodVars_none hV
  obtain ⟨a0, rfl, rfl, rfl, w0⟩ := open_int Try.underlying2 (hval 0 2 v0 rfl rfl) h0
  obtain ⟨a1, len1, cap1, rfl⟩ := okWide_slice Try.underlying32 (hval 1 32 v1 rfl rfl)
  have k1 := h1
  have lt1 : ∀ x ∈ p1, x.block < W.heap.size := by obtain ⟨m, hm⟩ := k1; exact DataW.trod_lt m _ _ _ hm
  obtain ⟨z1, w1⟩ : ∃ zs, Ints W (.slice a1 len1 cap1) zs ∧ zs.length = len1 ∧ len1 ≤ cap1 ∧ cap1 ≤ maxLen := by
    obtain ⟨fuel, hf⟩ := h1
    exact open_ints64 (by simpa [Value.cells] using hf)
  obtain ⟨a2, len2, cap2, rfl⟩ := okWide_slice Try.underlying32 (hval 2 32 v2 rfl rfl)
  have k2 := h2
  have lt2 : ∀ x ∈ p2, x.block < W.heap.size := by obtain ⟨m, hm⟩ := k2; exact DataW.trod_lt m _ _ _ hm
  obtain ⟨z2, w2⟩ : ∃ zs, Ints W (.slice a2 len2 cap2) zs ∧ zs.length = len2 ∧ len2 ≤ cap2 ∧ cap2 ≤ maxLen := by
    obtain ⟨fuel, hf⟩ := h2
    exact open_ints64 (by simpa [Value.cells] using hf)
  clear hA0 hval0
  simp only [List.append_nil] at hW'
  refine (walk W a0 w0 a1 len1 cap1 z1 w1 a2 len2 cap2 z2 w2).mono fun e W' ⟨he, hg⟩ => ?_
  subst he
  exact ⟨_, rfl, _, _, _, [], _, [], hW', (trodAll_cons_mk (shut_bool Try.underlying4 _) trodAll_mk0), (trodAll_cons_mk (shut_int Try.underlying2 w0) (trodAll_cons_mk (Below.trod laidOut (by kernel_rfl) (of_decide_eq_true (by kernel_rfl)) k1 hg lt1) (trodAll_cons_mk (Below.trod laidOut (by kernel_rfl) (of_decide_eq_true (by kernel_rfl)) k2 hg lt2) trodAll_mk0))), rfl, hg.frame _, fun h => by cases h⟩

theorem over : Rows.spreadSumsRow.holds Try.pinned (OpenSpec.ofChange Rows.spreadSumsSpec) :=
  OpenClaim.holds_of_wide 4 Try.f4 rfl rfl rfl rfl rfl rfl rfl ⟨rfl, rfl, rfl, rfl, rfl⟩ rfl rfl rfl rfl rfl (by kernel_rfl) Try.func4 (by kernel_rfl)
    (of_decide_eq_true (by kernel_rfl)) (by unfold Func.isWrapper; first | (rw [if_pos (by decide +kernel)]; kernel_rfl) | (rw [if_neg (by decide +kernel)]; exact ⟨rfl, rfl⟩))
    (fun os started H enc _ => lifted os started H enc)

/-- the statement -/
theorem proved : Rows.SpreadSumsSaid :=
  over
#print axioms proved
end Go.Proofs.Ytejbngjeleiacaa.spreadSums
