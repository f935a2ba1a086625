/- What is left between bands: the program's gutters are the document's. -/
import Derived.Test.YtncgmfdmkjlmaaaRows
import Derived.WalkKit
import Derived.ProofKit
import Derived.OpenShut
import Derived.Below
import Derived.Test.YtncgmfdmkjlmaaaERefG
import Derived.Test.YtncgmfdmkjlmaaaEOpen2
import Derived.ShutString
namespace Go.Proofs.Ytncgmfdmkjlmaaa.edgesGutters
open Go.ChangeShapes Go.WideShapes Go.ChangeAt Go.RowKit
set_option linter.unusedVariables false

theorem own : ownKnob Try.prog.godebug = none := by kernel_rfl
theorem laidOut : laidOutB Try.prog = true := by kernel_rfl

theorem cellsPost_row {ok : Bool} {w : World} {l : List RR.R} {e : Ending} {W' : World} (h : CellsPost ok w l e W') : ∃ v, e = .returned (.tuple #[v, .int .i64 (if ok then 0 else 100)]) ∧ RowE W' v (if ok then l else []) ∧ Below w.heap.size w W' := by
  obtain ⟨hb, ⟨rfl, v, he, ho⟩ | ⟨rfl, he⟩⟩ := h
  · exact ⟨v, he, own_rowE ho rfl, hb⟩
  · exact ⟨_, he, .inl ⟨rfl, rfl⟩, hb⟩
theorem low_take {W : World} {a : Option Addr} {len cap n : Nat} {zs : List Int} (h : Ints W (.slice a len cap) zs) (hl : zs.length = len) (hn : n ≤ len) : LowI W.heap.size W (.slice a n cap) (zs.take n) ∧ (zs.take n).length = n :=
  ⟨.of (ints_takeR h hl n hn), by simp; omega⟩
set_option maxRecDepth 100000 in
set_option maxHeartbeats 4000000 in
theorem main (W : World) (a0 a1 : Option Addr) (len0 cap0 len1 cap1 m k : Nat) (cs rs : List Int) (g0 g1 : Int) (hL : LowI W.heap.size W (.slice a0 m cap0) cs) (hR : LowI W.heap.size W (.slice a1 k cap1) rs) (hcs : cs.length = m) (hrs : rs.length = k)
    (hm : (len0 ≤ 40 ∧ m = len0) ∨ (40 < len0 ∧ m = 40)) (hk : (len1 ≤ 40 ∧ k = len1) ∨ (40 < len1 ∧ k = 40)) (hc0 : len0 ≤ cap0) (hc1 : len1 ≤ cap1) (hx0 : cap0 ≤ 9223372036854775807) (hx1 : cap1 ≤ 9223372036854775807) :
    Calls Try.prog 5 #[.slice a0 len0 cap0, .slice a1 len1 cap1, .agg #[.int .i64 g0, .int .i64 g1]] W fun e w' => e = .returned (.bool true) ∧ Below W.heap.size W w' := by
  have HSH := Lib.hid (fun X => shown10_any X)
  have HGU := Lib.hid (fun X (h : Below W.heap.size W X) => gutters_any a0 a1 m cap0 k cap1 cs rs g0 g1 X ((hL.keep (Y := X) (fun k hk => h.block k hk)).mono h.size) hcs ((hR.keep (Y := X) (fun k hk => h.block k hk)).mono h.size) hrs)
  have HRG := Lib.hid (fun X (h : Below W.heap.size W X) => refGutters_any a0 a1 m cap0 k cap1 cs rs g0 g1 X ((hL.keep (Y := X) (fun k hk => h.block k hk)).mono h.size) hcs ((hR.keep (Y := X) (fun k hk => h.block k hk)).mono h.size) hrs)
  have hlen : (if (okB g0 cs && okB g1 rs) then gutE g0 g1 cs rs else []).length ≤ 1000000000 := by
    split
    · by_cases hn : (cs.length = 0 ∨ rs.length = 0 ∨ (g0 = 0 ∧ g1 = 0))
      · unfold gutE; rw [if_pos hn]; simp
      · rw [gutE_len g0 g1 cs rs hn]
        have := Nat.mul_le_mul (show rs.length + 1 ≤ 41 by omega) (show cs.length ≤ 40 by omega)
        omega
    · simp
  generalize hok : (okB g0 cs && okB g1 rs) = ok at *
  obtain ⟨LL, hLL⟩ : ∃ LL, (if ok then gutE g0 g1 cs rs else []) = LL := ⟨_, rfl⟩
  obtain ⟨er, her⟩ : ∃ er : Int, (if ok then 0 else 100) = er := ⟨_, rfl⟩
  rw [hLL] at hlen
  have HLL := Lib.hid hLL
  have HER := Lib.hid her
  have HSM := Lib.hid (fun X (v1 v2 : Value) (h1 : RowE X v1 LL) (h2 : RowE X v2 LL) => rsame_any v1 v2 LL X h1 h2 hlen)
  clear hL hR hcs hrs hok hlen hLL her
  obtain ⟨gn, hgn⟩ : ∃ gn, W.heap.size = gn := ⟨_, rfl⟩
  obtain ⟨W0, hW0⟩ : ∃ W0, W.alloc (.cells #[.int .i64 g0, .int .i64 g1] 38) = W0 := ⟨_, rfl⟩
  have HB0 : Hid (Below W.heap.size W W0) := Lib.hid (by rw [← hW0]; exact (Below.refl _ W).alloc (Nat.le_refl _) _)
  have HA0 : Hid (Whole W0 gn 38 [.int .i64 g0, .int .i64 g1]) := Lib.hid (by rw [← hW0]; exact whole_new W [.int .i64 g0, .int .i64 g1] 38 gn hgn.symm)
  rcases hm with ⟨h, rfl⟩ | ⟨h, rfl⟩ <;> rcases hk with ⟨h', rfl⟩ | ⟨h', rfl⟩
  · have q0 : min (m : Int) 40 = m := by omega
    have q1 : min (k : Int) 40 = k := by omega
    go_enter Try.func5, Try.ntmps5
    go_wp2_with fail
    try rw [hW0]
    clear hW0 hgn
    refine (HSH.out _).mono ?_
    rintro e w1 ⟨rfl, hb1⟩
    have HB1 := Lib.hid (HB0.out.trans (hb1.mono HB0.out.size))
    have HA1 := Lib.hid (HA0.out.below hb1 HA0.out.lt)
    clear hb1 HB0 HA0 HSH
    have c0 := HA1.out.cellAt 0
    have c1 := HA1.out.cellAt 1
    have la := HA1.out.lt
    simp only [List.getElem?_cons_zero, List.getElem?_cons_succ] at c0 c1
    go_wp2_with fail
    refine (HGU.out _ HB1.out).mono ?_
    intro e w2 hp2
    obtain ⟨v1, rfl, hr2, hb2⟩ := cellsPost_row hp2
    rw [HLL.out] at hr2
    rw [HER.out]
    have HR2 := Lib.hid hr2
    have HB2 := Lib.hid (HB1.out.trans (hb2.mono HB1.out.size))
    have HA2 := Lib.hid (HA1.out.below hb2 HA1.out.lt)
    clear hp2 hb2 hr2 HB1 HA1 HGU c0 c1 la
    have c0 := HA2.out.cellAt 0
    have c1 := HA2.out.cellAt 1
    have la := HA2.out.lt
    simp only [List.getElem?_cons_zero, List.getElem?_cons_succ] at c0 c1
    go_wp2_with fail
    refine (HRG.out _ HB2.out).mono ?_
    intro e w3 hp3
    obtain ⟨v2, rfl, hr3, hb3⟩ := cellsPost_row hp3
    rw [HLL.out] at hr3
    rw [HER.out]
    have HR3 := Lib.hid hr3
    have HR23 := Lib.hid (HR2.out.below hb3)
    have HB3 := Lib.hid (HB2.out.trans (hb3.mono HB2.out.size))
    clear hp3 hb3 hr3 HB2 HA2 HRG HR2 c0 c1 la
    go_wp2_with fail
    refine (HSM.out _ v1 v2 HR23.out HR3.out).mono ?_
    rintro e w4 ⟨rfl, hb4⟩
    have HB4 := Lib.hid (HB3.out.trans (hb4.mono HB3.out.size))
    clear hb4 HSM HR23 HR3 HB3 HLL HER
    go_wp2
    go_ret
    exact ⟨by first | rfl | (simp; done), HB4.out⟩
  · have q0 : min (m : Int) 40 = m := by omega
    have q1 : min (len1 : Int) 40 = 40 := by omega
    have q3 : 40 ≤ cap1 := by omega
    go_enter Try.func5, Try.ntmps5
    go_wp2_with fail
    try rw [hW0]
    clear hW0 hgn
    refine (HSH.out _).mono ?_
    rintro e w1 ⟨rfl, hb1⟩
    have HB1 := Lib.hid (HB0.out.trans (hb1.mono HB0.out.size))
    have HA1 := Lib.hid (HA0.out.below hb1 HA0.out.lt)
    clear hb1 HB0 HA0 HSH
    have c0 := HA1.out.cellAt 0
    have c1 := HA1.out.cellAt 1
    have la := HA1.out.lt
    simp only [List.getElem?_cons_zero, List.getElem?_cons_succ] at c0 c1
    go_wp2_with fail
    refine (HGU.out _ HB1.out).mono ?_
    intro e w2 hp2
    obtain ⟨v1, rfl, hr2, hb2⟩ := cellsPost_row hp2
    rw [HLL.out] at hr2
    rw [HER.out]
    have HR2 := Lib.hid hr2
    have HB2 := Lib.hid (HB1.out.trans (hb2.mono HB1.out.size))
    have HA2 := Lib.hid (HA1.out.below hb2 HA1.out.lt)
    clear hp2 hb2 hr2 HB1 HA1 HGU c0 c1 la
    have c0 := HA2.out.cellAt 0
    have c1 := HA2.out.cellAt 1
    have la := HA2.out.lt
    simp only [List.getElem?_cons_zero, List.getElem?_cons_succ] at c0 c1
    go_wp2_with fail
    refine (HRG.out _ HB2.out).mono ?_
    intro e w3 hp3
    obtain ⟨v2, rfl, hr3, hb3⟩ := cellsPost_row hp3
    rw [HLL.out] at hr3
    rw [HER.out]
    have HR3 := Lib.hid hr3
    have HR23 := Lib.hid (HR2.out.below hb3)
    have HB3 := Lib.hid (HB2.out.trans (hb3.mono HB2.out.size))
    clear hp3 hb3 hr3 HB2 HA2 HRG HR2 c0 c1 la
    go_wp2_with fail
    refine (HSM.out _ v1 v2 HR23.out HR3.out).mono ?_
    rintro e w4 ⟨rfl, hb4⟩
    have HB4 := Lib.hid (HB3.out.trans (hb4.mono HB3.out.size))
    clear hb4 HSM HR23 HR3 HB3 HLL HER
    go_wp2
    go_ret
    exact ⟨by first | rfl | (simp; done), HB4.out⟩
  · have q0 : min (len0 : Int) 40 = 40 := by omega
    have q1 : min (k : Int) 40 = k := by omega
    have q2 : 40 ≤ cap0 := by omega
    go_enter Try.func5, Try.ntmps5
    go_wp2_with fail
    try rw [hW0]
    clear hW0 hgn
    refine (HSH.out _).mono ?_
    rintro e w1 ⟨rfl, hb1⟩
    have HB1 := Lib.hid (HB0.out.trans (hb1.mono HB0.out.size))
    have HA1 := Lib.hid (HA0.out.below hb1 HA0.out.lt)
    clear hb1 HB0 HA0 HSH
    have c0 := HA1.out.cellAt 0
    have c1 := HA1.out.cellAt 1
    have la := HA1.out.lt
    simp only [List.getElem?_cons_zero, List.getElem?_cons_succ] at c0 c1
    go_wp2_with fail
    refine (HGU.out _ HB1.out).mono ?_
    intro e w2 hp2
    obtain ⟨v1, rfl, hr2, hb2⟩ := cellsPost_row hp2
    rw [HLL.out] at hr2
    rw [HER.out]
    have HR2 := Lib.hid hr2
    have HB2 := Lib.hid (HB1.out.trans (hb2.mono HB1.out.size))
    have HA2 := Lib.hid (HA1.out.below hb2 HA1.out.lt)
    clear hp2 hb2 hr2 HB1 HA1 HGU c0 c1 la
    have c0 := HA2.out.cellAt 0
    have c1 := HA2.out.cellAt 1
    have la := HA2.out.lt
    simp only [List.getElem?_cons_zero, List.getElem?_cons_succ] at c0 c1
    go_wp2_with fail
    refine (HRG.out _ HB2.out).mono ?_
    intro e w3 hp3
    obtain ⟨v2, rfl, hr3, hb3⟩ := cellsPost_row hp3
    rw [HLL.out] at hr3
    rw [HER.out]
    have HR3 := Lib.hid hr3
    have HR23 := Lib.hid (HR2.out.below hb3)
    have HB3 := Lib.hid (HB2.out.trans (hb3.mono HB2.out.size))
    clear hp3 hb3 hr3 HB2 HA2 HRG HR2 c0 c1 la
    go_wp2_with fail
    refine (HSM.out _ v1 v2 HR23.out HR3.out).mono ?_
    rintro e w4 ⟨rfl, hb4⟩
    have HB4 := Lib.hid (HB3.out.trans (hb4.mono HB3.out.size))
    clear hb4 HSM HR23 HR3 HB3 HLL HER
    go_wp2
    go_ret
    exact ⟨by first | rfl | (simp; done), HB4.out⟩
  · have q0 : min (len0 : Int) 40 = 40 := by omega
    have q1 : min (len1 : Int) 40 = 40 := by omega
    have q2 : 40 ≤ cap0 := by omega
    have q3 : 40 ≤ cap1 := by omega
    go_enter Try.func5, Try.ntmps5
    go_wp2_with fail
    try rw [hW0]
    clear hW0 hgn
    refine (HSH.out _).mono ?_
    rintro e w1 ⟨rfl, hb1⟩
    have HB1 := Lib.hid (HB0.out.trans (hb1.mono HB0.out.size))
    have HA1 := Lib.hid (HA0.out.below hb1 HA0.out.lt)
    clear hb1 HB0 HA0 HSH
    have c0 := HA1.out.cellAt 0
    have c1 := HA1.out.cellAt 1
    have la := HA1.out.lt
    simp only [List.getElem?_cons_zero, List.getElem?_cons_succ] at c0 c1
    go_wp2_with fail
    refine (HGU.out _ HB1.out).mono ?_
    intro e w2 hp2
    obtain ⟨v1, rfl, hr2, hb2⟩ := cellsPost_row hp2
    rw [HLL.out] at hr2
    rw [HER.out]
    have HR2 := Lib.hid hr2
    have HB2 := Lib.hid (HB1.out.trans (hb2.mono HB1.out.size))
    have HA2 := Lib.hid (HA1.out.below hb2 HA1.out.lt)
    clear hp2 hb2 hr2 HB1 HA1 HGU c0 c1 la
    have c0 := HA2.out.cellAt 0
    have c1 := HA2.out.cellAt 1
    have la := HA2.out.lt
    simp only [List.getElem?_cons_zero, List.getElem?_cons_succ] at c0 c1
    go_wp2_with fail
    refine (HRG.out _ HB2.out).mono ?_
    intro e w3 hp3
    obtain ⟨v2, rfl, hr3, hb3⟩ := cellsPost_row hp3
    rw [HLL.out] at hr3
    rw [HER.out]
    have HR3 := Lib.hid hr3
    have HR23 := Lib.hid (HR2.out.below hb3)
    have HB3 := Lib.hid (HB2.out.trans (hb3.mono HB2.out.size))
    clear hp3 hb3 hr3 HB2 HA2 HRG HR2 c0 c1 la
    go_wp2_with fail
    refine (HSM.out _ v1 v2 HR23.out HR3.out).mono ?_
    rintro e w4 ⟨rfl, hb4⟩
    have HB4 := Lib.hid (HB3.out.trans (hb4.mono HB3.out.size))
    clear hb4 HSM HR23 HR3 HB3 HLL HER
    go_wp2
    go_ret
    exact ⟨by first | rfl | (simp; done), HB4.out⟩
theorem walk (W : World) (a0 : Option Addr) (len0 cap0 : Nat) (z0 : List Int) (w0 : Ints W (.slice a0 len0 cap0) z0 ∧ z0.length = len0 ∧ len0 ≤ cap0 ∧ cap0 ≤ maxLen) (a1 : Option Addr) (len1 cap1 : Nat) (z1 : List Int) (w1 : Ints W (.slice a1 len1 cap1) z1 ∧ z1.length = len1 ∧ len1 ≤ cap1 ∧ cap1 ≤ maxLen) (a2 : Gp) (w2 : a2.wf) :
    Calls Try.prog 5 #[.slice a0 len0 cap0, .slice a1 len1 cap1, a2.val] W fun e w' => e = .returned (.bool true) ∧ Below W.heap.size W w' := by
  obtain ⟨h1, h2, h3, h4⟩ := w0
  obtain ⟨i1, i2, i3, i4⟩ := w1
  unfold maxLen at h4 i4
  have l0 := low_take h1 h2 (show min len0 40 ≤ len0 by omega)
  have l1 := low_take i1 i2 (show min len1 40 ≤ len1 by omega)
  exact main W a0 a1 len0 cap0 len1 cap1 (min len0 40) (min len1 40) _ _ a2.x a2.y l0.1 l1.1 l0.2 l1.2 (by omega) (by omega) h3 i3 h4 i4

set_option maxRecDepth 100000 in
theorem lifted (os : Os) (started : os.Started) (H : Type) (enc : TypeId × Value → H) :
    ReturnsInHanded {} Try.checked os 5 .any (Rows.edgesGuttersSpec.pre6 enc Try.prog Try.f5 Rows.edgesGuttersRow.domain false) (Rows.edgesGuttersSpec.post enc Try.prog Try.f5 false true false false) := by
  refine returnsInHanded_of_change (C := Try.checked) own started (by kernel_rfl) Try.func5
    (ChangeSpec.witness6 (enc := enc) (C := Try.checked) false ⟨#[], #[.slice none 0 0, .slice none 0 0, .agg #[.int .i64 0, .int .i64 0]], []⟩ 8 (by kernel_rfl) (by kernel_rfl) (by kernel_rfl) (by kernel_rfl)) ?_
  intro W base args ds gs before hval0 hW hcnd _
  have hval : ∀ (j : Nat) t v, Try.f5.params[j]? = some t → args[j]? = some v → Value.okWide Try.prog W .any base t v := hval0
  have hW' := hW
  obtain ⟨p, q, hA0, hV, rfl, hfz, hnd⟩ := hW
  have hA : DataW.TrodAll enc Try.prog W 0 (fun _ => true) true Try.f5.params.toList args.toList ds p := hA0
  rw [Try.params5] at hA hval
  obtain ⟨v0, vs0, d0, ds0, p0, q0, hargs, rfl, rfl, h0, r0⟩ := trodAll_cons hA
  obtain ⟨v1, vs1, d1, ds1, p1, q1, rfl, rfl, rfl, h1, r1⟩ := trodAll_cons r0
  obtain ⟨v2, vs2, d2, ds2, p2, q2, rfl, rfl, rfl, h2, r2⟩ := trodAll_cons r1
  obtain ⟨rfl, rfl, rfl⟩ := trodAll_nil r2
  obtain rfl : args = #[v0, v1, v2] := by cases args; simp_all
  obtain ⟨rfl, rfl⟩ := trodVars_none hV
  obtain ⟨a0, len0, cap0, rfl⟩ := okWide_slice Try.underlying22 (hval 0 22 v0 rfl rfl)
  have k0 := h0
  have lt0 : ∀ x ∈ p0, x.block < W.heap.size := by obtain ⟨m, hm⟩ := k0; exact DataW.trod_lt m _ _ _ hm
  obtain ⟨z0, w0⟩ : ∃ zs, Ints W (.slice a0 len0 cap0) zs ∧ zs.length = len0 ∧ len0 ≤ cap0 ∧ cap0 ≤ maxLen := by
    obtain ⟨fuel, hf⟩ := h0
    exact open_ints64 (by simpa [Value.cells] using hf)
  obtain ⟨a1, len1, cap1, rfl⟩ := okWide_slice Try.underlying22 (hval 1 22 v1 rfl rfl)
  have k1 := h1
  have lt1 : ∀ x ∈ p1, x.block < W.heap.size := by obtain ⟨m, hm⟩ := k1; exact DataW.trod_lt m _ _ _ hm
  obtain ⟨z1, w1⟩ : ∃ zs, Ints W (.slice a1 len1 cap1) zs ∧ zs.length = len1 ∧ len1 ≤ cap1 ∧ cap1 ≤ maxLen := by
    obtain ⟨fuel, hf⟩ := h1
    exact open_ints64 (by simpa [Value.cells] using hf)
  obtain ⟨a2, rfl, rfl, rfl, w2⟩ := open_two (hval 2 38 v2 rfl rfl) h2
  clear hA0 hval0
  simp only [List.append_nil] at hW'
  refine (walk W a0 len0 cap0 z0 w0 a1 len1 cap1 z1 w1 a2 w2).mono fun e W' ⟨he, hg⟩ => ?_
  subst he
  exact ⟨_, rfl, _, _, _, [], _, [], hW', (trodAll_cons_mk (shut_bool Try.underlying4 _) trodAll_mk0), (trodAll_cons_mk (Below.trod laidOut (by kernel_rfl) (of_decide_eq_true (by kernel_rfl)) k0 hg lt0) (trodAll_cons_mk (Below.trod laidOut (by kernel_rfl) (of_decide_eq_true (by kernel_rfl)) k1 hg lt1) (trodAll_cons_mk (shut_two a2 w2) trodAll_mk0))), rfl, hg.frame _, fun h => by cases h⟩

theorem over : Rows.edgesGuttersRow.holds Try.pinned (OpenSpec.ofChange Rows.edgesGuttersSpec) :=
  OpenClaim.holds_of_wide 5 Try.f5 rfl rfl rfl rfl rfl rfl rfl ⟨rfl, rfl, rfl, rfl, rfl⟩ rfl rfl rfl rfl rfl (by kernel_rfl) Try.func5 (by kernel_rfl)
    (of_decide_eq_true (by kernel_rfl)) (by unfold Func.isWrapper; first | (rw [if_pos (by decide +kernel)]; kernel_rfl) | (rw [if_neg (by decide +kernel)]; exact ⟨rfl, rfl⟩))
    (fun os started H enc _ => lifted os started H enc)

/-- the statement -/
theorem proved : Rows.EdgesGuttersSaid :=
  over
#print axioms proved
end Go.Proofs.Ytncgmfdmkjlmaaa.edgesGutters
