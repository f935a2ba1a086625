/- The rows of the first head are ahead of all others, those of the first foot behind all others: for every page and place. -/
import Derived.Test.YtdljgdmodobjpaaRows
import Derived.WalkKit
import Derived.ProofKit
import Derived.OpenShut
import Derived.Below
import Derived.Test.YtdljgdmodobjpaaLLaw
import Derived.ShutString
namespace Go.Proofs.Ytdljgdmodobjpaa.lanesHeads
open Go.ChangeShapes Go.WideShapes Go.ChangeAt Go.RowKit
set_option linter.unusedVariables false

theorem own : ownKnob Try.prog.godebug = none := by kernel_rfl
theorem laidOut : laidOutB Try.prog = true := by kernel_rfl

set_option maxRecDepth 100000 in
set_option maxHeartbeats 2000000 in
theorem heads_bad (lv : Value) (p : Int) (ns ms : List Nd) (w : World) (b : Int) (hb : b ≠ 0) (HP : Hid (PageAt w lv ns))
    (HC : Hid (∀ X v, PageAt X v ns → Calls Try.prog 11 #[v] X (CutPost ms X)))
    (HO : Hid (∀ X v, PageAt X v ms → Calls Try.prog 12 #[v, .int .i64 p] X fun e W' => e = .returned (.tuple #[.slice none 0 0, .int .i64 b]) ∧ Below X.heap.size X W')) :
    Calls Try.prog 7 #[lv, .int .i64 p] w fun e w' => e = .returned (.bool true) ∧ Below w.heap.size w w' := by
  have hb' : (b != 0) = true := by simpa using hb
  obtain ⟨q, cap, rfl⟩ := HP.out.form
  generalize ns.length = l0 at *
  go_enter Try.func7, Try.ntmps7
  go_wp2_with (go_at_call 10; refine (shown6_any _).mono ?_; rintro e w1 ⟨rfl, hb1⟩; have HP1 := Lib.hid (HP.out.below hb1); have HB1 := Lib.hid hb1; clear hb1 HP)
  go_wp2_with (go_at_call 11; refine (HC.out _ _ HP1.out).mono ?_; rintro e w2 ⟨q, c, rfl, hp2, hb2⟩; have HP2 := Lib.hid hp2; have HB2 := Lib.hid (HB1.out.trans (hb2.mono HB1.out.size)); clear hb2 hp2 HP1 HB1 HC)
  generalize ms.length = m at *
  go_wp2_with (go_at_call 12; refine (HO.out _ _ HP2.out).mono ?_; rintro e w3 ⟨rfl, hb3⟩; have HB3 := Lib.hid (HB2.out.trans (hb3.mono HB2.out.size)); clear hb3 HP2 HB2 HO)
  go_ret
  exact ⟨rfl, HB3.out⟩
set_option maxRecDepth 100000 in
set_option maxHeartbeats 4000000 in
theorem heads_good (lv : Value) (p : Nat) (ns ms : List Nd) (w : World) (m : Nat) (hm : ms.length = m) (hpm : p < m) (hm2 : m ≤ 150) (R : Hid (PageOk ms)) (HP : Hid (PageAt w lv ns))
    (HC : Hid (∀ X v, PageAt X v ns → Calls Try.prog 11 #[v] X (CutPost ms X)))
    (HO : Hid (∀ X v, PageAt X v ms → Calls Try.prog 12 #[v, .int .i64 p] X fun e W' => ∃ v, e = .returned (.tuple #[v, .int .i64 0]) ∧ OwnL X.heap.size W' v (rowsP ms p) ∧ Below X.heap.size X W')) :
    Calls Try.prog 7 #[lv, .int .i64 p] w fun e w' => e = .returned (.bool true) ∧ Below w.heap.size w w' := by
  obtain ⟨q, cap, rfl⟩ := HP.out.form
  generalize ns.length = l0 at *
  have HM := Lib.hid hm
  obtain ⟨n, hn⟩ : ∃ n, ms[p]? = some n := ⟨_, List.getElem?_eq_getElem (by rw [hm]; exact hpm)⟩
  have HN := Lib.hid hn
  have hkf := kindK_ge ms p hn
  have HHD : Hid (∀ (i : Nat) (x y : Int × Int), (rowsP ms p)[i]? = some x → (rowsP ms p)[i + 1]? = some y → ¬ (y.2 = firstN ms 6 n.ks ∧ 0 ≤ firstN ms 6 n.ks ∧ x.2 ≠ firstN ms 6 n.ks) ∧ ¬ (x.2 = firstN ms 8 n.ks ∧ 0 ≤ firstN ms 8 n.ks ∧ y.2 ≠ firstN ms 8 n.ks)) := Lib.hid fun i x y hx hy => by
    have := heads_ok R.out (p : Int) i x y hx hy
    rwa [hkf] at this
  have HLK : Hid (∀ z ∈ n.ks, 0 ≤ z ∧ z < (m : Int)) := Lib.hid fun z hz => by rw [← hm]; exact R.out.link n (List.mem_iff_getElem?.2 ⟨p, hn⟩) z hz
  have hfew := R.out.few n (List.mem_iff_getElem?.2 ⟨p, hn⟩)
  clear hm hn hkf
  go_enter Try.func7, Try.ntmps7
  go_wp2_with (go_at_call 10; refine (shown6_any _).mono ?_; rintro e w1 ⟨rfl, hb1⟩; have HP1 := Lib.hid (HP.out.below hb1); have HB1 := Lib.hid hb1; clear hb1 HP)
  go_wp2_with (go_at_call 11; refine (HC.out _ _ HP1.out).mono ?_; rintro e w2 ⟨q, c, rfl, hp2, hb2⟩; have HP2 := Lib.hid hp2; have HB2 := Lib.hid (HB1.out.trans (hb2.mono HB1.out.size)); clear hb2 hp2 HP1 HB1 HC)
  rw [HM.out] at HP2 ⊢
  obtain ⟨b, off, rfl⟩ := some_page HP2.out (by omega)
  go_wp2_with (go_at_call 12; refine (HO.out _ _ HP2.out).mono ?_; rintro e w3 ⟨v3, rfl, ho3, hb3⟩; have HB3 := Lib.hid (HB2.out.trans (hb3.mono HB2.out.size)); have HP3 := Lib.hid (HP2.out.below hb3); obtain ⟨q3, c3, rfl⟩ := ho3.lanes.form; have HL3 := Lib.hid ho3.lanes; clear hb3 HP2 HB2 HO ho3; obtain ⟨qk, kl, ck, hpl⟩ := place_at HP3.out HN.out; have HPL := Lib.hid hpl; have kck := hpl.ck; have lb := hpl.lt; clear hpl)
  have HKL := Lib.hid HPL.out.len
  rw [HKL.out] at hfew
  obtain ⟨rl, hrl⟩ : ∃ rl, (rowsP ms p).length = rl := ⟨_, rfl⟩
  rw [hrl]
  have HRL := Lib.hid hrl
  have hrl63 : rl ≤ 9223372036854775807 := by rw [← hrl]; exact HL3.out.1
  clear hrl
  go_loop [8, 9, 10, 11] (fun s8 s9 s10 _ => ∃ t : Nat, t ≤ kl ∧ s10 = .int .i64 ((t : Int) - 1) ∧ s8 = .int .i64 (firstN ms 6 (n.ks.drop t)) ∧ s9 = .int .i64 (firstN ms 8 (n.ks.drop t))) (fun _ _ s10 _ => (intOf s10 + 1).toNat)
  case atStart => exact ⟨kl, Nat.le_refl _, congrArg (Value.int .i64) (by unfold wrap64; omega), by rw [List.drop_eq_nil_of_le (by rw [HKL.out]; exact Nat.le_refl _)]; rfl, by rw [List.drop_eq_nil_of_le (by rw [HKL.out]; exact Nat.le_refl _)]; rfl⟩
  case round =>
    obtain ⟨t, ht, rfl, rfl, rfl⟩ := hrel
    cases t with
    | zero =>
      have e0 : n.ks.drop 0 = n.ks := rfl
      rw [e0]
      obtain ⟨f, hf⟩ : ∃ f, firstN ms 6 n.ks = f := ⟨_, rfl⟩
      obtain ⟨g, hg⟩ : ∃ g, firstN ms 8 n.ks = g := ⟨_, rfl⟩
      rw [hf, hg]
      rw [hf, hg] at HHD
      clear e0 hf hg
      go_wp2
      go_loop [12] (fun s12 => ∃ i : Nat, 1 ≤ i ∧ i ≤ rl + 1 ∧ s12 = .int .i64 i) (fun s12 => rl + 1 - (intOf s12).toNat)
      case atStart => exact ⟨1, by omega, by omega, rfl⟩
      case round =>
        obtain ⟨i, hi1, hi2, rfl⟩ := hrel
        by_cases hlt : i < rl
        · obtain ⟨j, rfl⟩ : ∃ j, i = j + 1 := ⟨i - 1, by omega⟩
          obtain ⟨x, hx⟩ : ∃ x, (rowsP ms p)[j]? = some x := ⟨_, List.getElem?_eq_getElem (by rw [HRL.out]; omega)⟩
          obtain ⟨y, hy⟩ : ∃ y, (rowsP ms p)[j + 1]? = some y := ⟨_, List.getElem?_eq_getElem (by rw [HRL.out]; omega)⟩
          obtain ⟨hA, hB⟩ := HHD.out j x y hx hy
          have HL3' := HL3.out
          rw [HRL.out] at HL3'
          obtain ⟨rb, ro, rfl, _, cx, lr⟩ := HL3'.at j x hx
          obtain ⟨rb', ro', e, _, cy, _⟩ := HL3'.at (j + 1) y hy
          injection e with e; injection e with e1 e2
          subst e1 e2
          obtain ⟨x1, x2⟩ := x
          obtain ⟨y1, y2⟩ := y
          dsimp only at hA hB cx cy
          clear HL3' hx hy
          have hj : ((j + 1 : Nat) : Int) - 1 = (j : Int) := by omega
          rcases (show y2 ≠ f ∨ (y2 = f ∧ ¬ 0 ≤ f) ∨ (y2 = f ∧ 0 ≤ f ∧ x2 = f) by by_cases h1 : y2 = f <;> by_cases h2 : 0 ≤ f <;> by_cases h3 : x2 = f <;> simp_all) with h | ⟨h, h'⟩ | ⟨h, h', h''⟩
          all_goals rcases (show x2 ≠ g ∨ (x2 = g ∧ ¬ 0 ≤ g) ∨ (x2 = g ∧ 0 ≤ g ∧ y2 = g) by by_cases h1 : x2 = g <;> by_cases h2 : 0 ≤ g <;> by_cases h3 : y2 = g <;> simp_all) with k | ⟨k, k'⟩ | ⟨k, k', k''⟩
          all_goals
            clear hA hB
            try have d1 : (y2 == f) = false := by simpa using h
            try have d1 : (y2 == f) = true := by simpa using h
            try have d2 : decide (f ≥ 0) = false := by simpa using h'
            try have d2 : decide (f ≥ 0) = true := by simpa using h'
            try have d3 : (x2 != f) = false := by simpa using h''
            try have d4 : (x2 == g) = false := by simpa using k
            try have d4 : (x2 == g) = true := by simpa using k
            try have d5 : decide (g ≥ 0) = false := by simpa using k'
            try have d5 : decide (g ≥ 0) = true := by simpa using k'
            try have d6 : (y2 != g) = false := by simpa using k''
            clear h k
            try clear h'
            try clear h''
            try clear k'
            try clear k''
            go_wp2
            go_round
            case rel => exact ⟨j + 2, by omega, by omega, by go_num⟩
            case measure => simp [intOf]; omega
        · go_wp2
          go_ret
          exact ⟨rfl, HB3.out⟩
    | succ t =>
      obtain ⟨z, hz⟩ : ∃ z, n.ks[t]? = some z := ⟨_, List.getElem?_eq_getElem (by rw [HKL.out]; omega)⟩
      have hzr := HLK.out z (List.mem_iff_getElem?.2 ⟨t, hz⟩)
      obtain ⟨zn, rfl⟩ : ∃ zn : Nat, z = (zn : Int) := ⟨z.toNat, by omega⟩
      obtain ⟨qb, qo, rfl, cz, lz⟩ := ints_at0L HPL.out.ints t (zn : Int) hz
      have ckd := kd_at HP3.out zn (by omega)
      have hdr : n.ks.drop t = (zn : Int) :: n.ks.drop (t + 1) := by
        have hl := (List.getElem?_eq_some_iff.1 hz).1
        rw [List.drop_eq_getElem_cons hl]
        congr 1
        exact (List.getElem?_eq_some_iff.1 hz).2
      have hst : ∀ k, firstN ms k (n.ks.drop t) = if kdOf ms zn = k then (zn : Int) else firstN ms k (n.ks.drop (t + 1)) := fun k => by
        rw [hdr]
        unfold firstN
        by_cases hk : kdOf ms zn = k
        · rw [if_pos hk]; simp [hk]
        · rw [if_neg hk]; simp [hk]
      have HST := Lib.hid hst
      obtain ⟨kd, hkd⟩ : ∃ kd, kdOf ms zn = kd := ⟨_, rfl⟩
      rw [hkd] at ckd HST
      obtain ⟨f, hf⟩ : ∃ f, firstN ms 6 (n.ks.drop (t + 1)) = f := ⟨_, rfl⟩
      obtain ⟨g, hg⟩ : ∃ g, firstN ms 8 (n.ks.drop (t + 1)) = g := ⟨_, rfl⟩
      have H6 := Lib.hid (HST.out 6)
      have H8 := Lib.hid (HST.out 8)
      rw [hf] at H6 ⊢
      rw [hg] at H8 ⊢
      clear hst HST hdr hkd hf hg hz
      have et : ((t + 1 : Nat) : Int) - 1 = (t : Int) := by omega
      rw [et]
      clear et
      have dge : decide ((t : Int) ≥ 0) = true := by simp
      by_cases k6 : kd = 6
      · have d6 : (kd == 6) = true := by simpa using k6
        have d8 : (kd == 8) = false := by rw [k6]; rfl
        have E6 := Lib.hid (H6.out.trans (if_pos k6))
        have E8 := Lib.hid (H8.out.trans (if_neg (by omega)))
        clear k6 H6 H8
        go_wp2
        go_round
        case rel => exact ⟨t, by omega, by go_num, by rw [E6.out], by rw [E8.out]⟩
        case measure => first | (simp [intOf]; done) | (simp [intOf]; omega)
      · have d6 : (kd == 6) = false := by simpa using k6
        have E6 := Lib.hid (H6.out.trans (if_neg k6))
        by_cases k8 : kd = 8
        · have d8 : (kd == 8) = true := by simpa using k8
          have E8 := Lib.hid (H8.out.trans (if_pos k8))
          clear k6 k8 H6 H8
          go_wp2
          go_round
          case rel => exact ⟨t, by omega, by go_num, by rw [E6.out], by rw [E8.out]⟩
          case measure => first | (simp [intOf]; done) | (simp [intOf]; omega)
        · have d8 : (kd == 8) = false := by simpa using k8
          have E8 := Lib.hid (H8.out.trans (if_neg k8))
          clear k6 k8 H6 H8
          go_wp2
          go_round
          case rel => exact ⟨t, by omega, by go_num, by rw [E6.out], by rw [E8.out]⟩
          case measure => first | (simp [intOf]; done) | (simp [intOf]; omega)
theorem walk (w : World) (a0 : Option Addr) (len0 cap0 : Nat) (ns : List Nd) (h : PageAt w (.slice a0 len0 cap0) ns) (p : Int) (hp : (Lit.int .i64 p).wf = true) :
    Calls Try.prog 7 #[.slice a0 len0 cap0, .int .i64 p] w fun e w' => e = .returned (.bool true) ∧ Below w.heap.size w w' := by
  have hK := fun n (hn : n ∈ cutP ns) => (cutP_both ns n hn).1
  by_cases hc : lchkP (cutP ns) p = 0
  · obtain ⟨F, j, rfl, hj, hk⟩ := lchk_ok hc
    exact heads_good _ j ns (cutP ns) w _ rfl hj (cutP_len ns) (Lib.hid (F.ok hK)) (Lib.hid h) (Lib.hid fun X v hP => cut_post v ns X hP) (Lib.hid fun X v hP => rowsF_good v j _ X hP hK F hj hk)
  · exact heads_bad _ p ns (cutP ns) w _ hc (Lib.hid h) (Lib.hid fun X v hP => cut_post v ns X hP) (Lib.hid fun X v hP => rowsF_not v p _ X hP hK hc)

set_option maxRecDepth 100000 in
theorem lifted (os : Os) (started : os.Started) (H : Type) (enc : TypeId × Value → H) :
    ReturnsInHanded {} Try.checked os 7 .any (Rows.lanesHeadsSpec.pre6 enc Try.prog Try.f7 Rows.lanesHeadsRow.domain false) (Rows.lanesHeadsSpec.post enc Try.prog Try.f7 false true false false) := by
  refine returnsInHanded_of_change (C := Try.checked) own started (by kernel_rfl) Try.func7
    (ChangeSpec.witness6 (enc := enc) (C := Try.checked) false ⟨#[], #[.slice none 0 0, .int .i64 0], []⟩ 8 (by kernel_rfl) (by kernel_rfl) (by kernel_rfl) (by kernel_rfl)) ?_
  intro W base args ds gs before hval0 hW hcnd _
  have hval : ∀ (j : Nat) t v, Try.f7.params[j]? = some t → args[j]? = some v → Value.okWide Try.prog W .any base t v := hval0
  have hW' := hW
  obtain ⟨p, q, hA0, hV, rfl, hfz, hnd⟩ := hW
  have hA : DataW.TrodAll enc Try.prog W 0 (fun _ => true) true Try.f7.params.toList args.toList ds p := hA0
  rw [Try.params7] at hA hval
  obtain ⟨v0, vs0, d0, ds0, p0, q0, hargs, rfl, rfl, h0, r0⟩ := trodAll_cons hA
  obtain ⟨v1, vs1, d1, ds1, p1, q1, rfl, rfl, rfl, h1, r1⟩ := trodAll_cons r0
  obtain ⟨rfl, rfl, rfl⟩ := trodAll_nil r1
  obtain rfl : args = #[v0, v1] := by cases args; simp_all
  obtain ⟨rfl, rfl⟩ := trodVars_none hV
  obtain ⟨a0, len0, cap0, rfl⟩ := okWide_slice Try.underlying22 (hval 0 22 v0 rfl rfl)
  have k0 := h0
  have lt0 : ∀ x ∈ p0, x.block < W.heap.size := by obtain ⟨m, hm⟩ := k0; exact DataW.trod_lt m _ _ _ hm
  obtain ⟨z0, w0⟩ : ∃ ns, PageAt W (.slice a0 len0 cap0) ns := by
    obtain ⟨fuel, hf⟩ := h0
    obtain ⟨ns, hn, _⟩ := open_nodes (by simpa [Value.cells] using hf)
    exact ⟨ns, hn⟩
  obtain ⟨a1, rfl, rfl, rfl, w1⟩ := open_int Try.underlying3 (hval 1 3 v1 rfl rfl) h1
  clear hA0 hval0
  simp only [List.append_nil] at hW'
  refine (walk W a0 len0 cap0 z0 w0 a1 w1).mono fun e W' ⟨he, hg⟩ => ?_
  subst he
  exact ⟨_, rfl, _, _, _, [], _, [], hW', (trodAll_cons_mk (shut_bool Try.underlying4 _) trodAll_mk0), (trodAll_cons_mk (Below.trod laidOut (by kernel_rfl) (of_decide_eq_true (by kernel_rfl)) k0 hg lt0) (trodAll_cons_mk (shut_int Try.underlying3 w1) trodAll_mk0)), rfl, hg.frame _, fun h => by cases h⟩

theorem over : Rows.lanesHeadsRow.holds Try.pinned (OpenSpec.ofChange Rows.lanesHeadsSpec) :=
  OpenClaim.holds_of_wide 7 Try.f7 rfl rfl rfl rfl rfl rfl rfl ⟨rfl, rfl, rfl, rfl, rfl⟩ rfl rfl rfl rfl rfl (by kernel_rfl) Try.func7 (by kernel_rfl)
    (of_decide_eq_true (by kernel_rfl)) (by unfold Func.isWrapper; first | (rw [if_pos (by decide +kernel)]; kernel_rfl) | (rw [if_neg (by decide +kernel)]; exact ⟨rfl, rfl⟩))
    (fun os started H enc _ => lifted os started H enc)

/-- the statement -/
theorem proved : Rows.LanesHeadsSaid :=
  over
#print axioms proved
end Go.Proofs.Ytdljgdmodobjpaa.lanesHeads
