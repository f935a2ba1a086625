/- Captions are the table's kids of that kind, in order, and no row is one: for every page and place. -/
import Derived.Test.YtdljgdmodobjpaaRows
import Derived.WalkKit
import Derived.ProofKit
import Derived.OpenShut
import Derived.Below
import Derived.Test.YtdljgdmodobjpaaLLaw
import Derived.ShutString
namespace Go.Proofs.Ytdljgdmodobjpaa.lanesCaptions
open Go.ChangeShapes Go.WideShapes Go.ChangeAt Go.RowKit
set_option linter.unusedVariables false

theorem own : ownKnob Try.prog.godebug = none := by kernel_rfl
theorem laidOut : laidOutB Try.prog = true := by kernel_rfl

set_option maxRecDepth 100000 in
set_option maxHeartbeats 2000000 in
theorem capt_lbad (lv : Value) (p : Int) (ns ms : List Nd) (w : World) (b : Int) (hb : b ≠ 0) (HP : Hid (PageAt w lv ns))
    (HC : Hid (∀ X v, PageAt X v ns → Calls Try.prog 11 #[v] X (CutPost ms X)))
    (HA : Hid (∀ X v, PageAt X v ms → Calls Try.prog 13 #[v, .int .i64 p] X fun e W' => e = .returned (.tuple #[.slice none 0 0, .int .i64 b]) ∧ Below X.heap.size X W'))
    (HO : Hid (∀ X v, PageAt X v ms → Calls Try.prog 12 #[v, .int .i64 p] X fun e W' => e = .returned (.tuple #[.slice none 0 0, .int .i64 b]) ∧ Below X.heap.size X W')) :
    Calls Try.prog 9 #[lv, .int .i64 p] w fun e w' => e = .returned (.bool true) ∧ Below w.heap.size w w' := by
  have hb' : (b != 0) = true := by simpa using hb
  obtain ⟨q, cap, rfl⟩ := HP.out.form
  generalize ns.length = l0 at *
  go_enter Try.func9, Try.ntmps9
  go_wp2_with (go_at_call 10; refine (shown6_any _).mono ?_; rintro e w1 ⟨rfl, hb1⟩; have HP1 := Lib.hid (HP.out.below hb1); have HB1 := Lib.hid hb1; clear hb1 HP)
  go_wp2_with (go_at_call 11; refine (HC.out _ _ HP1.out).mono ?_; rintro e w2 ⟨q, c, rfl, hp2, hb2⟩; have HP2 := Lib.hid hp2; have HB2 := Lib.hid (HB1.out.trans (hb2.mono HB1.out.size)); clear hb2 hp2 HP1 HB1 HC)
  generalize ms.length = m at *
  go_wp2_with (go_at_call 13; refine (HA.out _ _ HP2.out).mono ?_; rintro e w3 ⟨rfl, hb3⟩; have HB3 := Lib.hid (HB2.out.trans (hb3.mono HB2.out.size)); have HP3 := Lib.hid (HP2.out.below hb3); clear hb3 HP2 HB2 HA)
  go_wp2_with (go_at_call 12; refine (HO.out _ _ HP3.out).mono ?_; rintro e w4 ⟨rfl, hb4⟩; have HB4 := Lib.hid (HB3.out.trans (hb4.mono HB3.out.size)); clear hb4 HP3 HB3 HO)
  go_ret
  exact ⟨by simp, HB4.out⟩
theorem filt_snoc2 (q : Int → Bool) (l : List Int) (i : Nat) (z : Int) (h : l[i]? = some z) : ((l.take (i + 1)).filter q).length = ((l.take i).filter q).length + if q z = true then 1 else 0 := by
  rw [List.take_add_one, h, List.filter_append, List.length_append]
  by_cases hq : q z = true
  · simp [hq]
  · simp [hq]
theorem filt_get (q : Int → Bool) (l : List Int) (i : Nat) (z : Int) (h : l[i]? = some z) (hq : q z = true) : (l.filter q)[((l.take i).filter q).length]? = some z := by
  have e : l = l.take i ++ z :: l.drop (i + 1) := by
    have hl := (List.getElem?_eq_some_iff.1 h).1
    have h1 : l.drop i = z :: l.drop (i + 1) := by
      rw [List.drop_eq_getElem_cons hl]
      congr 1
      exact (List.getElem?_eq_some_iff.1 h).2
    rw [← h1, List.take_append_drop]
  conv => lhs; rw [e]
  rw [List.filter_append, List.filter_cons, if_pos hq, List.take_append_of_le_length (by rw [List.length_take]; have := (List.getElem?_eq_some_iff.1 h).1; omega), List.take_take, Nat.min_self, List.getElem?_append_right (Nat.le_refl _)]
  simp
set_option maxRecDepth 100000 in
set_option maxHeartbeats 4000000 in
theorem capt_lgood (lv : Value) (p : Nat) (ns ms : List Nd) (w : World) (m : Nat) (hm : ms.length = m) (hpm : p < m) (hm2 : m ≤ 150) (R : Hid (PageOk ms)) (HP : Hid (PageAt w lv ns))
    (HC : Hid (∀ X v, PageAt X v ns → Calls Try.prog 11 #[v] X (CutPost ms X)))
    (HA : Hid (∀ X v, PageAt X v ms → Calls Try.prog 13 #[v, .int .i64 p] X fun e W' => ∃ v, e = .returned (.tuple #[v, .int .i64 0]) ∧ OwnN X.heap.size W' v (captP ms p) ∧ Below X.heap.size X W'))
    (HO : Hid (∀ X v, PageAt X v ms → Calls Try.prog 12 #[v, .int .i64 p] X fun e W' => ∃ v, e = .returned (.tuple #[v, .int .i64 0]) ∧ OwnL X.heap.size W' v (rowsP ms p) ∧ Below X.heap.size X W')) :
    Calls Try.prog 9 #[lv, .int .i64 p] w fun e w' => e = .returned (.bool true) ∧ Below w.heap.size w w' := by
  obtain ⟨q, cap, rfl⟩ := HP.out.form
  generalize ns.length = l0 at *
  have HM := Lib.hid hm
  obtain ⟨n, hn⟩ : ∃ n, ms[p]? = some n := ⟨_, List.getElem?_eq_getElem (by rw [hm]; exact hpm)⟩
  have HN := Lib.hid hn
  have hkf := kindK_ge ms p hn
  have hcp : captP ms p = n.ks.filter fun z => decide (kdOf ms z.toNat = 3) := by unfold captP kindK; rw [hkf]
  have HIN : Hid (∀ x ∈ rowsP ms p, kdOf ms x.1.toNat = 9 ∧ 0 ≤ x.1 ∧ x.1 < (m : Int)) := Lib.hid fun x hx => by
    have h1 := rows_in R.out hx
    rw [hm] at h1
    exact ⟨(rows_mem hx).1, h1.1, h1.2.1⟩
  have HLK : Hid (∀ z ∈ n.ks, 0 ≤ z ∧ z < (m : Int)) := Lib.hid fun z hz => by rw [← hm]; exact R.out.link n (List.mem_iff_getElem?.2 ⟨p, hn⟩) z hz
  have hfew := R.out.few n (List.mem_iff_getElem?.2 ⟨p, hn⟩)
  have HCP := Lib.hid hcp
  clear hm hn hkf hcp
  go_enter Try.func9, Try.ntmps9
  go_wp2_with (go_at_call 10; refine (shown6_any _).mono ?_; rintro e w1 ⟨rfl, hb1⟩; have HP1 := Lib.hid (HP.out.below hb1); have HB1 := Lib.hid hb1; clear hb1 HP)
  go_wp2_with (go_at_call 11; refine (HC.out _ _ HP1.out).mono ?_; rintro e w2 ⟨q, c, rfl, hp2, hb2⟩; have HP2 := Lib.hid hp2; have HB2 := Lib.hid (HB1.out.trans (hb2.mono HB1.out.size)); clear hb2 hp2 HP1 HB1 HC)
  rw [HM.out] at HP2 ⊢
  obtain ⟨b, off, rfl⟩ := some_page HP2.out (by omega)
  go_wp2_with (go_at_call 13; refine (HA.out _ _ HP2.out).mono ?_; rintro e w3 ⟨v3, rfl, ho3, hb3⟩; have HB3 := Lib.hid (HB2.out.trans (hb3.mono HB2.out.size)); have HP3 := Lib.hid (HP2.out.below hb3); have HI3 := Lib.hid (ints_own ho3).1; obtain ⟨q3, c3, rfl⟩ := (ints_own ho3).1.form; clear hb3 HP2 HB2 HA ho3)
  obtain ⟨cl, hcl⟩ : ∃ cl, (captP ms p).length = cl := ⟨_, rfl⟩
  rw [hcl] at HI3 ⊢
  have HCL := Lib.hid hcl
  clear hcl
  go_wp2_with (go_at_call 12; refine (HO.out _ _ HP3.out).mono ?_; rintro e w4 ⟨v4, rfl, ho4, hb4⟩; have HB4 := Lib.hid (HB3.out.trans (hb4.mono HB3.out.size)); have HP4 := Lib.hid (HP3.out.below hb4); have HI4 := Lib.hid (HI3.out.below hb4); obtain ⟨q4, c4, rfl⟩ := ho4.lanes.form; have HL4 := Lib.hid ho4.lanes; clear hb4 HP3 HB3 HO ho4 HI3)
  obtain ⟨rl, hrl⟩ : ∃ rl, (rowsP ms p).length = rl := ⟨_, rfl⟩
  rw [hrl]
  have HRL := Lib.hid hrl
  have hrl63 : rl ≤ 9223372036854775807 := by rw [← hrl]; exact HL4.out.1
  rw [hrl] at HL4
  obtain ⟨qk, kl, ck, hpl⟩ := place_at HP4.out HN.out
  have HPL := Lib.hid hpl
  have HKL := Lib.hid hpl.len
  rw [HKL.out] at hfew
  have HX : Hid (∀ X, Below w4.heap.size w4 X → PageAt X (.slice (some ⟨b, off, none⟩) m c) ms ∧ PlaceAt X b off p n qk kl ck ∧ Ints X (.slice q3 cl c3) (captP ms p) ∧ LanesAt X (.slice q4 rl c4) (rowsP ms p) ∧ Below w.heap.size w X) := Lib.hid fun X hX => by
    refine ⟨HP4.out.below hX, ?_, HI4.out.below hX, HL4.out.below hX, HB4.out.trans (hX.mono HB4.out.size)⟩
    have h := HPL.out
    exact ⟨h.kv, h.len, (hX.cell (p := ⟨b, off + p * 34 + 1, none⟩) h.lt).trans h.ck, h.ints.below hX, Nat.lt_of_lt_of_le h.lt hX.size⟩
  have hfl : ∀ t, ((n.ks.take t).filter fun z => decide (kdOf ms z.toNat = 3)).length ≤ cl := fun t => by
    rw [← HCL.out, HCP.out]
    exact ((List.take_sublist t n.ks).filter _).length_le
  have HFL := Lib.hid hfl
  clear hrl hpl hfl HB4 HP4 HI4 HL4 HPL
  go_loopw [10, 11] (fun s10 s11 X => ∃ t : Nat, t ≤ kl ∧ s11 = .int .i64 t ∧ s10 = .int .i64 (((n.ks.take t).filter fun z => decide (kdOf ms z.toNat = 3)).length : Nat) ∧ Hid (Below w4.heap.size w4 X)) (fun _ s11 _ => kl - (intOf s11).toNat)
  case atStart => exact ⟨0, by omega, rfl, rfl, Lib.hid (Below.refl _ _)⟩
  case round =>
    obtain ⟨t, ht, rfl, rfl, HB⟩ := hrel
    obtain ⟨P1, P2, P3, P4, P5⟩ := HX.out wr HB.out
    have kck := P2.ck
    have lb := P2.lt
    by_cases hlt : t < kl
    · obtain ⟨z, hz⟩ : ∃ z, n.ks[t]? = some z := ⟨_, List.getElem?_eq_getElem (by rw [HKL.out]; omega)⟩
      have hzr := HLK.out z (List.mem_iff_getElem?.2 ⟨t, hz⟩)
      obtain ⟨zn, rfl⟩ : ∃ zn : Nat, z = (zn : Int) := ⟨z.toNat, by omega⟩
      obtain ⟨qb, qo, rfl, cz, lz⟩ := ints_at0L P2.ints t (zn : Int) hz
      have ckd := kd_at P1 zn (by omega)
      have HF := Lib.hid (filt_snoc2 (fun z => decide (kdOf ms z.toNat = 3)) n.ks t (zn : Int) hz)
      by_cases k3 : kdOf ms zn = 3
      · have hg := filt_get (fun z => decide (kdOf ms z.toNat = 3)) n.ks t (zn : Int) hz (by simpa using k3)
        rw [← HCP.out] at hg
        have HF2 : Hid (((n.ks.take (t + 1)).filter fun z => decide (kdOf ms z.toNat = 3)).length = ((n.ks.take t).filter fun z => decide (kdOf ms z.toNat = 3)).length + 1) := Lib.hid (by rw [HF.out]; simp [k3])
        obtain ⟨fl, hfl⟩ : ∃ fl, ((n.ks.take t).filter fun z => decide (kdOf ms z.toNat = 3)).length = fl := ⟨_, rfl⟩
        rw [hfl] at hg HF2 ⊢
        have hf70 : fl ≤ 70000 := by
          rw [← hfl]
          refine Nat.le_trans (List.length_filter_le _ _) ?_
          rw [List.length_take]; omega
        have hfc : fl < cl := by have := (List.getElem?_eq_some_iff.1 hg).1; rw [HCL.out] at this; exact this
        obtain ⟨cb, co, rfl, cc, lcc⟩ := ints_at0L P3 fl (zn : Int) hg
        have d3 : (kdOf ms zn == 3) = true := by simpa using k3
        have dk : decide ((fl : Int) ≥ (cl : Int)) = false := by simp; omega
        have dk2 : decide (cl ≤ fl) = false := by simp; omega
        clear HF hfl hg hz k3 P1 P2 P3 P4
        go_wp2
        go_quiet (fail)
        go_wp2
        go_roundw
        case rel => exact ⟨t + 1, by omega, by go_num, by rw [HF2.out]; exact congrArg (Value.int .i64) (by first | omega | (unfold wrap64; omega)), Lib.hid (HB.out.trans ((below_dn wr.heap.size wr nq).mono HB.out.size))⟩
        case measure => simp [intOf]; omega
      · have d3 : (kdOf ms zn == 3) = false := by simpa using k3
        have HF2 : Hid (((n.ks.take (t + 1)).filter fun z => decide (kdOf ms z.toNat = 3)).length = ((n.ks.take t).filter fun z => decide (kdOf ms z.toNat = 3)).length) := Lib.hid (by rw [HF.out]; simp [k3])
        clear HF hz k3 P1 P2 P3 P4
        go_wp2
        go_roundw
        case rel => exact ⟨t + 1, by omega, by go_num, by rw [HF2.out], HB⟩
        case measure => simp [intOf]; omega
    · obtain rfl : t = kl := by omega
      have hfin : ((n.ks.take t).filter fun z => decide (kdOf ms z.toNat = 3)).length = cl := by
        rw [List.take_of_length_le (by rw [HKL.out]; exact Nat.le_refl _), ← HCL.out, HCP.out]
      rw [hfin]
      have HP5 := Lib.hid P5
      have HP1 := Lib.hid P1
      have HP4 := Lib.hid P4
      clear hfin P1 P2 P3 P4 P5
      go_wp2
      go_loop [12] (fun s12 => ∃ i : Nat, i ≤ rl ∧ s12 = .int .i64 i) (fun s12 => rl - (intOf s12).toNat)
      case atStart => exact ⟨0, by omega, rfl⟩
      case round =>
        obtain ⟨i, hi, rfl⟩ := hrel
        by_cases hlt2 : i < rl
        · obtain ⟨x, hx⟩ : ∃ x, (rowsP ms p)[i]? = some x := ⟨_, List.getElem?_eq_getElem (by rw [HRL.out]; omega)⟩
          obtain ⟨h9, h1, h2⟩ := HIN.out x (List.mem_iff_getElem?.2 ⟨i, hx⟩)
          obtain ⟨x1, x2⟩ := x
          dsimp only at h9 h1 h2
          obtain ⟨xn, rfl⟩ : ∃ xn : Nat, x1 = (xn : Int) := ⟨x1.toNat, by omega⟩
          rw [Int.toNat_natCast] at h9
          obtain ⟨rb, ro, rfl, cx1, _, lr⟩ := HP4.out.at i _ hx
          dsimp only at cx1
          have ckd := kd_at HP1.out xn (by omega)
          rw [h9] at ckd
          clear hx h9
          go_wp2
          go_round
          case rel => exact ⟨i + 1, by omega, by go_num⟩
          case measure => simp [intOf]; omega
        · go_wp2
          go_ret
          exact ⟨rfl, HP5.out⟩
theorem walk (w : World) (a0 : Option Addr) (len0 cap0 : Nat) (ns : List Nd) (h : PageAt w (.slice a0 len0 cap0) ns) (p : Int) (hp : (Lit.int .i64 p).wf = true) :
    Calls Try.prog 9 #[.slice a0 len0 cap0, .int .i64 p] w fun e w' => e = .returned (.bool true) ∧ Below w.heap.size w w' := by
  have hK := fun n (hn : n ∈ cutP ns) => (cutP_both ns n hn).1
  by_cases hc : lchkP (cutP ns) p = 0
  · obtain ⟨F, j, rfl, hj, hk⟩ := lchk_ok hc
    exact capt_lgood _ j ns (cutP ns) w _ rfl hj (cutP_len ns) (Lib.hid (F.ok hK)) (Lib.hid h) (Lib.hid fun X v hP => cut_post v ns X hP) (Lib.hid fun X v hP => captF_good v j _ X hP hK F hj hk) (Lib.hid fun X v hP => rowsF_good v j _ X hP hK F hj hk)
  · exact capt_lbad _ p ns (cutP ns) w _ hc (Lib.hid h) (Lib.hid fun X v hP => cut_post v ns X hP) (Lib.hid fun X v hP => captF_not v p _ X hP hK hc) (Lib.hid fun X v hP => rowsF_not v p _ X hP hK hc)

set_option maxRecDepth 100000 in
theorem lifted (os : Os) (started : os.Started) (H : Type) (enc : TypeId × Value → H) :
    ReturnsInHanded {} Try.checked os 9 .any (Rows.lanesCaptionsSpec.pre6 enc Try.prog Try.f9 Rows.lanesCaptionsRow.domain false) (Rows.lanesCaptionsSpec.post enc Try.prog Try.f9 false true false false) := by
  refine returnsInHanded_of_change (C := Try.checked) own started (by kernel_rfl) Try.func9
    (ChangeSpec.witness6 (enc := enc) (C := Try.checked) false ⟨#[], #[.slice none 0 0, .int .i64 0], []⟩ 8 (by kernel_rfl) (by kernel_rfl) (by kernel_rfl) (by kernel_rfl)) ?_
  intro W base args ds gs before hval0 hW hcnd _
  have hval : ∀ (j : Nat) t v, Try.f9.params[j]? = some t → args[j]? = some v → Value.okWide Try.prog W .any base t v := hval0
  have hW' := hW
  obtain ⟨p, q, hA0, hV, rfl, hfz, hnd⟩ := hW
  have hA : DataW.TrodAll enc Try.prog W 0 (fun _ => true) true Try.f9.params.toList args.toList ds p := hA0
  rw [Try.params9] at hA hval
  obtain ⟨v0, vs0, d0, ds0, p0, q0, hargs, rfl, rfl, h0, r0⟩ := trodAll_cons hA
  obtain ⟨v1, vs1, d1, ds1, p1, q1, rfl, rfl, rfl, h1, r1⟩ := trodAll_cons r0
  obtain ⟨rfl, rfl, rfl⟩ := trodAll_nil r1
  obtain rfl : args = #[v0, v1] := by cases args; simp_all
  obtain ⟨rfl, rfl⟩ := trodVars_none hV
  obtain ⟨a0, len0, cap0, rfl⟩ := okWide_slice Try.underlying22 (hval 0 22 v0 rfl rfl)
  have k0 := h0
  have lt0 : ∀ x ∈ p0, x.block < W.heap.size := by obtain ⟨m, hm⟩ := k0; exact DataW.trod_lt m _ _ _ hm
  obtain ⟨z0, w0⟩ : ∃ ns, PageAt W (.slice a0 len0 cap0) ns := by
    obtain ⟨fuel, hf⟩ := h0
    obtain ⟨ns, hn, _⟩ := open_nodes (by simpa [Value.cells] using hf)
    exact ⟨ns, hn⟩
  obtain ⟨a1, rfl, rfl, rfl, w1⟩ := open_int Try.underlying3 (hval 1 3 v1 rfl rfl) h1
  clear hA0 hval0
  simp only [List.append_nil] at hW'
  refine (walk W a0 len0 cap0 z0 w0 a1 w1).mono fun e W' ⟨he, hg⟩ => ?_
  subst he
  exact ⟨_, rfl, _, _, _, [], _, [], hW', (trodAll_cons_mk (shut_bool Try.underlying4 _) trodAll_mk0), (trodAll_cons_mk (Below.trod laidOut (by kernel_rfl) (of_decide_eq_true (by kernel_rfl)) k0 hg lt0) (trodAll_cons_mk (shut_int Try.underlying3 w1) trodAll_mk0)), rfl, hg.frame _, fun h => by cases h⟩

theorem over : Rows.lanesCaptionsRow.holds Try.pinned (OpenSpec.ofChange Rows.lanesCaptionsSpec) :=
  OpenClaim.holds_of_wide 9 Try.f9 rfl rfl rfl rfl rfl rfl rfl ⟨rfl, rfl, rfl, rfl, rfl⟩ rfl rfl rfl rfl rfl (by kernel_rfl) Try.func9 (by kernel_rfl)
    (of_decide_eq_true (by kernel_rfl)) (by unfold Func.isWrapper; first | (rw [if_pos (by decide +kernel)]; kernel_rfl) | (rw [if_neg (by decide +kernel)]; exact ⟨rfl, rfl⟩))
    (fun os started H enc _ => lifted os started H enc)

/-- the statement -/
theorem proved : Rows.LanesCaptionsSaid :=
  over
#print axioms proved
end Go.Proofs.Ytdljgdmodobjpaa.lanesCaptions
