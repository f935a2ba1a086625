/- Each place is once in the order, behind its parent's; a Kid is one deeper: for every page. -/
import Derived.Test.YtddbjfcdmilmkaaRows
import Derived.WalkKit
import Derived.ProofKit
import Derived.OpenShut
import Derived.Below
import Derived.Test.YtddbjfcdmilmkaaTBuild
import Derived.Test.YtddbjfcdmilmkaaTOrds
import Derived.Test.YtddbjfcdmilmkaaTCut
import Derived.Test.YtddbjfcdmilmkaaTOpen
import Derived.Test.YtddbjfcdmilmkaaTShown
import Derived.ShutString
namespace Go.Proofs.Ytddbjfcdmilmkaa.treeOrders
open Go.ChangeShapes Go.WideShapes Go.ChangeAt Go.RowKit
set_option linter.unusedVariables false

theorem own : ownKnob Try.prog.godebug = none := by kernel_rfl
theorem laidOut : laidOutB Try.prog = true := by kernel_rfl

def Cls (W : World) (b off m : Nat) (zs : List Int) : Prop := ∀ j, j < m → W.cell? ⟨b, off + j, none⟩ = some (.int .i64 (zs[j]?.getD 0))
theorem Cls.below {W W' : World} {b off m B : Nat} {zs : List Int} (h : Cls W b off m zs) (hb : Below B W W') (hB : W.heap.size ≤ B) : Cls W' b off m zs := fun j hj => (hb.cell (p := ⟨b, off + j, none⟩) (Nat.lt_of_lt_of_le (cell_lt (h j hj)) hB)).trans (h j hj)
def Back (m : Nat) (zs : List Int) (w : World) (e : Ending) (W' : World) : Prop :=
  (∃ b off c, e = .returned (.tuple #[.slice (some ⟨b, off, none⟩) m c, .int .i64 0]) ∧ Cls W' b off m zs) ∧ Below w.heap.size w W'
theorem back_of {m : Nat} {zs : List Int} {w : World} {e : Ending} {W' : World} (hl : zs.length = m) (hm : 1 ≤ m) (h : ListPost 0 zs w e W') : Back m zs w e W' := by
  obtain ⟨h1, h2⟩ := h
  rw [if_pos rfl] at h1
  obtain ⟨v, rfl, hv⟩ := h1
  obtain ⟨p, c, rfl⟩ := hv.form
  obtain ⟨b, off, rfl, hc⟩ := hv.at' 0 (by omega)
  subst hl
  exact ⟨⟨b, off, c, rfl, hc⟩, h2⟩
/-- where each stands, ats far ats it has been written -/
def AtL (o : List Int) (m k : Nat) (ats : List Int) : Prop :=
  ats.length = m ∧ (∀ t j : Nat, t < k → o[t]? = some (j : Int) → ats[j]?.getD 0 = ((t + 1 : Nat) : Int)) ∧ (∀ j : Nat, j < m → (∀ t, t < k → o[t]? ≠ some (j : Int)) → ats[j]?.getD 0 = 0)
theorem AtL.start (o : List Int) (m : Nat) : AtL o m 0 (List.replicate m 0) := ⟨by simp, fun t j h => by omega, fun j hj _ => by simp [hj]⟩
theorem AtL.step {o ats : List Int} {m k z : Nat} (h : AtL o m k ats) (hn : o.Nodup) (hk : o[k]? = some (z : Int)) (hz : z < m) : AtL o m (k + 1) (ats.set z ((k : Int) + 1)) := by
  obtain ⟨h1, h2, h3⟩ := h
  have hu : ∀ t : Nat, o[t]? = some (z : Int) → t = k := fun t ht => by
    exact (List.getElem?_inj (List.getElem?_eq_some_iff.1 ht).1 hn).1 (ht.trans hk.symm)
  refine ⟨by simpa using h1, fun t j ht hj => ?_, fun j hj hno => ?_⟩
  · by_cases e : t = k
    · subst e
      rw [hk] at hj
      injection hj with hj
      have : j = z := by omega
      subst this
      rw [List.getElem?_set_self (by omega)]; simp
    · have hne : z ≠ j := fun e' => e (hu t (by rw [hj, e']))
      rw [List.getElem?_set_ne hne]
      exact h2 t j (by omega) hj
  · have hne : z ≠ j := fun e' => hno k (by omega) (by rw [hk, e'])
    rw [List.getElem?_set_ne hne]
    exact h3 j hj fun t ht => hno t (by omega)
theorem AtL.fresh {o ats : List Int} {m k z : Nat} (h : AtL o m k ats) (hn : o.Nodup) (hk : o[k]? = some (z : Int)) (hz : z < m) : ats[z]?.getD 0 = 0 :=
  h.2.2 z hz fun t ht e => by
    have := (List.getElem?_inj (List.getElem?_eq_some_iff.1 e).1 hn).1 (e.trans hk.symm)
    omega
def CutPost (ms : List Nd) (w : World) (e : Ending) (W' : World) : Prop := ∃ q c, e = .returned (.slice q ms.length c) ∧ PageAt W' (.slice q ms.length c) ms ∧ Below w.heap.size w W'
theorem cut_post (lv : Value) (ns : List Nd) (w : World) (hP : PageAt w lv ns) : Calls Try.prog 12 #[lv] w (CutPost (cutP ns) w) :=
  (cut_any lv ns w hP).mono fun e W' ⟨v, he, hp, hb⟩ => by
    obtain ⟨q, c, rfl⟩ := hp.form
    exact ⟨q, c, he, hp, hb⟩
set_option maxRecDepth 100000 in
set_option maxHeartbeats 2000000 in
theorem orders_bad (lv : Value) (ns ms : List Nd) (w : World) (b : Int) (hb : b ≠ 0) (HP : Hid (PageAt w lv ns))
    (HC : Hid (∀ X v, PageAt X v ns → Calls Try.prog 12 #[v] X (CutPost ms X)))
    (HO : Hid (∀ X v, PageAt X v ms → Calls Try.prog 14 #[v] X fun e W' => e = .returned (.tuple #[.slice none 0 0, .int .i64 b]) ∧ Below X.heap.size X W'))
    (HD : Hid (∀ X v, PageAt X v ms → Calls Try.prog 15 #[v] X fun e W' => e = .returned (.tuple #[.slice none 0 0, .int .i64 b]) ∧ Below X.heap.size X W'))
    (HR : Hid (∀ X v, PageAt X v ms → Calls Try.prog 16 #[v] X fun e W' => e = .returned (.tuple #[.slice none 0 0, .int .i64 b]) ∧ Below X.heap.size X W')) :
    Calls Try.prog 5 #[lv] w fun e w' => e = .returned (.bool true) ∧ Below w.heap.size w w' := by
  have hb' : (b != 0) = true := by simpa using hb
  obtain ⟨p, cap, rfl⟩ := HP.out.form
  generalize ns.length = l0 at *
  go_enter Try.func5, Try.ntmps5
  go_wp2_with (go_at_call 10; refine (shown_any _).mono ?_; rintro e w1 ⟨rfl, hb1⟩; have HP1 := Lib.hid (HP.out.below hb1); have HB1 := Lib.hid hb1; clear hb1 HP)
  go_wp2_with (go_at_call 12; refine (HC.out _ _ HP1.out).mono ?_; rintro e w2 ⟨q, c, rfl, hp2, hb2⟩; have HP2 := Lib.hid hp2; have HB2 := Lib.hid (HB1.out.trans (hb2.mono HB1.out.size)); clear hb2 hp2 HP1 HB1 HC)
  generalize ms.length = m at *
  go_wp2_with (go_at_call 14; refine (HO.out _ _ HP2.out).mono ?_; rintro e w3 ⟨rfl, hb3⟩; have HP3 := Lib.hid (HP2.out.below hb3); have HB3 := Lib.hid (HB2.out.trans (hb3.mono HB2.out.size)); clear hb3 HP2 HB2 HO)
  go_wp2_with (go_at_call 15; refine (HD.out _ _ HP3.out).mono ?_; rintro e w4 ⟨rfl, hb4⟩; have HP4 := Lib.hid (HP3.out.below hb4); have HB4 := Lib.hid (HB3.out.trans (hb4.mono HB3.out.size)); clear hb4 HP3 HB3 HD)
  go_wp2_with (go_at_call 16; refine (HR.out _ _ HP4.out).mono ?_; rintro e w5 ⟨rfl, hb5⟩; have HB5 := Lib.hid (HB4.out.trans (hb5.mono HB4.out.size)); clear hb5 HP4 HB4 HR)
  go_ret
  exact ⟨rfl, HB5.out⟩
set_option maxRecDepth 100000 in
set_option maxHeartbeats 4000000 in
theorem orders_ok (lv : Value) (ns ms : List Nd) (w : World) (m : Nat) (o d p : List Int) (h1 : 1 ≤ m) (h2 : m ≤ 65536) (hml : ms.length = m) (G : Hid (Ords m o d p)) (HP : Hid (PageAt w lv ns))
    (HC : Hid (∀ X v, PageAt X v ns → Calls Try.prog 12 #[v] X (CutPost ms X)))
    (HO : Hid (∀ X v, PageAt X v ms → Calls Try.prog 14 #[v] X (Back m o X)))
    (HD : Hid (∀ X v, PageAt X v ms → Calls Try.prog 15 #[v] X (Back m d X)))
    (HR : Hid (∀ X v, PageAt X v ms → Calls Try.prog 16 #[v] X (Back m p X))) :
    Calls Try.prog 5 #[lv] w fun e w' => e = .returned (.bool true) ∧ Below w.heap.size w w' := by
  obtain ⟨q0, cap, rfl⟩ := HP.out.form
  generalize ns.length = l0 at *
  have hmk := make_ints m (by omega)
  have W0 := Lib.hid (fun w : World => whole_new w ((List.replicate m (0 : Int)).map (Value.int .i64)) 3 _ rfl)
  obtain ⟨zc, hzc⟩ : ∃ zc, ((List.replicate m (0 : Int)).map (Value.int .i64)).toArray = zc := ⟨_, rfl⟩
  rw [hzc] at hmk W0
  clear hzc
  go_enter Try.func5, Try.ntmps5
  go_wp2_with (go_at_call 10; refine (shown_any _).mono ?_; rintro e w1 ⟨rfl, hb1⟩; have HP1 := Lib.hid (HP.out.below hb1); have HB1 := Lib.hid hb1; clear hb1 HP)
  go_wp2_with (go_at_call 12; refine (HC.out _ _ HP1.out).mono ?_; rintro e w2 ⟨q, c, rfl, hp2, hb2⟩; have HP2 := Lib.hid hp2; have HB2 := Lib.hid (HB1.out.trans (hb2.mono HB1.out.size)); clear hb2 hp2 HP1 HB1 HC)
  subst hml
  generalize ms.length = m at *
  go_wp2_with (go_at_call 14; refine (HO.out _ _ HP2.out).mono ?_; rintro e w3 ⟨⟨bo, oo, co, rfl, ho⟩, hb3⟩; have HP3 := Lib.hid (HP2.out.below hb3); have HB3 := Lib.hid (HB2.out.trans (hb3.mono HB2.out.size)); have HO3 := Lib.hid ho; clear ho hb3 HP2 HB2 HO)
  go_wp2_with (go_at_call 15; refine (HD.out _ _ HP3.out).mono ?_; rintro e w4 ⟨⟨bd, od, cd, rfl, hd⟩, hb4⟩; have HP4 := Lib.hid (HP3.out.below hb4); have HB4 := Lib.hid (HB3.out.trans (hb4.mono HB3.out.size)); have HO4 := Lib.hid (HO3.out.below hb4 (Nat.le_refl _)); have HD4 := Lib.hid hd; clear hd hb4 HP3 HB3 HD HO3)
  go_wp2_with (go_at_call 16; refine (HR.out _ _ HP4.out).mono ?_; rintro e w5 ⟨⟨bp, op, cp, rfl, hp⟩, hb5⟩; have HB5 := Lib.hid (HB4.out.trans (hb5.mono HB4.out.size)); have HO5 := Lib.hid (HO4.out.below hb5 (Nat.le_refl _)); have HD5 := Lib.hid (HD4.out.below hb5 (Nat.le_refl _)); have HR5 := Lib.hid hp; clear hp hb5 HP4 HB4 HR HO4 HD4)
  go_loopw [11] (fun i x => ∃ k : Nat, k ≤ m ∧ i = .int .i64 k ∧ Hid (∃ ats, AtL o m k ats ∧ Whole x w5.heap.size 3 (ats.map (.int .i64))) ∧ Hid (Below w5.heap.size w5 x)) (fun i _ => m - (intOf i).toNat)
  case atStart => exact ⟨0, Nat.zero_le _, rfl, Lib.hid ⟨_, AtL.start o m, W0.out w5⟩, Lib.hid ((Below.refl _ w5).alloc (Nat.le_refl _) _)⟩
  case round =>
    obtain ⟨k, hk, rfl, HA, HB⟩ := hrel
    clear hmk W0
    by_cases hlt : k < m
    · obtain ⟨z, hz⟩ : ∃ z, o[k]? = some z := ⟨_, List.getElem?_eq_getElem (by rw [G.out.lo]; exact hlt)⟩
      have hzr := G.out.rng z (List.mem_iff_getElem?.2 ⟨k, hz⟩)
      obtain ⟨zn, rfl⟩ : ∃ zn : Nat, z = (zn : Int) := ⟨z.toNat, by omega⟩
      obtain ⟨ats, ha, hw⟩ := HA.out
      have hznm : zn < m := by omega
      have c0 := HO5.out k hlt
      rw [hz] at c0
      simp only [Option.getD_some] at c0
      have cz := (HB.out.cell (p := ⟨bo, oo + k, none⟩) (cell_lt c0)).trans c0
      have lo := Nat.lt_of_lt_of_le (cell_lt c0) HB.out.size
      have ca := (hw.cellAt zn).trans (map_int_get _ zn (by rw [ha.1]; exact hznm))
      rw [ha.fresh G.out.nd hz hznm] at ca
      have la := hw.lt
      have fa := hw.free zn
      have HA2 := Lib.hid (⟨_, ha.step G.out.nd hz hznm, by rw [List.map_set]; exact hw.set zn _⟩ : ∃ ats, AtL o m (k + 1) ats ∧ Whole (wr.setCell ⟨w5.heap.size, zn, none⟩ (.int .i64 ((k : Int) + 1))) w5.heap.size 3 (ats.map (.int .i64)))
      clear ha hw HA hz c0 hzr
      go_wp2
      go_roundw
      case rel => exact ⟨k + 1, by omega, by go_num, HA2, Lib.hid (HB.out.setCell (p := ⟨w5.heap.size, zn, none⟩) (Nat.le_refl _) _)⟩
      case measure => simp [intOf]; omega
    · obtain rfl : k = m := by omega
      obtain ⟨ats, ha, hw⟩ := HA.out
      have HW := Lib.hid hw
      have HAT := Lib.hid ha
      have HO6 := Lib.hid (HO5.out.below HB.out (Nat.le_refl _))
      have HD6 := Lib.hid (HD5.out.below HB.out (Nat.le_refl _))
      have HR6 := Lib.hid (HR5.out.below HB.out (Nat.le_refl _))
      have HB6 := Lib.hid (HB5.out.trans (HB.out.mono HB5.out.size))
      clear ha hw HA HO5 HD5 HR5
      obtain ⟨W6, rfl⟩ : ∃ W6, W6 = wr := ⟨_, rfl⟩
      go_wp2
      go_loopw [12] (fun i x => ∃ t n : Nat, 1 ≤ t ∧ t ≤ k ∧ i = .int .i64 t ∧ x = W6.drewN n) (fun i _ => k - (intOf i).toNat)
      case atStart => exact ⟨1, 0, Nat.le_refl _, h1, rfl, rfl⟩
      case round =>
        obtain ⟨t, n, ht1, ht2, rfl, rfl⟩ := hrel
        by_cases htl : t < k
        · obtain ⟨kk, hkk⟩ := List.mem_iff_getElem?.1 (G.out.all t htl)
          obtain ⟨j, q', e, hjk, hj, hqm, hpt, hdq, hdt, he⟩ := G.out.up kk t hkk ht1
          have hkm : kk < k := by have := (List.getElem?_eq_some_iff.1 hkk).1; have := G.out.lo; omega
          have a1 := HAT.out.2.1 kk t hkm hkk
          have a2 := HAT.out.2.1 j q' (by omega) hj
          have cp := HR6.out t htl
          have cd1 := HD6.out t htl
          have cd2 := HD6.out q' hqm
          have ca1 := (HW.out.cellAt t).trans (map_int_get _ t (by rw [HAT.out.1]; exact htl))
          have ca2 := (HW.out.cellAt q').trans (map_int_get _ q' (by rw [HAT.out.1]; exact hqm))
          rw [hpt] at cp; rw [hdt] at cd1; rw [hdq] at cd2; rw [a1] at ca1; rw [a2] at ca2
          have l1 := cell_lt cp
          have l2 := cell_lt cd1
          have l3 := cell_lt ca1
          have g2 : decide (k ≤ q') = false := by simp; omega
          have g3 : decide (kk ≤ j) = false := by simp; omega
          have g4 : IntKind.i64.wrap ((e : Int) + 1) = (e : Int) + 1 := by simp [IntKind.wrap, IntKind.bits, IntKind.signed]; omega
          have g5 : decide ((64 : Int) < (e : Int) + 1) = false := by simp; omega
          clear hkk hj hpt hdq hdt a1 a2
          go_wp2
          go_quiet (fail)
          go_wp2
          go_roundw
          case rel => exact ⟨t + 1, _, by omega, by omega, by go_num, rfl⟩
          case measure => simp [intOf]; omega
        · have hp0 := G.out.p0
          have hd0 := G.out.d0
          have ho0 := HAT.out.2.1 0 0 (by omega) G.out.o0
          have cp := HR6.out 0 (by omega)
          have cd := HD6.out 0 (by omega)
          have ca := (HW.out.cellAt 0).trans (map_int_get _ 0 (by rw [HAT.out.1]; omega))
          rw [hp0] at cp; rw [hd0] at cd; rw [ho0] at ca
          simp only [Option.getD_some, Nat.add_zero] at cp cd ca
          have l1 := cell_lt cp
          have l2 := cell_lt cd
          have l3 := cell_lt ca
          clear hp0 hd0 ho0
          go_wp2
          go_ret
          exact ⟨rfl, HB6.out.trans (below_dn _ _ n)⟩
set_option maxHeartbeats 1000000 in
theorem walk (w : World) (a0 : Option Addr) (len0 cap0 : Nat) (ns : List Nd) (hP : PageAt w (.slice a0 len0 cap0) ns) :
    Calls Try.prog 5 #[.slice a0 len0 cap0] w fun e w' => e = .returned (.bool true) ∧ Below w.heap.size w w' := by
  by_cases hb : (checkP (cutP ns)).2 = 0
  · have F := fine_of hb
    have O := ords F
    refine orders_ok _ ns (cutP ns) w _ _ _ _ F.len1 F.len2 rfl (Lib.hid O) (Lib.hid hP) (Lib.hid fun X v h => cut_post v ns X h) (Lib.hid fun X v h => ?_) (Lib.hid fun X v h => ?_) (Lib.hid fun X v h => ?_)
    · have := orderF_any v _ X h (cutP_kids ns); rw [hb] at this; exact this.mono fun e W' h => back_of O.lo F.len1 h
    · have := depthsF_any v _ X h (cutP_kids ns); rw [hb] at this; exact this.mono fun e W' h => back_of O.ld F.len1 h
    · have := parentsF_any v _ X h (cutP_kids ns); rw [hb] at this; exact this.mono fun e W' h => back_of O.lp F.len1 h
  · refine orders_bad _ ns (cutP ns) w _ hb (Lib.hid hP) (Lib.hid fun X v h => cut_post v ns X h) (Lib.hid fun X v h => ?_) (Lib.hid fun X v h => ?_) (Lib.hid fun X v h => ?_)
    · exact (orderF_any v _ X h (cutP_kids ns)).mono fun e W' h => ⟨by have := h.1; rwa [if_neg hb] at this, h.2⟩
    · exact (depthsF_any v _ X h (cutP_kids ns)).mono fun e W' h => ⟨by have := h.1; rwa [if_neg hb] at this, h.2⟩
    · exact (parentsF_any v _ X h (cutP_kids ns)).mono fun e W' h => ⟨by have := h.1; rwa [if_neg hb] at this, h.2⟩

set_option maxRecDepth 100000 in
theorem lifted (os : Os) (started : os.Started) (H : Type) (enc : TypeId × Value → H) :
    ReturnsInHanded {} Try.checked os 5 .any (Rows.treeOrdersSpec.pre6 enc Try.prog Try.f5 Rows.treeOrdersRow.domain false) (Rows.treeOrdersSpec.post enc Try.prog Try.f5 false true false false) := by
  refine returnsInHanded_of_change (C := Try.checked) own started (by kernel_rfl) Try.func5
    (ChangeSpec.witness6 (enc := enc) (C := Try.checked) false ⟨#[], #[.slice none 0 0], []⟩ 8 (by kernel_rfl) (by kernel_rfl) (by kernel_rfl) (by kernel_rfl)) ?_
  intro W base args ds gs before hval0 hW hcnd _
  have hval : ∀ (j : Nat) t v, Try.f5.params[j]? = some t → args[j]? = some v → Value.okWide Try.prog W .any base t v := hval0
  have hW' := hW
  obtain ⟨p, q, hA0, hV, rfl, hfz, hnd⟩ := hW
  have hA : DataW.TrodAll enc Try.prog W 0 (fun _ => true) true Try.f5.params.toList args.toList ds p := hA0
  rw [Try.params5] at hA hval
  obtain ⟨v0, vs0, d0, ds0, p0, q0, hargs, rfl, rfl, h0, r0⟩ := trodAll_cons hA
  obtain ⟨rfl, rfl, rfl⟩ := trodAll_nil r0
  obtain rfl : args = #[v0] := by cases args; simp_all
  obtain ⟨rfl, rfl⟩ := trodVars_none hV
  obtain ⟨a0, len0, cap0, rfl⟩ := okWide_slice Try.underlying22 (hval 0 22 v0 rfl rfl)
  have k0 := h0
  have lt0 : ∀ x ∈ p0, x.block < W.heap.size := by obtain ⟨m, hm⟩ := k0; exact DataW.trod_lt m _ _ _ hm
  obtain ⟨z0, w0⟩ : ∃ ns, PageAt W (.slice a0 len0 cap0) ns := by
    obtain ⟨fuel, hf⟩ := h0
    obtain ⟨ns, hn, _⟩ := open_nodes (by simpa [Value.cells] using hf)
    exact ⟨ns, hn⟩
  clear hA0 hval0
  simp only [List.append_nil] at hW'
  refine (walk W a0 len0 cap0 z0 w0).mono fun e W' ⟨he, hg⟩ => ?_
  subst he
  exact ⟨_, rfl, _, _, _, [], _, [], hW', (trodAll_cons_mk (shut_bool Try.underlying4 _) trodAll_mk0), (trodAll_cons_mk (Below.trod laidOut (by kernel_rfl) (of_decide_eq_true (by kernel_rfl)) k0 hg lt0) trodAll_mk0), rfl, hg.frame _, fun h => by cases h⟩

theorem over : Rows.treeOrdersRow.holds Try.pinned (OpenSpec.ofChange Rows.treeOrdersSpec) :=
  OpenClaim.holds_of_wide 5 Try.f5 rfl rfl rfl rfl rfl rfl rfl ⟨rfl, rfl, rfl, rfl, rfl⟩ rfl rfl rfl rfl rfl (by kernel_rfl) Try.func5 (by kernel_rfl)
    (of_decide_eq_true (by kernel_rfl)) (by unfold Func.isWrapper; first | (rw [if_pos (by decide +kernel)]; kernel_rfl) | (rw [if_neg (by decide +kernel)]; exact ⟨rfl, rfl⟩))
    (fun os started H enc _ => lifted os started H enc)

/-- the statement -/
theorem proved : Rows.TreeOrdersSaid :=
  over
#print axioms proved
end Go.Proofs.Ytddbjfcdmilmkaa.treeOrders
