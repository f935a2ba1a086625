/- The document's Computed of a page, and its Depths and Parents. -/
import Derived.Test.YtilighhccjdceaaTRefDep
import Derived.Test.YtilighhccjdceaaSRefComp
import Derived.Test.YtilighhccjdceaaTComp
import Derived.Test.YtilighhccjdceaaTCut
namespace Go.Proofs.Ytilighhccjdceaa
open Go.RowKit Go.Shelf
set_option linter.unusedVariables false
set_option linter.unusedSimpArgs false
attribute [local go_sem] Oper.semAt_some

/-- a node, its style computed -/
def compQ (n : Nd) : Nd := { n with s := compS n.s }
theorem refcomp_call (s : Sty) (hv : validS s = true) (X : World) : Calls Try.prog 43 #[.agg s.cells.toArray] X fun e W' => e = .returned (.tuple #[.agg (compS s).cells.toArray, .int .i64 0]) ∧ Below X.heap.size X W' := by
  have hR : compR s = .tuple #[(compS s).val, .int .i64 0] := by unfold compR; rw [hv]; rfl
  refine (refComp_ok s X hv).mono ?_
  rintro e W' ⟨rfl, hb⟩
  rw [hR]
  exact ⟨rfl, hb⟩
theorem compQ_ok {n : Nd} {W : World} (h : n.ok W) : (compQ n).ok W := h
set_option maxRecDepth 100000 in
set_option maxHeartbeats 2000000 in
theorem refComputed_at (p : Option Addr) (m cap : Nat) (ns : List Nd) (w : World) (hm : ns.length = m) (hm2 : m ≤ 65536) (hP : PageAt w (.slice p m cap) ns) (hv : ∀ n ∈ ns, validS n.s = true) :
    Calls Try.prog 20 #[.slice p m cap] w fun e W' => ∃ v, e = .returned v ∧ PageAt W' v (ns.map compQ) ∧ Below w.heap.size w W' := by
  have HP := Lib.hid hP
  have HM := Lib.hid hm
  have HV := Lib.hid hv
  clear hP hm hv
  cases hi0 : Try.prog.info? 51 with
  | none => have := Try.infoNd2; rw [hi0] at this; cases this
  | some i0 =>
  have hq := Try.infoNd2
  rw [hi0] at hq
  simp only [Option.map_some, Option.some.injEq, Prod.mk.injEq] at hq
  obtain ⟨hz0, hz1, hz2⟩ := hq
  have HZ0 := Lib.hid hz0
  clear hz0
  go_enter Try.func20, Try.ntmps20
  go_wp2
  go_loopw [3, 4] (fun v i x => ∃ k : Nat, k ≤ m ∧ i = .int .i64 k ∧ Hid (x.ownsRow w.heap.size 51 34 v k (flatN ((ns.take k).map compQ))) ∧ Hid (Below w.heap.size w x)) (fun _ i _ => m - (intOf i).toNat)
  case atStart => exact ⟨0, Nat.zero_le _, rfl, Lib.hid (World.ownsRow_nil _ _ _ _), Lib.hid (Below.refl _ _)⟩
  case round =>
    obtain ⟨k, hk, rfl, HO, HB⟩ := hrel
    by_cases hlt : k < m
    · obtain ⟨b, off, rfl, hc⟩ := page_some HP.out (by rw [HM.out]; omega)
      obtain ⟨n, hn⟩ : ∃ n, ns[k]? = some n := ⟨_, List.getElem?_eq_getElem (by rw [HM.out]; exact hlt)⟩
      have hmem : n ∈ ns := List.mem_iff_getElem?.2 ⟨k, hn⟩
      have hok := HP.out.2.1 n hmem
      have LN := Lib.hid ((hc k n hn).below HB.out).load
      have iN := Lib.hid (nd_info n)
      have oN := Lib.hid (nd_one n w hok)
      have zN : Hid (Nd.zero.cells.toArray.size = n.cells.toArray.size) := Lib.hid (by simp [Nd.len])
      have HOK := Lib.hid hok
      have SN : Hid ((ns.take (k + 1)).map compQ = (ns.take k).map compQ ++ [compQ n]) := Lib.hid (by rw [List.take_add_one, hn]; simp)
      obtain ⟨cs, hcs⟩ : ∃ cs, n.cells.toArray = cs := ⟨_, rfl⟩
      rw [hcs] at LN iN oN zN
      have HCE := Lib.hid hcs
      have hz0 : w.heap.size ≤ wr.heap.size := HB.out.size
      have CC := Lib.hid (refcomp_call n.s (HV.out n hmem))
      have SL : Hid (∀ X, Whole X wr.heap.size 51 n.cells → ∀ j v, n.s.cells.toArray[j]? = some v → X.cell? ((⟨wr.heap.size, 2, none⟩ : Addr).add j) = some v) := Lib.hid fun X hX j v hj => (NdAt.whole hX).style j v hj
      have iS := Lib.hid (sty_info' n.s)
      have iT := Lib.hid (sty_info' (compS n.s))
      have oT := Lib.hid (cells_one (compS n.s))
      have zT : Hid (Sty.zero.cells.toArray.size = (compS n.s).cells.toArray.size) := Lib.hid rfl
      have TH : Hid (∀ Y, Whole Y wr.heap.size 51 n.cells → Y.there wr.heap.size 2 (compS n.s).cells.toArray.size) := Lib.hid fun Y hY => there_style hY _
      have WS : Hid (∀ Y, Whole Y wr.heap.size 51 n.cells → Whole (Y.setCells wr.heap.size 2 (compS n.s).cells.toArray.toList) wr.heap.size 51 (compQ n).cells) := Lib.hid fun Y hY => whole_style hY _
      have TL : Hid (∀ Z g, Whole Z g 48 (compS n.s).cells → ∀ j v, (compS n.s).cells.toArray[j]? = some v → Z.cell? ((⟨g, 0, none⟩ : Addr).add j) = some v) := Lib.hid fun Z g hZ j v hj => by rw [add_plain, Nat.zero_add, hZ.cellAt]; simpa using hj
      obtain ⟨sc, hsc⟩ : ∃ sc, n.s.cells.toArray = sc := ⟨_, rfl⟩
      obtain ⟨tc, htc⟩ : ∃ tc, (compS n.s).cells.toArray = tc := ⟨_, rfl⟩
      rw [hsc] at CC SL iS
      rw [htc] at CC iT oT zT TH WS TL
      have HTE := Lib.hid htc
      clear hsc htc
      obtain ⟨ccs, hccs⟩ : ∃ ccs, (compQ n).cells.toArray = ccs := ⟨_, rfl⟩
      have LC : Hid (∀ V, Whole V wr.heap.size 51 (compQ n).cells → ∀ j v, ccs[j]? = some v → V.cell? ((⟨wr.heap.size, 0, none⟩ : Addr).add j) = some v) := Lib.hid fun V hV j v hj => by
        rw [← hccs] at hj; exact (NdAt.whole hV).load j v hj
      have iC : Hid ((Try.prog.info? 51).map (·.size) = some ccs.size) := Lib.hid (by rw [← hccs]; exact nd_info (compQ n))
      have oC : Hid (ccs.all (·.oneCell') = true) := Lib.hid (by rw [← hccs]; exact nd_one (compQ n) w (compQ_ok HOK.out))
      have HCN := Lib.hid hccs
      have OW : Hid (∀ X, Below wr.heap.size wr X → X.ownsRow w.heap.size 51 34 u3 k (flatN ((ns.take k).map compQ))) := Lib.hid fun X hX => own_same34 HO.out fun g e => hX.block g (HO.out.lt g e).2
      have hcsz : ccs.size = 34 := by rw [← hccs]; simp [Nd.len]
      have hfill := copy_fill ccs hcsz
      clear hccs hcs hn hmem hok hc
      go_wp2_with (first
        | (refine wpList_load_at rfl 51 (.tmp 16) rfl _ rfl cs _ LN.out Try.underlying51 rfl iN.out ?_)
        | (refine wpList_store_row rfl 51 (.tmp 5) (.tmp 17) rfl _ cs rfl rfl 51 Nd.zero.cells.toArray (whole_new wr Nd.zero.cells 51 _ rfl) iN.out zN.out oN.out ?_; refine at_world (fun X => Whole X wr.heap.size 51 n.cells ∧ Below wr.heap.size wr X) ⟨by rw [← HCE.out]; exact whole_row (whole_new wr Nd.zero.cells 51 _ rfl) _, ((Below.refl _ wr).alloc (Nat.le_refl _) _).trans (below_row _ _ _ (Nat.le_refl _))⟩ (fun X hX => ?_); obtain ⟨KX, BX⟩ := hX; have KXX := Lib.hid KX; have BXX := Lib.hid BX; clear KX BX LN oN zN)
        | (refine wpList_load_at rfl 48 (.tmp 19) rfl _ rfl sc _ (SL.out X KXX.out) Try.underlying48 rfl iS.out ?_)
        | (go_at_call 43; refine (CC.out X).mono ?_; clear CC; rintro e Y ⟨rfl, hbY⟩; have KY := Lib.hid (KXX.out.below hbY KXX.out.lt); have BY := Lib.hid (BXX.out.trans (hbY.mono BXX.out.size)); clear hbY SL)
        | (refine wpList_store_row rfl 48 (.tmp 6) (.tmp 22) rfl _ tc rfl rfl 48 Sty.zero.cells.toArray (whole_new Y Sty.zero.cells 48 _ rfl) iT.out zT.out oT.out ?_; refine at_world (fun Z => Whole Z wr.heap.size 51 n.cells ∧ Whole Z Y.heap.size 48 (compS n.s).cells ∧ Below wr.heap.size wr Z) ⟨whole_row_other (KY.out.alloc _) _ _ (by have := KY.out.lt; omega), by rw [← HTE.out]; exact whole_row (whole_new Y Sty.zero.cells 48 _ rfl) _, (BY.out.alloc BY.out.size _).trans (below_row _ _ _ BY.out.size)⟩ (fun Z hZ => ?_); obtain ⟨kz, tz, bz⟩ := hZ; have KZ := Lib.hid kz; have TZ := Lib.hid tz; have BZ := Lib.hid bz; clear kz tz bz zT)
        | (refine wpList_load_at rfl 48 (.tmp 6) rfl _ rfl tc _ (TL.out Z _ TZ.out) Try.underlying48 rfl iT.out ?_)
        | (refine wpList_store_mid rfl 48 (.tmp 25) (.tmp 24) rfl wr.heap.size 2 tc rfl rfl (TH.out Z KZ.out) iT.out oT.out ?_; refine at_world (fun V => Whole V wr.heap.size 51 (compQ n).cells ∧ Below wr.heap.size wr V) ⟨WS.out Z KZ.out, below_setCells (Nat.le_refl _) _ _ _ BZ.out⟩ (fun V hV => ?_); obtain ⟨kv, bv⟩ := hV; have KV := Lib.hid kv; have BV := Lib.hid bv; clear kv bv TH WS oT)
        | (refine wpList_load_at rfl 51 (.tmp 5) rfl _ rfl ccs _ (LC.out V KV.out) Try.underlying51 rfl iC.out ?_)
        | (at_builtin; refine wpList_append_own_at _ rfl _ _ 22 rfl w.heap.size 51 i0 (.agg Nd.zero.cells.toArray) 34 288 Try.underlying22 hi0 HZ0.out hz1 hz2 nd_size0 (by decide) _ _ _ rfl ((OW.out V BV.out).alloc _) ⟨V.heap.size, 0, none⟩ 1 1 (compQ n).cells rfl ?c0 ?c1 ?c2 ?c3 ?c4 ?c5 ?_))
      case c0 => rw [Nd.len]
      case c1 =>
        intro j u hj
        have h := HCN.out
        simp only [← h]
        first
          | (simpa using hj)
          | (exact list_new _ (compQ n).cells _ _ (by simp) j u hj)
      case c2 =>
        intro u hu
        have h := oC.out
        rw [← HCN.out] at h
        exact (Array.all_eq_true_iff_forall_mem.1 h) u (by simpa using hu)
      case c3 => unfold maxLen; omega
      case c4 => omega
      case c5 => first | (simp; have := BV.out.size; omega) | (have := BV.out.size; omega)
      intro v' W7 hown7 hgrow7 _ hat7
      have hO7 : Hid (W7.ownsRow w.heap.size 51 34 v' (k + 1) (flatN ((ns.take (k + 1)).map compQ))) := Lib.hid (by rw [SN.out, flatN_snoc]; simpa using hown7)
      have hB7 : Hid (Below w.heap.size w W7) := Lib.hid (((HB.out.trans (BV.out.mono hz0)).alloc (by have := BV.out.size; omega) _).grown hgrow7 (by simp; have := BV.out.size; omega) (fun g e => (HO.out.lt g e).1))
      clear hown7 hgrow7 hat7
      go_wp2
      go_roundw
      case rel => exact ⟨k + 1, by omega, by go_num, hO7, hB7⟩
      case measure => (simp [intOf]; try omega)
    · obtain rfl : m = k := by omega
      have hpg : PageAt wr u3 (ns.map compQ) := by
        have h := HO.out
        rw [List.take_of_length_le (by rw [HM.out]; exact Nat.le_refl _)] at h
        exact own_page h fun nd hnd => by
          obtain ⟨a, ha, rfl⟩ := List.mem_map.1 hnd
          exact compQ_ok ((HP.out.2.1 a ha).below HB.out)
      have HPG := Lib.hid hpg
      obtain ⟨p3, c3, rfl⟩ := hpg.form
      clear hpg HO
      go_wp2
      go_ret
      exact ⟨_, rfl, HPG.out, HB.out⟩
/-- the document's Depths and Parents -/
theorem refDepthsF (b off cap m : Nat) (ns : List Nd) (w : World) (F : NoStray ns) (hm : ns.length = m) (h2 : m ≤ 65536) (hP : PageAt w (.slice (some ⟨b, off, none⟩) m cap) ns) (hK : ∀ n ∈ ns, n.ks.length ≤ 70000) :
    Calls Try.prog 17 #[.slice (some ⟨b, off, none⟩) m cap] w fun e W' => ∃ v, e = .returned v ∧ Ints W' v (depthsP ns) ∧ Below w.heap.size w W' := by
  have H := Lib.hid (refDepths_at b off cap m ns w F hm h2 hP hK)
  have HL : Hid ((depthsP ns).length = m) := Lib.hid (by unfold depthsP; rw [depL_len]; exact hm)
  clear hP F hK hm
  go_enter Try.func17, Try.ntmps17
  go_wp2_with (go_at_call 38; refine H.out.mono ?_; clear H; rintro e w1 ⟨rfl, k1, b1⟩; have K1 := Lib.hid (Ints.whole (t := 3) k1 HL.out (by omega)); have B1 := Lib.hid b1; clear k1 b1)
  go_ret
  exact ⟨_, rfl, K1.out, B1.out⟩
theorem refParentsF (b off cap m : Nat) (ns : List Nd) (w : World) (hm : ns.length = m) (h1 : 1 ≤ m) (h2 : m ≤ 65536) (hP : PageAt w (.slice (some ⟨b, off, none⟩) m cap) ns) (hK : ∀ n ∈ ns, n.ks.length ≤ 70000) (hL : ∀ n ∈ ns, ∀ z ∈ n.ks, 1 ≤ z ∧ z < (m : Int)) :
    Calls Try.prog 18 #[.slice (some ⟨b, off, none⟩) m cap] w fun e W' => ∃ v, e = .returned v ∧ Ints W' v (parentsP ns) ∧ Below w.heap.size w W' := by
  have H := Lib.hid (refParents_at b off cap m ns w hm h1 h2 hP hK hL)
  have HL : Hid ((parentsP ns).length = m) := Lib.hid (by unfold parentsP; rw [parL_len]; exact hm)
  clear hP hK hm hL
  go_enter Try.func18, Try.ntmps18
  go_wp2_with (go_at_call 41; refine H.out.mono ?_; clear H; rintro e w1 ⟨rfl, k1, b1⟩; have K1 := Lib.hid (Ints.whole (t := 3) k1 HL.out (by omega)); have B1 := Lib.hid b1; clear k1 b1)
  go_ret
  exact ⟨_, rfl, K1.out, B1.out⟩
end Go.Proofs.Ytilighhccjdceaa
