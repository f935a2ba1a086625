/- Nodes that were there keep their places, kinds, words and order; new ones have no style: for every page. -/
import Derived.Test.YtilighhccjdceaaRows
import Derived.WalkKit
import Derived.ProofKit
import Derived.OpenShut
import Derived.Below
import Derived.Test.YtilighhccjdceaaFStill
import Derived.ShutString
namespace Go.Proofs.Ytilighhccjdceaa.fixupKeeps
open Go.ChangeShapes Go.WideShapes Go.ChangeAt Go.RowKit
set_option linter.unusedVariables false

theorem own : ownKnob Try.prog.godebug = none := by kernel_rfl
theorem laidOut : laidOutB Try.prog = true := by kernel_rfl

theorem page_nd {W : World} {q : Option Addr} {m c : Nat} {ns : List Nd} (h : PageAt W (.slice q m c) ns) (hm : 1 ≤ m) : ∃ b off, q = some ⟨b, off, none⟩ ∧ ns.length = m ∧ b < W.heap.size ∧ ∀ i n, ns[i]? = some n → NdAt W b (off + i * 34) n ∧ n.ok W := by
  have hlt : ∃ b off, q = some ⟨b, off, none⟩ ∧ ns.length = m ∧ ∀ i n, ns[i]? = some n → NdAt W b (off + i * 34) n ∧ n.ok W := by
    obtain ⟨_, h2, ⟨a, cap, e, rfl⟩ | ⟨b, off, cap, e, hc⟩⟩ := h
    · injection e with _ e; omega
    · injection e with e1 e2 e3
      exact ⟨b, off, e1, e2.symm, fun i n hn => ⟨hc i n hn, h2 n (List.mem_iff_getElem?.2 ⟨i, hn⟩)⟩⟩
  obtain ⟨b, off, e1, e2, hc⟩ := hlt
  obtain ⟨n, hn⟩ : ∃ n, ns[0]? = some n := ⟨_, List.getElem?_eq_getElem (by omega)⟩
  exact ⟨b, off, e1, e2, cell_lt ((hc 0 n hn).1 0 _ n.c0), hc⟩
set_option maxRecDepth 100000 in
set_option maxHeartbeats 2000000 in
theorem keeps_bad (lv : Value) (ns ms : List Nd) (w : World) (b : Int) (hb : b ≠ 0) (HP : Hid (PageAt w lv ns))
    (HC : Hid (∀ X v, PageAt X v ns → Calls Try.prog 9 #[v] X (CutPost ms X)))
    (HO : Hid (∀ X v, PageAt X v ms → Calls Try.prog 22 #[v] X fun e W' => e = .returned (.tuple #[.slice none 0 0, .int .i64 b]) ∧ Below X.heap.size X W')) :
    Calls Try.prog 6 #[lv] w fun e w' => e = .returned (.bool true) ∧ Below w.heap.size w w' := by
  have hb' : (b != 0) = true := by simpa using hb
  obtain ⟨p, cap, rfl⟩ := HP.out.form
  generalize ns.length = l0 at *
  go_enter Try.func6, Try.ntmps6
  go_wp2_with (go_at_call 21; refine (shown5_any _).mono ?_; rintro e w1 ⟨rfl, hb1⟩; have HP1 := Lib.hid (HP.out.below hb1); have HB1 := Lib.hid hb1; clear hb1 HP)
  go_wp2_with (go_at_call 9; refine (HC.out _ _ HP1.out).mono ?_; rintro e w2 ⟨q, c, rfl, hp2, hb2⟩; have HP2 := Lib.hid hp2; have HB2 := Lib.hid (HB1.out.trans (hb2.mono HB1.out.size)); clear hb2 hp2 HP1 HB1 HC)
  generalize ms.length = m at *
  go_wp2_with (go_at_call 22; refine (HO.out _ _ HP2.out).mono ?_; rintro e w3 ⟨rfl, hb3⟩; have HB3 := Lib.hid (HB2.out.trans (hb3.mono HB2.out.size)); clear hb3 HP2 HB2 HO)
  go_ret
  exact ⟨rfl, HB3.out⟩
set_option maxRecDepth 100000 in
set_option maxHeartbeats 4000000 in
theorem keeps_good (lv : Value) (ns ms : List Nd) (w : World) (F : Hid (Fine ms)) (K : Hid (∀ n ∈ ms, n.ks.length ≤ 70000 ∧ n.ws.length ≤ 70000)) (hml : ms.length ≤ 150) (HP : Hid (PageAt w lv ns))
    (HC : Hid (∀ X v, PageAt X v ns → Calls Try.prog 9 #[v] X (CutPost ms X))) :
    Calls Try.prog 6 #[lv] w fun e w' => e = .returned (.bool true) ∧ Below w.heap.size w w' := by
  have HO : Hid (∀ (X : World) (v : Value), PageAt X v ms → Calls Try.prog 22 #[v] X (FixForm ms X)) := Lib.hid fun X v hp => fix_form v ms X hp K.out F.out
  have HA : Hid (∀ ns3 : List Nd, ns3.map Nd.bare = fixPg ms → AgainP ms ns3) := Lib.hid fun ns3 hb => again_of F.out (fun n hn => (K.out n hn).1) hml hb
  have HF1 := Lib.hid F.out.len1
  obtain ⟨p, cap, rfl⟩ := HP.out.form
  generalize ns.length = l0 at *
  go_enter Try.func6, Try.ntmps6
  go_wp2_with (go_at_call 21; refine (shown5_any _).mono ?_; rintro e w1 ⟨rfl, hb1⟩; have HP1 := Lib.hid (HP.out.below hb1); have HB1 := Lib.hid hb1; clear hb1 HP)
  go_wp2_with (go_at_call 9; refine (HC.out _ _ HP1.out).mono ?_; rintro e w2 ⟨q, c, rfl, hp2, hb2⟩; have HP2 := Lib.hid hp2; have HB2 := Lib.hid (HB1.out.trans (hb2.mono HB1.out.size)); clear hb2 hp2 HP1 HB1 HC)
  obtain ⟨m, hm⟩ : ∃ m, ms.length = m := ⟨_, rfl⟩
  have hm1 := HF1.out
  rw [hm] at hml HP2 hm1 ⊢
  have HM := Lib.hid hm
  clear hm
  go_wp2_with (go_at_call 22; refine (HO.out _ _ HP2.out).mono ?_; rintro e w3 ⟨q3, c3, ns3, rfl, hp3, hb3, hB3⟩; obtain ⟨m3, hm3⟩ : ∃ m3, ns3.length = m3 := ⟨_, rfl⟩; rw [hm3] at hp3 ⊢; have HP3 := Lib.hid hp3; have HP4 := Lib.hid (HP2.out.below hB3); have A3 := Lib.hid (HA.out ns3 hb3); have KO := Lib.hid (keeps_of F.out (fun n hn => (K.out n hn).1) hb3); have ME := Lib.hid (met_of F.out hb3); have TR3 : Hid (Tr ns3) := Lib.hid (Tr.unbare (by rw [hb3]; exact F.out.tr.comp.iter _)); have HB3 := Lib.hid (HB2.out.trans (hB3.mono HB2.out.size)); have hmore := KO.out.1; have hm2 := A3.out.len2; rw [hm3] at hmore hm2; rw [HM.out] at hmore; have HM3 := Lib.hid hm3; have glt : decide (m3 < m) = false := (by simp; omega); clear hb3 HP2 HB2 HO hp3 hB3 HA hm3)
  obtain ⟨b, off, rfl, _, hb0, hcl⟩ := page_nd HP4.out hm1
  obtain ⟨b3, off3, rfl, _, hb3, hc3⟩ := page_nd HP3.out (by omega)
  have HC2 := Lib.hid hcl
  have HC3 := Lib.hid hc3
  clear hcl hc3
  go_wp2
  go_loopw [6] (fun s7 X => ∃ i : Nat, i ≤ m ∧ s7 = .int .i64 i ∧ Hid (Below w3.heap.size w3 X)) (fun s7 _ => m - (intOf s7).toNat)
  case atStart => exact ⟨0, by omega, rfl, Lib.hid (Below.refl _ _)⟩
  case round =>
    obtain ⟨i, hi, rfl, HB⟩ := hrel
    by_cases hlt : i < m
    · obtain ⟨n0, hn0⟩ : ∃ n, ms[i]? = some n := ⟨_, List.getElem?_eq_getElem (by rw [HM.out]; exact hlt)⟩
      obtain ⟨n3, hn3⟩ : ∃ n, ns3[i]? = some n := ⟨_, List.getElem?_eq_getElem (by rw [HM3.out]; omega)⟩
      obtain ⟨d0, ok0⟩ := HC2.out i n0 hn0
      obtain ⟨d3, ok3⟩ := HC3.out i n3 hn3
      have ho := (KO.out.2 i n3 hn3).1 n0 hn0
      obtain ⟨q0, k0, e0⟩ := ok0.2.1.form
      obtain ⟨q9, k9, e9⟩ := ok3.2.1.form
      rw [ho.ws] at e9
      obtain ⟨wl, hwl⟩ : ∃ wl, n0.ws.length = wl := ⟨_, rfl⟩
      rw [hwl] at e0 e9
      obtain ⟨kd, hkd⟩ : ∃ kd, n0.k = kd := ⟨_, rfl⟩
      obtain ⟨hh, hhh⟩ : ∃ hh, n0.h = hh := ⟨_, rfl⟩
      have x0 : wr.cell? ⟨b, off + i * 34, none⟩ = some (.int .i64 kd) := by
        rw [← hkd]; exact (HB.out.cell (p := ⟨b, off + i * 34, none⟩) hb0).trans (d0 0 _ n0.c0)
      have x31 : wr.cell? ⟨b, off + i * 34 + 31, none⟩ = some (.slice q0 wl k0) := by
        rw [← e0]; exact (HB.out.cell (p := ⟨b, off + i * 34 + 31, none⟩) hb0).trans (d0 31 _ n0.c31)
      have x33 : wr.cell? ⟨b, off + i * 34 + 33, none⟩ = some (.int .i64 hh) := by
        rw [← hhh]; exact (HB.out.cell (p := ⟨b, off + i * 34 + 33, none⟩) hb0).trans (d0 33 _ n0.c33)
      have y0 : wr.cell? ⟨b3, off3 + i * 34, none⟩ = some (.int .i64 kd) := by
        rw [← hkd, ← ho.k]; exact (HB.out.cell (p := ⟨b3, off3 + i * 34, none⟩) hb3).trans (d3 0 _ n3.c0)
      have y31 : wr.cell? ⟨b3, off3 + i * 34 + 31, none⟩ = some (.slice q9 wl k9) := by
        rw [← e9]; exact (HB.out.cell (p := ⟨b3, off3 + i * 34 + 31, none⟩) hb3).trans (d3 31 _ n3.c31)
      have y33 : wr.cell? ⟨b3, off3 + i * 34 + 33, none⟩ = some (.int .i64 hh) := by
        rw [← hhh, ← ho.h]; exact (HB.out.cell (p := ⟨b3, off3 + i * 34 + 33, none⟩) hb3).trans (d3 33 _ n3.c33)
      have him3 : i < m3 := by omega
      clear d0 d3 ok0 ok3 ho e0 e9 hwl hkd hhh hn0 hn3
      have b1 : (kd != kd) = false := by simp
      have b2 : (hh != hh) = false := by simp
      have b4 : (wl != wl) = false := by simp
      have b5 : ((wl : Int) != (wl : Int)) = false := by simp
      have ls := HB.out.size
      go_wp2
      go_quiet (fail)
      have bU := below_dn wr.heap.size wr nq
      have HBU := Lib.hid (HB.out.trans (bU.mono ls))
      clear bU
      go_wp2
      go_roundw
      case rel => exact ⟨i + 1, by omega, by go_num, HBU⟩
      case measure => simp [intOf]; omega
    · obtain rfl : i = m := by omega
      have ls0 := HB.out.size
      go_wp2
      go_loopw [7] (fun s7 X => ∃ j : Nat, i ≤ j ∧ j ≤ m3 ∧ s7 = .int .i64 j ∧ Hid (Below w3.heap.size w3 X)) (fun s7 _ => m3 - (intOf s7).toNat)
      case atStart => exact ⟨i, by omega, by omega, rfl, HB⟩
      case round =>
        obtain ⟨j, hij, hj, rfl, HBJ⟩ := hrel
        by_cases hjl : j < m3
        · obtain ⟨n3, hn3⟩ : ∃ n, ns3[j]? = some n := ⟨_, List.getElem?_eq_getElem (by rw [HM3.out]; exact hjl)⟩
          obtain ⟨d3, ok3⟩ := HC3.out j n3 hn3
          have ho := (KO.out.2 j n3 hn3).2 (by rw [HM.out]; exact hij)
          obtain ⟨q9, k9, e9⟩ := ok3.1.form
          obtain ⟨kl, hkl⟩ : ∃ kl, n3.ks.length = kl := ⟨_, rfl⟩
          have hkl1 : 1 ≤ kl := by rw [← hkl]; exact List.length_pos_iff.2 ho.ks
          rw [hkl] at e9
          obtain ⟨kd, hkd⟩ : ∃ kd, n3.k = kd := ⟨_, rfl⟩
          have hk3 := ho.k
          rw [hkd] at hk3
          have y0 : wr.cell? ⟨b3, off3 + j * 34, none⟩ = some (.int .i64 kd) := by
            rw [← hkd]; exact (HBJ.out.cell (p := ⟨b3, off3 + j * 34, none⟩) hb3).trans (d3 0 _ n3.c0)
          have y1 : wr.cell? ⟨b3, off3 + j * 34 + 1, none⟩ = some (.slice q9 kl k9) := by
            rw [← e9]; exact (HBJ.out.cell (p := ⟨b3, off3 + j * 34 + 1, none⟩) hb3).trans (d3 1 _ n3.c1)
          have hst := (d3.below (HBJ.out)).style
          rw [ho.s] at hst
          have HST := Lib.hid hst
          clear hst d3 ok3 ho e9 hkl hkd hn3
          obtain ⟨nc, hnc⟩ : ∃ nc, newSty.cells.toArray = nc := ⟨_, rfl⟩
          have HNC := Lib.hid hnc
          have iS : Hid ((Try.prog.info? 48).map (·.size) = some nc.size) := Lib.hid (by rw [← hnc]; exact sty_info' newSty)
          have gkl : ((kl : Int) == 0) = false := by simp; omega
          have lb3 : b3 < wr.heap.size := cell_lt y0
          rw [hnc] at HST
          clear hnc
          rcases hk3 with rfl | rfl | rfl
          all_goals
            go_wp2_with (first
              | (refine wpList_load_at rfl 48 (.tmp 80) rfl _ rfl nc _ HST.out Try.underlying48 rfl iS.out ?_)
              | (refine wpList_bin rfl .neq 48 48 (.tmp 81) (.tmp 82) rfl _ _ (.bool false) rfl rfl (by rw [← HNC.out]; kernel_rfl) (by rw [← HNC.out]; kernel_rfl) ?_))
            go_roundw
            case rel => exact ⟨j + 1, by omega, by omega, by go_num, HBJ⟩
            case measure => (simp [intOf]; try omega)
        · obtain rfl : m3 = j := by omega
          obtain ⟨f, hf1, hf2⟩ := ME.out
          obtain ⟨W, hW⟩ : ∃ W, (walkL ms.length (kfOf ms)).map Prod.fst = W := ⟨_, rfl⟩
          have hWl : W.length ≤ i := by rw [← hW, (ords F.out).lo, HM.out]; exact Nat.le_refl _
          rw [hW, HM.out] at hf2
          have hmet := met_rec b3 off3 c3 m3 i ns3 wr HM3.out (by omega) (by rw [← HM3.out]; exact A3.out.len2) (by omega) (HP3.out.below HBJ.out) (fun n hn => (A3.out.few n hn).1) (fun n hn z hz => by have := TR3.out.link n hn z hz; rw [HM3.out] at this; omega) f 0 [] (.slice none 0 0) wr (by omega) (by omega) hf1 (by rw [hf2]; simpa using hWl) (Below.refl _ _) (World.ownsRow_nil _ _ _ _)
          rw [hf2, List.nil_append] at hmet
          have HMET := Lib.hid hmet
          have HORD : Hid (∀ X : World, Below w3.heap.size w3 X → Calls Try.prog 16 #[.slice (some ⟨b, off, none⟩) i c] X (OrdPost X W)) := Lib.hid fun X hX => by
            have h := refOrder_any _ ms X (HP4.out.below hX) F.out.len1 F.out.len2 (fun n hn => (K.out n hn).1) (fun n hn z hz => by have := F.out.link n hn z hz; omega)
            rw [ord_walk F.out.tr.toTr0 F.out.len1, hW] at h
            exact h
          have HBJ2 := Lib.hid HBJ.out
          clear hmet hf1 hf2 hW hWl ME
          go_wp2_with (go_at_call 26; refine HMET.out.mono ?_; clear HMET; rintro e w4 ⟨v4, rfl, o4, b4⟩; have I4 := Lib.hid (ints_own o4).1; have B4 := Lib.hid (HBJ2.out.trans (b4.mono HBJ2.out.size)); clear o4 b4)
          go_wp2_with (go_at_call 16; refine (HORD.out _ B4.out).mono ?_; clear HORD; rintro e w5 ⟨v5, rfl, o5, b5⟩; have I5 := Lib.hid (ints_own o5).1; have J5 := Lib.hid (I4.out.below b5); have B5 := Lib.hid (B4.out.trans (b5.mono B4.out.size)); clear o5 b5 I4 B4)
          go_wp2_with (go_at_call 15; refine (ints_any v4 v5 W W _ J5.out I5.out).mono ?_; rintro e w6 ⟨rfl, n6, rfl⟩; have B6 := Lib.hid (B5.out.trans ((below_dn w5.heap.size w5 n6).mono B5.out.size)); clear B5 I5 J5; rw [show decide (W = W) = true from by simp])
          go_ret
          exact ⟨by simp, HB3.out.trans (B6.out.mono HB3.out.size)⟩
set_option maxHeartbeats 1000000 in
theorem walk (w : World) (a0 : Option Addr) (len0 cap0 : Nat) (ns : List Nd) (hP : PageAt w (.slice a0 len0 cap0) ns) :
    Calls Try.prog 6 #[.slice a0 len0 cap0] w fun e w' => e = .returned (.bool true) ∧ Below w.heap.size w w' := by
  by_cases hb : (checkP (cutP ns)).2 = 0
  · exact keeps_good _ ns (cutP ns) w (Lib.hid (fine_of hb)) (Lib.hid (cutP_both ns)) (cutP_len ns) (Lib.hid hP) (Lib.hid fun X v h => cut_post v ns X h)
  · exact keeps_bad _ ns (cutP ns) w _ hb (Lib.hid hP) (Lib.hid fun X v h => cut_post v ns X h) (Lib.hid fun X v h => fixF_not v _ X h (fun n hn => (cutP_both ns n hn).1) hb)

set_option maxRecDepth 100000 in
theorem lifted (os : Os) (started : os.Started) (H : Type) (enc : TypeId × Value → H) :
    ReturnsInHanded {} Try.checked os 6 .any (Rows.fixupKeepsSpec.pre6 enc Try.prog Try.f6 Rows.fixupKeepsRow.domain false) (Rows.fixupKeepsSpec.post enc Try.prog Try.f6 false true false false) := by
  refine returnsInHanded_of_change (C := Try.checked) own started (by kernel_rfl) Try.func6
    (ChangeSpec.witness6 (enc := enc) (C := Try.checked) false ⟨#[], #[.slice none 0 0], []⟩ 8 (by kernel_rfl) (by kernel_rfl) (by kernel_rfl) (by kernel_rfl)) ?_
  intro W base args ds gs before hval0 hW hcnd _
  have hval : ∀ (j : Nat) t v, Try.f6.params[j]? = some t → args[j]? = some v → Value.okWide Try.prog W .any base t v := hval0
  have hW' := hW
  obtain ⟨p, q, hA0, hV, rfl, hfz, hnd⟩ := hW
  have hA : DataW.TrodAll enc Try.prog W 0 (fun _ => true) true Try.f6.params.toList args.toList ds p := hA0
  rw [Try.params6] at hA hval
  obtain ⟨v0, vs0, d0, ds0, p0, q0, hargs, rfl, rfl, h0, r0⟩ := trodAll_cons hA
  obtain ⟨rfl, rfl, rfl⟩ := trodAll_nil r0
  obtain rfl : args = #[v0] := by cases args; simp_all
  obtain ⟨rfl, rfl⟩ := trodVars_none hV
  obtain ⟨a0, len0, cap0, rfl⟩ := okWide_slice Try.underlying22 (hval 0 22 v0 rfl rfl)
  have k0 := h0
  have lt0 : ∀ x ∈ p0, x.block < W.heap.size := by obtain ⟨m, hm⟩ := k0; exact DataW.trod_lt m _ _ _ hm
  obtain ⟨z0, w0⟩ : ∃ ns, PageAt W (.slice a0 len0 cap0) ns := by
    obtain ⟨fuel, hf⟩ := h0
    obtain ⟨ns, hn, _⟩ := open_nodes (by simpa [Value.cells] using hf)
    exact ⟨ns, hn⟩
  clear hA0 hval0
  simp only [List.append_nil] at hW'
  refine (walk W a0 len0 cap0 z0 w0).mono fun e W' ⟨he, hg⟩ => ?_
  subst he
  exact ⟨_, rfl, _, _, _, [], _, [], hW', (trodAll_cons_mk (shut_bool Try.underlying4 _) trodAll_mk0), (trodAll_cons_mk (Below.trod laidOut (by kernel_rfl) (of_decide_eq_true (by kernel_rfl)) k0 hg lt0) trodAll_mk0), rfl, hg.frame _, fun h => by cases h⟩

theorem over : Rows.fixupKeepsRow.holds Try.pinned (OpenSpec.ofChange Rows.fixupKeepsSpec) :=
  OpenClaim.holds_of_wide 6 Try.f6 rfl rfl rfl rfl rfl rfl rfl ⟨rfl, rfl, rfl, rfl, rfl⟩ rfl rfl rfl rfl rfl (by kernel_rfl) Try.func6 (by kernel_rfl)
    (of_decide_eq_true (by kernel_rfl)) (by unfold Func.isWrapper; first | (rw [if_pos (by decide +kernel)]; kernel_rfl) | (rw [if_neg (by decide +kernel)]; exact ⟨rfl, rfl⟩))
    (fun os started H enc _ => lifted os started H enc)

/-- the statement -/
theorem proved : Rows.FixupKeepsSaid :=
  over
#print axioms proved
end Go.Proofs.Ytilighhccjdceaa.fixupKeeps
