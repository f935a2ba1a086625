/- Contract of fixup.Fix: the page, fixed; or what Check says. -/
import Derived.Test.YtecnapecmioamaaFSum
import Derived.Test.YtecnapecmioamaaFNode
import Derived.ScopeJumps
import Derived.WalkMore
namespace Go.Proofs.Ytecnapecmioamaa
open Go.RowKit Go.Shelf Go.Maps
set_option linter.unusedVariables false
attribute [local go_sem] Oper.semAt_some

/-- a computed node, without where its slices lie -/
def compB (n : Nd) : Nd := { n.bare with s := compS n.s }
theorem CompPg.bare {ns ns' : List Nd} (h : CompPg ns ns') : ns'.map Nd.bare = ns.map compB := by
  apply List.ext_getElem?
  intro i
  rw [List.getElem?_map, List.getElem?_map]
  rcases h.get i with ⟨h1, h2⟩ | ⟨n, n', h1, h2, h3⟩
  · rw [h1, h2]; rfl
  · rw [h1, h2]
    simp only [Option.map_some, Option.some.injEq]
    unfold Nd.bare compB
    unfold Nd.bare
    rw [h3.k, h3.ks, h3.s, h3.ws, h3.b, h3.h]
/-- kids of a page that Check lets be -/
theorem Fine.nodup {ns : List Nd} (F : Fine ns) : (kidsOf ns).length ≤ ns.length := by
  have hrng : ∀ z ∈ kidsOf ns, 1 ≤ z ∧ z < (ns.length : Int) := fun z hz => by
    unfold kidsOf at hz
    obtain ⟨n, hn, hz'⟩ := List.mem_flatMap.1 hz
    exact F.link n hn z hz'
  refine nodup_le ns.length (kidsOf ns) ?_ (fun z hz => by have := hrng z hz; omega)
  rw [List.nodup_iff_count]
  intro z
  by_cases hz : z ∈ kidsOf ns
  · have hb := hrng z hz
    obtain ⟨j, rfl⟩ : ∃ j : Nat, z = (j : Int) := ⟨z.toNat, by omega⟩
    have ht := tms_get ns.length (kidsOf ns) (fun z hz => by have := hrng z hz; omega) j (by omega)
    have hs := F.stray
    rw [List.any_eq_false] at hs
    have hl : j < (tms ns.length (kidsOf ns)).length := by rw [tms_len]; omega
    have hd : j < (depthsP ns).length := by unfold depthsP; rw [depL_len]; omega
    have := hs ((tms ns.length (kidsOf ns))[j], (depthsP ns)[j]) (List.mem_iff_getElem?.2 ⟨j, by rw [List.getElem?_eq_getElem (by simp; omega)]; simp⟩)
    rw [List.getElem?_eq_getElem hl] at ht
    simp only [Option.getD_some] at ht
    simp [strayB] at this
    rw [ht, if_neg (by omega)] at this
    omega
  · rw [List.count_eq_zero_of_not_mem hz]; omega
theorem wrong_kind {n : Nd} (hw : wrongN n = false) : (0 ≤ n.k ∧ n.k ≤ 10) ∧ (n.k = 1 ∨ n.k = 5 → n.ks = []) := by
  unfold wrongN at hw
  simp only [Bool.or_eq_false_iff] at hw
  obtain ⟨h1, h2, h3⟩ := hw
  refine ⟨by simpa using h1, fun h => ?_⟩
  have key : decide (0 < n.ks.length) = false → n.ks = [] := fun h => by
    have : ¬ 0 < n.ks.length := by simpa using h
    exact List.eq_nil_of_length_eq_zero (by omega)
  rcases h with h | h
  · rw [if_pos h] at h3
    simp only [Bool.or_eq_false_iff] at h3
    exact key h3.1
  · rw [if_neg (by omega), if_pos h] at h3
    simp only [Bool.or_eq_false_iff] at h3
    exact key h3.1
theorem Fine.way {ns : List Nd} (F : Fine ns) (hK : ∀ n ∈ ns, n.ks.length ≤ 70000) : Way (ns.map compB) := by
  have hw := F.wrong
  rw [List.any_eq_false] at hw
  refine ⟨fun a ha => ?_, fun a ha h => ?_, fun a ha z hz => ?_, fun a ha => ?_⟩
  all_goals obtain ⟨n, hn, rfl⟩ := List.mem_map.1 ha
  · exact (wrong_kind (n := n) (by simpa using hw n hn)).1
  · exact (wrong_kind (n := n) (by simpa using hw n hn)).2 h
  · have := F.link n hn z hz
    rw [List.length_map]; omega
  · exact hK n hn
theorem kids_comp (ns : List Nd) : kidsOf (ns.map compB) = kidsOf ns := by
  unfold kidsOf
  rw [List.flatMap_map]; rfl
/-- the page, fixed -/
def fixPg (ns : List Nd) : List Nd := fixP (ns.map compB)
/-- the state of the work -/
structure FS (B0 : List Nd) (w : World) (bm i : Nat) (ns : List Nd) (L cap : Nat) (X : World) : Prop where
  laid : Laid X L cap ns.length ns
  bare : ns.map Nd.bare = iterB B0 i
  le : ns.length ≤ cap
  max : cap ≤ maxLen
  low : w.heap.size ≤ L
  perm : PermAt X bm
  below : Below w.heap.size w X
  done : i ≤ ns.length
theorem perm_ne {X : World} {bm L cap k : Nat} {ns : List Nd} (h : PermAt X bm) (hl : Laid X L cap k ns) : bm ≠ L := fun e => by
  obtain ⟨n, D, ⟨es, cl, hb, _⟩, _⟩ := h
  obtain ⟨⟨cur, h1, _⟩, _⟩ := hl
  rw [e, h1] at hb; cases hb
theorem FS.len {B0 : List Nd} {w : World} {bm i : Nat} {ns : List Nd} {L cap : Nat} {X : World} (h : FS B0 w bm i ns L cap X) : ns.length = (iterB B0 i).length := by rw [← h.bare, List.length_map]
/-- a node is fixed -/
theorem FS.step {B0 : List Nd} {w : World} {bm i : Nat} {ns : List Nd} {L cap : Nat} {X : World} (h : FS B0 w bm i ns L cap X) (hW : Way B0) (hk : (kidsOf B0).length ≤ B0.length) (h2 : B0.length ≤ 65536) (hi : i < ns.length) :
    Calls Try.prog 15 #[.slice (some ⟨L, 0, none⟩) ns.length cap, .int .i64 i, .map (some bm)] X fun e X' => ∃ L' cap' ns', e = .returned (.slice (some ⟨L', 0, none⟩) ns'.length cap') ∧ FS B0 w bm (i + 1) ns' L' cap' X' ∧ ns.length ≤ ns'.length := by
  obtain ⟨n, hn⟩ : ∃ n, ns[i]? = some n := ⟨_, List.getElem?_eq_getElem hi⟩
  have hwi := hW.iter i
  have hb : n.bare ∈ iterB B0 i := by rw [← h.bare]; exact List.mem_map.2 ⟨n, List.mem_iff_getElem?.2 ⟨i, hn⟩, rfl⟩
  have hbd := iter_bound hW hk i (by rw [← h.len]; omega)
  have hlen := h.len
  refine (fixNode_any L cap ns.length i bm w.heap.size ns n X h.laid h.le h.max (by omega) hn (hwi.few n.bare hb) (hwi.kind n.bare hb) (fun z hz => by rw [hlen]; exact hwi.kids n.bare hb z hz) h.perm h.low).mono ?_
  rintro e X' ⟨L', cap', ns', rfl, g1, g2, g3, g4, g5, g6, g7⟩
  have hne := perm_ne h.perm h.laid
  have hl2 : ns.length ≤ ns'.length := by
    have e1 : ns'.length = (fixB (ns.map Nd.bare) i).length := by rw [← g2, List.length_map]
    have e2 := fixB_len (ns.map Nd.bare) i
    rw [List.length_map] at e2
    omega
  refine ⟨L', cap', ns', rfl, ⟨g1, by rw [g2, h.bare]; rfl, g3, g4, g5, h.perm.same (g7 bm h.perm.lt hne), h.below.trans g6, by omega⟩, hl2⟩
def FixedPost (ns : List Nd) (w : World) (e : Ending) (W' : World) : Prop :=
  (∃ v ns', e = .returned (.tuple #[v, .int .i64 0]) ∧ PageAt W' v ns' ∧ ns'.map Nd.bare = fixPg ns) ∧ Below w.heap.size w W'
def JF (B0 : List Nd) (w : World) (lv : Value) (bm : Nat) : Act → World → Prop := fun a X =>
  ∃ (ns : List Nd) (L cap i : Nat) (x1 x9 x10 x11 x12 x13 x14 x15 x16 x17 x18 x19 x20 x21 x22 x23 x24 x25 x26 x27 x28 x29 x30 x31 x32 x33 x34 x35 x36 x37 : Value),
    a = { tmps := #[lv, x1, .slice none 0 0, .int .i64 0, .slice (some ⟨L, 0, none⟩) ns.length cap, .int .i64 0, .map (some bm), .int .i64 i, .int .i64 ns.length, x9, x10, x11, x12, x13, x14, x15, x16, x17, x18, x19, x20, x21, x22, x23, x24, x25, x26, x27, x28, x29, x30, x31, x32, x33, x34, x35, x36, x37], defers := [] } ∧
    Hid (FS B0 w bm i ns L cap X) ∧ i < ns.length ∧ ns.length ≤ 262144
set_option maxRecDepth 100000 in
set_option maxHeartbeats 2000000 in
theorem fix_ok (p : Option Addr) (m0 c0 : Nat) (ns : List Nd) (w : World) (h1 : 1 ≤ ns.length) (h2 : ns.length ≤ 65536) (hW : Way (ns.map compB)) (hk : (kidsOf (ns.map compB)).length ≤ (ns.map compB).length)
    (H : Hid (Calls Try.prog 13 #[.slice p m0 c0] w (CompLaid ns w))) :
    Calls Try.prog 6 #[.slice p m0 c0] w (FixedPost ns w) := by
  obtain ⟨B0, hB0⟩ : ∃ B0, ns.map compB = B0 := ⟨_, rfl⟩
  have HB0 := Lib.hid hB0
  rw [hB0] at hW hk
  have hlB : B0.length = ns.length := by rw [← hB0]; simp
  have HW := Lib.hid hW
  have HK := Lib.hid hk
  have HLB := Lib.hid hlB
  have HST := Lib.hid (fun (bm i : Nat) (ns' : List Nd) (L cap : Nat) (X : World) (h : FS B0 w bm i ns' L cap X) (hi : i < ns'.length) => h.step HW.out HK.out (by omega) hi)
  clear hB0 hW hk hlB
  have HBD : Hid (∀ (bm i : Nat) (ns' : List Nd) (L cap : Nat) (X : World), FS B0 w bm i ns' L cap X → ns'.length ≤ 262144) := Lib.hid fun bm i ns' L cap X h => by
    have := iter_bound HW.out HK.out i (by rw [← h.len]; exact h.done)
    have h3 := h.len
    have := HK.out
    have := HLB.out
    omega
  go_enter Try.func6, Try.ntmps6
  go_wp2
  refine wp_scope_jumps 0 (fun a X => ∃ bm, JF B0 w (.slice p m0 c0) bm a X) (fun a _ => 262144 - (intOf (a.tmps.getD 7 undef)).toNat) rfl ?first ?pass
  case first =>
    go_wp2_with (first
      | (go_at_call 13; refine H.out.mono ?_; clear H; rintro e w1 ⟨⟨L, cap, ns1, rfl, hcp, hla, hlo, hle, hmx⟩, hb1⟩; have HCP := Lib.hid hcp; have HLA := Lib.hid hla; have HB1 := Lib.hid hb1; clear hcp hla hb1; obtain ⟨to, hto⟩ : ∃ to, ns1.length = to := ⟨_, rfl⟩; have HTO := Lib.hid hto; rw [hto] at hle ⊢; clear hto)
      | (go_at_call 14; refine (permitted_any _).mono ?_; rintro e w2 ⟨bm, rfl, hbm, hpm, hb2⟩; have HPM := Lib.hid hpm; have HB2 := Lib.hid hb2; clear hpm hb2))
    have HS : Hid (FS B0 w bm 0 ns1 L cap w2) := Lib.hid (by
      refine ⟨HLA.out.below (by obtain ⟨⟨cur, h, _⟩, _⟩ := HLA.out; exact (Array.getElem?_eq_some_iff.1 h).1) HB2.out, by rw [HCP.out.bare, HB0.out]; rfl, by rw [HTO.out]; exact hle, hmx, hlo, HPM.out, HB1.out.trans (HB2.out.mono HB1.out.size), by omega⟩)
    have hto1 : 1 ≤ to := by have := HCP.out.len; have := HTO.out; omega
    clear hlo hmx hbm HPM HLA HCP HB1 HB2 hle
    refine wp_label ?_
    go_wp2
    go_loopw [4, 9] (fun s4 s9 X => ∃ (i : Nat) (ns' : List Nd) (L cap : Nat), i ≤ to ∧ to ≤ ns'.length ∧ s9 = .int .i64 i ∧ s4 = .slice (some ⟨L, 0, none⟩) ns'.length cap ∧ Hid (FS B0 w bm i ns' L cap X)) (fun _ s9 _ => to - (intOf s9).toNat)
    case atStart => exact ⟨0, ns1, L, cap, by omega, by rw [HTO.out]; exact Nat.le_refl _, rfl, by rw [HTO.out], HS⟩
    case round =>
      obtain ⟨i, ns', L', cap', hi, hto2, rfl, rfl, HS'⟩ := hrel
      clear HS
      have hb9 := HBD.out _ _ _ _ _ _ HS'.out
      obtain ⟨nl, hnl⟩ : ∃ nl, ns'.length = nl := ⟨_, rfl⟩
      by_cases hit : i < to
      · have HC := Lib.hid (HST.out _ _ _ _ _ _ HS'.out (by omega))
        rw [hnl] at HC hto2 hb9 ⊢
        have HNL := Lib.hid hnl
        clear hnl
        go_wp2_with (go_at_call 15; refine HC.out.mono ?_; clear HC; rintro e X' ⟨L2, cap2, ns2, rfl, hs2, hl2⟩; have HS2 := Lib.hid hs2; clear hs2)
        go_roundw
        case rel => exact ⟨i + 1, ns2, L2, cap2, by omega, by omega, by go_num, rfl, HS2⟩
        case measure => simp [intOf]; omega
      · obtain rfl : i = to := by omega
        by_cases hgo : i < nl
        · rw [hnl] at hto2 hb9 ⊢
          have HNL := Lib.hid hnl
          clear hnl
          go_wp2
          apply wp_goto
          refine ⟨rfl, bm, ns', L', cap', i, _, _, _, _, _, _, _, _, _, _, _, _, _, _, _, _, _, _, _, _, _, _, _, _, _, _, _, _, _, _, by rw [HNL.out], HS', by rw [HNL.out]; exact hgo, by rw [HNL.out]; exact hb9⟩
        · obtain rfl : nl = i := by omega
          rw [hnl] at hto2 hb9 ⊢
          have HNL := Lib.hid hnl
          clear hnl
          go_wp2
          simp only [Exit.jump]
          refine bodyPost_ret (v := .tuple #[.slice (some ⟨L', 0, none⟩) nl cap', .int .i64 0]) (by simp [results, Try.results6, go_sem]) rfl ⟨⟨_, ns', rfl, ?_, ?_⟩, HS'.out.below⟩
          · rw [← HNL.out]; exact HS'.out.laid.page (by rw [HNL.out]; omega)
          · rw [HS'.out.bare]
            unfold fixPg
            rw [HB0.out]
            exact (fixP_of HW.out HK.out nl (by rw [← HS'.out.len, HNL.out])).symm
  case pass =>
    rintro a X ⟨bm, ns1, L, cap, i0, x1, x9, x10, x11, x12, x13, x14, x15, x16, x17, x18, x19, x20, x21, x22, x23, x24, x25, x26, x27, x28, x29, x30, x31, x32, x33, x34, x35, x36, x37, rfl, HS, hil, hlm⟩
    obtain ⟨to, hto⟩ : ∃ to, ns1.length = to := ⟨_, rfl⟩
    have HTO := Lib.hid hto
    rw [hto] at hil hlm ⊢
    clear hto
    go_wp2
    go_loopw [4, 9] (fun s4 s9 X => ∃ (i : Nat) (ns' : List Nd) (L cap : Nat), i ≤ to ∧ to ≤ ns'.length ∧ s9 = .int .i64 i ∧ s4 = .slice (some ⟨L, 0, none⟩) ns'.length cap ∧ Hid (FS B0 w bm i ns' L cap X)) (fun _ s9 _ => to - (intOf s9).toNat)
    case atStart => exact ⟨i0, ns1, L, cap, by omega, by rw [HTO.out]; exact Nat.le_refl _, rfl, by rw [HTO.out], HS⟩
    case round =>
      obtain ⟨i, ns', L', cap', hi, hto2, rfl, rfl, HS'⟩ := hrel
      clear HS
      have hb9 := HBD.out _ _ _ _ _ _ HS'.out
      obtain ⟨nl, hnl⟩ : ∃ nl, ns'.length = nl := ⟨_, rfl⟩
      by_cases hit : i < to
      · have HC := Lib.hid (HST.out _ _ _ _ _ _ HS'.out (by omega))
        rw [hnl] at HC hto2 hb9 ⊢
        have HNL := Lib.hid hnl
        clear hnl
        go_wp2_with (go_at_call 15; refine HC.out.mono ?_; clear HC; rintro e X' ⟨L2, cap2, ns2, rfl, hs2, hl2⟩; have HS2 := Lib.hid hs2; clear hs2)
        go_roundw
        case rel => exact ⟨i + 1, ns2, L2, cap2, by omega, by omega, by go_num, rfl, HS2⟩
        case measure => simp [intOf]; omega
      · obtain rfl : i = to := by omega
        by_cases hgo : i < nl
        · rw [hnl] at hto2 hb9 ⊢
          have HNL := Lib.hid hnl
          clear hnl
          go_wp2
          apply wp_goto
          refine ⟨rfl, ⟨bm, ns', L', cap', i, _, _, _, _, _, _, _, _, _, _, _, _, _, _, _, _, _, _, _, _, _, _, _, _, _, _, _, _, _, _, by rw [HNL.out], HS', by rw [HNL.out]; exact hgo, by rw [HNL.out]; exact hb9⟩, by simp [intOf]; omega⟩
        · obtain rfl : nl = i := by omega
          rw [hnl] at hto2 hb9 ⊢
          have HNL := Lib.hid hnl
          clear hnl
          go_wp2
          simp only [Exit.jump]
          refine bodyPost_ret (v := .tuple #[.slice (some ⟨L', 0, none⟩) nl cap', .int .i64 0]) (by simp [results, Try.results6, go_sem]) rfl ⟨⟨_, ns', rfl, ?_, ?_⟩, HS'.out.below⟩
          · rw [← HNL.out]; exact HS'.out.laid.page (by rw [HNL.out]; omega)
          · rw [HS'.out.bare]
            unfold fixPg
            rw [HB0.out]
            exact (fixP_of HW.out HK.out nl (by rw [← HS'.out.len, HNL.out])).symm
set_option maxHeartbeats 400000 in
theorem fix_bad (p : Option Addr) (m cap : Nat) (w : World) (b : Int) (hb : b ≠ 0) (H : Hid (Calls Try.prog 13 #[.slice p m cap] w fun e W' => e = .returned (.tuple #[.slice none 0 0, .int .i64 b]) ∧ Below w.heap.size w W')) :
    Calls Try.prog 6 #[.slice p m cap] w fun e W' => e = .returned (.tuple #[.slice none 0 0, .int .i64 b]) ∧ Below w.heap.size w W' := by
  have hb' : (b != 0) = true := by simpa using hb
  go_enter Try.func6, Try.ntmps6
  go_wp2
  refine wp_scope_straight ?_
  go_wp2_with (go_at_call 13; refine H.out.mono ?_; rintro e w1 ⟨rfl, hb1⟩)
  simp only [Exit.noGoto]
  refine bodyPost_ret (v := .tuple #[.slice none 0 0, .int .i64 b]) (by simp [results, Try.results6, go_sem]) rfl ⟨rfl, hb1⟩
theorem fixF_good (lv : Value) (ns : List Nd) (w : World) (hP : PageAt w lv ns) (hK : ∀ n ∈ ns, n.ks.length ≤ 70000 ∧ n.ws.length ≤ 70000) (F : Fine ns) : Calls Try.prog 6 #[lv] w (FixedPost ns w) := by
  have H := computed_laid lv ns w hP hK F
  obtain ⟨p, cap, rfl⟩ := hP.form
  exact fix_ok p _ cap ns w F.len1 F.len2 (F.way fun n hn => (hK n hn).1) (by rw [kids_comp, List.length_map]; exact F.nodup) (Lib.hid H)
theorem fixF_not (lv : Value) (ns : List Nd) (w : World) (hP : PageAt w lv ns) (hK : ∀ n ∈ ns, n.ks.length ≤ 70000) (hb : (checkP ns).2 ≠ 0) : Calls Try.prog 6 #[lv] w fun e W' => e = .returned (.tuple #[.slice none 0 0, .int .i64 (checkP ns).2]) ∧ Below w.heap.size w W' := by
  have H := computed_not lv ns w hP hK hb
  obtain ⟨p, cap, rfl⟩ := hP.form
  exact fix_bad p _ cap w _ hb (Lib.hid H)
end Go.Proofs.Ytecnapecmioamaa
