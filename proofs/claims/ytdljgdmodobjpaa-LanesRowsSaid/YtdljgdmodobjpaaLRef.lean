/- The document's lanes: Check, group, Captions. -/
import Derived.Test.YtdljgdmodobjpaaTRefChk
import Derived.Test.YtdljgdmodobjpaaLLaw
namespace Go.Proofs.Ytdljgdmodobjpaa
open Go.RowKit Go.Shelf
set_option linter.unusedVariables false
set_option linter.unusedSimpArgs false
attribute [local go_sem] Oper.semAt_some

set_option maxRecDepth 100000 in
set_option maxHeartbeats 2000000 in
theorem refLchk_at (q : Option Addr) (m cap : Nat) (p : Int) (ns : List Nd) (w : World) (x c : Int) (hm : ns.length = m) (hP : PageAt w (.slice q m cap) ns) (hc : c = (checkP ns).2)
    (H : Hid (Calls Try.prog 31 #[.slice q m cap] w fun e W' => e = .returned (.tuple #[.int .i64 x, .int .i64 c]) ∧ Below w.heap.size w W')) :
    Calls Try.prog 14 #[.slice q m cap, .int .i64 p] w fun e W' => e = .returned (.int .i64 (lchkP ns p)) ∧ Below w.heap.size w W' := by
  have hms : m ≤ 9223372036854775807 := by have := hP.1; omega
  by_cases h0 : c = 0
  · have hl : lchkP ns p = if isTab ns p = true then 0 else 2 := by unfold lchkP; rw [← hc, if_pos h0]
    subst h0
    by_cases hp0 : p < 0
    · have e : isTab ns p = false := by unfold isTab; rw [decide_eq_false (by omega)]; rfl
      rw [hl, e]
      have d1 : decide (p < 0) = true := by simpa using hp0
      clear hc hl e hP
      go_enter Try.func14, Try.ntmps14
      go_wp2_with (go_at_call 31; refine H.out.mono ?_; clear H; rintro e w1 ⟨rfl, hb1⟩; have HB1 := Lib.hid hb1; clear hb1)
      go_ret
      exact ⟨rfl, HB1.out⟩
    · have d1 : decide (p < 0) = false := by simpa using hp0
      obtain ⟨pn, rfl⟩ : ∃ pn : Nat, p = (pn : Int) := ⟨p.toNat, by omega⟩
      by_cases hpm : m ≤ pn
      · have e : isTab ns (pn : Int) = false := by unfold isTab; rw [decide_eq_false (p := ((pn : Int) < (ns.length : Int))) (by omega)]; simp
        rw [hl, e]
        have d2 : decide ((pn : Int) ≥ (m : Int)) = true := by simp; omega
        clear hc hl e hP
        go_enter Try.func14, Try.ntmps14
        go_wp2_with (go_at_call 31; refine H.out.mono ?_; clear H; rintro e w1 ⟨rfl, hb1⟩; have HB1 := Lib.hid hb1; clear hb1)
        go_ret
        exact ⟨rfl, HB1.out⟩
      · have d2 : decide ((pn : Int) ≥ (m : Int)) = false := by simp; omega
        have hpl : pn < m := by omega
        obtain ⟨b, off, rfl⟩ := some_page hP (by omega)
        have HP := Lib.hid hP
        have e : isTab ns (pn : Int) = (kdOf ns pn == 2) := by unfold isTab; rw [decide_eq_true (by omega), decide_eq_true (by omega)]; simp
        rw [hl, e]
        clear hc hl e hP
        have HK : Hid (∀ X, Below w.heap.size w X → X.cell? ⟨b, off + pn * 34, none⟩ = some (.int .i64 (kdOf ns pn))) := Lib.hid fun X hX => by
          exact kd_at (HP.out.below hX) pn (by omega)
        by_cases hk : kdOf ns pn = 2
        · rw [hk] at HK ⊢
          go_enter Try.func14, Try.ntmps14
          go_wp2_with (go_at_call 31; refine H.out.mono ?_; clear H; rintro e w1 ⟨rfl, hb1⟩; have HB1 := Lib.hid hb1; have ck := HK.out w1 hb1; clear hb1)
          go_ret
          exact ⟨rfl, HB1.out⟩
        · have d3 : (kdOf ns pn != 2) = true := by simpa using hk
          have d4 : (kdOf ns pn == 2) = false := by simpa using hk
          rw [d4]
          go_enter Try.func14, Try.ntmps14
          go_wp2_with (go_at_call 31; refine H.out.mono ?_; clear H; rintro e w1 ⟨rfl, hb1⟩; have HB1 := Lib.hid hb1; have ck := HK.out w1 hb1; clear hb1)
          go_ret
          exact ⟨rfl, HB1.out⟩
  · have hl : lchkP ns p = c := by unfold lchkP; rw [← hc, if_neg h0]
    rw [hl]
    have hc' : (c != 0) = true := by simpa using h0
    clear hc hl hP
    go_enter Try.func14, Try.ntmps14
    go_wp2_with (go_at_call 31; refine H.out.mono ?_; clear H; rintro e w1 ⟨rfl, hb1⟩; have HB1 := Lib.hid hb1; clear hb1)
    go_ret
    exact ⟨rfl, HB1.out⟩
theorem refLchk_any (lv : Value) (p : Int) (ns : List Nd) (w : World) (hP : PageAt w lv ns) (hK : ∀ n ∈ ns, n.ks.length ≤ 70000) :
    Calls Try.prog 14 #[lv, .int .i64 p] w fun e W' => e = .returned (.int .i64 (lchkP ns p)) ∧ Below w.heap.size w W' := by
  have H := refCheck_any lv ns w hP hK
  obtain ⟨q, cap, rfl⟩ := hP.form
  exact refLchk_at q _ cap p ns w _ _ rfl hP rfl (Lib.hid H)
/-- the rows among kids -/
def grpP (ns : List Nd) (g : Int) (ks : List Int) : List (Int × Int) := (ks.filter fun z => decide (kdOf ns z.toNat = 9)).map fun z => (z, g)
theorem grp_fnd (ns : List Nd) (g : Int) : fndP ns 9 [g] = grpP ns g (kfOf ns g) := by simp [fndP, kindK, grpP]
theorem grp_snoc (ns : List Nd) (g : Int) (ks : List Int) (k : Nat) (z : Int) (h : ks[k]? = some z) : grpP ns g (ks.take (k + 1)) = grpP ns g (ks.take k) ++ (if kdOf ns z.toNat = 9 then [(z, g)] else []) := by
  unfold grpP
  rw [List.take_add_one, h, List.filter_append, List.map_append]
  by_cases hz : kdOf ns z.toNat = 9 <;> simp [hz]
theorem grp_len (ns : List Nd) (g : Int) (ks : List Int) : (grpP ns g ks).length ≤ ks.length := by unfold grpP; rw [List.length_map]; exact List.length_filter_le _ _
theorem Try.infoLane6 : (Try.prog.info? 43).map (fun i => (i.zero, i.size, i.bytes)) = some (some (.agg #[.int .i64 0, .int .i64 0]), 2, 16) := by kernel_rfl
set_option maxRecDepth 100000 in
set_option maxHeartbeats 4000000 in
theorem refGroup_at (b off cap m g : Nat) (ns : List Nd) (w : World) (hm : ns.length = m) (hg : g < m) (h2 : m ≤ 65536) (hP : PageAt w (.slice (some ⟨b, off, none⟩) m cap) ns) (hK : ∀ n ∈ ns, n.ks.length ≤ 70000)
    (hL : ∀ n ∈ ns, ∀ z ∈ n.ks, 0 ≤ z ∧ z < (m : Int)) :
    Calls Try.prog 32 #[.slice (some ⟨b, off, none⟩) m cap, .int .i64 g] w fun e W' => ∃ v, e = .returned v ∧ OwnL w.heap.size W' v (fndP ns 9 [(g : Int)]) ∧ Below w.heap.size w W' := by
  obtain ⟨n, hn⟩ : ∃ n, ns[g]? = some n := ⟨_, List.getElem?_eq_getElem (by rw [hm]; exact hg)⟩
  have hmem : n ∈ ns := List.mem_iff_getElem?.2 ⟨g, hn⟩
  have hF : fndP ns 9 [(g : Int)] = grpP ns g n.ks := by rw [grp_fnd]; unfold kfOf; rw [Int.toNat_natCast, hn]; rfl
  rw [hF]
  have hc : w.cell? ⟨b, off + g * 34 + 1, none⟩ = some n.kv ∧ Ints w n.kv n.ks ∧ b < w.heap.size := by
    obtain ⟨b', off', e, _, hc⟩ := page_cells hP (by omega)
    injection e with e; injection e with e1 e2
    subst e1 e2
    exact (hc g n hn).2
  obtain ⟨ck, hI, hb0⟩ := hc
  have hfew := hK n hmem
  have HLN := Lib.hid (hL n hmem)
  obtain ⟨qk, kc, hkv⟩ := hI.form
  rw [hkv] at ck hI
  obtain ⟨kl, hkl⟩ : ∃ kl, n.ks.length = kl := ⟨_, rfl⟩
  rw [hkl] at ck hfew hI
  have HI := Lib.hid hI
  have HKL := Lib.hid hkl
  have HCK := Lib.hid ck
  have HP := Lib.hid hP
  obtain ⟨i0, hi0, hz0', hz1', hz2'⟩ := info_parts Try.infoLane6
  have HZ1 := Lib.hid hz0'
  have HZ2 := Lib.hid hz1'
  have HZ3 := Lib.hid hz2'
  clear hz0' hz1' hz2' hm hK hL hP hn hmem hF hI hkl ck hkv
  go_enter Try.func32, Try.ntmps32
  go_wp2
  go_loopw [5, 6] (fun s5 s6 X => ∃ k : Nat, k ≤ kl ∧ s6 = .int .i64 k ∧ Hid (OwnL w.heap.size X s5 (grpP ns g (n.ks.take k))) ∧ Hid (Below w.heap.size w X)) (fun _ s6 _ => kl - (intOf s6).toNat)
  case atStart => exact ⟨0, by omega, rfl, Lib.hid (by rw [List.take_zero]; exact World.ownsRow_nil _ _ _ _), Lib.hid (Below.refl _ _)⟩
  case round =>
    obtain ⟨k, hk, rfl, HO, HB⟩ := hrel
    have dck := (HB.out.cell (p := ⟨b, off + g * 34 + 1, none⟩) hb0).trans HCK.out
    by_cases hlt : k < kl
    · obtain ⟨y, hy⟩ : ∃ y, n.ks[k]? = some y := ⟨_, List.getElem?_eq_getElem (by rw [HKL.out]; exact hlt)⟩
      obtain ⟨qb, qo, rfl, cy, ly⟩ := ints_at0' HI.out k y hy
      have dcy := (HB.out.cell (p := ⟨qb, qo + k, none⟩) ly).trans cy
      obtain ⟨yr0, yr1⟩ := HLN.out y (List.mem_iff_getElem?.2 ⟨k, hy⟩)
      obtain ⟨yn, rfl⟩ : ∃ yn : Nat, y = (yn : Int) := ⟨y.toNat, by omega⟩
      have ckd := kd_at (HP.out.below HB.out) yn (by omega)
      have HG := Lib.hid (grp_snoc ns g n.ks k (yn : Int) hy)
      have hgl : (grpP ns g (n.ks.take k)).length ≤ 70000 := by
        refine Nat.le_trans (grp_len _ _ _) ?_
        rw [List.length_take]; omega
      obtain ⟨gl, hgl2⟩ : ∃ gl, (grpP ns g (n.ks.take k)).length = gl := ⟨_, rfl⟩
      rw [hgl2] at hgl
      have hO := HO.out
      unfold OwnL at hO
      rw [hgl2] at hO
      have HO2 := Lib.hid hO
      have HGL := Lib.hid hgl2
      have hsz := HB.out.size
      clear hy cy hO hgl2
      by_cases hk9 : kdOf ns yn = 9
      · have g9 : (kdOf ns yn == 9) = true := by simpa using hk9
        have HG2 : Hid (grpP ns g (n.ks.take (k + 1)) = grpP ns g (n.ks.take k) ++ [((yn : Int), (g : Int))]) := Lib.hid (by rw [HG.out, Int.toNat_natCast, if_pos hk9])
        clear HG hk9 HO
        go_wp2_with (at_builtin; refine wpList_append_own_at _ rfl _ _ 25 rfl w.heap.size 43 i0 (.agg #[.int .i64 0, .int .i64 0]) 2 16 Try.underlying25 hi0 HZ1.out HZ2.out HZ3.out rfl (by decide) _ _ _ rfl (HO2.out.alloc _) ⟨wr.heap.size, 0, none⟩ 1 1 [.int .i64 (yn : Int), .int .i64 (g : Int)] rfl rfl (lay_new _ [.int .i64 (yn : Int), .int .i64 (g : Int)] 43 wr.heap.size (by simp)) (by simp [Value.oneCell']) (by unfold maxLen; omega) (by omega) (by simp; omega) ?_; intro v1 w1 hown1 hgrow1 _ _; have HO3 : Hid (OwnL w.heap.size w1 v1 (grpP ns g (n.ks.take (k + 1)))) := Lib.hid (by rw [HG2.out]; unfold OwnL; rw [List.length_append, HGL.out, List.flatMap_append]; exact hown1); have HB3 := Lib.hid ((HB.out.alloc hsz _).grown hgrow1 (by simp; omega) (fun g e => (HO2.out.lt g e).1)); clear hown1 hgrow1 HO2 HB)
        go_roundw
        case rel => exact ⟨k + 1, by omega, by go_num, HO3, HB3⟩
        case measure => (simp [intOf]; try omega)
      · have g9 : (kdOf ns yn == 9) = false := by simpa using hk9
        have HO3 : Hid (OwnL w.heap.size wr u5 (grpP ns g (n.ks.take (k + 1)))) := Lib.hid (by rw [HG.out, Int.toNat_natCast, if_neg hk9, List.append_nil]; exact HO.out)
        clear HG hk9 HO2
        go_wp2
        go_roundw
        case rel => exact ⟨k + 1, by omega, by go_num, HO3, HB⟩
        case measure => (simp [intOf]; try omega)
    · obtain rfl : kl = k := by omega
      have HO3 : Hid (OwnL w.heap.size wr u5 (grpP ns g n.ks)) := Lib.hid (by have := HO.out; rw [List.take_of_length_le (by rw [HKL.out]; exact Nat.le_refl _)] at this; exact this)
      clear HO
      go_wp2
      go_ret
      exact ⟨_, rfl, HO3.out, HB.out⟩
/-- the captions among kids -/
def cptP (ns : List Nd) (ks : List Int) : List Int := ks.filter fun z => decide (kdOf ns z.toNat = 3)
theorem cpt_snoc (ns : List Nd) (ks : List Int) (k : Nat) (z : Int) (h : ks[k]? = some z) : cptP ns (ks.take (k + 1)) = cptP ns (ks.take k) ++ (if kdOf ns z.toNat = 3 then [z] else []) := by
  unfold cptP
  rw [List.take_add_one, h, List.filter_append]
  by_cases hz : kdOf ns z.toNat = 3 <;> simp [hz]
theorem cpt_len (ns : List Nd) (ks : List Int) : (cptP ns ks).length ≤ ks.length := List.length_filter_le _ _
set_option maxRecDepth 100000 in
set_option maxHeartbeats 4000000 in
theorem refCapt_at (b off cap m g : Nat) (ns : List Nd) (w : World) (hm : ns.length = m) (hg : g < m) (h2 : m ≤ 65536) (hP : PageAt w (.slice (some ⟨b, off, none⟩) m cap) ns) (hK : ∀ n ∈ ns, n.ks.length ≤ 70000)
    (hL : ∀ n ∈ ns, ∀ z ∈ n.ks, 0 ≤ z ∧ z < (m : Int)) :
    Calls Try.prog 18 #[.slice (some ⟨b, off, none⟩) m cap, .int .i64 g] w fun e W' => ∃ v, e = .returned v ∧ OwnN w.heap.size W' v (captP ns g) ∧ Below w.heap.size w W' := by
  obtain ⟨n, hn⟩ : ∃ n, ns[g]? = some n := ⟨_, List.getElem?_eq_getElem (by rw [hm]; exact hg)⟩
  have hmem : n ∈ ns := List.mem_iff_getElem?.2 ⟨g, hn⟩
  have hF : captP ns g = cptP ns n.ks := by unfold captP kindK cptP kfOf; rw [Int.toNat_natCast, hn]; rfl
  rw [hF]
  have hc : w.cell? ⟨b, off + g * 34 + 1, none⟩ = some n.kv ∧ Ints w n.kv n.ks ∧ b < w.heap.size := by
    obtain ⟨b', off', e, _, hc⟩ := page_cells hP (by omega)
    injection e with e; injection e with e1 e2
    subst e1 e2
    exact (hc g n hn).2
  obtain ⟨ck, hI, hb0⟩ := hc
  have hfew := hK n hmem
  have HLN := Lib.hid (hL n hmem)
  obtain ⟨qk, kc, hkv⟩ := hI.form
  rw [hkv] at ck hI
  obtain ⟨kl, hkl⟩ : ∃ kl, n.ks.length = kl := ⟨_, rfl⟩
  rw [hkl] at ck hfew hI
  have HI := Lib.hid hI
  have HKL := Lib.hid hkl
  have HCK := Lib.hid ck
  have HP := Lib.hid hP
  obtain ⟨i0, hi0, hz0', hz1', hz2'⟩ := info_parts Try.infoInt
  have HZ1 := Lib.hid hz0'
  have HZ2 := Lib.hid hz1'
  have HZ3 := Lib.hid hz2'
  clear hz0' hz1' hz2' hm hK hL hP hn hmem hF hI hkl ck hkv
  go_enter Try.func18, Try.ntmps18
  go_wp2
  go_loopw [5, 6] (fun s5 s6 X => ∃ k : Nat, k ≤ kl ∧ s6 = .int .i64 k ∧ Hid (OwnN w.heap.size X s5 (cptP ns (n.ks.take k))) ∧ Hid (Below w.heap.size w X)) (fun _ s6 _ => kl - (intOf s6).toNat)
  case atStart => exact ⟨0, by omega, rfl, Lib.hid (by rw [List.take_zero]; exact World.ownsRow_nil _ _ _ _), Lib.hid (Below.refl _ _)⟩
  case round =>
    obtain ⟨k, hk, rfl, HO, HB⟩ := hrel
    have dck := (HB.out.cell (p := ⟨b, off + g * 34 + 1, none⟩) hb0).trans HCK.out
    by_cases hlt : k < kl
    · obtain ⟨y, hy⟩ : ∃ y, n.ks[k]? = some y := ⟨_, List.getElem?_eq_getElem (by rw [HKL.out]; exact hlt)⟩
      obtain ⟨qb, qo, rfl, cy, ly⟩ := ints_at0' HI.out k y hy
      have dcy := (HB.out.cell (p := ⟨qb, qo + k, none⟩) ly).trans cy
      obtain ⟨yr0, yr1⟩ := HLN.out y (List.mem_iff_getElem?.2 ⟨k, hy⟩)
      obtain ⟨yn, rfl⟩ : ∃ yn : Nat, y = (yn : Int) := ⟨y.toNat, by omega⟩
      have ckd := kd_at (HP.out.below HB.out) yn (by omega)
      have HG := Lib.hid (cpt_snoc ns n.ks k (yn : Int) hy)
      have hgl : (cptP ns (n.ks.take k)).length ≤ 70000 := by
        refine Nat.le_trans (cpt_len _ _) ?_
        rw [List.length_take]; omega
      obtain ⟨gl, hgl2⟩ : ∃ gl, (cptP ns (n.ks.take k)).length = gl := ⟨_, rfl⟩
      rw [hgl2] at hgl
      have hO := HO.out
      unfold OwnN at hO
      rw [hgl2] at hO
      have HO2 := Lib.hid hO
      have HGL := Lib.hid hgl2
      have hsz := HB.out.size
      clear hy cy hO hgl2
      by_cases hk9 : kdOf ns yn = 3
      · have g9 : (kdOf ns yn == 3) = true := by simpa using hk9
        have HG2 : Hid (cptP ns (n.ks.take (k + 1)) = cptP ns (n.ks.take k) ++ [(yn : Int)]) := Lib.hid (by rw [HG.out, Int.toNat_natCast, if_pos hk9])
        clear HG hk9 HO
        go_wp2_with (at_builtin; refine wpList_append_own_at _ rfl _ _ 29 rfl w.heap.size 3 i0 (.int .i64 0) 1 8 Try.underlying29 hi0 HZ1.out HZ2.out HZ3.out rfl (by decide) _ _ _ rfl (HO2.out.alloc _) ⟨wr.heap.size, 0, none⟩ 1 1 [.int .i64 (yn : Int)] rfl rfl (lay_new _ [.int .i64 (yn : Int)] 3 wr.heap.size (by simp)) (by simp [Value.oneCell']) (by unfold maxLen; omega) (by omega) (by simp; omega) ?_; intro v1 w1 hown1 hgrow1 _ _; have HO3 : Hid (OwnN w.heap.size w1 v1 (cptP ns (n.ks.take (k + 1)))) := Lib.hid (by rw [HG2.out]; unfold OwnN; rw [List.length_append, HGL.out, List.map_append]; exact hown1); have HB3 := Lib.hid ((HB.out.alloc hsz _).grown hgrow1 (by simp; omega) (fun g e => (HO2.out.lt g e).1)); clear hown1 hgrow1 HO2 HB)
        go_roundw
        case rel => exact ⟨k + 1, by omega, by go_num, HO3, HB3⟩
        case measure => (simp [intOf]; try omega)
      · have g9 : (kdOf ns yn == 3) = false := by simpa using hk9
        have HO3 : Hid (OwnN w.heap.size wr u5 (cptP ns (n.ks.take (k + 1)))) := Lib.hid (by rw [HG.out, Int.toNat_natCast, if_neg hk9, List.append_nil]; exact HO.out)
        clear HG hk9 HO2
        go_wp2
        go_roundw
        case rel => exact ⟨k + 1, by omega, by go_num, HO3, HB⟩
        case measure => (simp [intOf]; try omega)
    · obtain rfl : kl = k := by omega
      have HO3 : Hid (OwnN w.heap.size wr u5 (cptP ns n.ks)) := Lib.hid (by have := HO.out; rw [List.take_of_length_le (by rw [HKL.out]; exact Nat.le_refl _)] at this; exact this)
      clear HO
      go_wp2
      go_ret
      exact ⟨_, rfl, HO3.out, HB.out⟩
end Go.Proofs.Ytdljgdmodobjpaa
