/- The document's order of a page: its walk, a function that calls itself, and the contract of purflingref04.Order. -/
/- Contract of the document's right: whether a node is right. Written by program (mk_TRight.py). -/
/- The document's reached: is a place met from the root? Breadth first. -/
/- The document's parents and depths of a page. -/
/- Contract of the document's Check of a page. Written by program (mk_TRefCheck.py). -/
/- The document's Check answers what the program's Check answers, for every page. -/
/- The document's lanes: Check, group, Captions. -/
import Derived.Test.YtgaclepoipaecaaTPre
import Derived.Test.YtgaclepoipaecaaTGrow
import Derived.Test.YtgaclepoipaecaaTCopy
import Derived.Test.YtgaclepoipaecaaSRefValid
import Derived.Test.YtgaclepoipaecaaLLaw
namespace Go.Proofs.Ytgaclepoipaecaa
open Go.RowKit Go.Shelf
set_option linter.unusedVariables false
attribute [local go_sem] Oper.semAt_some

theorem fold_bound (g : Int → List Int → List Int) (m : Nat) (hg : ∀ z out, out.length ≤ m + 1 → (g z out).length ≤ m + 1) : ∀ (ks out : List Int), out.length ≤ m + 1 → (ks.foldl (fun o y => g y o) out).length ≤ m + 1
  | [], out, h => h
  | y :: ks, out, h => by
    rw [List.foldl_cons]
    exact fold_bound g m hg ks _ (hg y out h)
theorem ordD_bound (kf : Int → List Int) (m : Nat) : ∀ (f : Nat) (z : Int) (out : List Int), out.length ≤ m + 1 → (ordD kf m f z out).length ≤ m + 1
  | 0, z, out, h => h
  | f + 1, z, out, h => by
    unfold ordD
    split
    · exact h
    · exact fold_bound _ m (ordD_bound kf m f) (kf z) (out ++ [z]) (by simp; omega)
def OwnI (base : Nat) (X : World) (v : Value) (zs : List Int) : Prop := X.ownsRow base 3 1 v zs.length (zs.map (Value.int .i64))
def OrdPost (w0 : World) (zs : List Int) (e : Ending) (W' : World) : Prop := ∃ v', e = .returned v' ∧ OwnI w0.heap.size W' v' zs ∧ Below w0.heap.size w0 W'
theorem fold_snoc (g : Int → List Int → List Int) (ks : List Int) (i : Nat) (y : Int) (h : ks[i]? = some y) (out : List Int) : (ks.take (i + 1)).foldl (fun o y => g y o) out = g y ((ks.take i).foldl (fun o y => g y o) out) := by
  rw [List.take_add_one, h]
  simp [List.foldl_append]
theorem ints_at0' {W : World} {q : Option Addr} {kc kl : Nat} {zs : List Int} (h : Ints W (.slice q kl kc) zs) (t : Nat) (z : Int) (hz : zs[t]? = some z) : ∃ b o, q = some ⟨b, o, none⟩ ∧ W.cell? ⟨b, o + t, none⟩ = some (.int .i64 z) ∧ b < W.heap.size := by
  have ht := (List.getElem?_eq_some_iff.1 hz).1
  obtain ⟨_, ⟨a, cap, e, rfl⟩ | ⟨b, off, cap, e, hc⟩⟩ := h
  · simp at ht
  · injection e with e1 e2 e3
    have := hc t ht
    rw [hz] at this
    exact ⟨b, off, e1, this, cell_lt this⟩
set_option maxRecDepth 100000 in
set_option maxHeartbeats 2000000 in
theorem order_rec (b off cap m : Nat) (ns : List Nd) (w0 : World) (hm : ns.length = m) (h1 : 1 ≤ m) (h2 : m ≤ 65536) (hP : PageAt w0 (.slice (some ⟨b, off, none⟩) m cap) ns) (hK : ∀ n ∈ ns, n.ks.length ≤ 70000)
    (hL : ∀ n ∈ ns, ∀ z ∈ n.ks, 0 ≤ z ∧ z < (m : Int)) :
    ∀ (f : Nat) (z : Int) (out : List Int) (v : Value) (w : World), 0 ≤ z → z < (m : Int) → m + 2 ≤ f + out.length → out.length ≤ m + 1 → Below w0.heap.size w0 w → OwnI w0.heap.size w v out →
      Calls Try.prog 31 #[.slice (some ⟨b, off, none⟩) m cap, .int .i64 z, v] w (OrdPost w0 (ordD (kfOf ns) m f z out)) := by
  have HC : Hid (∀ (j : Nat) (n : Nd), ns[j]? = some n → w0.cell? ⟨b, off + j * 34 + 1, none⟩ = some n.kv ∧ Ints w0 n.kv n.ks ∧ b < w0.heap.size) := Lib.hid (by
    obtain ⟨b', off', e, _, hc⟩ := page_cells hP h1
    injection e with e; injection e with e1 e2
    subst e1 e2
    exact fun j n hn => (hc j n hn).2)
  have HM := Lib.hid hm
  have HKF := Lib.hid hK
  have HLI := Lib.hid hL
  clear hm hK hL hP
  intro f
  induction f with
  | zero => intro z out v w _ _ h3 h4; omega
  | succ f ih =>
    intro z out v w hz0 hz1 hf ho hB hO
    obtain ⟨j, rfl⟩ : ∃ j : Nat, z = (j : Int) := ⟨z.toNat, by omega⟩
    have hjm : j < m := by omega
    obtain ⟨p, c, rfl⟩ := (ints_own hO).1.form
    unfold OwnI at hO
    obtain ⟨k, hk⟩ : ∃ k, out.length = k := ⟨_, rfl⟩
    rw [hk] at hO hf ho ⊢
    by_cases hmk : m < k
    · have e : ordD (kfOf ns) m (f + 1) j out = out := by unfold ordD; rw [if_pos (by omega)]
      rw [e]
      have hO' : Hid (OwnI w0.heap.size w (.slice p k c) out) := Lib.hid (by unfold OwnI; rw [hk]; exact hO)
      have HB := Lib.hid hB
      clear hO hB ih e hk
      go_enter Try.func31, Try.ntmps31
      go_wp2
      go_ret
      exact ⟨_, rfl, hO'.out, HB.out⟩
    · obtain ⟨n, hn⟩ : ∃ n, ns[j]? = some n := ⟨_, List.getElem?_eq_getElem (by rw [HM.out]; exact hjm)⟩
      have hmem : n ∈ ns := List.mem_iff_getElem?.2 ⟨j, hn⟩
      have e : ordD (kfOf ns) m (f + 1) j out = n.ks.foldl (fun o y => ordD (kfOf ns) m f y o) (out ++ [(j : Int)]) := by
        conv => lhs; unfold ordD
        rw [if_neg (by omega)]
        unfold kfOf
        rw [Int.toNat_natCast, hn]; rfl
      rw [e]
      obtain ⟨cv0, hI, hb0⟩ := HC.out j n hn
      have hfew := HKF.out n hmem
      obtain ⟨qk, ck, hkv⟩ := hI.form
      rw [hkv] at cv0 hI
      obtain ⟨kl, hkl⟩ : ∃ kl, n.ks.length = kl := ⟨_, rfl⟩
      rw [hkl] at cv0 hfew hI
      have HI := Lib.hid hI
      have HKL := Lib.hid hkl
      have HLN := Lib.hid (HLI.out n hmem)
      have HO := Lib.hid hO
      have HB := Lib.hid hB
      have HO2 : Hid (out.length = k) := Lib.hid hk
      have IH := Lib.hid ih
      have hsz := hB.size
      clear hn hmem hI hkv hkl hO hB hk ih e
      obtain ⟨i0, hi0, hz0', hz1', hz2'⟩ := info_parts Try.infoInt
      have HZ1 := Lib.hid hz0'
      have HZ2 := Lib.hid hz1'
      have HZ3 := Lib.hid hz2'
      clear hz0' hz1' hz2'
      go_enter Try.func31, Try.ntmps31
      go_wp2_with (at_builtin; refine wpList_append_own_at _ rfl _ _ 32 rfl w0.heap.size 3 i0 (.int .i64 0) 1 8 Try.underlying32 hi0 HZ1.out HZ2.out HZ3.out rfl (by decide) _ _ _ rfl (HO.out.alloc _) ⟨w.heap.size, 0, none⟩ 1 1 [.int .i64 (j : Int)] rfl rfl (cell_one_new _ _ _) (by simp [Value.oneCell']) (by unfold maxLen; omega) (by omega) (by simp; omega) ?_; intro v1 w1 hown1 hgrow1 _ _; have hg1 : (w.alloc (.cells #[.int .i64 (j : Int)] 3)).grownBy w1 (Value.slice p k c).ownBlock := hgrow1; have HO1 : Hid (OwnI w0.heap.size w1 v1 (out ++ [(j : Int)])) := Lib.hid (by unfold OwnI; rw [List.length_append, HO2.out, List.map_append]; exact hown1); have HB1 := Lib.hid ((HB.out.alloc hsz _).grown hg1 (by simp; omega) (fun g e => (HO.out.lt g e).1)); clear hown1 hgrow1 hg1 HO HB)
      go_loopw [2, 7] (fun s2 s7 X => ∃ (i : Nat) (o : List Int), i ≤ kl ∧ s7 = .int .i64 i ∧ Hid (o = (n.ks.take i).foldl (fun o y => ordD (kfOf ns) m f y o) (out ++ [(j : Int)])) ∧ k + 1 ≤ o.length ∧ o.length ≤ m + 1 ∧ Hid (OwnI w0.heap.size X s2 o) ∧ Hid (Below w0.heap.size w0 X)) (fun _ s7 _ => kl - (intOf s7).toNat)
      case atStart => exact ⟨0, out ++ [(j : Int)], by omega, rfl, Lib.hid rfl, by simp [HO2.out], by simp [HO2.out]; omega, HO1, HB1⟩
      case round =>
        obtain ⟨i, o, hi, rfl, HE, hlo, hhi, HOX, HBX⟩ := hrel
        have dv := (HBX.out.cell (p := ⟨b, off + j * 34 + 1, none⟩) hb0).trans cv0
        have ls := HBX.out.size
        by_cases hlt : i < kl
        · obtain ⟨z, hz⟩ : ∃ z, n.ks[i]? = some z := ⟨_, List.getElem?_eq_getElem (by rw [HKL.out]; exact hlt)⟩
          obtain ⟨qb, qo, rfl, cz, lz⟩ := ints_at0' HI.out i z hz
          have dz := (HBX.out.cell (p := ⟨qb, qo + i, none⟩) lz).trans cz
          obtain ⟨p2, c2, hv2⟩ := (ints_own HOX.out).1.form
          obtain ⟨lo, hlo2⟩ : ∃ lo, o.length = lo := ⟨_, rfl⟩
          rw [hlo2] at hlo hhi hv2
          subst hv2
          have hzr := HLN.out z (List.mem_iff_getElem?.2 ⟨i, hz⟩)
          have HZ := Lib.hid hz
          have HLO := Lib.hid hlo2
          have HZR := Lib.hid hzr
          clear hz cz hlo2 hzr
          go_wp2_with (go_at_call 31; refine (IH.out z o _ _ HZR.out.1 HZR.out.2 (by rw [HLO.out]; omega) (by rw [HLO.out]; omega) HBX.out HOX.out).mono ?_; rintro e w3 ⟨v3, rfl, o3, b3⟩; have HO3 := Lib.hid o3; have HB3 := Lib.hid b3; clear o3 b3 HOX HBX dv dz)
          have ml := ordD_mono (kfOf ns) m f z o
          have bl := ordD_bound (kfOf ns) m f z o (by rw [HLO.out]; omega)
          rw [HLO.out] at ml
          go_roundw
          case rel => exact ⟨i + 1, _, by omega, by go_num, Lib.hid (by rw [fold_snoc _ _ i z HZ.out, ← HE.out]), by omega, bl, HO3, HB3⟩
          case measure => simp [intOf]; omega
        · obtain rfl : i = kl := by omega
          clear cv0
          go_wp2
          go_ret
          refine ⟨_, rfl, ?_, HBX.out⟩
          have := HE.out
          rw [List.take_of_length_le (by rw [HKL.out]; exact Nat.le_refl _)] at this
          rw [← this]
          exact HOX.out
end Go.Proofs.Ytgaclepoipaecaa

namespace Go.Proofs.Ytgaclepoipaecaa
open Go.RowKit Go.Shelf
set_option linter.unusedVariables false
set_option linter.unusedSimpArgs false
attribute [local go_sem] Oper.semAt_some

/-- what lies in a node's box -/
def RBox (n : Nd) (g : Nat) (X : World) : Prop := g < X.heap.size ∧ NdAt X g 0 n
theorem RBox.later {n : Nd} {g : Nat} {X Y : World} (h : RBox n g X) (hb : Below X.heap.size X Y) : RBox n g Y := ⟨Nat.lt_of_lt_of_le h.1 hb.size, h.2.below hb⟩
theorem right_not (n : Nd) : (!wrongN n) = (decide (0 ≤ n.k ∧ n.k ≤ 10) && validS n.s && !decide (10000 < n.ws.length) && !outB 0 1073741824 n.b && !outB 0 1073741824 n.h && !n.ws.any (outB 0 1073741824) && (decide (n.k = 1) || !(decide (0 < n.ws.length) || decide (n.b ≠ 0) || decide (n.h ≠ 0))) && ((decide (n.k ≠ 1) && decide (n.k ≠ 5)) || decide (n.ks.length = 0))) := by
  by_cases hT : hasT n = true
  · have hT' : (decide (0 < n.ws.length) || decide (n.b ≠ 0) || decide (n.h ≠ 0)) = true := by unfold hasT at hT; rw [Bool.or_assoc]; exact hT
    rw [hT']
    unfold wrongN wrongT
    rw [hT]
    by_cases h1 : n.k = 1
    · simp only [h1, if_true, List.any_cons, List.any_nil]
      by_cases hk : n.ks.length = 0 <;> cases validS n.s <;> cases n.ws.any (outB 0 1073741824) <;> cases outB 0 1073741824 n.b <;> cases outB 0 1073741824 n.h <;> by_cases hw : 10000 < n.ws.length <;> simp [hk, hw, Nat.pos_iff_ne_zero]
    · simp only [h1, if_false, decide_false, Bool.false_or, Bool.not_true]
      by_cases h5 : n.k = 5 <;> by_cases hr : 0 ≤ n.k ∧ n.k ≤ 10 <;> simp [h5, hr]
  · have hT0 : hasT n = false := by simpa using hT
    have hT' : (decide (0 < n.ws.length) || decide (n.b ≠ 0) || decide (n.h ≠ 0)) = false := by unfold hasT at hT0; rw [Bool.or_assoc]; exact hT0
    have h3 := hT'
    simp only [Bool.or_eq_false_iff, decide_eq_false_iff_not] at h3
    obtain ⟨⟨hw, hb⟩, hh⟩ := h3
    have hb0 : n.b = 0 := by simpa using hb
    have hh0 : n.h = 0 := by simpa using hh
    have hws : n.ws = [] := List.eq_nil_of_length_eq_zero (by omega)
    have ho : outB 0 1073741824 0 = false := by decide
    rw [hT']
    unfold wrongN wrongT
    rw [hT0, hws, hb0, hh0]
    by_cases h1 : n.k = 1
    · simp only [h1, if_true, List.any_cons, List.any_nil, ho]
      by_cases hk : n.ks.length = 0 <;> cases validS n.s <;> simp [hk, Nat.pos_iff_ne_zero]
    · by_cases h5 : n.k = 5
      · simp only [h1, h5, if_true, if_false]
        by_cases hk : n.ks.length = 0 <;> cases validS n.s <;> simp [hk, Nat.pos_iff_ne_zero, ho]
      · by_cases hr : 0 ≤ n.k ∧ n.k ≤ 10 <;> cases validS n.s <;> simp [h1, h5, hr, ho]
set_option maxRecDepth 100000 in
set_option maxHeartbeats 8000000 in
theorem right_at (n : Nd) (w : World) (kp wp : Option Addr) (km kcap l wcap : Nat) (cs sc : Array Value) (k b h : Int) (d2 d : Bool) (hkv : n.kv = .slice kp km kcap) (hwv : n.wv = .slice wp l wcap) (hl : n.ws.length = l) (hcs : n.cells.toArray = cs) (hsc : n.s.cells.toArray = sc)
    (hk : n.k = k) (hb : n.b = b) (hh : n.h = h) (HW : Hid (Ints w (.slice wp l wcap) n.ws))
    (HV : Hid (∀ X : World, Calls Try.prog 53 #[.agg sc] X fun e W' => e = .returned (.bool d2) ∧ Below X.heap.size X W'))
    (D : Hid (d = (decide (0 ≤ k ∧ k ≤ 10) && d2 && !decide (10000 < l) && !outB 0 1073741824 b && !outB 0 1073741824 h && !n.ws.any (outB 0 1073741824) && (decide (k = 1) || !(decide (0 < l) || decide (b ≠ 0) || decide (h ≠ 0))) && ((decide (k ≠ 1) && decide (k ≠ 5)) || decide (km = 0))))) :
    Calls Try.prog 30 #[.agg cs] w fun e W' => e = .returned (.bool d) ∧ Below w.heap.size w W' := by
  have KB : Hid (RBox n w.heap.size (w.alloc (.cells cs 45))) := Lib.hid (by rw [← hcs]; have h0 := whole_new w n.cells 45 _ rfl; exact ⟨h0.lt, .whole h0⟩)
  have LS : Hid (∀ X, NdAt X w.heap.size 0 n → ∀ j v, sc[j]? = some v → X.cell? ((⟨w.heap.size, 2, none⟩ : Addr).add j) = some v) := Lib.hid fun X h j v hj => by rw [← hsc] at hj; exact h.style j v hj
  have iS : Hid ((Try.prog.info? 42).map (·.size) = some sc.size) := Lib.hid (by rw [← hsc]; exact sty_info' _)
  have hB : Hid (Below w.heap.size w (w.alloc (.cells cs 45))) := Lib.hid ((Below.refl _ w).alloc (Nat.le_refl _) _)
  have C0 : Hid (∀ X, RBox n w.heap.size X → X.cell? ⟨w.heap.size, 0, none⟩ = some (.int .i64 k)) := Lib.hid fun X hX => by have := hX.2 0 _ n.c0; rw [hk] at this; exact this
  have C1 : Hid (∀ X, RBox n w.heap.size X → X.cell? ⟨w.heap.size, 1, none⟩ = some (.slice kp km kcap)) := Lib.hid fun X hX => by have := hX.2 1 _ n.c1; rw [hkv] at this; exact this
  have C31 : Hid (∀ X, RBox n w.heap.size X → X.cell? ⟨w.heap.size, 31, none⟩ = some (.slice wp l wcap)) := Lib.hid fun X hX => by have := hX.2 31 _ n.c31; rw [hwv] at this; exact this
  have C32 : Hid (∀ X, RBox n w.heap.size X → X.cell? ⟨w.heap.size, 32, none⟩ = some (.int .i64 b)) := Lib.hid fun X hX => by have := hX.2 32 _ n.c32; rw [hb] at this; exact this
  have C33 : Hid (∀ X, RBox n w.heap.size X → X.cell? ⟨w.heap.size, 33, none⟩ = some (.int .i64 h)) := Lib.hid fun X hX => by have := hX.2 33 _ n.c33; rw [hh] at this; exact this
  have HLW := Lib.hid hl
  clear hcs hsc hkv hwv hl hk hb hh
  by_cases c0 : k < 0
  · have f0 : decide (k < 0) = true := by simp; omega
    have hd : d = false := by
      rw [D.out]
      rw [decide_eq_false (by omega : ¬ (0 ≤ k ∧ k ≤ 10))]; simp
    clear D HW HLW; subst hd
    go_enter Try.func30, Try.ntmps30
    go_wp2_with (first
      | (refine wpList_load_at rfl 42 (.tmp 5) rfl _ rfl sc _ (LS.out _ KB.out.2) Try.underlying42 rfl iS.out ?_)
      | (go_at_call 53; refine (HV.out _).mono ?_; clear HV; rintro e w1 ⟨rfl, hb1⟩; have e0 := C0.out _ (KB.out.later hb1); have e1 := C1.out _ (KB.out.later hb1); have e31 := C31.out _ (KB.out.later hb1); have e32 := C32.out _ (KB.out.later hb1); have e33 := C33.out _ (KB.out.later hb1); have B1 := Lib.hid (hB.out.trans (hb1.mono hB.out.size)); have z1 := (KB.out.later hb1).1; clear hb1 KB hB C0 C1 C31 C32 C33 LS iS))
    go_ret
    exact ⟨rfl, B1.out⟩
  · have f0 : decide (k < 0) = false := by simp; omega
    by_cases c1 : k > 10
    · have f1 : decide (k > 10) = true := by simp; omega
      have hd : d = false := by
        rw [D.out]
        rw [decide_eq_false (by omega : ¬ (0 ≤ k ∧ k ≤ 10))]; simp
      clear D HW HLW; subst hd
      go_enter Try.func30, Try.ntmps30
      go_wp2_with (first
        | (refine wpList_load_at rfl 42 (.tmp 5) rfl _ rfl sc _ (LS.out _ KB.out.2) Try.underlying42 rfl iS.out ?_)
        | (go_at_call 53; refine (HV.out _).mono ?_; clear HV; rintro e w1 ⟨rfl, hb1⟩; have e0 := C0.out _ (KB.out.later hb1); have e1 := C1.out _ (KB.out.later hb1); have e31 := C31.out _ (KB.out.later hb1); have e32 := C32.out _ (KB.out.later hb1); have e33 := C33.out _ (KB.out.later hb1); have B1 := Lib.hid (hB.out.trans (hb1.mono hB.out.size)); have z1 := (KB.out.later hb1).1; clear hb1 KB hB C0 C1 C31 C32 C33 LS iS))
      go_ret
      exact ⟨rfl, B1.out⟩
    · have f1 : decide (k > 10) = false := by simp; omega
      by_cases c2 : d2 = false
      · subst c2
        have hd : d = false := by
          rw [D.out]
          simp
        clear D HW HLW; subst hd
        go_enter Try.func30, Try.ntmps30
        go_wp2_with (first
          | (refine wpList_load_at rfl 42 (.tmp 5) rfl _ rfl sc _ (LS.out _ KB.out.2) Try.underlying42 rfl iS.out ?_)
          | (go_at_call 53; refine (HV.out _).mono ?_; clear HV; rintro e w1 ⟨rfl, hb1⟩; have e0 := C0.out _ (KB.out.later hb1); have e1 := C1.out _ (KB.out.later hb1); have e31 := C31.out _ (KB.out.later hb1); have e32 := C32.out _ (KB.out.later hb1); have e33 := C33.out _ (KB.out.later hb1); have B1 := Lib.hid (hB.out.trans (hb1.mono hB.out.size)); have z1 := (KB.out.later hb1).1; clear hb1 KB hB C0 C1 C31 C32 C33 LS iS))
        go_ret
        exact ⟨rfl, B1.out⟩
      · obtain rfl : d2 = true := by simpa using c2
        by_cases c3 : 10000 < l
        · have f3 : decide ((l : Int) > 10000) = true := by simp; omega
          have hd : d = false := by
            rw [D.out]
            rw [decide_eq_true c3]; simp
          clear D HW HLW; subst hd
          go_enter Try.func30, Try.ntmps30
          go_wp2_with (first
            | (refine wpList_load_at rfl 42 (.tmp 5) rfl _ rfl sc _ (LS.out _ KB.out.2) Try.underlying42 rfl iS.out ?_)
            | (go_at_call 53; refine (HV.out _).mono ?_; clear HV; rintro e w1 ⟨rfl, hb1⟩; have e0 := C0.out _ (KB.out.later hb1); have e1 := C1.out _ (KB.out.later hb1); have e31 := C31.out _ (KB.out.later hb1); have e32 := C32.out _ (KB.out.later hb1); have e33 := C33.out _ (KB.out.later hb1); have B1 := Lib.hid (hB.out.trans (hb1.mono hB.out.size)); have z1 := (KB.out.later hb1).1; clear hb1 KB hB C0 C1 C31 C32 C33 LS iS))
          go_ret
          exact ⟨rfl, B1.out⟩
        · have f3 : decide ((l : Int) > 10000) = false := by simp; omega
          by_cases c4 : b < 0
          · have f4 : decide (b < 0) = true := by simp; omega
            have hd : d = false := by
              rw [D.out]
              rw [outB_lo c4]; simp
            clear D HW HLW; subst hd
            go_enter Try.func30, Try.ntmps30
            go_wp2_with (first
              | (refine wpList_load_at rfl 42 (.tmp 5) rfl _ rfl sc _ (LS.out _ KB.out.2) Try.underlying42 rfl iS.out ?_)
              | (go_at_call 53; refine (HV.out _).mono ?_; clear HV; rintro e w1 ⟨rfl, hb1⟩; have e0 := C0.out _ (KB.out.later hb1); have e1 := C1.out _ (KB.out.later hb1); have e31 := C31.out _ (KB.out.later hb1); have e32 := C32.out _ (KB.out.later hb1); have e33 := C33.out _ (KB.out.later hb1); have B1 := Lib.hid (hB.out.trans (hb1.mono hB.out.size)); have z1 := (KB.out.later hb1).1; clear hb1 KB hB C0 C1 C31 C32 C33 LS iS))
            go_ret
            exact ⟨rfl, B1.out⟩
          · have f4 : decide (b < 0) = false := by simp; omega
            by_cases c5 : b > 1073741824
            · have f5 : decide (b > 1073741824) = true := by simp; omega
              have hd : d = false := by
                rw [D.out]
                rw [outB_hi c5]; simp
              clear D HW HLW; subst hd
              go_enter Try.func30, Try.ntmps30
              go_wp2_with (first
                | (refine wpList_load_at rfl 42 (.tmp 5) rfl _ rfl sc _ (LS.out _ KB.out.2) Try.underlying42 rfl iS.out ?_)
                | (go_at_call 53; refine (HV.out _).mono ?_; clear HV; rintro e w1 ⟨rfl, hb1⟩; have e0 := C0.out _ (KB.out.later hb1); have e1 := C1.out _ (KB.out.later hb1); have e31 := C31.out _ (KB.out.later hb1); have e32 := C32.out _ (KB.out.later hb1); have e33 := C33.out _ (KB.out.later hb1); have B1 := Lib.hid (hB.out.trans (hb1.mono hB.out.size)); have z1 := (KB.out.later hb1).1; clear hb1 KB hB C0 C1 C31 C32 C33 LS iS))
              go_ret
              exact ⟨rfl, B1.out⟩
            · have f5 : decide (b > 1073741824) = false := by simp; omega
              by_cases c6 : h < 0
              · have f6 : decide (h < 0) = true := by simp; omega
                have hd : d = false := by
                  rw [D.out]
                  rw [outB_lo c6]; simp
                clear D HW HLW; subst hd
                go_enter Try.func30, Try.ntmps30
                go_wp2_with (first
                  | (refine wpList_load_at rfl 42 (.tmp 5) rfl _ rfl sc _ (LS.out _ KB.out.2) Try.underlying42 rfl iS.out ?_)
                  | (go_at_call 53; refine (HV.out _).mono ?_; clear HV; rintro e w1 ⟨rfl, hb1⟩; have e0 := C0.out _ (KB.out.later hb1); have e1 := C1.out _ (KB.out.later hb1); have e31 := C31.out _ (KB.out.later hb1); have e32 := C32.out _ (KB.out.later hb1); have e33 := C33.out _ (KB.out.later hb1); have B1 := Lib.hid (hB.out.trans (hb1.mono hB.out.size)); have z1 := (KB.out.later hb1).1; clear hb1 KB hB C0 C1 C31 C32 C33 LS iS))
                go_ret
                exact ⟨rfl, B1.out⟩
              · have f6 : decide (h < 0) = false := by simp; omega
                by_cases c7 : h > 1073741824
                · have f7 : decide (h > 1073741824) = true := by simp; omega
                  have hd : d = false := by
                    rw [D.out]
                    rw [outB_hi c7]; simp
                  clear D HW HLW; subst hd
                  go_enter Try.func30, Try.ntmps30
                  go_wp2_with (first
                    | (refine wpList_load_at rfl 42 (.tmp 5) rfl _ rfl sc _ (LS.out _ KB.out.2) Try.underlying42 rfl iS.out ?_)
                    | (go_at_call 53; refine (HV.out _).mono ?_; clear HV; rintro e w1 ⟨rfl, hb1⟩; have e0 := C0.out _ (KB.out.later hb1); have e1 := C1.out _ (KB.out.later hb1); have e31 := C31.out _ (KB.out.later hb1); have e32 := C32.out _ (KB.out.later hb1); have e33 := C33.out _ (KB.out.later hb1); have B1 := Lib.hid (hB.out.trans (hb1.mono hB.out.size)); have z1 := (KB.out.later hb1).1; clear hb1 KB hB C0 C1 C31 C32 C33 LS iS))
                  go_ret
                  exact ⟨rfl, B1.out⟩
                · have f7 : decide (h > 1073741824) = false := by simp; omega
                  have HD : Hid (d = (!n.ws.any (outB 0 1073741824) && (decide (k = 1) || !(decide (0 < l) || decide (b ≠ 0) || decide (h ≠ 0))) && ((decide (k ≠ 1) && decide (k ≠ 5)) || decide (km = 0)))) := Lib.hid (by
                    rw [D.out, decide_eq_true (by omega : 0 ≤ k ∧ k ≤ 10), outB_in (by omega) (by omega), outB_in (by omega) (by omega), decide_eq_false c3]
                    simp)
                  clear D
                  have hl10 : l ≤ 10000 := by omega
                  go_enter Try.func30, Try.ntmps30
                  go_wp2_with (first
                    | (refine wpList_load_at rfl 42 (.tmp 5) rfl _ rfl sc _ (LS.out _ KB.out.2) Try.underlying42 rfl iS.out ?_)
                    | (go_at_call 53; refine (HV.out _).mono ?_; clear HV; rintro e w1 ⟨rfl, hb1⟩; have e0 := C0.out _ (KB.out.later hb1); have e1 := C1.out _ (KB.out.later hb1); have e31 := C31.out _ (KB.out.later hb1); have e32 := C32.out _ (KB.out.later hb1); have e33 := C33.out _ (KB.out.later hb1); have B1 := Lib.hid (hB.out.trans (hb1.mono hB.out.size)); have z1 := (KB.out.later hb1).1; clear hb1 KB hB C0 C1 C31 C32 C33 LS iS))
                  have HW1 := Lib.hid (HW.out.below B1.out)
                  clear HW
                  go_loop [4] (fun s4 => ∃ i : Nat, i ≤ l ∧ s4 = .int .i64 i ∧ Hid (∀ j z, j < i → n.ws[j]? = some z → outB 0 1073741824 z = false)) (fun s4 => l - (intOf s4).toNat)
                  case atStart => exact ⟨0, by omega, rfl, Lib.hid fun j z hj => by omega⟩
                  case round =>
                    obtain ⟨i, hi, rfl, HA⟩ := hrel
                    by_cases hlt : i < l
                    · obtain ⟨z, hz⟩ : ∃ z, n.ws[i]? = some z := ⟨_, List.getElem?_eq_getElem (by rw [HLW.out]; exact hlt)⟩
                      obtain ⟨wb, wo, rfl, cz, lz⟩ := ints_at0' HW1.out i z hz
                      have HZ := Lib.hid hz
                      clear hz
                      by_cases z0 : z < 0
                      · have g0 : decide (z < 0) = true := by simpa using z0
                        have hd : d = false := by
                          rw [HD.out, List.any_eq_true.2 ⟨z, List.mem_iff_getElem?.2 ⟨i, HZ.out⟩, outB_lo z0⟩]; rfl
                        clear HD; subst hd
                        go_wp2
                        go_ret
                        exact ⟨rfl, B1.out⟩
                      · have g0 : decide (z < 0) = false := by simpa using z0
                        by_cases z1' : z > 1073741824
                        · have g1 : decide (z > 1073741824) = true := by simpa using z1'
                          have hd : d = false := by
                            rw [HD.out, List.any_eq_true.2 ⟨z, List.mem_iff_getElem?.2 ⟨i, HZ.out⟩, outB_hi z1'⟩]; rfl
                          clear HD; subst hd
                          go_wp2
                          go_ret
                          exact ⟨rfl, B1.out⟩
                        · have g1 : decide (z > 1073741824) = false := by simpa using z1'
                          have HA2 : Hid (∀ j z, j < i + 1 → n.ws[j]? = some z → outB 0 1073741824 z = false) := Lib.hid fun j z' hj hz' => by
                            by_cases hji : j < i
                            · exact HA.out j z' hji hz'
                            · obtain rfl : j = i := by omega
                              rw [HZ.out] at hz'
                              injection hz' with e
                              rw [← e]; exact outB_in (by omega) (by omega)
                          go_wp2
                          go_round
                          case rel => exact ⟨i + 1, by omega, by go_num, HA2⟩
                          case measure => (simp [intOf]; try omega)
                    · obtain rfl : i = l := by omega
                      have HE : Hid (d = ((decide (k = 1) || !(decide (0 < i) || decide (b ≠ 0) || decide (h ≠ 0))) && ((decide (k ≠ 1) && decide (k ≠ 5)) || decide (km = 0)))) := Lib.hid (by
                        rw [HD.out, List.any_eq_false.2 (fun z hz => by
                          obtain ⟨j, hj⟩ := List.mem_iff_getElem?.1 hz
                          rw [HA.out j z (by have := (List.getElem?_eq_some_iff.1 hj).1; rw [HLW.out] at this; exact this) hj]; simp)]
                        simp)
                      clear HD HA HW1
                      by_cases k1 : k = 1
                      · subst k1
                        have hd : Hid (d = decide (km = 0)) := Lib.hid (by rw [HE.out]; simp)
                        clear HE
                        by_cases m0 : km = 0
                        · subst m0
                          go_wp2
                          go_ret
                          exact ⟨by rw [hd.out]; rfl, B1.out⟩
                        · have gm : ((km : Int) == 0) = false := by simpa using m0
                          go_wp2
                          go_ret
                          exact ⟨by rw [hd.out, decide_eq_false m0]; rfl, B1.out⟩
                      · have gk : (k != 1) = true := by simpa using k1
                        by_cases hT : 0 < i ∨ b ≠ 0 ∨ h ≠ 0
                        · have hd : d = false := by
                            rw [HE.out]
                            rcases hT with h1 | h1 | h1 <;> simp [h1, k1]
                          clear HE; subst hd
                          by_cases t0 : 0 < i
                          · have g : decide ((i : Int) > 0) = true := by simp; omega
                            go_wp2
                            go_ret
                            exact ⟨rfl, B1.out⟩
                          · have g : decide ((i : Int) > 0) = false := by simp; omega
                            by_cases t1 : b ≠ 0
                            · have g1 : (b != 0) = true := by simpa using t1
                              go_wp2
                              go_ret
                              exact ⟨rfl, B1.out⟩
                            · have g1 : (b != 0) = false := by simpa using t1
                              have g2 : (h != 0) = true := by simp; omega
                              go_wp2
                              go_ret
                              exact ⟨rfl, B1.out⟩
                        · have g : decide ((i : Int) > 0) = false := by simp; omega
                          have g1 : (b != 0) = false := by simp; omega
                          have g2 : (h != 0) = false := by simp; omega
                          have hE2 : d = (decide (k ≠ 5) || decide (km = 0)) := by
                            rw [HE.out, decide_eq_false k1, decide_eq_false (by omega : ¬ 0 < i), decide_eq_false (by omega : ¬ b ≠ 0), decide_eq_false (by omega : ¬ h ≠ 0), decide_eq_true k1]
                            simp
                          have HE2 := Lib.hid hE2
                          clear HE hE2
                          by_cases k5 : k = 5
                          · have gk5 : (k != 5) = false := by simpa using k5
                            by_cases m0 : km = 0
                            · have gm : ((km : Int) == 0) = true := by simpa using m0
                              go_wp2
                              go_ret
                              exact ⟨by rw [HE2.out, decide_eq_true m0]; simp, B1.out⟩
                            · have gm : ((km : Int) == 0) = false := by simpa using m0
                              go_wp2
                              go_ret
                              exact ⟨by rw [HE2.out, decide_eq_false m0, decide_eq_false (fun h => h k5)]; rfl, B1.out⟩
                          · have gk5 : (k != 5) = true := by simpa using k5
                            go_wp2
                            go_ret
                            exact ⟨by rw [HE2.out, decide_eq_true k5]; rfl, B1.out⟩
theorem right_any (n : Nd) (w : World) (h : n.ok w) : Calls Try.prog 30 #[n.val] w fun e W' => e = .returned (.bool (!wrongN n)) ∧ Below w.heap.size w W' := by
  obtain ⟨kp, kcap, hkv⟩ := h.1.form
  obtain ⟨wp, wcap, hwv⟩ := h.2.1.form
  exact right_at n w kp wp _ kcap _ wcap _ _ n.k n.b n.h (validS n.s) _ hkv hwv rfl rfl rfl rfl rfl rfl (Lib.hid (by rw [← hwv]; exact h.2.1)) (Lib.hid fun X => refValid_any n.s X) (Lib.hid (right_not n))
end Go.Proofs.Ytgaclepoipaecaa

namespace Go.Proofs.Ytgaclepoipaecaa
open Go.RowKit Go.Shelf
set_option linter.unusedVariables false
set_option linter.unusedSimpArgs false
attribute [local go_sem] Oper.semAt_some

theorem walk_reach {ns : List Nd} (h1 : 1 ≤ ns.length) (hl : ∀ n ∈ ns, ∀ z ∈ n.ks, 1 ≤ z ∧ z < (ns.length : Int)) : ∀ x ∈ walkL ns.length (kfOf ns), 0 ≤ x.1 ∧ Reach ns x.1.toNat := by
  have hki := kids_in hl
  obtain ⟨vis, st, hr, hn⟩ := walk_facts h1 hki
  have hup := hr.up
  have hall : ∀ (i : Nat) (z : Int) (d : Nat), (walkL ns.length (kfOf ns))[i]? = some (z, d) → 0 ≤ z ∧ Reach ns z.toNat := by
    intro i
    induction i using Nat.strongRecOn with
    | _ i ih =>
      intro z d hz
      rcases hup i z d hz with ⟨_, rfl, _⟩ | ⟨a, q, e, hai, hq, hzq, _⟩
      · exact ⟨by omega, .root⟩
      · obtain ⟨hq0, hqr⟩ := ih a hai q e hq
        obtain ⟨n, hn1, hn2⟩ := kf_mem hzq
        have hzl := hl n (List.mem_iff_getElem?.2 ⟨_, hn1⟩) z hn2
        exact ⟨by omega, .kid hqr hn1 (by rw [Int.toNat_of_nonneg (by omega)]; exact hn2)⟩
  intro x hx
  obtain ⟨i, hi⟩ := List.mem_iff_getElem?.1 hx
  exact hall i x.1 x.2 hi
/-- is a place met by the walk? -/
def metB (ns : List Nd) (z : Int) : Bool := ((walkL ns.length (kfOf ns)).map Prod.fst).contains z
theorem reach_iff {ns : List Nd} (h1 : 1 ≤ ns.length) (hl : ∀ n ∈ ns, ∀ z ∈ n.ks, 1 ≤ z ∧ z < (ns.length : Int)) (j : Nat) : Reach ns j ↔ metB ns (j : Int) = true := by
  constructor
  · intro h
    obtain ⟨d, hd⟩ := reach_met h1 hl h
    simp only [metB, List.contains_iff_mem]
    exact List.mem_map.2 ⟨_, hd, rfl⟩
  · intro h
    simp only [metB, List.contains_iff_mem] at h
    obtain ⟨x, hx, e⟩ := List.mem_map.1 h
    have := (walk_reach h1 hl x hx).2
    rw [e, Int.toNat_natCast] at this
    exact this
/-- whether each place is in a list -/
def metL (m : Nat) (L : List Int) : List Value := (List.range m).map fun (j : Nat) => Value.bool (L.contains (j : Int))
theorem metL_get (m : Nat) (L : List Int) (j : Nat) (hj : j < m) : (metL m L)[j]? = some (.bool (L.contains (j : Int))) := by
  unfold metL; rw [List.getElem?_map, List.getElem?_range hj]; rfl
theorem metL_len (m : Nat) (L : List Int) : (metL m L).length = m := by simp [metL]
theorem metL_set (m : Nat) (L : List Int) (j : Nat) (hj : j < m) : (metL m L).set j (.bool true) = metL m (L ++ [(j : Int)]) := by
  apply List.ext_getElem?
  intro i
  rw [List.getElem?_set]
  by_cases him : i < m
  · rw [metL_get m L i him, metL_get m _ i him, metL_len]
    by_cases e : j = i
    · subst e; rw [if_pos rfl, if_pos hj]; simp
    · rw [if_neg e]
      have : (L ++ [(j : Int)]).contains (i : Int) = L.contains (i : Int) := by
        have h0 : ¬ ((i : Int) = (j : Int)) := by omega
        rw [Bool.eq_iff_iff]; simp [h0]
      rw [this]
  · have h1 : (metL m L)[i]? = none := List.getElem?_eq_none_iff.2 (by rw [metL_len]; omega)
    have h2 : (metL m (L ++ [(j : Int)]))[i]? = none := List.getElem?_eq_none_iff.2 (by rw [metL_len]; omega)
    rw [h1, h2, metL_len]
    by_cases e : j = i
    · omega
    · rw [if_neg e]
theorem metL_nil (m : Nat) : metL m [] = List.replicate m (.bool false) := by
  unfold metL
  rw [show (fun j : Nat => Value.bool (([] : List Int).contains (j : Int))) = fun _ => Value.bool false from rfl, List.map_const', List.length_range]
theorem Try.infoBool : (Try.prog.info? 4).map (fun i => (i.zero, i.size, i.bytes)) = some (some (.bool false), 1, 1) := by kernel_rfl
theorem make_bools (m : Nat) (hm : m ≤ 1000000000) (w : World) : (Instr.makeSlice 76 (.int .i64 m) (.int .i64 m)).run Try.prog w = .ok (.slice (some ⟨w.heap.size, 0, none⟩) m m) (w.alloc (.cells (metL m []).toArray 4)) := by
  cases hi : Try.prog.info? 4 with
  | none => have := Try.infoBool; rw [hi] at this; cases this
  | some i =>
    have h := Try.infoBool
    rw [hi] at h
    simp only [Option.map_some, Option.some.injEq, Prod.mk.injEq] at h
    obtain ⟨hz, h1, h2⟩ := h
    have hr := run_make (P := Try.prog) w 76 4 i (.bool false) Try.underlying76 hi hz .i64 .i64 m m (by omega) (Int.le_refl _) (by rw [h2]; omega) (by omega)
    rw [hr, h1]
    simp only [Int.toNat_natCast]
    rw [show (madeCells (Value.bool false).cells (m * 1)) = (metL m []).toArray from by
      apply Array.toList_inj.1
      rw [show (Value.bool false).cells = #[Value.bool false] from rfl, toList_madeCells_one, metL_nil]; simp]
/-- what has been met so far -/
structure BF (ns : List Nd) (m : Nat) (L : List Int) : Prop where
  nd : L.Nodup
  rng : ∀ z ∈ L, 0 ≤ z ∧ z < (m : Int)
  root : (0 : Int) ∈ L
  reach : ∀ z ∈ L, Reach ns z.toNat
theorem BF.len {ns : List Nd} {m : Nat} {L : List Int} (h : BF ns m L) : L.length ≤ m := by
  have := nodup_sub L ((List.range m).map fun (j : Nat) => (j : Int)) h.nd (fun z hz => by
    obtain ⟨h1, h2⟩ := h.rng z hz
    exact List.mem_map.2 ⟨z.toNat, List.mem_range.2 (by omega), by omega⟩)
  simpa using this
theorem BF.one (ns : List Nd) (m : Nat) (hm : 1 ≤ m) : BF ns m [0] := ⟨by simp, fun z hz => by simp at hz; omega, by simp, fun z hz => by simp at hz; subst hz; exact .root⟩
theorem BF.more {ns : List Nd} {m : Nat} {L : List Int} (h : BF ns m L) {z : Int} {j : Nat} {n : Nd} (hz : z ∈ L) (hn : ns[z.toNat]? = some n) (hj : (j : Int) ∈ n.ks) (hjm : j < m) (hnew : L.contains (j : Int) = false) : BF ns m (L ++ [(j : Int)]) := by
  have hnew' : (j : Int) ∉ L := by simpa using hnew
  refine ⟨List.nodup_append.2 ⟨h.nd, by simp, fun a ha b hb => ?_⟩, fun y hy => ?_, by simp [h.root], fun y hy => ?_⟩
  · simp at hb; subst hb; intro e; exact hnew' (e ▸ ha)
  · rcases List.mem_append.1 hy with h1 | h1
    · exact h.rng y h1
    · simp at h1; subst h1; omega
  · rcases List.mem_append.1 hy with h1 | h1
    · exact h.reach y h1
    · simp at h1; subst h1; rw [Int.toNat_natCast]; exact .kid (h.reach z hz) hn hj
/-- what is met, when all kids of what is met are met -/
theorem BF.all {ns : List Nd} {L : List Int} (h : BF ns ns.length L) (h1 : 1 ≤ ns.length) (hl : ∀ n ∈ ns, ∀ z ∈ n.ks, 1 ≤ z ∧ z < (ns.length : Int)) (hc : ∀ z ∈ L, ∀ y ∈ kfOf ns z, y ∈ L) (j : Nat) : L.contains (j : Int) = metB ns (j : Int) := by
  rw [Bool.eq_iff_iff, ← reach_iff h1 hl]
  constructor
  · intro hj
    have := h.reach (j : Int) (by simpa using hj)
    rw [Int.toNat_natCast] at this; exact this
  · intro hr
    have : (j : Int) ∈ L := by
      induction hr with
      | root => exact h.root
      | @kid p j n hp hn hj ih => exact hc _ ih _ (by unfold kfOf; rw [Int.toNat_natCast, hn]; exact hj)
    simpa using this
/-- all that holds of the world while it looks -/
def BW (g m : Nat) (w X : World) (s6 : Value) (L : List Int) : Prop := OwnI (g + 1) X s6 L ∧ Whole X g 4 (metL m L) ∧ Below w.heap.size w X ∧ g + 1 ≤ X.heap.size
theorem bw_step {m l2 : Nat} {w S w1 : World} {v v1 : Value} {L2 : List Int} {y : Int} {o : Obj} (h1 : S.ownsRow (w.heap.size + 1) 3 1 v l2 (L2.map (Value.int .i64))) (h2 : Whole S w.heap.size 4 (metL m (L2 ++ [y]))) (h3 : Below w.heap.size w S) (hs : w.heap.size ≤ S.heap.size)
    (hl : L2.length = l2) (ho : w1.ownsRow (w.heap.size + 1) 3 1 v1 (l2 + 1) (L2.map (Value.int .i64) ++ [.int .i64 y])) (hg : (S.alloc o).grownBy w1 v.ownBlock) : BW w.heap.size m w w1 v1 (L2 ++ [y]) := by
  have hW : Whole w1 w.heap.size 4 (metL m (L2 ++ [y])) := (h2.alloc o).grown hg (fun e => by have := (h1.lt _ e).1; omega)
  refine ⟨?_, hW, (h3.alloc hs o).grown hg (by simp; omega) (fun k e => by have := (h1.lt k e).1; omega), hW.lt⟩
  unfold OwnI
  rw [List.length_append, hl, List.map_append]; exact ho
set_option maxRecDepth 100000 in
set_option maxHeartbeats 4000000 in
theorem reached_at (b off cap m t : Nat) (ns : List Nd) (w : World) (hm : ns.length = m) (h1 : 1 ≤ m) (h2 : m ≤ 65536) (ht : t < m) (hP : PageAt w (.slice (some ⟨b, off, none⟩) m cap) ns) (hK : ∀ n ∈ ns, n.ks.length ≤ 70000)
    (hL : ∀ n ∈ ns, ∀ z ∈ n.ks, 1 ≤ z ∧ z < (m : Int)) (d : Bool) (hd : d = metB ns (t : Int)) :
    Calls Try.prog 32 #[.slice (some ⟨b, off, none⟩) m cap, .int .i64 t] w fun e W' => e = .returned (.bool d) ∧ Below w.heap.size w W' := by
  have HC : Hid (∀ (j : Nat) (n : Nd), ns[j]? = some n → w.cell? ⟨b, off + j * 34 + 1, none⟩ = some n.kv ∧ Ints w n.kv n.ks ∧ b < w.heap.size) := Lib.hid (by
    obtain ⟨b', off', e, _, hc⟩ := page_cells hP h1
    injection e with e; injection e with e1 e2
    subst e1 e2
    exact fun j n hn => (hc j n hn).2)
  have HALL : Hid (∀ L, BF ns m L → (∀ z ∈ L, ∀ y ∈ kfOf ns z, y ∈ L) → L.contains (t : Int) = d) := Lib.hid fun L hBF hcl => by
    subst hm; rw [hd]; exact hBF.all h1 hL hcl t
  have HM := Lib.hid hm
  have HKF := Lib.hid hK
  have HLI := Lib.hid hL
  have hmk := make_bools m (by omega)
  clear hm hK hL hP hd
  have q0 : (metL m [])[0]? = some (.bool false) := metL_get m [] 0 (by omega)
  have q1 : (metL m []).toArray[0]? = some (.bool false) := by simpa using q0
  go_enter Try.func32, Try.ntmps32
  go_wp2
  have HW0 : Hid (BW w.heap.size m w ((w.alloc (.cells ((metL m []).set 0 (.bool true)).toArray 4)).alloc (.cells #[.int .i64 0] 3)) (.slice (some ⟨w.heap.size + 1, 0, none⟩) 1 1) [0]) := Lib.hid (by
    have e0 : (metL m []).set 0 (.bool true) = metL m [0] := metL_set m [] 0 (by omega)
    rw [e0]
    refine ⟨?_, (whole_new w (metL m [0]) 4 _ rfl).alloc _, ((Below.refl _ w).alloc (Nat.le_refl _) _).alloc (by simp) _, by simp⟩
    have h0 := World.ownsRow_lit (base := w.heap.size + 1) (size := 1) (e := 3) (w.alloc (.cells (metL m [0]).toArray 4)) #[.int .i64 0] 1 (by simp) (by unfold maxLen; omega) (by simp)
    simpa [OwnI] using h0)
  clear hmk q0 q1
  go_loopw [6, 7] (fun s6 s7 X => ∃ (i : Nat) (L : List Int), i ≤ L.length ∧ s7 = .int .i64 i ∧ Hid (BF ns m L) ∧ Hid (∀ j z, j < i → L[j]? = some z → ∀ y ∈ kfOf ns z, y ∈ L) ∧ Hid (BW w.heap.size m w X s6 L)) (fun _ s7 _ => m - (intOf s7).toNat)
  case atStart => exact ⟨0, [0], by omega, rfl, Lib.hid (BF.one ns m h1), Lib.hid fun j z hj => by omega, HW0⟩
  case round =>
    obtain ⟨i, L, hi, rfl, HF, HCL, HWX⟩ := hrel
    obtain ⟨x1, x2, x3, x4⟩ := HWX.out
    have hlm := HF.out.len
    obtain ⟨q6, c6, rfl⟩ := (ints_own x1).1.form
    obtain ⟨l, hl⟩ : ∃ l, L.length = l := ⟨_, rfl⟩
    rw [hl] at hi hlm HWX ⊢
    have HLL := Lib.hid hl
    have IX := (ints_own x1).1
    rw [hl] at IX
    have HIX := Lib.hid IX
    clear x1 x2 x3 hl IX HW0
    by_cases hlt : i < l
    · obtain ⟨z, hz⟩ : ∃ z, L[i]? = some z := ⟨_, List.getElem?_eq_getElem (by rw [HLL.out]; exact hlt)⟩
      obtain ⟨z0, z1⟩ := HF.out.rng z (List.mem_iff_getElem?.2 ⟨i, hz⟩)
      obtain ⟨j, rfl⟩ : ∃ j : Nat, z = (j : Int) := ⟨z.toNat, by omega⟩
      have hjm : j < m := by omega
      obtain ⟨n, hn⟩ : ∃ n, ns[j]? = some n := ⟨_, List.getElem?_eq_getElem (by rw [HM.out]; exact hjm)⟩
      have hmem : n ∈ ns := List.mem_iff_getElem?.2 ⟨j, hn⟩
      obtain ⟨ck, hI, hb0⟩ := HC.out j n hn
      have hfew := HKF.out n hmem
      have HLN := Lib.hid (HLI.out n hmem)
      obtain ⟨qk, kc, hkv⟩ := hI.form
      rw [hkv] at ck hI
      obtain ⟨kl, hkl⟩ : ∃ kl, n.ks.length = kl := ⟨_, rfl⟩
      rw [hkl] at ck hfew hI
      have HI := Lib.hid hI
      have HKL := Lib.hid hkl
      have HCK := Lib.hid ck
      have HZ := Lib.hid hz
      have HN := Lib.hid hn
      clear hI hkl ck hz hn hkv hmem
      go_wp2
      go_loopw [6, 8] (fun s6 s8 X => ∃ (k : Nat) (L2 : List Int), k ≤ kl ∧ s8 = .int .i64 k ∧ Hid (BF ns m L2) ∧ Hid (∃ R, L2 = L ++ R) ∧ Hid (∀ y ∈ n.ks.take k, y ∈ L2) ∧ Hid (BW w.heap.size m w X s6 L2)) (fun _ s8 _ => kl - (intOf s8).toNat)
      case atStart => exact ⟨0, L, by omega, rfl, HF, Lib.hid ⟨[], by simp⟩, Lib.hid fun y hy => by simp at hy, HWX⟩
      case round =>
        obtain ⟨k, L2, hk, rfl, HF2, HP2, HT2, HW2⟩ := hrel
        obtain ⟨y1, y2, y3, y4⟩ := HW2.out
        obtain ⟨q7, c7, rfl⟩ := (ints_own y1).1.form
        have hz2 : L2[i]? = some (j : Int) := by
          obtain ⟨R, e⟩ := HP2.out
          rw [e, List.getElem?_append_left (by rw [HLL.out]; exact hlt)]; exact HZ.out
        have hlm2 := HF2.out.len
        obtain ⟨l2, hl2⟩ : ∃ l2, L2.length = l2 := ⟨_, rfl⟩
        have IX2 := (ints_own y1).1
        rw [hl2] at IX2 hlm2 HW2 ⊢
        have il2 : i < l2 := by have := (List.getElem?_eq_some_iff.1 hz2).1; omega
        obtain ⟨b6, o6, e6, cz6, lt6⟩ := ints_at0' IX2 i _ hz2
        subst e6
        have dck := (y3.cell (p := ⟨b, off + j * 34 + 1, none⟩) hb0).trans HCK.out
        have HL2 := Lib.hid hl2
        by_cases hlt2 : k < kl
        · obtain ⟨y, hy⟩ : ∃ y, n.ks[k]? = some y := ⟨_, List.getElem?_eq_getElem (by rw [HKL.out]; exact hlt2)⟩
          obtain ⟨qb, qo, rfl, cy, ly⟩ := ints_at0' HI.out k y hy
          have dcy := (y3.cell (p := ⟨qb, qo + k, none⟩) ly).trans cy
          obtain ⟨yr0, yr1⟩ := HLN.out y (List.mem_iff_getElem?.2 ⟨k, hy⟩)
          obtain ⟨yn, rfl⟩ : ∃ yn : Nat, y = (yn : Int) := ⟨y.toNat, by omega⟩
          have dm := y2.cellAt yn
          rw [metL_get m L2 yn (by omega)] at dm
          have fm := y2.free yn
          have HY := Lib.hid hy
          have HT3 : ∀ x ∈ n.ks.take (k + 1), x ∈ L2 ∨ x = (yn : Int) := fun x hx => by
            rw [List.take_add_one, HY.out] at hx
            rcases List.mem_append.1 hx with h | h
            · exact .inl (HT2.out x h)
            · exact .inr (by simpa using h)
          have HT4 := Lib.hid HT3
          clear hz2 hl2 IX2 hy cy HT3
          clear y1 y2 y3
          cases hc : L2.contains (yn : Int) with
          | true =>
            rw [hc] at dm
            have HT5 : Hid (∀ x ∈ n.ks.take (k + 1), x ∈ L2) := Lib.hid fun x hx => by
              rcases HT4.out x hx with h | h
              · exact h
              · rw [h]; simpa using hc
            go_wp2
            go_roundw
            case rel => exact ⟨k + 1, L2, by omega, by go_num, HF2, HP2, HT5, HW2⟩
            case measure => (simp [intOf]; try omega)
          | false =>
            rw [hc] at dm
            have hnew : BF ns m (L2 ++ [(yn : Int)]) := HF2.out.more (z := (j : Int)) (by
              obtain ⟨R, e⟩ := HP2.out
              rw [e]; exact List.mem_append_left _ (List.mem_iff_getElem?.2 ⟨i, HZ.out⟩)) (by rw [Int.toNat_natCast]; exact HN.out) (List.mem_iff_getElem?.2 ⟨k, HY.out⟩) (by omega) hc
            have HF3 := Lib.hid hnew
            have hl3 := hnew.len
            rw [List.length_append, HL2.out] at hl3
            have HT5 : Hid (∀ x ∈ n.ks.take (k + 1), x ∈ L2 ++ [(yn : Int)]) := Lib.hid fun x hx => by
              rcases HT4.out x hx with h | h
              · exact List.mem_append_left _ h
              · rw [h]; simp
            have HP3 : Hid (∃ R, L2 ++ [(yn : Int)] = L ++ R) := Lib.hid (by
              obtain ⟨R, e⟩ := HP2.out
              exact ⟨R ++ [(yn : Int)], by rw [e, List.append_assoc]⟩)
            have S1 : Hid ((wr.setCell ⟨w.heap.size, yn, none⟩ (.bool true)).ownsRow (w.heap.size + 1) 3 1 (.slice (some ⟨b6, o6, none⟩) l2 c7) l2 (L2.map (Value.int .i64)) ∧ Whole (wr.setCell ⟨w.heap.size, yn, none⟩ (.bool true)) w.heap.size 4 (metL m (L2 ++ [(yn : Int)])) ∧ Below w.heap.size w (wr.setCell ⟨w.heap.size, yn, none⟩ (.bool true))) := Lib.hid (by
              obtain ⟨y1, y2, y3, y4⟩ := HW2.out
              unfold OwnI at y1
              rw [HL2.out] at y1
              refine ⟨own_same y1 (fun g hg => Below.heap_setCell wr _ _ g (by have := (y1.lt g hg).1; intro e; simp at e; omega)), ?_, y3.setCell (p := ⟨w.heap.size, yn, none⟩) (Nat.le_refl _) _⟩
              have := y2.set yn (.bool true)
              rw [metL_set m L2 yn (by omega)] at this; exact this)
            clear HW2 hnew
            obtain ⟨i0, hi0, hz0', hz1', hz2'⟩ := info_parts Try.infoInt
            have HZ1 := Lib.hid hz0'
            have HZ2 := Lib.hid hz1'
            have HZ3 := Lib.hid hz2'
            clear hz0' hz1' hz2'
            go_wp2_with (at_builtin; refine wpList_append_own_at _ rfl _ _ 32 rfl (w.heap.size + 1) 3 i0 (.int .i64 0) 1 8 Try.underlying32 hi0 HZ1.out HZ2.out HZ3.out rfl (by decide) _ _ _ rfl (S1.out.1.alloc _) ⟨wr.heap.size, 0, none⟩ 1 1 [.int .i64 (yn : Int)] rfl rfl (lay_new _ [.int .i64 (yn : Int)] 3 wr.heap.size (by simp)) (by simp [Value.oneCell']) (by unfold maxLen; omega) (by omega) (by simp; omega) ?_; intro v1 w1 hown1 hgrow1 _ _; have hg1 : ((wr.setCell ⟨w.heap.size, yn, none⟩ (.bool true)).alloc (.cells #[.int .i64 (yn : Int)] 3)).grownBy w1 (Value.slice (some ⟨b6, o6, none⟩) l2 c7).ownBlock := hgrow1; have HW3 := Lib.hid (bw_step S1.out.1 S1.out.2.1 S1.out.2.2 (by simp; omega) HL2.out hown1 hg1); clear hown1 hgrow1 hg1 S1)
            go_roundw
            case rel => exact ⟨k + 1, _, by omega, by go_num, HF3, HP3, HT5, HW3⟩
            case measure => (simp [intOf]; try omega)
        · obtain rfl : k = kl := by omega
          clear y1 y2 y3 hl2 IX2 hz2
          have HCL2 : Hid (∀ (j' : Nat) (z : Int), j' < i + 1 → L2[j']? = some z → ∀ y ∈ kfOf ns z, y ∈ L2) := Lib.hid fun j' z hj' hz' y hy => by
            obtain ⟨R, e⟩ := HP2.out
            have hjl : j' < L.length := by rw [HLL.out]; omega
            have hzL : L[j']? = some z := by rw [e, List.getElem?_append_left hjl] at hz'; exact hz'
            by_cases hji : j' < i
            · rw [e]; exact List.mem_append_left _ (HCL.out j' z hji hzL y hy)
            · obtain rfl : j' = i := by omega
              rw [HZ.out] at hzL
              injection hzL with ez
              subst ez
              have hk2 := HT2.out y
              rw [List.take_of_length_le (by rw [HKL.out]; exact Nat.le_refl _)] at hk2
              refine hk2 ?_
              unfold kfOf at hy
              rw [Int.toNat_natCast, HN.out] at hy
              exact hy
          go_wp2
          exact ⟨⟨i + 1, L2, by rw [HL2.out]; omega, rfl, HF2, HCL2, HW2⟩, by (simp [intOf]; try omega)⟩
    · obtain rfl : i = l := by omega
      have hcl : L.contains (t : Int) = d := HALL.out L HF.out (fun z hz y hy => by
        obtain ⟨j, hj⟩ := List.mem_iff_getElem?.1 hz
        exact HCL.out j z (by have := (List.getElem?_eq_some_iff.1 hj).1; rw [HLL.out] at this; exact this) hj y hy)
      obtain ⟨x1, x2, x3, x4⟩ := HWX.out
      have dt := x2.cellAt t
      rw [metL_get m L t ht, hcl] at dt
      have X3 := Lib.hid x3
      clear x1 x2 x3 HWX
      go_wp2
      go_ret
      exact ⟨rfl, X3.out⟩
end Go.Proofs.Ytgaclepoipaecaa

namespace Go.Proofs.Ytgaclepoipaecaa
open Go.RowKit Go.Shelf
set_option linter.unusedVariables false
set_option linter.unusedSimpArgs false
attribute [local go_sem] Oper.semAt_some

theorem NoStray.tr0 {ns : List Nd} (F : NoStray ns) : Tr0 ns := by
  have hk0 : ∀ z ∈ kidsOf ns, 0 ≤ z := fun z hz => by
    obtain ⟨a, ha, hz'⟩ := List.mem_flatMap.1 hz
    have := F.link a ha z hz'; omega
  refine ⟨F.link, fun j h1 h2 => ?_⟩
  have hs := F.stray
  rw [List.any_eq_false] at hs
  have hl : j < (tms ns.length (kidsOf ns)).length := by rw [tms_len]; exact h2
  have hd : j < (depthsP ns).length := by unfold depthsP; rw [depL_len]; exact h2
  have h3 := hs ((tms ns.length (kidsOf ns))[j], (depthsP ns)[j]) (List.mem_iff_getElem?.2 ⟨j, by rw [List.getElem?_eq_getElem (by simp; omega)]; simp⟩)
  simp [strayB] at h3
  have ht := tms_get ns.length (kidsOf ns) hk0 j h2
  rw [List.getElem?_eq_getElem hl] at ht
  simp only [Option.getD_some] at ht
  rw [h3.1, if_neg (by omega)] at ht
  omega
set_option maxRecDepth 100000 in
set_option maxHeartbeats 4000000 in
theorem refParents_at (b off cap m : Nat) (ns : List Nd) (w : World) (hm : ns.length = m) (h1 : 1 ≤ m) (h2 : m ≤ 65536) (hP : PageAt w (.slice (some ⟨b, off, none⟩) m cap) ns) (hK : ∀ n ∈ ns, n.ks.length ≤ 70000)
    (hL : ∀ n ∈ ns, ∀ z ∈ n.ks, 1 ≤ z ∧ z < (m : Int)) :
    Calls Try.prog 54 #[.slice (some ⟨b, off, none⟩) m cap] w fun e W' => e = .returned (.slice (some ⟨w.heap.size, 0, none⟩) m m) ∧ Whole W' w.heap.size 3 ((parentsP ns).map (Value.int .i64)) ∧ Below w.heap.size w W' := by
  have HC : Hid (∀ (j : Nat) (n : Nd), ns[j]? = some n → w.cell? ⟨b, off + j * 34 + 1, none⟩ = some n.kv ∧ Ints w n.kv n.ks ∧ b < w.heap.size) := Lib.hid (by
    obtain ⟨b', off', e, _, hc⟩ := page_cells hP h1
    injection e with e; injection e with e1 e2
    subst e1 e2
    exact fun j n hn => (hc j n hn).2)
  have HM := Lib.hid hm
  have HKF := Lib.hid hK
  have HLI := Lib.hid hL
  have hmk := make_ints m (by omega)
  have q1 : (Array.replicate m (Value.int .i64 0))[0]? = some (.int .i64 0) := by rw [Array.getElem?_replicate, if_pos (by omega)]
  clear hm hK hL hP
  go_enter Try.func54, Try.ntmps54
  go_wp2
  obtain ⟨W4, hW4⟩ : ∃ W4, w.alloc (.cells ((Array.replicate m (Value.int .i64 0)).setIfInBounds 0 (.int .i64 (-1))) 3) = W4 := ⟨_, rfl⟩
  have k4 : Whole W4 w.heap.size 3 ((parL m (pairsOf (ns.take 0))).map (Value.int .i64)) := by
    rw [← hW4, show (Array.replicate m (Value.int .i64 0)).setIfInBounds 0 (.int .i64 (-1)) = ((parL m (pairsOf (ns.take 0))).map (Value.int .i64)).toArray from by
      apply Array.toList_inj.1
      simp [parL, pairsOf, List.map_set]]
    exact whole_new w _ 3 _ rfl
  have b4 : Below w.heap.size w W4 := by rw [← hW4]; exact (Below.refl _ w).alloc (Nat.le_refl _) _
  have HI : Hid (Whole W4 w.heap.size 3 ((parL m (pairsOf (ns.take 0))).map (Value.int .i64)) ∧ Below w.heap.size w W4) := Lib.hid ⟨k4, b4⟩
  rw [hW4]
  clear hW4 k4 b4 hmk q1
  go_loopw [4] (fun s4 X => ∃ i : Nat, i ≤ m ∧ s4 = .int .i64 i ∧ Hid (Whole X w.heap.size 3 ((parL m (pairsOf (ns.take i))).map (Value.int .i64)) ∧ Below w.heap.size w X)) (fun s4 _ => m - (intOf s4).toNat)
  case atStart => exact ⟨0, by omega, rfl, HI⟩
  case round =>
    obtain ⟨i, hi, rfl, HX⟩ := hrel
    clear HI
    by_cases hlt : i < m
    · obtain ⟨n, hn⟩ : ∃ n, ns[i]? = some n := ⟨_, List.getElem?_eq_getElem (by rw [HM.out]; exact hlt)⟩
      have hmem : n ∈ ns := List.mem_iff_getElem?.2 ⟨i, hn⟩
      obtain ⟨ck, hI, hb0⟩ := HC.out i n hn
      have hfew := HKF.out n hmem
      have HLN := Lib.hid (HLI.out n hmem)
      obtain ⟨qk, kc, hkv⟩ := hI.form
      rw [hkv] at ck hI
      obtain ⟨kl, hkl⟩ : ∃ kl, n.ks.length = kl := ⟨_, rfl⟩
      rw [hkl] at ck hfew hI
      have HI := Lib.hid hI
      have HKL := Lib.hid hkl
      have HCK := Lib.hid ck
      have HN := Lib.hid hn
      have HS : Hid (pairsOf (ns.take (i + 1)) = pairsOf (ns.take i) ++ n.ks.map (fun z => (z, i))) := Lib.hid (pairs_snoc ns i n hn)
      clear hI hkl ck hn hkv hmem
      go_wp2
      go_loopw [5] (fun s5 X => ∃ k : Nat, k ≤ kl ∧ s5 = .int .i64 k ∧ Hid (Whole X w.heap.size 3 ((parL m (pairsOf (ns.take i) ++ (n.ks.take k).map (fun z => (z, i)))).map (Value.int .i64)) ∧ Below w.heap.size w X)) (fun s5 _ => kl - (intOf s5).toNat)
      case atStart => exact ⟨0, by omega, rfl, by simpa using HX⟩
      case round =>
        obtain ⟨k, hk, rfl, HY⟩ := hrel
        obtain ⟨y1, y2⟩ := HY.out
        have dck := (y2.cell (p := ⟨b, off + i * 34 + 1, none⟩) hb0).trans HCK.out
        by_cases hlt2 : k < kl
        · obtain ⟨y, hy⟩ : ∃ y, n.ks[k]? = some y := ⟨_, List.getElem?_eq_getElem (by rw [HKL.out]; exact hlt2)⟩
          obtain ⟨qb, qo, rfl, cy, ly⟩ := ints_at0' HI.out k y hy
          have dcy := (y2.cell (p := ⟨qb, qo + k, none⟩) ly).trans cy
          obtain ⟨yr0, yr1⟩ := HLN.out y (List.mem_iff_getElem?.2 ⟨k, hy⟩)
          obtain ⟨yn, rfl⟩ : ∃ yn : Nat, y = (yn : Int) := ⟨y.toNat, by omega⟩
          have fm := y1.free yn
          have cg : ∃ v, wr.cell? ⟨w.heap.size, yn, none⟩ = some v := by
            rw [y1.cellAt, List.getElem?_map]
            exact ⟨_, by rw [List.getElem?_eq_getElem (by rw [parL_len]; omega)]; rfl⟩
          obtain ⟨v0, cg⟩ := cg
          have S1 : Hid (Whole (wr.setCell ⟨w.heap.size, yn, none⟩ (.int .i64 i)) w.heap.size 3 ((parL m (pairsOf (ns.take i) ++ (n.ks.take (k + 1)).map (fun z => (z, i)))).map (Value.int .i64)) ∧ Below w.heap.size w (wr.setCell ⟨w.heap.size, yn, none⟩ (.int .i64 i))) := Lib.hid (by
            refine ⟨?_, y2.setCell (p := ⟨w.heap.size, yn, none⟩) (Nat.le_refl _) _⟩
            have := y1.set yn (.int .i64 i)
            rw [List.take_add_one, hy, List.map_append, ← List.append_assoc]
            simp only [Option.toList_some, List.map_cons, List.map_nil]
            rw [parL_snoc, List.map_set, Int.toNat_natCast]
            exact this)
          clear y1 y2 HY hy cy
          go_wp2
          go_roundw
          case rel => exact ⟨k + 1, by omega, by go_num, S1⟩
          case measure => (simp [intOf]; try omega)
        · obtain rfl : k = kl := by omega
          clear y1 y2
          have HY2 : Hid (Whole wr w.heap.size 3 ((parL m (pairsOf (ns.take (i + 1)))).map (Value.int .i64)) ∧ Below w.heap.size w wr) := by
            have := HY.out
            rw [List.take_of_length_le (l := n.ks) (by rw [HKL.out]; exact Nat.le_refl _), ← HS.out] at this
            exact Lib.hid this
          go_wp2
          exact ⟨⟨i + 1, by omega, rfl, HY2⟩, by (simp [intOf]; try omega)⟩
    · obtain rfl : i = m := by omega
      have hfin := HX.out
      rw [List.take_of_length_le (by rw [HM.out]; exact Nat.le_refl _)] at hfin
      have HE := Lib.hid hfin
      clear hfin HX
      go_wp2
      go_ret
      refine ⟨rfl, ?_, HE.out.2⟩
      unfold parentsP
      rw [HM.out]
      exact HE.out.1
/-- depths that are known so far -/
def depD (d : List Int) (o : List Int) (m : Nat) : List Int := o.foldl (fun D z => D.set z.toNat (d[z.toNat]?.getD 0)) (List.replicate m 0)
theorem depD_len (d o : List Int) (m : Nat) : (depD d o m).length = m := by
  unfold depD
  suffices ∀ (o D : List Int), (o.foldl (fun D z => D.set z.toNat (d[z.toNat]?.getD 0)) D).length = D.length by rw [this]; simp
  intro o
  induction o with
  | nil => intro D; rfl
  | cons z o ih => intro D; rw [List.foldl_cons, ih]; simp
theorem depD_snoc (d o : List Int) (m : Nat) (z : Int) : depD d (o ++ [z]) m = (depD d o m).set z.toNat (d[z.toNat]?.getD 0) := by simp [depD, List.foldl_append]
theorem depD_get (d : List Int) (m : Nat) (o : List Int) (j : Nat) (hj : j < m) (h : ∃ z ∈ o, z.toNat = j) : (depD d o m)[j]? = some (d[j]?.getD 0) := by
  suffices ∀ (o D : List Int), j < D.length → ((∃ z ∈ o, z.toNat = j) ∨ D[j]? = some (d[j]?.getD 0)) → (o.foldl (fun D z => D.set z.toNat (d[z.toNat]?.getD 0)) D)[j]? = some (d[j]?.getD 0) from this o _ (by simp; exact hj) (.inl h)
  intro o
  induction o with
  | nil => intro D _ h; rcases h with ⟨z, hz, _⟩ | h; cases hz; exact h
  | cons z o ih =>
    intro D hD h
    rw [List.foldl_cons]
    refine ih _ (by simp; exact hD) ?_
    by_cases e : z.toNat = j
    · right; subst e; rw [List.getElem?_set_self hD]
    · rcases h with ⟨y, hy, hyj⟩ | h
      · rcases List.mem_cons.1 hy with h1 | h1
        · subst h1; exact absurd hyj e
        · exact .inl ⟨y, h1, hyj⟩
      · right; rw [List.getElem?_set_ne e]; exact h
theorem Ords0.bound {m : Nat} {o d p : List Int} (h : Ords0 m o d p) : ∀ (k i : Nat), o[k]? = some (i : Int) → d[i]?.getD 0 ≤ (k : Int) + 1 := by
  intro k
  induction k using Nat.strongRecOn with
  | _ k ih =>
    intro i hk
    by_cases h0 : i = 0
    · subst h0; rw [h.d0]; simp; omega
    · obtain ⟨j, q, e, h1, h2, h3, h4, h5, h6⟩ := h.up k i hk (by omega)
      have := ih j h1 q h2
      omega
theorem depD_all {m : Nat} {o d p : List Int} (h : Ords0 m o d p) : depD d o m = d := by
  apply List.ext_getElem?
  intro j
  by_cases hj : j < m
  · rw [depD_get d m o j hj ⟨(j : Int), h.all j hj, by simp⟩, List.getElem?_eq_getElem (by rw [h.ld]; exact hj)]; rfl
  · rw [List.getElem?_eq_none_iff.2 (by rw [depD_len]; omega), List.getElem?_eq_none_iff.2 (by rw [h.ld]; omega)]
/-- the worlds in which it computes -/
def DW (g gp m i : Nat) (w X : World) (d o p : List Int) (ov : Value) : Prop :=
  Whole X g 3 ((depD d (o.take i) m).map (Value.int .i64)) ∧ Whole X gp 3 (p.map (Value.int .i64)) ∧ Ints X ov o ∧ Below w.heap.size w X
theorem DW.step {gp m i : Nat} {w X : World} {d o p : List Int} {ov : Value} (h : DW w.heap.size gp m i w X d o p ov) (hA : Apart w.heap.size ov o) (hne : gp ≠ w.heap.size) (z : Nat) (hz : o[i]? = some (z : Int)) (v : Int) (hv : v = d[z]?.getD 0) :
    DW w.heap.size gp m (i + 1) w (X.setCell ⟨w.heap.size, z, none⟩ (.int .i64 v)) d o p ov := by
  obtain ⟨h1, h2, h3, h4⟩ := h
  refine ⟨?_, h2.other _ _ hne, h3.setApart _ _ hA, h4.setCell (p := ⟨w.heap.size, z, none⟩) (Nat.le_refl _) _⟩
  rw [List.take_add_one, hz]
  simp only [Option.toList_some]
  rw [depD_snoc, List.map_set, Int.toNat_natCast, ← hv]
  exact h1.set z _
set_option maxRecDepth 100000 in
set_option maxHeartbeats 4000000 in
theorem refDepths_at (b off cap m : Nat) (ns : List Nd) (w : World) (F : NoStray ns) (hm : ns.length = m) (h2 : m ≤ 65536) (hP : PageAt w (.slice (some ⟨b, off, none⟩) m cap) ns) (hK : ∀ n ∈ ns, n.ks.length ≤ 70000) :
    Calls Try.prog 33 #[.slice (some ⟨b, off, none⟩) m cap] w fun e W' => e = .returned (.slice (some ⟨w.heap.size, 0, none⟩) m m) ∧ Whole W' w.heap.size 3 ((depthsP ns).map (Value.int .i64)) ∧ Below w.heap.size w W' := by
  have h1 : 1 ≤ m := by rw [← hm]; exact F.len1
  have hL : ∀ n ∈ ns, ∀ z ∈ n.ks, 1 ≤ z ∧ z < (m : Int) := by rw [← hm]; exact F.link
  have HPR : Hid (∀ X : World, Below w.heap.size w X → Calls Try.prog 54 #[.slice (some ⟨b, off, none⟩) m cap] X fun e W' => e = .returned (.slice (some ⟨X.heap.size, 0, none⟩) m m) ∧ Whole W' X.heap.size 3 ((parentsP ns).map (Value.int .i64)) ∧ Below X.heap.size X W') :=
    Lib.hid fun X hX => refParents_at b off cap m ns X hm h1 h2 (hP.below hX) hK hL
  have hO := ords0 F
  rw [← ord_walk F.tr0 F.len1, hm] at hO
  have HOR : Hid (∀ X : World, Below w.heap.size w X → Calls Try.prog 31 #[.slice (some ⟨b, off, none⟩) m cap, .int .i64 0, .slice none 0 0] X (OrdPost X (ordN (kfOf ns) m 0 []))) :=
    Lib.hid fun X hX => order_rec b off cap m ns X hm h1 h2 (hP.below hX) hK (fun n hn z hz => by have := hL n hn z hz; omega) (m + 2) 0 [] _ X (by omega) (by omega) (by simp) (by simp) (Below.refl _ X) (World.ownsRow_nil _ _ _ _)
  obtain ⟨o, ho⟩ : ∃ o, ordN (kfOf ns) m 0 [] = o := ⟨_, rfl⟩
  obtain ⟨d, hd⟩ : ∃ d, depthsP ns = d := ⟨_, rfl⟩
  obtain ⟨p, hp⟩ : ∃ p, parentsP ns = p := ⟨_, rfl⟩
  rw [ho, hd, hp] at hO
  rw [ho] at HOR
  rw [hp] at HPR
  rw [hd]
  have HO := Lib.hid hO
  have hmk := make_ints m (by omega)
  clear hm hP hK hL F hO ho hd hp
  go_enter Try.func33, Try.ntmps33
  go_wp2_with (first
    | (go_at_call 54; refine (HPR.out _ ((Below.refl _ w).alloc (Nat.le_refl _) _)).mono ?_; clear HPR; rintro e w1 ⟨rfl, k1, b1⟩; have K0 := Lib.hid ((whole_new w ((List.replicate m (0 : Int)).map (Value.int .i64)) 3 _ rfl).below (by simpa using b1) (by simp)); have HB1 := Lib.hid (((Below.refl _ w).alloc (Nat.le_refl _) _).trans (b1.mono (by simp))); have K1 : Hid (Whole w1 (w.heap.size + 1) 3 (p.map (Value.int .i64))) := Lib.hid (by simpa using k1); clear k1 b1)
    | (go_at_call 31; refine (HOR.out _ HB1.out).mono ?_; clear HOR; rintro e w2 ⟨v2, rfl, o2, b2⟩; have HA := Lib.hid ((ints_own o2).2.2 w.heap.size (by have := K1.out.lt; omega)); have HD : Hid (DW w.heap.size (w.heap.size + 1) m 0 w w2 d o p v2) := Lib.hid ⟨by simpa [depD] using K0.out.below b2 K0.out.lt, K1.out.below b2 K1.out.lt, (ints_own o2).1, HB1.out.trans (b2.mono HB1.out.size)⟩; obtain ⟨q2, c2, hv⟩ := (ints_own o2).1.form; rw [HO.out.lo] at hv; subst hv; clear o2 b2 K0 K1 HB1))
  go_loopw [6] (fun s6 X => ∃ i : Nat, i ≤ m ∧ s6 = .int .i64 i ∧ Hid (DW w.heap.size (w.heap.size + 1) m i w X d o p (.slice q2 m c2))) (fun s6 _ => m - (intOf s6).toNat)
  case atStart => exact ⟨0, by omega, rfl, HD⟩
  case round =>
    obtain ⟨i, hi, rfl, HX⟩ := hrel
    clear HD
    obtain ⟨x1, x2, x3, x4⟩ := HX.out
    by_cases hlt : i < m
    · obtain ⟨z, hz⟩ : ∃ z, o[i]? = some z := ⟨_, List.getElem?_eq_getElem (by rw [HO.out.lo]; exact hlt)⟩
      obtain ⟨zr0, zr1⟩ := HO.out.rng z (List.mem_iff_getElem?.2 ⟨i, hz⟩)
      obtain ⟨zn, rfl⟩ : ∃ zn : Nat, z = (zn : Int) := ⟨z.toNat, by omega⟩
      obtain ⟨ob, oo, rfl, cz, lz⟩ := ints_at0' x3 i _ hz
      have fg := x1.free zn
      have cg : ∃ v, wr.cell? ⟨w.heap.size, zn, none⟩ = some v := by
        rw [x1.cellAt, List.getElem?_map]
        exact ⟨_, by rw [List.getElem?_eq_getElem (by rw [depD_len]; omega)]; rfl⟩
      obtain ⟨v0, cg⟩ := cg
      have hzm : zn < m := by omega
      by_cases h0 : zn = 0
      · subst h0
        have S1 := Lib.hid (HX.out.step HA.out (by omega) 0 hz 1 (by rw [HO.out.d0]; rfl))
        have cz0 : wr.cell? ⟨ob, oo + i, none⟩ = some (.int .i64 0) := cz
        clear x1 x2 x3 x4 cz hz
        go_wp2
        go_roundw
        case rel => exact ⟨i + 1, by omega, by go_num, S1⟩
        case measure => (simp [intOf]; try omega)
      · obtain ⟨j, q, e, u1, u2, u3, u4, u5, u6⟩ := HO.out.up i zn hz (by omega)
        have hb := HO.out.bound i zn hz
        have cp : wr.cell? ⟨w.heap.size + 1, zn, none⟩ = some (.int .i64 q) := by
          rw [x2.cellAt, List.getElem?_map, List.getElem?_eq_getElem (by rw [HO.out.lp]; omega)]
          rw [List.getElem?_eq_getElem (by rw [HO.out.lp]; omega)] at u4
          simp only [Option.getD_some] at u4
          rw [u4]; rfl
        have cq : wr.cell? ⟨w.heap.size, q, none⟩ = some (.int .i64 e) := by
          rw [x1.cellAt, List.getElem?_map, depD_get d m (o.take i) q u3 ⟨(q : Int), List.mem_iff_getElem?.2 ⟨j, by rw [List.getElem?_take, if_pos u1]; exact u2⟩, by simp⟩, u5]; rfl
        have he : e ≤ 70000 := by omega
        have gz : ((zn : Int) == 0) = false := by simp; omega
        have X1 := Lib.hid x1
        have X2 := Lib.hid x2
        have HU6 := Lib.hid u6
        have HZ := Lib.hid hz
        have HS := Lib.hid x4.size
        clear x1 x2 x3 x4 u1 u2 u4 u5 u6 hb hz
        go_wp2
        refine region_still_tailF 17 (by kernel_rfl) (by decide +kernel) (fun w2 hw2 => ?_)
        have bW : Below wr.heap.size wr w2 := by rw [← hw2]; exact (Below.refl _ wr).drew
        have cp2 := (bW.cell (p := ⟨w.heap.size + 1, zn, none⟩) X2.out.lt).trans cp
        have cq2 := (bW.cell (p := ⟨w.heap.size, q, none⟩) X1.out.lt).trans cq
        have cz2 := (bW.cell (p := ⟨ob, oo + i, none⟩) lz).trans cz
        have cg2 := (bW.cell (p := ⟨w.heap.size, zn, none⟩) X1.out.lt).trans cg
        have fg2 := (X1.out.below bW X1.out.lt).free zn
        have S1 : Hid (DW w.heap.size (w.heap.size + 1) m (i + 1) w (w2.setCell ⟨w.heap.size, zn, none⟩ (.int .i64 ((e : Int) + 1))) d o p (.slice (some ⟨ob, oo, none⟩) m c2)) := Lib.hid (by
          obtain ⟨y1, y2, y3, y4⟩ := HX.out
          have h1 : DW w.heap.size (w.heap.size + 1) m i w w2 d o p (.slice (some ⟨ob, oo, none⟩) m c2) := ⟨y1.below bW y1.lt, y2.below bW y2.lt, y3.below bW, y4.trans (bW.mono y4.size)⟩
          exact h1.step HA.out (by omega) zn HZ.out _ HU6.out.symm)
        clear hw2 bW cp cq cz cg fg X1 X2 HX
        simp only [List.take_succ_cons, List.take_zero, List.drop_succ_cons, List.drop_zero]
        repeat still_step
        refine wpStill_nil ?_
        go_wp2
        go_roundw
        case rel => exact ⟨i + 1, by omega, by go_num, S1⟩
        case measure => (simp [intOf]; try omega)
    · obtain rfl : i = m := by omega
      have X1 : Hid (Whole wr w.heap.size 3 (d.map (Value.int .i64)) ∧ Below w.heap.size w wr) := Lib.hid ⟨by
        rw [List.take_of_length_le (by rw [HO.out.lo]; exact Nat.le_refl _), depD_all HO.out] at x1; exact x1, x4⟩
      clear x1 x2 x3 x4 HX
      go_wp2
      go_ret
      exact ⟨rfl, X1.out.1, X1.out.2⟩
end Go.Proofs.Ytgaclepoipaecaa

namespace Go.Proofs.Ytgaclepoipaecaa
open Go.RowKit Go.Shelf
set_option linter.unusedVariables false
set_option linter.unusedSimpArgs false
attribute [local go_sem] Oper.semAt_some

/-- how often each place is a kid -/
def tmz (m : Nat) (P : List Int) : List Int := P.foldl bump (List.replicate m 0)
theorem tmz_len (m : Nat) (P : List Int) : (tmz m P).length = m := by
  unfold tmz
  suffices ∀ (P : List Int) (ts : List Int), (P.foldl bump ts).length = ts.length by rw [this]; simp
  intro P
  induction P with
  | nil => intro ts; rfl
  | cons z P ih => intro ts; rw [List.foldl_cons, ih, bump_len]
theorem tmz_snoc (m : Nat) (P : List Int) (z : Int) : tmz m (P ++ [z]) = bump (tmz m P) z := by simp [tmz, List.foldl_append]
theorem bump_get (ts : List Int) (z j : Nat) (hz : z < ts.length) : (bump ts (z : Int))[j]?.getD 0 = ts[j]?.getD 0 + if z = j then 1 else 0 := by
  unfold bump
  rw [Int.toNat_natCast, List.getElem?_set]
  by_cases e : z = j
  · subst e; rw [if_pos rfl, if_pos hz, if_pos rfl]; rfl
  · rw [if_neg e, if_neg e]; omega
theorem tmz_get (m : Nat) : ∀ (P : List Int), (∀ z ∈ P, 0 ≤ z ∧ z < (m : Int)) → ∀ j, j < m → (tmz m P)[j]?.getD 0 = (P.count (j : Int) : Int) := by
  suffices ∀ (P : List Int), (∀ z ∈ P, 0 ≤ z ∧ z < (m : Int)) → ∀ (ts : List Int), ts.length = m → ∀ j, j < m → (P.foldl bump ts)[j]?.getD 0 = ts[j]?.getD 0 + (P.count (j : Int) : Int) by
    intro P hP j hj
    unfold tmz
    rw [this P hP _ (by simp) j hj]; simp [hj]
  intro P
  induction P with
  | nil => intro _ ts _ j _; simp
  | cons z P ih =>
    intro hP ts ht j hj
    obtain ⟨h0, h1⟩ := hP z (by simp)
    obtain ⟨zn, rfl⟩ : ∃ zn : Nat, z = (zn : Int) := ⟨z.toNat, by omega⟩
    rw [List.foldl_cons, ih (fun y hy => hP y (by simp [hy])) _ (by rw [bump_len]; exact ht) j hj, bump_get ts zn j (by rw [ht]; omega), List.count_cons]
    by_cases e : zn = j
    · subst e; simp; omega
    · rw [if_neg e, if_neg (by simp; omega)]; omega
theorem tmz_val (m : Nat) (P : List Int) (hP : ∀ z ∈ P, 0 ≤ z ∧ z < (m : Int)) (j : Nat) (hj : j < m) : (tmz m P)[j]? = some ((P.count (j : Int) : Nat) : Int) := by
  have h := tmz_get m P hP j hj
  rw [List.getElem?_eq_getElem (by rw [tmz_len]; exact hj)] at h ⊢
  simp only [Option.getD_some] at h
  rw [h]
/-- the worlds in which kids are counted -/
def TI (G m : Nat) (w X : World) (P : List Int) : Prop := Whole X G 3 ((tmz m P).map (Value.int .i64)) ∧ Below w.heap.size w X
theorem TI.step {G m : Nat} {w X : World} {P : List Int} (h : TI G m w X P) (hG : w.heap.size ≤ G) (z : Nat) (c : Int) (hc : (tmz m P)[z]? = some c) : TI G m w (X.setCell ⟨G, z, none⟩ (.int .i64 (c + 1))) (P ++ [(z : Int)]) := by
  refine ⟨?_, h.2.setCell (p := ⟨G, z, none⟩) hG _⟩
  rw [tmz_snoc]
  unfold bump
  rw [Int.toNat_natCast, hc, List.map_set]
  exact h.1.set z _
set_option maxRecDepth 100000 in
set_option maxHeartbeats 16000000 in
theorem refCheck_wrong (b off cap m : Nat) (ns : List Nd) (w : World) (hm : ns.length = m) (h1 : 1 ≤ m) (h2 : m ≤ 65536) (hP : PageAt w (.slice (some ⟨b, off, none⟩) m cap) ns) (hK : ∀ n ∈ ns, n.ks.length ≤ 70000) (I1 : Nat) (hI : I1 < m) (HW : Hid (∀ j n, j < I1 → ns[j]? = some n → (!wrongN n) = true)) (HF : Hid (∀ n, ns[I1]? = some n → (!wrongN n) = false)) :
    Calls Try.prog 15 #[.slice (some ⟨b, off, none⟩) m cap] w fun e W' => e = .returned (.tuple #[.int .i64 I1, .int .i64 50]) ∧ Below w.heap.size w W' := by
  have HN : Hid (∀ (j : Nat) (n : Nd), ns[j]? = some n → ∀ X, Below w.heap.size w X → NdAt X b (off + j * 34) n ∧ n.ok X) := Lib.hid (by
    obtain ⟨b', off', e, hc⟩ := page_some hP (by rw [hm]; exact h1)
    injection e with e; injection e with e1 e2
    subst e1 e2
    exact fun j n hn X hX => ⟨(hc j n hn).below hX, (hP.2.1 n (List.mem_iff_getElem?.2 ⟨j, hn⟩)).below hX⟩)
  have HC : Hid (∀ (j : Nat) (n : Nd), ns[j]? = some n → w.cell? ⟨b, off + j * 34 + 1, none⟩ = some n.kv ∧ Ints w n.kv n.ks ∧ b < w.heap.size) := Lib.hid (by
    obtain ⟨b', off', e, _, hc⟩ := page_cells hP h1
    injection e with e; injection e with e1 e2
    subst e1 e2
    exact fun j n hn => (hc j n hn).2)
  have HP := Lib.hid hP
  have HM := Lib.hid hm
  have HKF := Lib.hid hK
  have d1 : decide ((m : Int) < 1) = false := by simp; omega
  have d2 : decide ((m : Int) > 65536) = false := by simp; omega
  clear hm hK hP
  go_enter Try.func15, Try.ntmps15
  go_wp2
  go_loopw [4] (fun s4 X => ∃ i : Nat, i ≤ I1 ∧ s4 = .int .i64 i ∧ Hid (Below w.heap.size w X)) (fun s4 _ => m - (intOf s4).toNat)
  case atStart => exact ⟨0, by omega, rfl, Lib.hid (Below.refl _ _)⟩
  case round =>
    obtain ⟨i, hi, rfl, HB⟩ := hrel
    by_cases hlt : i < I1
    · obtain ⟨n, hn⟩ : ∃ n, ns[i]? = some n := ⟨_, List.getElem?_eq_getElem (by rw [HM.out]; omega)⟩
      obtain ⟨hnd, hok⟩ := HN.out i n hn wr HB.out
      have hr := right_any n wr hok
      rw [HW.out i n hlt hn] at hr
      obtain ⟨cs, hcs⟩ : ∃ cs, n.cells.toArray = cs := ⟨_, rfl⟩
      have LN : Hid (∀ j v, cs[j]? = some v → wr.cell? ((⟨b, off + i * 34, none⟩ : Addr).add j) = some v) := Lib.hid (by rw [← hcs]; exact hnd.load)
      have iN : Hid ((Try.prog.info? 45).map (·.size) = some cs.size) := Lib.hid (by rw [← hcs]; exact nd_info n)
      have HR : Hid (Calls Try.prog 30 #[.agg cs] wr fun e W' => e = .returned (.bool true) ∧ Below wr.heap.size wr W') := Lib.hid (by rw [← hcs]; exact hr)
      clear hr hcs hn hnd hok
      go_wp2_with (first
        | (refine wpList_load_at rfl 45 (.tmp 34) rfl _ rfl cs _ LN.out Try.underlying45 rfl iN.out ?_)
        | (go_at_call 30; refine HR.out.mono ?_; rintro e w1 ⟨rfl, hb1⟩; have HB1 := Lib.hid (HB.out.trans (hb1.mono HB.out.size)); clear hb1 HB HR LN iN))
      go_roundw
      case rel => exact ⟨i + 1, by omega, by go_num, HB1⟩
      case measure => (simp [intOf]; try omega)
    · obtain rfl : i = I1 := by omega
      obtain ⟨n, hn⟩ : ∃ n, ns[i]? = some n := ⟨_, List.getElem?_eq_getElem (by rw [HM.out]; omega)⟩
      obtain ⟨hnd, hok⟩ := HN.out i n hn wr HB.out
      have hr := right_any n wr hok
      rw [HF.out n hn] at hr
      obtain ⟨cs, hcs⟩ : ∃ cs, n.cells.toArray = cs := ⟨_, rfl⟩
      have LN : Hid (∀ j v, cs[j]? = some v → wr.cell? ((⟨b, off + i * 34, none⟩ : Addr).add j) = some v) := Lib.hid (by rw [← hcs]; exact hnd.load)
      have iN : Hid ((Try.prog.info? 45).map (·.size) = some cs.size) := Lib.hid (by rw [← hcs]; exact nd_info n)
      have HR : Hid (Calls Try.prog 30 #[.agg cs] wr fun e W' => e = .returned (.bool false) ∧ Below wr.heap.size wr W') := Lib.hid (by rw [← hcs]; exact hr)
      have him : i < m := hI
      clear hr hcs hn hnd hok
      go_wp2_with (first
        | (refine wpList_load_at rfl 45 (.tmp 34) rfl _ rfl cs _ LN.out Try.underlying45 rfl iN.out ?_)
        | (go_at_call 30; refine HR.out.mono ?_; rintro e w1 ⟨rfl, hb1⟩; have HB1 := Lib.hid (HB.out.trans (hb1.mono HB.out.size)); clear hb1 HB HR LN iN))
      refine bodyPost_ret (v := .tuple #[.int .i64 i, .int .i64 50]) (by simp [results, Try.results15, go_sem]) rfl ⟨rfl, HB1.out⟩
set_option maxRecDepth 100000 in
set_option maxHeartbeats 16000000 in
theorem refCheck_link (b off cap m : Nat) (ns : List Nd) (w : World) (hm : ns.length = m) (h1 : 1 ≤ m) (h2 : m ≤ 65536) (hP : PageAt w (.slice (some ⟨b, off, none⟩) m cap) ns) (hK : ∀ n ∈ ns, n.ks.length ≤ 70000) (HW : Hid (∀ j n, j < m → ns[j]? = some n → (!wrongN n) = true)) (I2 : Nat) (hI2 : I2 < m) (HL2 : Hid (∀ j n, j < I2 → ns[j]? = some n → ∀ z ∈ n.ks, 1 ≤ z ∧ z < (m : Int))) (HF2 : Hid (∀ n, ns[I2]? = some n → ∃ (k : Nat) (z : Int), n.ks[k]? = some z ∧ ¬ (1 ≤ z ∧ z < (m : Int)) ∧ ∀ k' z', k' < k → n.ks[k']? = some z' → 1 ≤ z' ∧ z' < (m : Int))) :
    Calls Try.prog 15 #[.slice (some ⟨b, off, none⟩) m cap] w fun e W' => e = .returned (.tuple #[.int .i64 I2, .int .i64 40]) ∧ Below w.heap.size w W' := by
  have HN : Hid (∀ (j : Nat) (n : Nd), ns[j]? = some n → ∀ X, Below w.heap.size w X → NdAt X b (off + j * 34) n ∧ n.ok X) := Lib.hid (by
    obtain ⟨b', off', e, hc⟩ := page_some hP (by rw [hm]; exact h1)
    injection e with e; injection e with e1 e2
    subst e1 e2
    exact fun j n hn X hX => ⟨(hc j n hn).below hX, (hP.2.1 n (List.mem_iff_getElem?.2 ⟨j, hn⟩)).below hX⟩)
  have HC : Hid (∀ (j : Nat) (n : Nd), ns[j]? = some n → w.cell? ⟨b, off + j * 34 + 1, none⟩ = some n.kv ∧ Ints w n.kv n.ks ∧ b < w.heap.size) := Lib.hid (by
    obtain ⟨b', off', e, _, hc⟩ := page_cells hP h1
    injection e with e; injection e with e1 e2
    subst e1 e2
    exact fun j n hn => (hc j n hn).2)
  have HP := Lib.hid hP
  have HM := Lib.hid hm
  have HKF := Lib.hid hK
  have d1 : decide ((m : Int) < 1) = false := by simp; omega
  have d2 : decide ((m : Int) > 65536) = false := by simp; omega
  clear hm hK hP
  go_enter Try.func15, Try.ntmps15
  go_wp2
  go_loopw [4] (fun s4 X => ∃ i : Nat, i ≤ m ∧ s4 = .int .i64 i ∧ Hid (Below w.heap.size w X)) (fun s4 _ => m - (intOf s4).toNat)
  case atStart => exact ⟨0, by omega, rfl, Lib.hid (Below.refl _ _)⟩
  case round =>
    obtain ⟨i, hi, rfl, HB⟩ := hrel
    by_cases hlt : i < m
    · obtain ⟨n, hn⟩ : ∃ n, ns[i]? = some n := ⟨_, List.getElem?_eq_getElem (by rw [HM.out]; omega)⟩
      obtain ⟨hnd, hok⟩ := HN.out i n hn wr HB.out
      have hr := right_any n wr hok
      rw [HW.out i n hlt hn] at hr
      obtain ⟨cs, hcs⟩ : ∃ cs, n.cells.toArray = cs := ⟨_, rfl⟩
      have LN : Hid (∀ j v, cs[j]? = some v → wr.cell? ((⟨b, off + i * 34, none⟩ : Addr).add j) = some v) := Lib.hid (by rw [← hcs]; exact hnd.load)
      have iN : Hid ((Try.prog.info? 45).map (·.size) = some cs.size) := Lib.hid (by rw [← hcs]; exact nd_info n)
      have HR : Hid (Calls Try.prog 30 #[.agg cs] wr fun e W' => e = .returned (.bool true) ∧ Below wr.heap.size wr W') := Lib.hid (by rw [← hcs]; exact hr)
      clear hr hcs hn hnd hok
      go_wp2_with (first
        | (refine wpList_load_at rfl 45 (.tmp 34) rfl _ rfl cs _ LN.out Try.underlying45 rfl iN.out ?_)
        | (go_at_call 30; refine HR.out.mono ?_; rintro e w1 ⟨rfl, hb1⟩; have HB1 := Lib.hid (HB.out.trans (hb1.mono HB.out.size)); clear hb1 HB HR LN iN))
      go_roundw
      case rel => exact ⟨i + 1, by omega, by go_num, HB1⟩
      case measure => (simp [intOf]; try omega)
    · obtain rfl : m = i := by omega
      have sw := HB.out.size
      obtain ⟨G, hG⟩ : ∃ G, wr.heap.size = G := ⟨_, rfl⟩
      have hGw : w.heap.size ≤ G := by omega
      have hmk := make_ints m (by omega)
      go_wp2
      try rw [hG]
      obtain ⟨W4, hW4⟩ : ∃ W4, wr.alloc (.cells (Array.replicate m (Value.int .i64 0)) 3) = W4 := ⟨_, rfl⟩
      have k4 : Whole W4 G 3 ((tmz m (kidsOf (ns.take 0))).map (Value.int .i64)) := by
        rw [← hW4, ← hG, show (Array.replicate m (Value.int .i64 0)) = ((tmz m (kidsOf (ns.take 0))).map (Value.int .i64)).toArray from by
          apply Array.toList_inj.1
          simp [tmz, kidsOf]]
        exact whole_new wr _ 3 _ rfl
      have b4 : Below w.heap.size w W4 := by rw [← hW4]; exact HB.out.alloc sw _
      have HT0 : Hid (TI G m w W4 (kidsOf (ns.take 0))) := Lib.hid ⟨k4, b4⟩
      rw [hW4]
      clear hW4 k4 b4 hmk hG sw HB
      go_loopw [7] (fun s7 X => ∃ i : Nat, i ≤ I2 ∧ s7 = .int .i64 i ∧ Hid (TI G m w X (kidsOf (ns.take i)))) (fun s7 _ => m - (intOf s7).toNat)
      case atStart => exact ⟨0, by omega, rfl, HT0⟩
      case round =>
        obtain ⟨i, hi, rfl, HT⟩ := hrel
        clear HT0
        have HPI : Hid (∀ z ∈ kidsOf (ns.take i), 0 ≤ z ∧ z < (m : Int)) := Lib.hid fun z hz => by
          obtain ⟨a, ha, hz'⟩ := List.mem_flatMap.1 hz
          obtain ⟨j, hj⟩ := List.mem_iff_getElem?.1 ha
          rw [List.getElem?_take] at hj
          by_cases e : j < i
          · rw [if_pos e] at hj
            have := HL2.out j a (by omega) hj z hz'
            omega
          · rw [if_neg e] at hj; cases hj
        by_cases hlt : i < I2
        · obtain ⟨n, hn⟩ : ∃ n, ns[i]? = some n := ⟨_, List.getElem?_eq_getElem (by rw [HM.out]; omega)⟩
          have hmem : n ∈ ns := List.mem_iff_getElem?.2 ⟨i, hn⟩
          obtain ⟨ck, hI, hb0⟩ := HC.out i n hn
          have hfew := HKF.out n hmem
          obtain ⟨qk, kc, hkv⟩ := hI.form
          rw [hkv] at ck hI
          obtain ⟨kl, hkl⟩ : ∃ kl, n.ks.length = kl := ⟨_, rfl⟩
          rw [hkl] at ck hfew hI
          have HI := Lib.hid hI
          have HKL := Lib.hid hkl
          have HCK := Lib.hid ck
          have HND := Lib.hid hn
          have HS : Hid (kidsOf (ns.take (i + 1)) = kidsOf (ns.take i) ++ n.ks) := Lib.hid (kids_snoc ns i n hn)
          have HLN : Hid (∀ k z, k < kl → n.ks[k]? = some z → 1 ≤ z ∧ z < (m : Int)) := Lib.hid fun k z hk hz => HL2.out i n hlt hn z (List.mem_iff_getElem?.2 ⟨k, hz⟩)
          clear hI hkl ck hn hkv hmem
          go_wp2
          go_loopw [8] (fun s8 X => ∃ k : Nat, k ≤ kl ∧ s8 = .int .i64 k ∧ Hid (TI G m w X (kidsOf (ns.take i) ++ n.ks.take k))) (fun s8 _ => kl - (intOf s8).toNat)
          case atStart => exact ⟨0, by omega, rfl, by simpa using HT⟩
          case round =>
            obtain ⟨k, hk, rfl, HY⟩ := hrel
            obtain ⟨y1, y2⟩ := HY.out
            have dck := (y2.cell (p := ⟨b, off + i * 34 + 1, none⟩) hb0).trans HCK.out
            by_cases hlt2 : k < kl
            · obtain ⟨y, hy⟩ : ∃ y, n.ks[k]? = some y := ⟨_, List.getElem?_eq_getElem (by rw [HKL.out]; omega)⟩
              have hkl2 : k < kl := by omega
              obtain ⟨qb, qo, rfl, cy, ly⟩ := ints_at0' HI.out k y hy
              have dcy := (y2.cell (p := ⟨qb, qo + k, none⟩) ly).trans cy
              obtain ⟨yr0, yr1⟩ := HLN.out k y hlt2 hy
              obtain ⟨yn, rfl⟩ : ∃ yn : Nat, y = (yn : Int) := ⟨y.toNat, by omega⟩
              have hPr : ∀ z ∈ kidsOf (ns.take i) ++ n.ks.take k, 0 ≤ z ∧ z < (m : Int) := fun z hz => by
                rcases List.mem_append.1 hz with h | h
                · exact HPI.out z h
                · obtain ⟨k', hk'⟩ := List.mem_iff_getElem?.1 h
                  rw [List.getElem?_take] at hk'
                  by_cases e : k' < k
                  · rw [if_pos e] at hk'
                    have := HLN.out k' z (by omega) hk'
                    omega
                  · rw [if_neg e] at hk'; cases hk'
              have hval := tmz_val m _ hPr yn (by omega)
              obtain ⟨c, hc⟩ : ∃ c, (kidsOf (ns.take i) ++ n.ks.take k).count (yn : Int) = c := ⟨_, rfl⟩
              have hcb : c ≤ 10000000000 := by
                rw [← hc]
                refine Nat.le_trans List.count_le_length ?_
                have e1 := kids_len ns i HKF.out
                rw [List.length_append, List.length_take]
                have : 70000 * i ≤ 70000 * 65536 := Nat.mul_le_mul_left _ (by omega)
                omega
              rw [hc] at hval
              have cg : wr.cell? ⟨G, yn, none⟩ = some (.int .i64 c) := by rw [y1.cellAt, List.getElem?_map, hval]; rfl
              have fg := y1.free yn
              have S1 : Hid (TI G m w (wr.setCell ⟨G, yn, none⟩ (.int .i64 ((c : Int) + 1))) (kidsOf (ns.take i) ++ n.ks.take (k + 1))) := Lib.hid (by
                have := HY.out.step hGw yn c hval
                rw [List.take_add_one, hy, ← List.append_assoc]
                exact this)
              have z1 : decide ((yn : Int) < 1) = false := by simp; omega
              have z2 : decide ((yn : Int) ≥ (m : Int)) = false := by simp; omega
              clear y1 y2 hy cy HY hval hc hPr
              go_wp2
              go_roundw
              case rel => exact ⟨k + 1, by omega, by go_num, S1⟩
              case measure => (simp [intOf]; try omega)
            · obtain rfl : k = kl := by omega
              have HT2 : Hid (TI G m w wr (kidsOf (ns.take (i + 1)))) := by
                have := HY.out
                rw [List.take_of_length_le (l := n.ks) (by rw [HKL.out]; exact Nat.le_refl _), ← HS.out] at this
                exact Lib.hid this
              clear y1 y2 HY
              go_wp2
              exact ⟨⟨i + 1, by omega, rfl, HT2⟩, by (simp [intOf]; try omega)⟩
        · obtain rfl : i = I2 := by omega
          obtain ⟨n, hn⟩ : ∃ n, ns[i]? = some n := ⟨_, List.getElem?_eq_getElem (by rw [HM.out]; omega)⟩
          have hmem : n ∈ ns := List.mem_iff_getElem?.2 ⟨i, hn⟩
          obtain ⟨ck, hI, hb0⟩ := HC.out i n hn
          have hfew := HKF.out n hmem
          obtain ⟨qk, kc, hkv⟩ := hI.form
          rw [hkv] at ck hI
          obtain ⟨kl, hkl⟩ : ∃ kl, n.ks.length = kl := ⟨_, rfl⟩
          rw [hkl] at ck hfew hI
          have HI := Lib.hid hI
          have HKL := Lib.hid hkl
          have HCK := Lib.hid ck
          have HND := Lib.hid hn
          have HS : Hid (kidsOf (ns.take (i + 1)) = kidsOf (ns.take i) ++ n.ks) := Lib.hid (kids_snoc ns i n hn)
          obtain ⟨K, y, hKy, hbad, hbef⟩ := HF2.out n hn
          have hKl : K < kl := by have := (List.getElem?_eq_some_iff.1 hKy).1; omega
          have HKY := Lib.hid hKy
          have HLN : Hid (∀ k z, k < K → n.ks[k]? = some z → 1 ≤ z ∧ z < (m : Int)) := Lib.hid hbef
          clear hI hkl ck hn hkv hmem hKy hbef
          have him : i < m := hI2
          go_wp2
          go_loopw [8] (fun s8 X => ∃ k : Nat, k ≤ K ∧ s8 = .int .i64 k ∧ Hid (TI G m w X (kidsOf (ns.take i) ++ n.ks.take k))) (fun s8 _ => kl - (intOf s8).toNat)
          case atStart => exact ⟨0, by omega, rfl, by simpa using HT⟩
          case round =>
            obtain ⟨k, hk, rfl, HY⟩ := hrel
            obtain ⟨y1, y2⟩ := HY.out
            have dck := (y2.cell (p := ⟨b, off + i * 34 + 1, none⟩) hb0).trans HCK.out
            by_cases hlt2 : k < K
            · obtain ⟨y, hy⟩ : ∃ y, n.ks[k]? = some y := ⟨_, List.getElem?_eq_getElem (by rw [HKL.out]; omega)⟩
              have hkl2 : k < kl := by omega
              obtain ⟨qb, qo, rfl, cy, ly⟩ := ints_at0' HI.out k y hy
              have dcy := (y2.cell (p := ⟨qb, qo + k, none⟩) ly).trans cy
              obtain ⟨yr0, yr1⟩ := HLN.out k y hlt2 hy
              obtain ⟨yn, rfl⟩ : ∃ yn : Nat, y = (yn : Int) := ⟨y.toNat, by omega⟩
              have hPr : ∀ z ∈ kidsOf (ns.take i) ++ n.ks.take k, 0 ≤ z ∧ z < (m : Int) := fun z hz => by
                rcases List.mem_append.1 hz with h | h
                · exact HPI.out z h
                · obtain ⟨k', hk'⟩ := List.mem_iff_getElem?.1 h
                  rw [List.getElem?_take] at hk'
                  by_cases e : k' < k
                  · rw [if_pos e] at hk'
                    have := HLN.out k' z (by omega) hk'
                    omega
                  · rw [if_neg e] at hk'; cases hk'
              have hval := tmz_val m _ hPr yn (by omega)
              obtain ⟨c, hc⟩ : ∃ c, (kidsOf (ns.take i) ++ n.ks.take k).count (yn : Int) = c := ⟨_, rfl⟩
              have hcb : c ≤ 10000000000 := by
                rw [← hc]
                refine Nat.le_trans List.count_le_length ?_
                have e1 := kids_len ns i HKF.out
                rw [List.length_append, List.length_take]
                have : 70000 * i ≤ 70000 * 65536 := Nat.mul_le_mul_left _ (by omega)
                omega
              rw [hc] at hval
              have cg : wr.cell? ⟨G, yn, none⟩ = some (.int .i64 c) := by rw [y1.cellAt, List.getElem?_map, hval]; rfl
              have fg := y1.free yn
              have S1 : Hid (TI G m w (wr.setCell ⟨G, yn, none⟩ (.int .i64 ((c : Int) + 1))) (kidsOf (ns.take i) ++ n.ks.take (k + 1))) := Lib.hid (by
                have := HY.out.step hGw yn c hval
                rw [List.take_add_one, hy, ← List.append_assoc]
                exact this)
              have z1 : decide ((yn : Int) < 1) = false := by simp; omega
              have z2 : decide ((yn : Int) ≥ (m : Int)) = false := by simp; omega
              clear y1 y2 hy cy HY hval hc hPr
              go_wp2
              go_roundw
              case rel => exact ⟨k + 1, by omega, by go_num, S1⟩
              case measure => (simp [intOf]; try omega)
            · obtain rfl : k = K := by omega
              obtain ⟨qb, qo, rfl, cy, ly⟩ := ints_at0' HI.out k y HKY.out
              have dcy := (y2.cell (p := ⟨qb, qo + k, none⟩) ly).trans cy
              have Y2 := Lib.hid y2
              clear y1 y2 HY cy
              by_cases zb : y < 1
              · have z1 : decide (y < 1) = true := by simpa using zb
                go_wp2
                refine bodyPost_ret (v := .tuple #[.int .i64 i, .int .i64 40]) (by simp [results, Try.results15, go_sem]) rfl ⟨rfl, Y2.out⟩
              · have z1 : decide (y < 1) = false := by simpa using zb
                have z2 : decide (y ≥ (m : Int)) = true := by simp; omega
                go_wp2
                refine bodyPost_ret (v := .tuple #[.int .i64 i, .int .i64 40]) (by simp [results, Try.results15, go_sem]) rfl ⟨rfl, Y2.out⟩
theorem walk_rng {ns : List Nd} (h1 : 1 ≤ ns.length) (hl : ∀ n ∈ ns, ∀ z ∈ n.ks, 1 ≤ z ∧ z < (ns.length : Int)) : ∀ z ∈ (walkL ns.length (kfOf ns)).map Prod.fst, 0 ≤ z ∧ z < (ns.length : Int) := by
  obtain ⟨vis, st, hr, hn⟩ := walk_facts h1 (kids_in hl)
  have hg := hr.good h1 (kids_in hl)
  intro z hz
  exact hg.vrng z (by rw [hr.vis]; simpa using hz)
/-- the worlds in which what is met is marked -/
def CkI (G M m : Nat) (w X : World) (P : List Int) (L : List Int) : Prop := Whole X G 3 ((tmz m P).map (Value.int .i64)) ∧ Whole X M 4 (metL m L) ∧ Below w.heap.size w X
theorem CkI.below {G M m : Nat} {w X Y : World} {P L : List Int} (h : CkI G M m w X P L) (hb : Below X.heap.size X Y) : CkI G M m w Y P L := ⟨h.1.below hb h.1.lt, h.2.1.below hb h.2.1.lt, h.2.2.trans (hb.mono h.2.2.size)⟩
set_option maxRecDepth 100000 in
set_option maxHeartbeats 16000000 in
theorem refCheck_bad (b off cap m : Nat) (ns : List Nd) (w : World) (hm : ns.length = m) (h1 : 1 ≤ m) (h2 : m ≤ 65536) (hP : PageAt w (.slice (some ⟨b, off, none⟩) m cap) ns) (hK : ∀ n ∈ ns, n.ks.length ≤ 70000) (HW : Hid (∀ j n, j < m → ns[j]? = some n → (!wrongN n) = true)) (HL2 : Hid (∀ j n, j < m → ns[j]? = some n → ∀ z ∈ n.ks, 1 ≤ z ∧ z < (m : Int))) (Z : Nat) (hZ1 : 1 ≤ Z) (hZm : Z < m) (HZ : Hid ((kidsOf ns).count (Z : Int) ≠ 1)) (HZB : Hid (∀ j : Nat, 1 ≤ j → j < Z → (kidsOf ns).count (j : Int) = 1)) (I5 : Nat) (hI51 : 1 ≤ I5) (hI5 : I5 ≤ Z) (HS5 : Hid (∀ j : Nat, 1 ≤ j → j < I5 → (kidsOf ns).count (j : Int) = 1 ∧ metB ns (j : Int) = true)) (HT5 : Hid ((kidsOf ns).count (I5 : Int) ≠ 1 ∨ metB ns (I5 : Int) = false)) :
    Calls Try.prog 15 #[.slice (some ⟨b, off, none⟩) m cap] w fun e W' => e = .returned (.tuple #[.int .i64 I5, .int .i64 41]) ∧ Below w.heap.size w W' := by
  have HRE : Hid (∀ X : World, Below w.heap.size w X → ∀ t, t < m → Calls Try.prog 32 #[.slice (some ⟨b, off, none⟩) m cap, .int .i64 t] X fun e W' => e = .returned (.bool (metB ns (t : Int))) ∧ Below X.heap.size X W') :=
    Lib.hid fun X hX t ht => reached_at b off cap m t ns X hm h1 h2 ht (hP.below hX) hK (fun n hn z hz => by
      obtain ⟨j, hj⟩ := List.mem_iff_getElem?.1 hn
      exact HL2.out j n (by have := (List.getElem?_eq_some_iff.1 hj).1; omega) hj z hz) _ rfl
  have HN : Hid (∀ (j : Nat) (n : Nd), ns[j]? = some n → ∀ X, Below w.heap.size w X → NdAt X b (off + j * 34) n ∧ n.ok X) := Lib.hid (by
    obtain ⟨b', off', e, hc⟩ := page_some hP (by rw [hm]; exact h1)
    injection e with e; injection e with e1 e2
    subst e1 e2
    exact fun j n hn X hX => ⟨(hc j n hn).below hX, (hP.2.1 n (List.mem_iff_getElem?.2 ⟨j, hn⟩)).below hX⟩)
  have HC : Hid (∀ (j : Nat) (n : Nd), ns[j]? = some n → w.cell? ⟨b, off + j * 34 + 1, none⟩ = some n.kv ∧ Ints w n.kv n.ks ∧ b < w.heap.size) := Lib.hid (by
    obtain ⟨b', off', e, _, hc⟩ := page_cells hP h1
    injection e with e; injection e with e1 e2
    subst e1 e2
    exact fun j n hn => (hc j n hn).2)
  have HP := Lib.hid hP
  have HM := Lib.hid hm
  have HKF := Lib.hid hK
  have d1 : decide ((m : Int) < 1) = false := by simp; omega
  have d2 : decide ((m : Int) > 65536) = false := by simp; omega
  clear hm hK hP
  go_enter Try.func15, Try.ntmps15
  go_wp2
  go_loopw [4] (fun s4 X => ∃ i : Nat, i ≤ m ∧ s4 = .int .i64 i ∧ Hid (Below w.heap.size w X)) (fun s4 _ => m - (intOf s4).toNat)
  case atStart => exact ⟨0, by omega, rfl, Lib.hid (Below.refl _ _)⟩
  case round =>
    obtain ⟨i, hi, rfl, HB⟩ := hrel
    by_cases hlt : i < m
    · obtain ⟨n, hn⟩ : ∃ n, ns[i]? = some n := ⟨_, List.getElem?_eq_getElem (by rw [HM.out]; omega)⟩
      obtain ⟨hnd, hok⟩ := HN.out i n hn wr HB.out
      have hr := right_any n wr hok
      rw [HW.out i n hlt hn] at hr
      obtain ⟨cs, hcs⟩ : ∃ cs, n.cells.toArray = cs := ⟨_, rfl⟩
      have LN : Hid (∀ j v, cs[j]? = some v → wr.cell? ((⟨b, off + i * 34, none⟩ : Addr).add j) = some v) := Lib.hid (by rw [← hcs]; exact hnd.load)
      have iN : Hid ((Try.prog.info? 45).map (·.size) = some cs.size) := Lib.hid (by rw [← hcs]; exact nd_info n)
      have HR : Hid (Calls Try.prog 30 #[.agg cs] wr fun e W' => e = .returned (.bool true) ∧ Below wr.heap.size wr W') := Lib.hid (by rw [← hcs]; exact hr)
      clear hr hcs hn hnd hok
      go_wp2_with (first
        | (refine wpList_load_at rfl 45 (.tmp 34) rfl _ rfl cs _ LN.out Try.underlying45 rfl iN.out ?_)
        | (go_at_call 30; refine HR.out.mono ?_; rintro e w1 ⟨rfl, hb1⟩; have HB1 := Lib.hid (HB.out.trans (hb1.mono HB.out.size)); clear hb1 HB HR LN iN))
      go_roundw
      case rel => exact ⟨i + 1, by omega, by go_num, HB1⟩
      case measure => (simp [intOf]; try omega)
    · obtain rfl : m = i := by omega
      have sw := HB.out.size
      obtain ⟨G, hG⟩ : ∃ G, wr.heap.size = G := ⟨_, rfl⟩
      have hGw : w.heap.size ≤ G := by omega
      have hmk := make_ints m (by omega)
      go_wp2
      try rw [hG]
      obtain ⟨W4, hW4⟩ : ∃ W4, wr.alloc (.cells (Array.replicate m (Value.int .i64 0)) 3) = W4 := ⟨_, rfl⟩
      have k4 : Whole W4 G 3 ((tmz m (kidsOf (ns.take 0))).map (Value.int .i64)) := by
        rw [← hW4, ← hG, show (Array.replicate m (Value.int .i64 0)) = ((tmz m (kidsOf (ns.take 0))).map (Value.int .i64)).toArray from by
          apply Array.toList_inj.1
          simp [tmz, kidsOf]]
        exact whole_new wr _ 3 _ rfl
      have b4 : Below w.heap.size w W4 := by rw [← hW4]; exact HB.out.alloc sw _
      have HT0 : Hid (TI G m w W4 (kidsOf (ns.take 0))) := Lib.hid ⟨k4, b4⟩
      rw [hW4]
      clear hW4 k4 b4 hmk hG sw HB
      go_loopw [7] (fun s7 X => ∃ i : Nat, i ≤ m ∧ s7 = .int .i64 i ∧ Hid (TI G m w X (kidsOf (ns.take i)))) (fun s7 _ => m - (intOf s7).toNat)
      case atStart => exact ⟨0, by omega, rfl, HT0⟩
      case round =>
        obtain ⟨i, hi, rfl, HT⟩ := hrel
        clear HT0
        have HPI : Hid (∀ z ∈ kidsOf (ns.take i), 0 ≤ z ∧ z < (m : Int)) := Lib.hid fun z hz => by
          obtain ⟨a, ha, hz'⟩ := List.mem_flatMap.1 hz
          obtain ⟨j, hj⟩ := List.mem_iff_getElem?.1 ha
          rw [List.getElem?_take] at hj
          by_cases e : j < i
          · rw [if_pos e] at hj
            have := HL2.out j a (by omega) hj z hz'
            omega
          · rw [if_neg e] at hj; cases hj
        by_cases hlt : i < m
        · obtain ⟨n, hn⟩ : ∃ n, ns[i]? = some n := ⟨_, List.getElem?_eq_getElem (by rw [HM.out]; omega)⟩
          have hmem : n ∈ ns := List.mem_iff_getElem?.2 ⟨i, hn⟩
          obtain ⟨ck, hI, hb0⟩ := HC.out i n hn
          have hfew := HKF.out n hmem
          obtain ⟨qk, kc, hkv⟩ := hI.form
          rw [hkv] at ck hI
          obtain ⟨kl, hkl⟩ : ∃ kl, n.ks.length = kl := ⟨_, rfl⟩
          rw [hkl] at ck hfew hI
          have HI := Lib.hid hI
          have HKL := Lib.hid hkl
          have HCK := Lib.hid ck
          have HND := Lib.hid hn
          have HS : Hid (kidsOf (ns.take (i + 1)) = kidsOf (ns.take i) ++ n.ks) := Lib.hid (kids_snoc ns i n hn)
          have HLN : Hid (∀ k z, k < kl → n.ks[k]? = some z → 1 ≤ z ∧ z < (m : Int)) := Lib.hid fun k z hk hz => HL2.out i n hlt hn z (List.mem_iff_getElem?.2 ⟨k, hz⟩)
          clear hI hkl ck hn hkv hmem
          go_wp2
          go_loopw [8] (fun s8 X => ∃ k : Nat, k ≤ kl ∧ s8 = .int .i64 k ∧ Hid (TI G m w X (kidsOf (ns.take i) ++ n.ks.take k))) (fun s8 _ => kl - (intOf s8).toNat)
          case atStart => exact ⟨0, by omega, rfl, by simpa using HT⟩
          case round =>
            obtain ⟨k, hk, rfl, HY⟩ := hrel
            obtain ⟨y1, y2⟩ := HY.out
            have dck := (y2.cell (p := ⟨b, off + i * 34 + 1, none⟩) hb0).trans HCK.out
            by_cases hlt2 : k < kl
            · obtain ⟨y, hy⟩ : ∃ y, n.ks[k]? = some y := ⟨_, List.getElem?_eq_getElem (by rw [HKL.out]; omega)⟩
              have hkl2 : k < kl := by omega
              obtain ⟨qb, qo, rfl, cy, ly⟩ := ints_at0' HI.out k y hy
              have dcy := (y2.cell (p := ⟨qb, qo + k, none⟩) ly).trans cy
              obtain ⟨yr0, yr1⟩ := HLN.out k y hlt2 hy
              obtain ⟨yn, rfl⟩ : ∃ yn : Nat, y = (yn : Int) := ⟨y.toNat, by omega⟩
              have hPr : ∀ z ∈ kidsOf (ns.take i) ++ n.ks.take k, 0 ≤ z ∧ z < (m : Int) := fun z hz => by
                rcases List.mem_append.1 hz with h | h
                · exact HPI.out z h
                · obtain ⟨k', hk'⟩ := List.mem_iff_getElem?.1 h
                  rw [List.getElem?_take] at hk'
                  by_cases e : k' < k
                  · rw [if_pos e] at hk'
                    have := HLN.out k' z (by omega) hk'
                    omega
                  · rw [if_neg e] at hk'; cases hk'
              have hval := tmz_val m _ hPr yn (by omega)
              obtain ⟨c, hc⟩ : ∃ c, (kidsOf (ns.take i) ++ n.ks.take k).count (yn : Int) = c := ⟨_, rfl⟩
              have hcb : c ≤ 10000000000 := by
                rw [← hc]
                refine Nat.le_trans List.count_le_length ?_
                have e1 := kids_len ns i HKF.out
                rw [List.length_append, List.length_take]
                have : 70000 * i ≤ 70000 * 65536 := Nat.mul_le_mul_left _ (by omega)
                omega
              rw [hc] at hval
              have cg : wr.cell? ⟨G, yn, none⟩ = some (.int .i64 c) := by rw [y1.cellAt, List.getElem?_map, hval]; rfl
              have fg := y1.free yn
              have S1 : Hid (TI G m w (wr.setCell ⟨G, yn, none⟩ (.int .i64 ((c : Int) + 1))) (kidsOf (ns.take i) ++ n.ks.take (k + 1))) := Lib.hid (by
                have := HY.out.step hGw yn c hval
                rw [List.take_add_one, hy, ← List.append_assoc]
                exact this)
              have z1 : decide ((yn : Int) < 1) = false := by simp; omega
              have z2 : decide ((yn : Int) ≥ (m : Int)) = false := by simp; omega
              clear y1 y2 hy cy HY hval hc hPr
              go_wp2
              go_roundw
              case rel => exact ⟨k + 1, by omega, by go_num, S1⟩
              case measure => (simp [intOf]; try omega)
            · obtain rfl : k = kl := by omega
              have HT2 : Hid (TI G m w wr (kidsOf (ns.take (i + 1)))) := by
                have := HY.out
                rw [List.take_of_length_le (l := n.ks) (by rw [HKL.out]; exact Nat.le_refl _), ← HS.out] at this
                exact Lib.hid this
              clear y1 y2 HY
              go_wp2
              exact ⟨⟨i + 1, by omega, rfl, HT2⟩, by (simp [intOf]; try omega)⟩
        · obtain rfl : m = i := by omega
          have HPA : Hid (∀ z ∈ kidsOf ns, 0 ≤ z ∧ z < (m : Int)) := by
            have := HPI.out
            rw [List.take_of_length_le (by rw [HM.out]; exact Nat.le_refl _)] at this
            exact Lib.hid this
          have HTF : Hid (TI G m w wr (kidsOf ns)) := by
            have := HT.out
            rw [List.take_of_length_le (by rw [HM.out]; exact Nat.le_refl _)] at this
            exact Lib.hid this
          clear HT HPI
          have sw := HTF.out.2.size
          have hGM := HTF.out.1.lt
          obtain ⟨M, hM⟩ : ∃ M, wr.heap.size = M := ⟨_, rfl⟩
          have hMw : w.heap.size ≤ M := by omega
          have hGM2 : G < M := by omega
          have hmk := make_bools m (by omega)
          go_wp2
          try rw [hM]
          obtain ⟨W5, hW5⟩ : ∃ W5, wr.alloc (.cells (metL m []).toArray 4) = W5 := ⟨_, rfl⟩
          have k5 : Whole W5 M 4 (metL m []) := by rw [← hW5, ← hM]; exact whole_new wr _ 4 _ rfl
          have HC0 : Hid (CkI G M m w W5 (kidsOf ns) []) := Lib.hid ⟨by rw [← hW5]; exact HTF.out.1.alloc _, k5, by rw [← hW5]; exact HTF.out.2.alloc sw _⟩
          have hs5 : W5.heap.size = M + 1 := by rw [← hW5, ← hM]; simp
          rw [hW5]
          clear hW5 k5 hmk hM sw hGM HTF
          go_loop [11, 12] (fun s11 s12 => ∃ i : Nat, 1 ≤ i ∧ i ≤ m ∧ s12 = .int .i64 i ∧ s11 = .bool (decide (Z < i))) (fun _ s12 => m - (intOf s12).toNat)
          case atStart => exact ⟨1, by omega, by omega, rfl, by rw [decide_eq_false (by omega)]⟩
          case round =>
            obtain ⟨i, hi1, hi, rfl, rfl⟩ := hrel
            by_cases hlt : i < m
            · by_cases hz1 : Z < i
              · have dz : decide (Z < i) = true := decide_eq_true hz1
                rw [dz]
                go_wp2
                go_round
                case rel => exact ⟨i + 1, by omega, by omega, by go_num, by rw [decide_eq_true (by omega)]⟩
                case measure => (simp [intOf]; try omega)
              · have dz : decide (Z < i) = false := decide_eq_false hz1
                rw [dz]
                obtain ⟨c, hc⟩ : ∃ c, (kidsOf ns).count (i : Int) = c := ⟨_, rfl⟩
                have ct : W5.cell? ⟨G, i, none⟩ = some (.int .i64 c) := by rw [HC0.out.1.cellAt, List.getElem?_map, tmz_val m _ HPA.out i hlt, hc]; rfl
                by_cases hiz : i = Z
                · have cc : ((c : Int) != 1) = true := by
                    have := HZ.out
                    rw [← hiz, hc] at this
                    simp; omega
                  have hzi : Z ≤ i := by omega
                  clear hc hiz
                  go_wp2
                  go_round
                  case rel => exact ⟨i + 1, by omega, by omega, by go_num, by rw [decide_eq_true (by omega)]⟩
                  case measure => (simp [intOf]; try omega)
                · have hc1 : c = 1 := by rw [← hc]; exact HZB.out i hi1 (by omega)
                  subst hc1
                  clear hc
                  go_wp2
                  go_round
                  case rel => exact ⟨i + 1, by omega, by omega, by go_num, by rw [decide_eq_false (by omega)]⟩
                  case measure => (simp [intOf]; try omega)
            · have him : i = m := by omega
              have dz : decide (Z < i) = true := decide_eq_true (by omega)
              rw [dz]
              clear dz
              go_wp2
              go_loopw [15] (fun s15 X => ∃ i : Nat, 1 ≤ i ∧ i ≤ I5 ∧ s15 = .int .i64 i ∧ Hid (CkI G M m w X (kidsOf ns) [])) (fun s15 _ => m - (intOf s15).toNat)
              case atStart => exact ⟨1, by omega, by omega, rfl, HC0⟩
              case round =>
                obtain ⟨i, hi1, hi, rfl, HX⟩ := hrel
                have him5 : i < m := by omega
                obtain ⟨c, hc⟩ : ∃ c, (kidsOf ns).count (i : Int) = c := ⟨_, rfl⟩
                have ct : wr.cell? ⟨G, i, none⟩ = some (.int .i64 c) := by rw [HX.out.1.cellAt, List.getElem?_map, tmz_val m _ HPA.out i him5, hc]; rfl
                have HR := Lib.hid (HRE.out wr HX.out.2.2 i him5)
                by_cases hlt5 : i < I5
                · obtain ⟨g1, g2⟩ := HS5.out i hi1 hlt5
                  have hc1 : c = 1 := by rw [← hc]; exact g1
                  subst hc1
                  rw [g2] at HR
                  clear hc g1 g2
                  go_wp2_with (go_at_call 32; refine HR.out.mono ?_; rintro e w1 ⟨rfl, hb1⟩; have HX1 := Lib.hid (HX.out.below hb1); clear hb1 HX HR)
                  go_roundw
                  case rel => exact ⟨i + 1, by omega, by omega, by go_num, HX1⟩
                  case measure => (simp [intOf]; try omega)
                · obtain rfl : i = I5 := by omega
                  have hX5 := HX.out.2.2
                  by_cases hc1 : c = 1
                  · have hm5 : metB ns (i : Int) = false := by
                      rcases HT5.out with h | h
                      · rw [hc] at h; exact absurd hc1 h
                      · exact h
                    rw [hm5] at HR
                    subst hc1
                    clear hc hm5 hX5
                    go_wp2_with (go_at_call 32; refine HR.out.mono ?_; rintro e w1 ⟨rfl, hb1⟩; have HX1 := Lib.hid (HX.out.2.2.trans (hb1.mono HX.out.2.2.size)); clear hb1 HX HR)
                    refine bodyPost_ret (v := .tuple #[.int .i64 i, .int .i64 41]) (by simp [results, Try.results15, go_sem]) rfl ⟨rfl, HX1.out⟩
                  · have cc : ((c : Int) != 1) = true := by simp; omega
                    have HX5 := Lib.hid hX5
                    clear hc HR hX5
                    go_wp2
                    refine bodyPost_ret (v := .tuple #[.int .i64 i, .int .i64 41]) (by simp [results, Try.results15, go_sem]) rfl ⟨rfl, HX5.out⟩
set_option maxRecDepth 100000 in
set_option maxHeartbeats 16000000 in
theorem refCheck_stray (b off cap m : Nat) (ns : List Nd) (w : World) (hm : ns.length = m) (h1 : 1 ≤ m) (h2 : m ≤ 65536) (hP : PageAt w (.slice (some ⟨b, off, none⟩) m cap) ns) (hK : ∀ n ∈ ns, n.ks.length ≤ 70000) (HW : Hid (∀ j n, j < m → ns[j]? = some n → (!wrongN n) = true)) (HL2 : Hid (∀ j n, j < m → ns[j]? = some n → ∀ z ∈ n.ks, 1 ≤ z ∧ z < (m : Int))) (HZB : Hid (∀ j : Nat, 1 ≤ j → j < m → (kidsOf ns).count (j : Int) = 1)) (I5 : Nat) (hI51 : 1 ≤ I5) (hI5 : I5 < m) (HS5' : Hid (∀ j : Nat, 1 ≤ j → j < I5 → metB ns (j : Int) = true)) (HT5' : Hid (metB ns (I5 : Int) = false)) :
    Calls Try.prog 15 #[.slice (some ⟨b, off, none⟩) m cap] w fun e W' => e = .returned (.tuple #[.int .i64 I5, .int .i64 41]) ∧ Below w.heap.size w W' := by
  have hlk : ∀ n ∈ ns, ∀ z ∈ n.ks, 1 ≤ z ∧ z < (ns.length : Int) := fun n hn z hz => by
    obtain ⟨j, hj⟩ := List.mem_iff_getElem?.1 hn
    have := HL2.out j n (by have := (List.getElem?_eq_some_iff.1 hj).1; omega) hj z hz
    omega
  have hT0 : Tr0 ns := ⟨hlk, fun j h h' => HZB.out j h (by omega)⟩
  obtain ⟨O, hO⟩ : ∃ O, (walkL ns.length (kfOf ns)).map Prod.fst = O := ⟨_, rfl⟩
  have HRG : Hid (∀ z ∈ O, 0 ≤ z ∧ z < (m : Int)) := Lib.hid (by rw [← hO, ← hm]; exact walk_rng (by omega) hlk)
  have HOR : Hid (∀ X : World, Below w.heap.size w X → Calls Try.prog 31 #[.slice (some ⟨b, off, none⟩) m cap, .int .i64 0, .slice none 0 0] X (OrdPost X O)) :=
    Lib.hid fun X hX => by
      have h := order_rec b off cap m ns X hm h1 h2 (hP.below hX) hK (fun n hn z hz => by have := hlk n hn z hz; omega) (m + 2) 0 [] _ X (by omega) (by omega) (by simp) (by simp) (Below.refl _ X) (World.ownsRow_nil _ _ _ _)
      have e : ordD (kfOf ns) m (m + 2) 0 [] = O := by rw [← hO, ← ord_walk hT0 (by omega), hm]; rfl
      rw [e] at h; exact h
  have HS5 : Hid (∀ j : Nat, 1 ≤ j → j < I5 → O.contains (j : Int) = true) := Lib.hid (by rw [← hO]; exact HS5'.out)
  have HT5 : Hid (O.contains (I5 : Int) = false) := Lib.hid (by rw [← hO]; exact HT5'.out)
  clear HT5'
  clear HS5' hO hT0 hlk
  have HN : Hid (∀ (j : Nat) (n : Nd), ns[j]? = some n → ∀ X, Below w.heap.size w X → NdAt X b (off + j * 34) n ∧ n.ok X) := Lib.hid (by
    obtain ⟨b', off', e, hc⟩ := page_some hP (by rw [hm]; exact h1)
    injection e with e; injection e with e1 e2
    subst e1 e2
    exact fun j n hn X hX => ⟨(hc j n hn).below hX, (hP.2.1 n (List.mem_iff_getElem?.2 ⟨j, hn⟩)).below hX⟩)
  have HC : Hid (∀ (j : Nat) (n : Nd), ns[j]? = some n → w.cell? ⟨b, off + j * 34 + 1, none⟩ = some n.kv ∧ Ints w n.kv n.ks ∧ b < w.heap.size) := Lib.hid (by
    obtain ⟨b', off', e, _, hc⟩ := page_cells hP h1
    injection e with e; injection e with e1 e2
    subst e1 e2
    exact fun j n hn => (hc j n hn).2)
  have HP := Lib.hid hP
  have HM := Lib.hid hm
  have HKF := Lib.hid hK
  have d1 : decide ((m : Int) < 1) = false := by simp; omega
  have d2 : decide ((m : Int) > 65536) = false := by simp; omega
  clear hm hK hP
  go_enter Try.func15, Try.ntmps15
  go_wp2
  go_loopw [4] (fun s4 X => ∃ i : Nat, i ≤ m ∧ s4 = .int .i64 i ∧ Hid (Below w.heap.size w X)) (fun s4 _ => m - (intOf s4).toNat)
  case atStart => exact ⟨0, by omega, rfl, Lib.hid (Below.refl _ _)⟩
  case round =>
    obtain ⟨i, hi, rfl, HB⟩ := hrel
    by_cases hlt : i < m
    · obtain ⟨n, hn⟩ : ∃ n, ns[i]? = some n := ⟨_, List.getElem?_eq_getElem (by rw [HM.out]; omega)⟩
      obtain ⟨hnd, hok⟩ := HN.out i n hn wr HB.out
      have hr := right_any n wr hok
      rw [HW.out i n hlt hn] at hr
      obtain ⟨cs, hcs⟩ : ∃ cs, n.cells.toArray = cs := ⟨_, rfl⟩
      have LN : Hid (∀ j v, cs[j]? = some v → wr.cell? ((⟨b, off + i * 34, none⟩ : Addr).add j) = some v) := Lib.hid (by rw [← hcs]; exact hnd.load)
      have iN : Hid ((Try.prog.info? 45).map (·.size) = some cs.size) := Lib.hid (by rw [← hcs]; exact nd_info n)
      have HR : Hid (Calls Try.prog 30 #[.agg cs] wr fun e W' => e = .returned (.bool true) ∧ Below wr.heap.size wr W') := Lib.hid (by rw [← hcs]; exact hr)
      clear hr hcs hn hnd hok
      go_wp2_with (first
        | (refine wpList_load_at rfl 45 (.tmp 34) rfl _ rfl cs _ LN.out Try.underlying45 rfl iN.out ?_)
        | (go_at_call 30; refine HR.out.mono ?_; rintro e w1 ⟨rfl, hb1⟩; have HB1 := Lib.hid (HB.out.trans (hb1.mono HB.out.size)); clear hb1 HB HR LN iN))
      go_roundw
      case rel => exact ⟨i + 1, by omega, by go_num, HB1⟩
      case measure => (simp [intOf]; try omega)
    · obtain rfl : m = i := by omega
      have sw := HB.out.size
      obtain ⟨G, hG⟩ : ∃ G, wr.heap.size = G := ⟨_, rfl⟩
      have hGw : w.heap.size ≤ G := by omega
      have hmk := make_ints m (by omega)
      go_wp2
      try rw [hG]
      obtain ⟨W4, hW4⟩ : ∃ W4, wr.alloc (.cells (Array.replicate m (Value.int .i64 0)) 3) = W4 := ⟨_, rfl⟩
      have k4 : Whole W4 G 3 ((tmz m (kidsOf (ns.take 0))).map (Value.int .i64)) := by
        rw [← hW4, ← hG, show (Array.replicate m (Value.int .i64 0)) = ((tmz m (kidsOf (ns.take 0))).map (Value.int .i64)).toArray from by
          apply Array.toList_inj.1
          simp [tmz, kidsOf]]
        exact whole_new wr _ 3 _ rfl
      have b4 : Below w.heap.size w W4 := by rw [← hW4]; exact HB.out.alloc sw _
      have HT0 : Hid (TI G m w W4 (kidsOf (ns.take 0))) := Lib.hid ⟨k4, b4⟩
      rw [hW4]
      clear hW4 k4 b4 hmk hG sw HB
      go_loopw [7] (fun s7 X => ∃ i : Nat, i ≤ m ∧ s7 = .int .i64 i ∧ Hid (TI G m w X (kidsOf (ns.take i)))) (fun s7 _ => m - (intOf s7).toNat)
      case atStart => exact ⟨0, by omega, rfl, HT0⟩
      case round =>
        obtain ⟨i, hi, rfl, HT⟩ := hrel
        clear HT0
        have HPI : Hid (∀ z ∈ kidsOf (ns.take i), 0 ≤ z ∧ z < (m : Int)) := Lib.hid fun z hz => by
          obtain ⟨a, ha, hz'⟩ := List.mem_flatMap.1 hz
          obtain ⟨j, hj⟩ := List.mem_iff_getElem?.1 ha
          rw [List.getElem?_take] at hj
          by_cases e : j < i
          · rw [if_pos e] at hj
            have := HL2.out j a (by omega) hj z hz'
            omega
          · rw [if_neg e] at hj; cases hj
        by_cases hlt : i < m
        · obtain ⟨n, hn⟩ : ∃ n, ns[i]? = some n := ⟨_, List.getElem?_eq_getElem (by rw [HM.out]; omega)⟩
          have hmem : n ∈ ns := List.mem_iff_getElem?.2 ⟨i, hn⟩
          obtain ⟨ck, hI, hb0⟩ := HC.out i n hn
          have hfew := HKF.out n hmem
          obtain ⟨qk, kc, hkv⟩ := hI.form
          rw [hkv] at ck hI
          obtain ⟨kl, hkl⟩ : ∃ kl, n.ks.length = kl := ⟨_, rfl⟩
          rw [hkl] at ck hfew hI
          have HI := Lib.hid hI
          have HKL := Lib.hid hkl
          have HCK := Lib.hid ck
          have HND := Lib.hid hn
          have HS : Hid (kidsOf (ns.take (i + 1)) = kidsOf (ns.take i) ++ n.ks) := Lib.hid (kids_snoc ns i n hn)
          have HLN : Hid (∀ k z, k < kl → n.ks[k]? = some z → 1 ≤ z ∧ z < (m : Int)) := Lib.hid fun k z hk hz => HL2.out i n hlt hn z (List.mem_iff_getElem?.2 ⟨k, hz⟩)
          clear hI hkl ck hn hkv hmem
          go_wp2
          go_loopw [8] (fun s8 X => ∃ k : Nat, k ≤ kl ∧ s8 = .int .i64 k ∧ Hid (TI G m w X (kidsOf (ns.take i) ++ n.ks.take k))) (fun s8 _ => kl - (intOf s8).toNat)
          case atStart => exact ⟨0, by omega, rfl, by simpa using HT⟩
          case round =>
            obtain ⟨k, hk, rfl, HY⟩ := hrel
            obtain ⟨y1, y2⟩ := HY.out
            have dck := (y2.cell (p := ⟨b, off + i * 34 + 1, none⟩) hb0).trans HCK.out
            by_cases hlt2 : k < kl
            · obtain ⟨y, hy⟩ : ∃ y, n.ks[k]? = some y := ⟨_, List.getElem?_eq_getElem (by rw [HKL.out]; omega)⟩
              have hkl2 : k < kl := by omega
              obtain ⟨qb, qo, rfl, cy, ly⟩ := ints_at0' HI.out k y hy
              have dcy := (y2.cell (p := ⟨qb, qo + k, none⟩) ly).trans cy
              obtain ⟨yr0, yr1⟩ := HLN.out k y hlt2 hy
              obtain ⟨yn, rfl⟩ : ∃ yn : Nat, y = (yn : Int) := ⟨y.toNat, by omega⟩
              have hPr : ∀ z ∈ kidsOf (ns.take i) ++ n.ks.take k, 0 ≤ z ∧ z < (m : Int) := fun z hz => by
                rcases List.mem_append.1 hz with h | h
                · exact HPI.out z h
                · obtain ⟨k', hk'⟩ := List.mem_iff_getElem?.1 h
                  rw [List.getElem?_take] at hk'
                  by_cases e : k' < k
                  · rw [if_pos e] at hk'
                    have := HLN.out k' z (by omega) hk'
                    omega
                  · rw [if_neg e] at hk'; cases hk'
              have hval := tmz_val m _ hPr yn (by omega)
              obtain ⟨c, hc⟩ : ∃ c, (kidsOf (ns.take i) ++ n.ks.take k).count (yn : Int) = c := ⟨_, rfl⟩
              have hcb : c ≤ 10000000000 := by
                rw [← hc]
                refine Nat.le_trans List.count_le_length ?_
                have e1 := kids_len ns i HKF.out
                rw [List.length_append, List.length_take]
                have : 70000 * i ≤ 70000 * 65536 := Nat.mul_le_mul_left _ (by omega)
                omega
              rw [hc] at hval
              have cg : wr.cell? ⟨G, yn, none⟩ = some (.int .i64 c) := by rw [y1.cellAt, List.getElem?_map, hval]; rfl
              have fg := y1.free yn
              have S1 : Hid (TI G m w (wr.setCell ⟨G, yn, none⟩ (.int .i64 ((c : Int) + 1))) (kidsOf (ns.take i) ++ n.ks.take (k + 1))) := Lib.hid (by
                have := HY.out.step hGw yn c hval
                rw [List.take_add_one, hy, ← List.append_assoc]
                exact this)
              have z1 : decide ((yn : Int) < 1) = false := by simp; omega
              have z2 : decide ((yn : Int) ≥ (m : Int)) = false := by simp; omega
              clear y1 y2 hy cy HY hval hc hPr
              go_wp2
              go_roundw
              case rel => exact ⟨k + 1, by omega, by go_num, S1⟩
              case measure => (simp [intOf]; try omega)
            · obtain rfl : k = kl := by omega
              have HT2 : Hid (TI G m w wr (kidsOf (ns.take (i + 1)))) := by
                have := HY.out
                rw [List.take_of_length_le (l := n.ks) (by rw [HKL.out]; exact Nat.le_refl _), ← HS.out] at this
                exact Lib.hid this
              clear y1 y2 HY
              go_wp2
              exact ⟨⟨i + 1, by omega, rfl, HT2⟩, by (simp [intOf]; try omega)⟩
        · obtain rfl : m = i := by omega
          have HPA : Hid (∀ z ∈ kidsOf ns, 0 ≤ z ∧ z < (m : Int)) := by
            have := HPI.out
            rw [List.take_of_length_le (by rw [HM.out]; exact Nat.le_refl _)] at this
            exact Lib.hid this
          have HTF : Hid (TI G m w wr (kidsOf ns)) := by
            have := HT.out
            rw [List.take_of_length_le (by rw [HM.out]; exact Nat.le_refl _)] at this
            exact Lib.hid this
          clear HT HPI
          have sw := HTF.out.2.size
          have hGM := HTF.out.1.lt
          obtain ⟨M, hM⟩ : ∃ M, wr.heap.size = M := ⟨_, rfl⟩
          have hMw : w.heap.size ≤ M := by omega
          have hGM2 : G < M := by omega
          have hmk := make_bools m (by omega)
          go_wp2
          try rw [hM]
          obtain ⟨W5, hW5⟩ : ∃ W5, wr.alloc (.cells (metL m []).toArray 4) = W5 := ⟨_, rfl⟩
          have k5 : Whole W5 M 4 (metL m []) := by rw [← hW5, ← hM]; exact whole_new wr _ 4 _ rfl
          have HC0 : Hid (CkI G M m w W5 (kidsOf ns) []) := Lib.hid ⟨by rw [← hW5]; exact HTF.out.1.alloc _, k5, by rw [← hW5]; exact HTF.out.2.alloc sw _⟩
          have hs5 : W5.heap.size = M + 1 := by rw [← hW5, ← hM]; simp
          rw [hW5]
          clear hW5 k5 hmk hM sw hGM HTF
          go_loop [11, 12] (fun s11 s12 => ∃ i : Nat, 1 ≤ i ∧ i ≤ m ∧ s12 = .int .i64 i ∧ s11 = .bool false) (fun _ s12 => m - (intOf s12).toNat)
          case atStart => exact ⟨1, by omega, by omega, rfl, rfl⟩
          case round =>
            obtain ⟨i, hi1, hi, rfl, rfl⟩ := hrel
            by_cases hlt : i < m
            · have ct : W5.cell? ⟨G, i, none⟩ = some (.int .i64 1) := by rw [HC0.out.1.cellAt, List.getElem?_map, tmz_val m _ HPA.out i hlt, HZB.out i hi1 hlt]; rfl
              go_wp2
              go_round
              case rel => exact ⟨i + 1, by omega, by omega, by go_num, rfl⟩
              case measure => (simp [intOf]; try omega)
            · have him : i = m := by omega
              clear him
              have HOR2 := Lib.hid (HOR.out W5 HC0.out.2.2)
              go_wp2_with (go_at_call 31; refine HOR2.out.mono ?_; clear HOR2; rintro e w2 ⟨v2, rfl, o2, b2⟩; have HIO := Lib.hid (ints_own o2).1; have HA := Lib.hid ((ints_own o2).2.2 M (by omega)); have HA2 := Lib.hid ((ints_own o2).2.2 G (by omega)); have HC1 := Lib.hid (HC0.out.below b2); obtain ⟨q2, c2, hv⟩ := (ints_own o2).1.form; subst hv; clear o2 b2)
              obtain ⟨lo, hlo⟩ : ∃ lo, O.length = lo := ⟨_, rfl⟩
              have hlo2 : lo ≤ 9223372036854775807 := by rw [← hlo]; exact HIO.out.1
              rw [hlo] at HIO HA HA2 ⊢
              have HLO := Lib.hid hlo
              clear hlo
              go_loopw [14] (fun s14 X => ∃ i : Nat, i ≤ lo ∧ s14 = .int .i64 i ∧ Hid (CkI G M m w X (kidsOf ns) (O.take i)) ∧ Hid (Ints X (.slice q2 lo c2) O)) (fun s14 _ => lo - (intOf s14).toNat)
              case atStart => exact ⟨0, by omega, rfl, HC1, HIO⟩
              case round =>
                obtain ⟨i4, hi4, rfl, HX, HI4⟩ := hrel
                by_cases hlt4 : i4 < lo
                · obtain ⟨z, hz⟩ : ∃ z, O[i4]? = some z := ⟨_, List.getElem?_eq_getElem (by rw [HLO.out]; exact hlt4)⟩
                  obtain ⟨zr0, zr1⟩ := HRG.out z (List.mem_iff_getElem?.2 ⟨i4, hz⟩)
                  obtain ⟨zn, rfl⟩ : ∃ zn : Nat, z = (zn : Int) := ⟨z.toNat, by omega⟩
                  obtain ⟨ob, oo, rfl, cz, lz⟩ := ints_at0' HI4.out i4 _ hz
                  obtain ⟨x1, x2, x3⟩ := HX.out
                  have cm : wr.cell? ⟨M, zn, none⟩ = some (.bool ((O.take i4).contains (zn : Int))) := by rw [x2.cellAt, metL_get m _ zn (by omega)]
                  have fm := x2.free zn
                  have S1 : Hid (CkI G M m w (wr.setCell ⟨M, zn, none⟩ (.bool true)) (kidsOf ns) (O.take (i4 + 1))) := Lib.hid (by
                    refine ⟨x1.other _ _ (by show G ≠ M; omega), ?_, x3.setCell (p := ⟨M, zn, none⟩) hMw _⟩
                    have := x2.set zn (.bool true)
                    rw [metL_set m _ zn (by omega)] at this
                    rw [List.take_add_one, hz]
                    exact this)
                  have S2 : Hid (Ints (wr.setCell ⟨M, zn, none⟩ (.bool true)) (.slice (some ⟨ob, oo, none⟩) lo c2) O) := Lib.hid (HI4.out.setApart _ _ HA.out)
                  clear x1 x2 x3 hz
                  go_wp2
                  go_roundw
                  case rel => exact ⟨i4 + 1, by omega, by go_num, S1, S2⟩
                  case measure => (simp [intOf]; try omega)
                · obtain rfl : lo = i4 := by omega
                  have HX4 : Hid (CkI G M m w wr (kidsOf ns) O) := by
                    have := HX.out
                    rw [List.take_of_length_le (by rw [HLO.out]; exact Nat.le_refl _)] at this
                    exact Lib.hid this
                  clear HX HI4
                  go_wp2
                  go_loop [15] (fun s15 => ∃ i : Nat, 1 ≤ i ∧ i ≤ I5 ∧ s15 = .int .i64 i) (fun s15 => m - (intOf s15).toNat)
                  case atStart => exact ⟨1, by omega, by omega, rfl⟩
                  case round =>
                    obtain ⟨i5, hi51, hi5, rfl⟩ := hrel
                    by_cases hlt5 : i5 < I5
                    · have ct : wr.cell? ⟨G, i5, none⟩ = some (.int .i64 1) := by rw [HX4.out.1.cellAt, List.getElem?_map, tmz_val m _ HPA.out i5 (by omega), HZB.out i5 hi51 (by omega)]; rfl
                      have cm : wr.cell? ⟨M, i5, none⟩ = some (.bool true) := by rw [HX4.out.2.1.cellAt, metL_get m _ i5 (by omega), HS5.out i5 hi51 hlt5]
                      go_wp2
                      go_round
                      case rel => exact ⟨i5 + 1, by omega, by omega, by go_num⟩
                      case measure => (simp [intOf]; try omega)
                    · obtain rfl : i5 = I5 := by omega
                      have ct : wr.cell? ⟨G, i5, none⟩ = some (.int .i64 1) := by rw [HX4.out.1.cellAt, List.getElem?_map, tmz_val m _ HPA.out i5 (by omega), HZB.out i5 hi51 (by omega)]; rfl
                      have cm : wr.cell? ⟨M, i5, none⟩ = some (.bool false) := by rw [HX4.out.2.1.cellAt, metL_get m _ i5 (by omega), HT5.out]
                      have X3 := Lib.hid HX4.out.2.2
                      go_wp2
                      refine bodyPost_ret (v := .tuple #[.int .i64 i5, .int .i64 41]) (by simp [results, Try.results15, go_sem]) rfl ⟨rfl, X3.out⟩
set_option maxRecDepth 100000 in
set_option maxHeartbeats 16000000 in
theorem refCheck_deep (b off cap m : Nat) (ns : List Nd) (w : World) (hm : ns.length = m) (h1 : 1 ≤ m) (h2 : m ≤ 65536) (hP : PageAt w (.slice (some ⟨b, off, none⟩) m cap) ns) (hK : ∀ n ∈ ns, n.ks.length ≤ 70000) (HW : Hid (∀ j n, j < m → ns[j]? = some n → (!wrongN n) = true)) (HL2 : Hid (∀ j n, j < m → ns[j]? = some n → ∀ z ∈ n.ks, 1 ≤ z ∧ z < (m : Int))) (HZB : Hid (∀ j : Nat, 1 ≤ j → j < m → (kidsOf ns).count (j : Int) = 1)) (F : NoStray ns) (HS5' : Hid (∀ j : Nat, 1 ≤ j → j < m → metB ns (j : Int) = true)) (I6 : Nat) (hI6 : I6 < m) (HD6 : Hid (∀ j z, j < I6 → (depthsP ns)[j]? = some z → deepB z = false)) (HE6 : Hid (∀ z, (depthsP ns)[I6]? = some z → deepB z = true)) :
    Calls Try.prog 15 #[.slice (some ⟨b, off, none⟩) m cap] w fun e W' => e = .returned (.tuple #[.int .i64 I6, .int .i64 42]) ∧ Below w.heap.size w W' := by
  have hlk : ∀ n ∈ ns, ∀ z ∈ n.ks, 1 ≤ z ∧ z < (ns.length : Int) := fun n hn z hz => by
    obtain ⟨j, hj⟩ := List.mem_iff_getElem?.1 hn
    have := HL2.out j n (by have := (List.getElem?_eq_some_iff.1 hj).1; omega) hj z hz
    omega
  have hT0 : Tr0 ns := ⟨hlk, fun j h h' => HZB.out j h (by omega)⟩
  obtain ⟨O, hO⟩ : ∃ O, (walkL ns.length (kfOf ns)).map Prod.fst = O := ⟨_, rfl⟩
  have HRG : Hid (∀ z ∈ O, 0 ≤ z ∧ z < (m : Int)) := Lib.hid (by rw [← hO, ← hm]; exact walk_rng (by omega) hlk)
  have HOR : Hid (∀ X : World, Below w.heap.size w X → Calls Try.prog 31 #[.slice (some ⟨b, off, none⟩) m cap, .int .i64 0, .slice none 0 0] X (OrdPost X O)) :=
    Lib.hid fun X hX => by
      have h := order_rec b off cap m ns X hm h1 h2 (hP.below hX) hK (fun n hn z hz => by have := hlk n hn z hz; omega) (m + 2) 0 [] _ X (by omega) (by omega) (by simp) (by simp) (Below.refl _ X) (World.ownsRow_nil _ _ _ _)
      have e : ordD (kfOf ns) m (m + 2) 0 [] = O := by rw [← hO, ← ord_walk hT0 (by omega), hm]; rfl
      rw [e] at h; exact h
  have HS5 : Hid (∀ j : Nat, 1 ≤ j → j < m → O.contains (j : Int) = true) := Lib.hid (by rw [← hO]; exact HS5'.out)
  clear HS5' hO hT0 hlk
  have HDP : Hid (∀ X : World, Below w.heap.size w X → Calls Try.prog 33 #[.slice (some ⟨b, off, none⟩) m cap] X fun e W' => e = .returned (.slice (some ⟨X.heap.size, 0, none⟩) m m) ∧ Whole W' X.heap.size 3 ((depthsP ns).map (Value.int .i64)) ∧ Below X.heap.size X W') :=
    Lib.hid fun X hX => refDepths_at b off cap m ns X F hm h2 (hP.below hX) hK
  have HDL : Hid ((depthsP ns).length = m) := Lib.hid (by unfold depthsP; rw [depL_len]; exact hm)
  clear F
  have HN : Hid (∀ (j : Nat) (n : Nd), ns[j]? = some n → ∀ X, Below w.heap.size w X → NdAt X b (off + j * 34) n ∧ n.ok X) := Lib.hid (by
    obtain ⟨b', off', e, hc⟩ := page_some hP (by rw [hm]; exact h1)
    injection e with e; injection e with e1 e2
    subst e1 e2
    exact fun j n hn X hX => ⟨(hc j n hn).below hX, (hP.2.1 n (List.mem_iff_getElem?.2 ⟨j, hn⟩)).below hX⟩)
  have HC : Hid (∀ (j : Nat) (n : Nd), ns[j]? = some n → w.cell? ⟨b, off + j * 34 + 1, none⟩ = some n.kv ∧ Ints w n.kv n.ks ∧ b < w.heap.size) := Lib.hid (by
    obtain ⟨b', off', e, _, hc⟩ := page_cells hP h1
    injection e with e; injection e with e1 e2
    subst e1 e2
    exact fun j n hn => (hc j n hn).2)
  have HP := Lib.hid hP
  have HM := Lib.hid hm
  have HKF := Lib.hid hK
  have d1 : decide ((m : Int) < 1) = false := by simp; omega
  have d2 : decide ((m : Int) > 65536) = false := by simp; omega
  clear hm hK hP
  go_enter Try.func15, Try.ntmps15
  go_wp2
  go_loopw [4] (fun s4 X => ∃ i : Nat, i ≤ m ∧ s4 = .int .i64 i ∧ Hid (Below w.heap.size w X)) (fun s4 _ => m - (intOf s4).toNat)
  case atStart => exact ⟨0, by omega, rfl, Lib.hid (Below.refl _ _)⟩
  case round =>
    obtain ⟨i, hi, rfl, HB⟩ := hrel
    by_cases hlt : i < m
    · obtain ⟨n, hn⟩ : ∃ n, ns[i]? = some n := ⟨_, List.getElem?_eq_getElem (by rw [HM.out]; omega)⟩
      obtain ⟨hnd, hok⟩ := HN.out i n hn wr HB.out
      have hr := right_any n wr hok
      rw [HW.out i n hlt hn] at hr
      obtain ⟨cs, hcs⟩ : ∃ cs, n.cells.toArray = cs := ⟨_, rfl⟩
      have LN : Hid (∀ j v, cs[j]? = some v → wr.cell? ((⟨b, off + i * 34, none⟩ : Addr).add j) = some v) := Lib.hid (by rw [← hcs]; exact hnd.load)
      have iN : Hid ((Try.prog.info? 45).map (·.size) = some cs.size) := Lib.hid (by rw [← hcs]; exact nd_info n)
      have HR : Hid (Calls Try.prog 30 #[.agg cs] wr fun e W' => e = .returned (.bool true) ∧ Below wr.heap.size wr W') := Lib.hid (by rw [← hcs]; exact hr)
      clear hr hcs hn hnd hok
      go_wp2_with (first
        | (refine wpList_load_at rfl 45 (.tmp 34) rfl _ rfl cs _ LN.out Try.underlying45 rfl iN.out ?_)
        | (go_at_call 30; refine HR.out.mono ?_; rintro e w1 ⟨rfl, hb1⟩; have HB1 := Lib.hid (HB.out.trans (hb1.mono HB.out.size)); clear hb1 HB HR LN iN))
      go_roundw
      case rel => exact ⟨i + 1, by omega, by go_num, HB1⟩
      case measure => (simp [intOf]; try omega)
    · obtain rfl : m = i := by omega
      have sw := HB.out.size
      obtain ⟨G, hG⟩ : ∃ G, wr.heap.size = G := ⟨_, rfl⟩
      have hGw : w.heap.size ≤ G := by omega
      have hmk := make_ints m (by omega)
      go_wp2
      try rw [hG]
      obtain ⟨W4, hW4⟩ : ∃ W4, wr.alloc (.cells (Array.replicate m (Value.int .i64 0)) 3) = W4 := ⟨_, rfl⟩
      have k4 : Whole W4 G 3 ((tmz m (kidsOf (ns.take 0))).map (Value.int .i64)) := by
        rw [← hW4, ← hG, show (Array.replicate m (Value.int .i64 0)) = ((tmz m (kidsOf (ns.take 0))).map (Value.int .i64)).toArray from by
          apply Array.toList_inj.1
          simp [tmz, kidsOf]]
        exact whole_new wr _ 3 _ rfl
      have b4 : Below w.heap.size w W4 := by rw [← hW4]; exact HB.out.alloc sw _
      have HT0 : Hid (TI G m w W4 (kidsOf (ns.take 0))) := Lib.hid ⟨k4, b4⟩
      rw [hW4]
      clear hW4 k4 b4 hmk hG sw HB
      go_loopw [7] (fun s7 X => ∃ i : Nat, i ≤ m ∧ s7 = .int .i64 i ∧ Hid (TI G m w X (kidsOf (ns.take i)))) (fun s7 _ => m - (intOf s7).toNat)
      case atStart => exact ⟨0, by omega, rfl, HT0⟩
      case round =>
        obtain ⟨i, hi, rfl, HT⟩ := hrel
        clear HT0
        have HPI : Hid (∀ z ∈ kidsOf (ns.take i), 0 ≤ z ∧ z < (m : Int)) := Lib.hid fun z hz => by
          obtain ⟨a, ha, hz'⟩ := List.mem_flatMap.1 hz
          obtain ⟨j, hj⟩ := List.mem_iff_getElem?.1 ha
          rw [List.getElem?_take] at hj
          by_cases e : j < i
          · rw [if_pos e] at hj
            have := HL2.out j a (by omega) hj z hz'
            omega
          · rw [if_neg e] at hj; cases hj
        by_cases hlt : i < m
        · obtain ⟨n, hn⟩ : ∃ n, ns[i]? = some n := ⟨_, List.getElem?_eq_getElem (by rw [HM.out]; omega)⟩
          have hmem : n ∈ ns := List.mem_iff_getElem?.2 ⟨i, hn⟩
          obtain ⟨ck, hI, hb0⟩ := HC.out i n hn
          have hfew := HKF.out n hmem
          obtain ⟨qk, kc, hkv⟩ := hI.form
          rw [hkv] at ck hI
          obtain ⟨kl, hkl⟩ : ∃ kl, n.ks.length = kl := ⟨_, rfl⟩
          rw [hkl] at ck hfew hI
          have HI := Lib.hid hI
          have HKL := Lib.hid hkl
          have HCK := Lib.hid ck
          have HND := Lib.hid hn
          have HS : Hid (kidsOf (ns.take (i + 1)) = kidsOf (ns.take i) ++ n.ks) := Lib.hid (kids_snoc ns i n hn)
          have HLN : Hid (∀ k z, k < kl → n.ks[k]? = some z → 1 ≤ z ∧ z < (m : Int)) := Lib.hid fun k z hk hz => HL2.out i n hlt hn z (List.mem_iff_getElem?.2 ⟨k, hz⟩)
          clear hI hkl ck hn hkv hmem
          go_wp2
          go_loopw [8] (fun s8 X => ∃ k : Nat, k ≤ kl ∧ s8 = .int .i64 k ∧ Hid (TI G m w X (kidsOf (ns.take i) ++ n.ks.take k))) (fun s8 _ => kl - (intOf s8).toNat)
          case atStart => exact ⟨0, by omega, rfl, by simpa using HT⟩
          case round =>
            obtain ⟨k, hk, rfl, HY⟩ := hrel
            obtain ⟨y1, y2⟩ := HY.out
            have dck := (y2.cell (p := ⟨b, off + i * 34 + 1, none⟩) hb0).trans HCK.out
            by_cases hlt2 : k < kl
            · obtain ⟨y, hy⟩ : ∃ y, n.ks[k]? = some y := ⟨_, List.getElem?_eq_getElem (by rw [HKL.out]; omega)⟩
              have hkl2 : k < kl := by omega
              obtain ⟨qb, qo, rfl, cy, ly⟩ := ints_at0' HI.out k y hy
              have dcy := (y2.cell (p := ⟨qb, qo + k, none⟩) ly).trans cy
              obtain ⟨yr0, yr1⟩ := HLN.out k y hlt2 hy
              obtain ⟨yn, rfl⟩ : ∃ yn : Nat, y = (yn : Int) := ⟨y.toNat, by omega⟩
              have hPr : ∀ z ∈ kidsOf (ns.take i) ++ n.ks.take k, 0 ≤ z ∧ z < (m : Int) := fun z hz => by
                rcases List.mem_append.1 hz with h | h
                · exact HPI.out z h
                · obtain ⟨k', hk'⟩ := List.mem_iff_getElem?.1 h
                  rw [List.getElem?_take] at hk'
                  by_cases e : k' < k
                  · rw [if_pos e] at hk'
                    have := HLN.out k' z (by omega) hk'
                    omega
                  · rw [if_neg e] at hk'; cases hk'
              have hval := tmz_val m _ hPr yn (by omega)
              obtain ⟨c, hc⟩ : ∃ c, (kidsOf (ns.take i) ++ n.ks.take k).count (yn : Int) = c := ⟨_, rfl⟩
              have hcb : c ≤ 10000000000 := by
                rw [← hc]
                refine Nat.le_trans List.count_le_length ?_
                have e1 := kids_len ns i HKF.out
                rw [List.length_append, List.length_take]
                have : 70000 * i ≤ 70000 * 65536 := Nat.mul_le_mul_left _ (by omega)
                omega
              rw [hc] at hval
              have cg : wr.cell? ⟨G, yn, none⟩ = some (.int .i64 c) := by rw [y1.cellAt, List.getElem?_map, hval]; rfl
              have fg := y1.free yn
              have S1 : Hid (TI G m w (wr.setCell ⟨G, yn, none⟩ (.int .i64 ((c : Int) + 1))) (kidsOf (ns.take i) ++ n.ks.take (k + 1))) := Lib.hid (by
                have := HY.out.step hGw yn c hval
                rw [List.take_add_one, hy, ← List.append_assoc]
                exact this)
              have z1 : decide ((yn : Int) < 1) = false := by simp; omega
              have z2 : decide ((yn : Int) ≥ (m : Int)) = false := by simp; omega
              clear y1 y2 hy cy HY hval hc hPr
              go_wp2
              go_roundw
              case rel => exact ⟨k + 1, by omega, by go_num, S1⟩
              case measure => (simp [intOf]; try omega)
            · obtain rfl : k = kl := by omega
              have HT2 : Hid (TI G m w wr (kidsOf (ns.take (i + 1)))) := by
                have := HY.out
                rw [List.take_of_length_le (l := n.ks) (by rw [HKL.out]; exact Nat.le_refl _), ← HS.out] at this
                exact Lib.hid this
              clear y1 y2 HY
              go_wp2
              exact ⟨⟨i + 1, by omega, rfl, HT2⟩, by (simp [intOf]; try omega)⟩
        · obtain rfl : m = i := by omega
          have HPA : Hid (∀ z ∈ kidsOf ns, 0 ≤ z ∧ z < (m : Int)) := by
            have := HPI.out
            rw [List.take_of_length_le (by rw [HM.out]; exact Nat.le_refl _)] at this
            exact Lib.hid this
          have HTF : Hid (TI G m w wr (kidsOf ns)) := by
            have := HT.out
            rw [List.take_of_length_le (by rw [HM.out]; exact Nat.le_refl _)] at this
            exact Lib.hid this
          clear HT HPI
          have sw := HTF.out.2.size
          have hGM := HTF.out.1.lt
          obtain ⟨M, hM⟩ : ∃ M, wr.heap.size = M := ⟨_, rfl⟩
          have hMw : w.heap.size ≤ M := by omega
          have hGM2 : G < M := by omega
          have hmk := make_bools m (by omega)
          go_wp2
          try rw [hM]
          obtain ⟨W5, hW5⟩ : ∃ W5, wr.alloc (.cells (metL m []).toArray 4) = W5 := ⟨_, rfl⟩
          have k5 : Whole W5 M 4 (metL m []) := by rw [← hW5, ← hM]; exact whole_new wr _ 4 _ rfl
          have HC0 : Hid (CkI G M m w W5 (kidsOf ns) []) := Lib.hid ⟨by rw [← hW5]; exact HTF.out.1.alloc _, k5, by rw [← hW5]; exact HTF.out.2.alloc sw _⟩
          have hs5 : W5.heap.size = M + 1 := by rw [← hW5, ← hM]; simp
          rw [hW5]
          clear hW5 k5 hmk hM sw hGM HTF
          go_loop [11, 12] (fun s11 s12 => ∃ i : Nat, 1 ≤ i ∧ i ≤ m ∧ s12 = .int .i64 i ∧ s11 = .bool false) (fun _ s12 => m - (intOf s12).toNat)
          case atStart => exact ⟨1, by omega, by omega, rfl, rfl⟩
          case round =>
            obtain ⟨i, hi1, hi, rfl, rfl⟩ := hrel
            by_cases hlt : i < m
            · have ct : W5.cell? ⟨G, i, none⟩ = some (.int .i64 1) := by rw [HC0.out.1.cellAt, List.getElem?_map, tmz_val m _ HPA.out i hlt, HZB.out i hi1 hlt]; rfl
              go_wp2
              go_round
              case rel => exact ⟨i + 1, by omega, by omega, by go_num, rfl⟩
              case measure => (simp [intOf]; try omega)
            · have him : i = m := by omega
              clear him
              have HOR2 := Lib.hid (HOR.out W5 HC0.out.2.2)
              go_wp2_with (go_at_call 31; refine HOR2.out.mono ?_; clear HOR2; rintro e w2 ⟨v2, rfl, o2, b2⟩; have HIO := Lib.hid (ints_own o2).1; have HA := Lib.hid ((ints_own o2).2.2 M (by omega)); have HA2 := Lib.hid ((ints_own o2).2.2 G (by omega)); have HC1 := Lib.hid (HC0.out.below b2); obtain ⟨q2, c2, hv⟩ := (ints_own o2).1.form; subst hv; clear o2 b2)
              obtain ⟨lo, hlo⟩ : ∃ lo, O.length = lo := ⟨_, rfl⟩
              have hlo2 : lo ≤ 9223372036854775807 := by rw [← hlo]; exact HIO.out.1
              rw [hlo] at HIO HA HA2 ⊢
              have HLO := Lib.hid hlo
              clear hlo
              go_loopw [14] (fun s14 X => ∃ i : Nat, i ≤ lo ∧ s14 = .int .i64 i ∧ Hid (CkI G M m w X (kidsOf ns) (O.take i)) ∧ Hid (Ints X (.slice q2 lo c2) O)) (fun s14 _ => lo - (intOf s14).toNat)
              case atStart => exact ⟨0, by omega, rfl, HC1, HIO⟩
              case round =>
                obtain ⟨i4, hi4, rfl, HX, HI4⟩ := hrel
                by_cases hlt4 : i4 < lo
                · obtain ⟨z, hz⟩ : ∃ z, O[i4]? = some z := ⟨_, List.getElem?_eq_getElem (by rw [HLO.out]; exact hlt4)⟩
                  obtain ⟨zr0, zr1⟩ := HRG.out z (List.mem_iff_getElem?.2 ⟨i4, hz⟩)
                  obtain ⟨zn, rfl⟩ : ∃ zn : Nat, z = (zn : Int) := ⟨z.toNat, by omega⟩
                  obtain ⟨ob, oo, rfl, cz, lz⟩ := ints_at0' HI4.out i4 _ hz
                  obtain ⟨x1, x2, x3⟩ := HX.out
                  have cm : wr.cell? ⟨M, zn, none⟩ = some (.bool ((O.take i4).contains (zn : Int))) := by rw [x2.cellAt, metL_get m _ zn (by omega)]
                  have fm := x2.free zn
                  have S1 : Hid (CkI G M m w (wr.setCell ⟨M, zn, none⟩ (.bool true)) (kidsOf ns) (O.take (i4 + 1))) := Lib.hid (by
                    refine ⟨x1.other _ _ (by show G ≠ M; omega), ?_, x3.setCell (p := ⟨M, zn, none⟩) hMw _⟩
                    have := x2.set zn (.bool true)
                    rw [metL_set m _ zn (by omega)] at this
                    rw [List.take_add_one, hz]
                    exact this)
                  have S2 : Hid (Ints (wr.setCell ⟨M, zn, none⟩ (.bool true)) (.slice (some ⟨ob, oo, none⟩) lo c2) O) := Lib.hid (HI4.out.setApart _ _ HA.out)
                  clear x1 x2 x3 hz
                  go_wp2
                  go_roundw
                  case rel => exact ⟨i4 + 1, by omega, by go_num, S1, S2⟩
                  case measure => (simp [intOf]; try omega)
                · obtain rfl : lo = i4 := by omega
                  have HX4 : Hid (CkI G M m w wr (kidsOf ns) O) := by
                    have := HX.out
                    rw [List.take_of_length_le (by rw [HLO.out]; exact Nat.le_refl _)] at this
                    exact Lib.hid this
                  clear HX HI4
                  go_wp2
                  go_loop [15] (fun s15 => ∃ i : Nat, 1 ≤ i ∧ i ≤ m ∧ s15 = .int .i64 i) (fun s15 => m - (intOf s15).toNat)
                  case atStart => exact ⟨1, by omega, by omega, rfl⟩
                  case round =>
                    obtain ⟨i5, hi51, hi5, rfl⟩ := hrel
                    by_cases hlt5 : i5 < m
                    · have ct : wr.cell? ⟨G, i5, none⟩ = some (.int .i64 1) := by rw [HX4.out.1.cellAt, List.getElem?_map, tmz_val m _ HPA.out i5 (by omega), HZB.out i5 hi51 (by omega)]; rfl
                      have cm : wr.cell? ⟨M, i5, none⟩ = some (.bool true) := by rw [HX4.out.2.1.cellAt, metL_get m _ i5 (by omega), HS5.out i5 hi51 hlt5]
                      go_wp2
                      go_round
                      case rel => exact ⟨i5 + 1, by omega, by omega, by go_num⟩
                      case measure => (simp [intOf]; try omega)
                    · obtain rfl : m = i5 := by omega
                      have HDP2 := Lib.hid (HDP.out wr HX4.out.2.2)
                      obtain ⟨D0, hD0⟩ : ∃ D0, wr.heap.size = D0 := ⟨_, rfl⟩
                      go_wp2_with (go_at_call 33; refine HDP2.out.mono ?_; clear HDP2; rintro e w6 ⟨rfl, k6, b6⟩; have HK6 := Lib.hid k6; have HB6 := Lib.hid (HX4.out.2.2.trans (b6.mono HX4.out.2.2.size)); clear k6 b6)
                      go_loop [17] (fun s17 => ∃ i : Nat, i ≤ I6 ∧ s17 = .int .i64 i) (fun s17 => m - (intOf s17).toNat)
                      case atStart => exact ⟨0, by omega, rfl⟩
                      case round =>
                        obtain ⟨i6, hi6, rfl⟩ := hrel
                        by_cases hlt6 : i6 < I6
                        · obtain ⟨z, hz⟩ : ∃ z, (depthsP ns)[i6]? = some z := ⟨_, List.getElem?_eq_getElem (by rw [HDL.out]; omega)⟩
                          have cz := HK6.out.cellAt i6
                          rw [List.getElem?_map, hz] at cz
                          simp only [Option.map_some] at cz
                          have dz : decide (z > 64) = false := by
                            have := HD6.out i6 z hlt6 hz
                            simp [deepB] at this; simp; omega
                          clear hz
                          try rw [hD0] at cz
                          go_wp2
                          go_round
                          case rel => exact ⟨i6 + 1, by omega, by go_num⟩
                          case measure => (simp [intOf]; try omega)
                        · obtain rfl : i6 = I6 := by omega
                          obtain ⟨z, hz⟩ : ∃ z, (depthsP ns)[i6]? = some z := ⟨_, List.getElem?_eq_getElem (by rw [HDL.out]; omega)⟩
                          have cz := HK6.out.cellAt i6
                          rw [List.getElem?_map, hz] at cz
                          simp only [Option.map_some] at cz
                          have dz : decide (z > 64) = true := by
                            have := HE6.out z hz
                            simp [deepB] at this; simp; omega
                          clear hz
                          try rw [hD0] at cz
                          go_wp2
                          refine bodyPost_ret (v := .tuple #[.int .i64 i6, .int .i64 42]) (by simp [results, Try.results15, go_sem]) rfl ⟨rfl, HB6.out⟩
set_option maxRecDepth 100000 in
set_option maxHeartbeats 16000000 in
theorem refCheck_fine (b off cap m : Nat) (ns : List Nd) (w : World) (hm : ns.length = m) (h1 : 1 ≤ m) (h2 : m ≤ 65536) (hP : PageAt w (.slice (some ⟨b, off, none⟩) m cap) ns) (hK : ∀ n ∈ ns, n.ks.length ≤ 70000) (HW : Hid (∀ j n, j < m → ns[j]? = some n → (!wrongN n) = true)) (HL2 : Hid (∀ j n, j < m → ns[j]? = some n → ∀ z ∈ n.ks, 1 ≤ z ∧ z < (m : Int))) (HZB : Hid (∀ j : Nat, 1 ≤ j → j < m → (kidsOf ns).count (j : Int) = 1)) (F : NoStray ns) (HS5' : Hid (∀ j : Nat, 1 ≤ j → j < m → metB ns (j : Int) = true)) (HD6 : Hid (∀ j z, j < m → (depthsP ns)[j]? = some z → deepB z = false)) :
    Calls Try.prog 15 #[.slice (some ⟨b, off, none⟩) m cap] w fun e W' => e = .returned (.tuple #[.int .i64 0, .int .i64 0]) ∧ Below w.heap.size w W' := by
  have hlk : ∀ n ∈ ns, ∀ z ∈ n.ks, 1 ≤ z ∧ z < (ns.length : Int) := fun n hn z hz => by
    obtain ⟨j, hj⟩ := List.mem_iff_getElem?.1 hn
    have := HL2.out j n (by have := (List.getElem?_eq_some_iff.1 hj).1; omega) hj z hz
    omega
  have hT0 : Tr0 ns := ⟨hlk, fun j h h' => HZB.out j h (by omega)⟩
  obtain ⟨O, hO⟩ : ∃ O, (walkL ns.length (kfOf ns)).map Prod.fst = O := ⟨_, rfl⟩
  have HRG : Hid (∀ z ∈ O, 0 ≤ z ∧ z < (m : Int)) := Lib.hid (by rw [← hO, ← hm]; exact walk_rng (by omega) hlk)
  have HOR : Hid (∀ X : World, Below w.heap.size w X → Calls Try.prog 31 #[.slice (some ⟨b, off, none⟩) m cap, .int .i64 0, .slice none 0 0] X (OrdPost X O)) :=
    Lib.hid fun X hX => by
      have h := order_rec b off cap m ns X hm h1 h2 (hP.below hX) hK (fun n hn z hz => by have := hlk n hn z hz; omega) (m + 2) 0 [] _ X (by omega) (by omega) (by simp) (by simp) (Below.refl _ X) (World.ownsRow_nil _ _ _ _)
      have e : ordD (kfOf ns) m (m + 2) 0 [] = O := by rw [← hO, ← ord_walk hT0 (by omega), hm]; rfl
      rw [e] at h; exact h
  have HS5 : Hid (∀ j : Nat, 1 ≤ j → j < m → O.contains (j : Int) = true) := Lib.hid (by rw [← hO]; exact HS5'.out)
  clear HS5' hO hT0 hlk
  have HDP : Hid (∀ X : World, Below w.heap.size w X → Calls Try.prog 33 #[.slice (some ⟨b, off, none⟩) m cap] X fun e W' => e = .returned (.slice (some ⟨X.heap.size, 0, none⟩) m m) ∧ Whole W' X.heap.size 3 ((depthsP ns).map (Value.int .i64)) ∧ Below X.heap.size X W') :=
    Lib.hid fun X hX => refDepths_at b off cap m ns X F hm h2 (hP.below hX) hK
  have HDL : Hid ((depthsP ns).length = m) := Lib.hid (by unfold depthsP; rw [depL_len]; exact hm)
  clear F
  have HN : Hid (∀ (j : Nat) (n : Nd), ns[j]? = some n → ∀ X, Below w.heap.size w X → NdAt X b (off + j * 34) n ∧ n.ok X) := Lib.hid (by
    obtain ⟨b', off', e, hc⟩ := page_some hP (by rw [hm]; exact h1)
    injection e with e; injection e with e1 e2
    subst e1 e2
    exact fun j n hn X hX => ⟨(hc j n hn).below hX, (hP.2.1 n (List.mem_iff_getElem?.2 ⟨j, hn⟩)).below hX⟩)
  have HC : Hid (∀ (j : Nat) (n : Nd), ns[j]? = some n → w.cell? ⟨b, off + j * 34 + 1, none⟩ = some n.kv ∧ Ints w n.kv n.ks ∧ b < w.heap.size) := Lib.hid (by
    obtain ⟨b', off', e, _, hc⟩ := page_cells hP h1
    injection e with e; injection e with e1 e2
    subst e1 e2
    exact fun j n hn => (hc j n hn).2)
  have HP := Lib.hid hP
  have HM := Lib.hid hm
  have HKF := Lib.hid hK
  have d1 : decide ((m : Int) < 1) = false := by simp; omega
  have d2 : decide ((m : Int) > 65536) = false := by simp; omega
  clear hm hK hP
  go_enter Try.func15, Try.ntmps15
  go_wp2
  go_loopw [4] (fun s4 X => ∃ i : Nat, i ≤ m ∧ s4 = .int .i64 i ∧ Hid (Below w.heap.size w X)) (fun s4 _ => m - (intOf s4).toNat)
  case atStart => exact ⟨0, by omega, rfl, Lib.hid (Below.refl _ _)⟩
  case round =>
    obtain ⟨i, hi, rfl, HB⟩ := hrel
    by_cases hlt : i < m
    · obtain ⟨n, hn⟩ : ∃ n, ns[i]? = some n := ⟨_, List.getElem?_eq_getElem (by rw [HM.out]; omega)⟩
      obtain ⟨hnd, hok⟩ := HN.out i n hn wr HB.out
      have hr := right_any n wr hok
      rw [HW.out i n hlt hn] at hr
      obtain ⟨cs, hcs⟩ : ∃ cs, n.cells.toArray = cs := ⟨_, rfl⟩
      have LN : Hid (∀ j v, cs[j]? = some v → wr.cell? ((⟨b, off + i * 34, none⟩ : Addr).add j) = some v) := Lib.hid (by rw [← hcs]; exact hnd.load)
      have iN : Hid ((Try.prog.info? 45).map (·.size) = some cs.size) := Lib.hid (by rw [← hcs]; exact nd_info n)
      have HR : Hid (Calls Try.prog 30 #[.agg cs] wr fun e W' => e = .returned (.bool true) ∧ Below wr.heap.size wr W') := Lib.hid (by rw [← hcs]; exact hr)
      clear hr hcs hn hnd hok
      go_wp2_with (first
        | (refine wpList_load_at rfl 45 (.tmp 34) rfl _ rfl cs _ LN.out Try.underlying45 rfl iN.out ?_)
        | (go_at_call 30; refine HR.out.mono ?_; rintro e w1 ⟨rfl, hb1⟩; have HB1 := Lib.hid (HB.out.trans (hb1.mono HB.out.size)); clear hb1 HB HR LN iN))
      go_roundw
      case rel => exact ⟨i + 1, by omega, by go_num, HB1⟩
      case measure => (simp [intOf]; try omega)
    · obtain rfl : m = i := by omega
      have sw := HB.out.size
      obtain ⟨G, hG⟩ : ∃ G, wr.heap.size = G := ⟨_, rfl⟩
      have hGw : w.heap.size ≤ G := by omega
      have hmk := make_ints m (by omega)
      go_wp2
      try rw [hG]
      obtain ⟨W4, hW4⟩ : ∃ W4, wr.alloc (.cells (Array.replicate m (Value.int .i64 0)) 3) = W4 := ⟨_, rfl⟩
      have k4 : Whole W4 G 3 ((tmz m (kidsOf (ns.take 0))).map (Value.int .i64)) := by
        rw [← hW4, ← hG, show (Array.replicate m (Value.int .i64 0)) = ((tmz m (kidsOf (ns.take 0))).map (Value.int .i64)).toArray from by
          apply Array.toList_inj.1
          simp [tmz, kidsOf]]
        exact whole_new wr _ 3 _ rfl
      have b4 : Below w.heap.size w W4 := by rw [← hW4]; exact HB.out.alloc sw _
      have HT0 : Hid (TI G m w W4 (kidsOf (ns.take 0))) := Lib.hid ⟨k4, b4⟩
      rw [hW4]
      clear hW4 k4 b4 hmk hG sw HB
      go_loopw [7] (fun s7 X => ∃ i : Nat, i ≤ m ∧ s7 = .int .i64 i ∧ Hid (TI G m w X (kidsOf (ns.take i)))) (fun s7 _ => m - (intOf s7).toNat)
      case atStart => exact ⟨0, by omega, rfl, HT0⟩
      case round =>
        obtain ⟨i, hi, rfl, HT⟩ := hrel
        clear HT0
        have HPI : Hid (∀ z ∈ kidsOf (ns.take i), 0 ≤ z ∧ z < (m : Int)) := Lib.hid fun z hz => by
          obtain ⟨a, ha, hz'⟩ := List.mem_flatMap.1 hz
          obtain ⟨j, hj⟩ := List.mem_iff_getElem?.1 ha
          rw [List.getElem?_take] at hj
          by_cases e : j < i
          · rw [if_pos e] at hj
            have := HL2.out j a (by omega) hj z hz'
            omega
          · rw [if_neg e] at hj; cases hj
        by_cases hlt : i < m
        · obtain ⟨n, hn⟩ : ∃ n, ns[i]? = some n := ⟨_, List.getElem?_eq_getElem (by rw [HM.out]; omega)⟩
          have hmem : n ∈ ns := List.mem_iff_getElem?.2 ⟨i, hn⟩
          obtain ⟨ck, hI, hb0⟩ := HC.out i n hn
          have hfew := HKF.out n hmem
          obtain ⟨qk, kc, hkv⟩ := hI.form
          rw [hkv] at ck hI
          obtain ⟨kl, hkl⟩ : ∃ kl, n.ks.length = kl := ⟨_, rfl⟩
          rw [hkl] at ck hfew hI
          have HI := Lib.hid hI
          have HKL := Lib.hid hkl
          have HCK := Lib.hid ck
          have HND := Lib.hid hn
          have HS : Hid (kidsOf (ns.take (i + 1)) = kidsOf (ns.take i) ++ n.ks) := Lib.hid (kids_snoc ns i n hn)
          have HLN : Hid (∀ k z, k < kl → n.ks[k]? = some z → 1 ≤ z ∧ z < (m : Int)) := Lib.hid fun k z hk hz => HL2.out i n hlt hn z (List.mem_iff_getElem?.2 ⟨k, hz⟩)
          clear hI hkl ck hn hkv hmem
          go_wp2
          go_loopw [8] (fun s8 X => ∃ k : Nat, k ≤ kl ∧ s8 = .int .i64 k ∧ Hid (TI G m w X (kidsOf (ns.take i) ++ n.ks.take k))) (fun s8 _ => kl - (intOf s8).toNat)
          case atStart => exact ⟨0, by omega, rfl, by simpa using HT⟩
          case round =>
            obtain ⟨k, hk, rfl, HY⟩ := hrel
            obtain ⟨y1, y2⟩ := HY.out
            have dck := (y2.cell (p := ⟨b, off + i * 34 + 1, none⟩) hb0).trans HCK.out
            by_cases hlt2 : k < kl
            · obtain ⟨y, hy⟩ : ∃ y, n.ks[k]? = some y := ⟨_, List.getElem?_eq_getElem (by rw [HKL.out]; omega)⟩
              have hkl2 : k < kl := by omega
              obtain ⟨qb, qo, rfl, cy, ly⟩ := ints_at0' HI.out k y hy
              have dcy := (y2.cell (p := ⟨qb, qo + k, none⟩) ly).trans cy
              obtain ⟨yr0, yr1⟩ := HLN.out k y hlt2 hy
              obtain ⟨yn, rfl⟩ : ∃ yn : Nat, y = (yn : Int) := ⟨y.toNat, by omega⟩
              have hPr : ∀ z ∈ kidsOf (ns.take i) ++ n.ks.take k, 0 ≤ z ∧ z < (m : Int) := fun z hz => by
                rcases List.mem_append.1 hz with h | h
                · exact HPI.out z h
                · obtain ⟨k', hk'⟩ := List.mem_iff_getElem?.1 h
                  rw [List.getElem?_take] at hk'
                  by_cases e : k' < k
                  · rw [if_pos e] at hk'
                    have := HLN.out k' z (by omega) hk'
                    omega
                  · rw [if_neg e] at hk'; cases hk'
              have hval := tmz_val m _ hPr yn (by omega)
              obtain ⟨c, hc⟩ : ∃ c, (kidsOf (ns.take i) ++ n.ks.take k).count (yn : Int) = c := ⟨_, rfl⟩
              have hcb : c ≤ 10000000000 := by
                rw [← hc]
                refine Nat.le_trans List.count_le_length ?_
                have e1 := kids_len ns i HKF.out
                rw [List.length_append, List.length_take]
                have : 70000 * i ≤ 70000 * 65536 := Nat.mul_le_mul_left _ (by omega)
                omega
              rw [hc] at hval
              have cg : wr.cell? ⟨G, yn, none⟩ = some (.int .i64 c) := by rw [y1.cellAt, List.getElem?_map, hval]; rfl
              have fg := y1.free yn
              have S1 : Hid (TI G m w (wr.setCell ⟨G, yn, none⟩ (.int .i64 ((c : Int) + 1))) (kidsOf (ns.take i) ++ n.ks.take (k + 1))) := Lib.hid (by
                have := HY.out.step hGw yn c hval
                rw [List.take_add_one, hy, ← List.append_assoc]
                exact this)
              have z1 : decide ((yn : Int) < 1) = false := by simp; omega
              have z2 : decide ((yn : Int) ≥ (m : Int)) = false := by simp; omega
              clear y1 y2 hy cy HY hval hc hPr
              go_wp2
              go_roundw
              case rel => exact ⟨k + 1, by omega, by go_num, S1⟩
              case measure => (simp [intOf]; try omega)
            · obtain rfl : k = kl := by omega
              have HT2 : Hid (TI G m w wr (kidsOf (ns.take (i + 1)))) := by
                have := HY.out
                rw [List.take_of_length_le (l := n.ks) (by rw [HKL.out]; exact Nat.le_refl _), ← HS.out] at this
                exact Lib.hid this
              clear y1 y2 HY
              go_wp2
              exact ⟨⟨i + 1, by omega, rfl, HT2⟩, by (simp [intOf]; try omega)⟩
        · obtain rfl : m = i := by omega
          have HPA : Hid (∀ z ∈ kidsOf ns, 0 ≤ z ∧ z < (m : Int)) := by
            have := HPI.out
            rw [List.take_of_length_le (by rw [HM.out]; exact Nat.le_refl _)] at this
            exact Lib.hid this
          have HTF : Hid (TI G m w wr (kidsOf ns)) := by
            have := HT.out
            rw [List.take_of_length_le (by rw [HM.out]; exact Nat.le_refl _)] at this
            exact Lib.hid this
          clear HT HPI
          have sw := HTF.out.2.size
          have hGM := HTF.out.1.lt
          obtain ⟨M, hM⟩ : ∃ M, wr.heap.size = M := ⟨_, rfl⟩
          have hMw : w.heap.size ≤ M := by omega
          have hGM2 : G < M := by omega
          have hmk := make_bools m (by omega)
          go_wp2
          try rw [hM]
          obtain ⟨W5, hW5⟩ : ∃ W5, wr.alloc (.cells (metL m []).toArray 4) = W5 := ⟨_, rfl⟩
          have k5 : Whole W5 M 4 (metL m []) := by rw [← hW5, ← hM]; exact whole_new wr _ 4 _ rfl
          have HC0 : Hid (CkI G M m w W5 (kidsOf ns) []) := Lib.hid ⟨by rw [← hW5]; exact HTF.out.1.alloc _, k5, by rw [← hW5]; exact HTF.out.2.alloc sw _⟩
          have hs5 : W5.heap.size = M + 1 := by rw [← hW5, ← hM]; simp
          rw [hW5]
          clear hW5 k5 hmk hM sw hGM HTF
          go_loop [11, 12] (fun s11 s12 => ∃ i : Nat, 1 ≤ i ∧ i ≤ m ∧ s12 = .int .i64 i ∧ s11 = .bool false) (fun _ s12 => m - (intOf s12).toNat)
          case atStart => exact ⟨1, by omega, by omega, rfl, rfl⟩
          case round =>
            obtain ⟨i, hi1, hi, rfl, rfl⟩ := hrel
            by_cases hlt : i < m
            · have ct : W5.cell? ⟨G, i, none⟩ = some (.int .i64 1) := by rw [HC0.out.1.cellAt, List.getElem?_map, tmz_val m _ HPA.out i hlt, HZB.out i hi1 hlt]; rfl
              go_wp2
              go_round
              case rel => exact ⟨i + 1, by omega, by omega, by go_num, rfl⟩
              case measure => (simp [intOf]; try omega)
            · have him : i = m := by omega
              clear him
              have HOR2 := Lib.hid (HOR.out W5 HC0.out.2.2)
              go_wp2_with (go_at_call 31; refine HOR2.out.mono ?_; clear HOR2; rintro e w2 ⟨v2, rfl, o2, b2⟩; have HIO := Lib.hid (ints_own o2).1; have HA := Lib.hid ((ints_own o2).2.2 M (by omega)); have HA2 := Lib.hid ((ints_own o2).2.2 G (by omega)); have HC1 := Lib.hid (HC0.out.below b2); obtain ⟨q2, c2, hv⟩ := (ints_own o2).1.form; subst hv; clear o2 b2)
              obtain ⟨lo, hlo⟩ : ∃ lo, O.length = lo := ⟨_, rfl⟩
              have hlo2 : lo ≤ 9223372036854775807 := by rw [← hlo]; exact HIO.out.1
              rw [hlo] at HIO HA HA2 ⊢
              have HLO := Lib.hid hlo
              clear hlo
              go_loopw [14] (fun s14 X => ∃ i : Nat, i ≤ lo ∧ s14 = .int .i64 i ∧ Hid (CkI G M m w X (kidsOf ns) (O.take i)) ∧ Hid (Ints X (.slice q2 lo c2) O)) (fun s14 _ => lo - (intOf s14).toNat)
              case atStart => exact ⟨0, by omega, rfl, HC1, HIO⟩
              case round =>
                obtain ⟨i4, hi4, rfl, HX, HI4⟩ := hrel
                by_cases hlt4 : i4 < lo
                · obtain ⟨z, hz⟩ : ∃ z, O[i4]? = some z := ⟨_, List.getElem?_eq_getElem (by rw [HLO.out]; exact hlt4)⟩
                  obtain ⟨zr0, zr1⟩ := HRG.out z (List.mem_iff_getElem?.2 ⟨i4, hz⟩)
                  obtain ⟨zn, rfl⟩ : ∃ zn : Nat, z = (zn : Int) := ⟨z.toNat, by omega⟩
                  obtain ⟨ob, oo, rfl, cz, lz⟩ := ints_at0' HI4.out i4 _ hz
                  obtain ⟨x1, x2, x3⟩ := HX.out
                  have cm : wr.cell? ⟨M, zn, none⟩ = some (.bool ((O.take i4).contains (zn : Int))) := by rw [x2.cellAt, metL_get m _ zn (by omega)]
                  have fm := x2.free zn
                  have S1 : Hid (CkI G M m w (wr.setCell ⟨M, zn, none⟩ (.bool true)) (kidsOf ns) (O.take (i4 + 1))) := Lib.hid (by
                    refine ⟨x1.other _ _ (by show G ≠ M; omega), ?_, x3.setCell (p := ⟨M, zn, none⟩) hMw _⟩
                    have := x2.set zn (.bool true)
                    rw [metL_set m _ zn (by omega)] at this
                    rw [List.take_add_one, hz]
                    exact this)
                  have S2 : Hid (Ints (wr.setCell ⟨M, zn, none⟩ (.bool true)) (.slice (some ⟨ob, oo, none⟩) lo c2) O) := Lib.hid (HI4.out.setApart _ _ HA.out)
                  clear x1 x2 x3 hz
                  go_wp2
                  go_roundw
                  case rel => exact ⟨i4 + 1, by omega, by go_num, S1, S2⟩
                  case measure => (simp [intOf]; try omega)
                · obtain rfl : lo = i4 := by omega
                  have HX4 : Hid (CkI G M m w wr (kidsOf ns) O) := by
                    have := HX.out
                    rw [List.take_of_length_le (by rw [HLO.out]; exact Nat.le_refl _)] at this
                    exact Lib.hid this
                  clear HX HI4
                  go_wp2
                  go_loop [15] (fun s15 => ∃ i : Nat, 1 ≤ i ∧ i ≤ m ∧ s15 = .int .i64 i) (fun s15 => m - (intOf s15).toNat)
                  case atStart => exact ⟨1, by omega, by omega, rfl⟩
                  case round =>
                    obtain ⟨i5, hi51, hi5, rfl⟩ := hrel
                    by_cases hlt5 : i5 < m
                    · have ct : wr.cell? ⟨G, i5, none⟩ = some (.int .i64 1) := by rw [HX4.out.1.cellAt, List.getElem?_map, tmz_val m _ HPA.out i5 (by omega), HZB.out i5 hi51 (by omega)]; rfl
                      have cm : wr.cell? ⟨M, i5, none⟩ = some (.bool true) := by rw [HX4.out.2.1.cellAt, metL_get m _ i5 (by omega), HS5.out i5 hi51 hlt5]
                      go_wp2
                      go_round
                      case rel => exact ⟨i5 + 1, by omega, by omega, by go_num⟩
                      case measure => (simp [intOf]; try omega)
                    · obtain rfl : m = i5 := by omega
                      have HDP2 := Lib.hid (HDP.out wr HX4.out.2.2)
                      obtain ⟨D0, hD0⟩ : ∃ D0, wr.heap.size = D0 := ⟨_, rfl⟩
                      go_wp2_with (go_at_call 33; refine HDP2.out.mono ?_; clear HDP2; rintro e w6 ⟨rfl, k6, b6⟩; have HK6 := Lib.hid k6; have HB6 := Lib.hid (HX4.out.2.2.trans (b6.mono HX4.out.2.2.size)); clear k6 b6)
                      go_loop [17] (fun s17 => ∃ i : Nat, i ≤ m ∧ s17 = .int .i64 i) (fun s17 => m - (intOf s17).toNat)
                      case atStart => exact ⟨0, by omega, rfl⟩
                      case round =>
                        obtain ⟨i6, hi6, rfl⟩ := hrel
                        by_cases hlt6 : i6 < m
                        · obtain ⟨z, hz⟩ : ∃ z, (depthsP ns)[i6]? = some z := ⟨_, List.getElem?_eq_getElem (by rw [HDL.out]; omega)⟩
                          have cz := HK6.out.cellAt i6
                          rw [List.getElem?_map, hz] at cz
                          simp only [Option.map_some] at cz
                          have dz : decide (z > 64) = false := by
                            have := HD6.out i6 z hlt6 hz
                            simp [deepB] at this; simp; omega
                          clear hz
                          try rw [hD0] at cz
                          go_wp2
                          go_round
                          case rel => exact ⟨i6 + 1, by omega, by go_num⟩
                          case measure => (simp [intOf]; try omega)
                        · obtain rfl : m = i6 := by omega
                          go_wp2
                          refine bodyPost_ret (v := .tuple #[.int .i64 0, .int .i64 0]) (by simp [results, Try.results15, go_sem]) rfl ⟨rfl, HB6.out⟩
end Go.Proofs.Ytgaclepoipaecaa

namespace Go.Proofs.Ytgaclepoipaecaa
open Go.RowKit Go.Shelf
set_option linter.unusedVariables false
set_option linter.unusedSimpArgs false
attribute [local go_sem] Oper.semAt_some

theorem first_hit {α : Type} (p : α → Bool) : ∀ l : List α, l.any p = true → ∃ (k : Nat) (x : α), l[k]? = some x ∧ p x = true ∧ ∀ (j : Nat) (y : α), j < k → l[j]? = some y → p y = false
  | [], h => by simp at h
  | a :: l, h => by
    cases ha : p a with
    | true => exact ⟨0, a, rfl, ha, fun j y hj => by omega⟩
    | false =>
      rw [List.any_cons, ha, Bool.false_or] at h
      obtain ⟨k, x, h1, h2, h3⟩ := first_hit p l h
      refine ⟨k + 1, x, by simpa using h1, h2, fun j y hj hy => ?_⟩
      cases j with
      | zero => simp at hy; rw [← hy]; exact ha
      | succ j => exact h3 j y (by omega) (by simpa using hy)
theorem idx_cases {α : Type} (p : α → Bool) (l : List α) : (l.any p = false ∧ idxI p l = -1) ∨ ∃ (k : Nat) (x : α), l[k]? = some x ∧ p x = true ∧ (∀ j y, j < k → l[j]? = some y → p y = false) ∧ idxI p l = (k : Int) := by
  cases h : l.any p with
  | false => exact .inl ⟨rfl, idxI_none p l h⟩
  | true =>
    obtain ⟨k, x, h1, h2, h3⟩ := first_hit p l h
    refine .inr ⟨k, x, h1, h2, h3, idxI_hit p l k x ?_ h1 h2⟩
    rw [List.any_eq_false]
    intro y hy
    obtain ⟨j, hj⟩ := List.mem_iff_getElem?.1 hy
    rw [List.getElem?_take] at hj
    by_cases e : j < k
    · rw [if_pos e] at hj; rw [h3 j y e hj]; simp
    · rw [if_neg e] at hj; cases hj
theorem least_of {P : Nat → Prop} : ∀ n, P n → ∃ k, P k ∧ k ≤ n ∧ ∀ j, j < k → ¬ P j := by
  intro n
  induction n using Nat.strongRecOn with
  | _ n ih =>
    intro hn
    by_cases h : ∃ j, j < n ∧ P j
    · obtain ⟨j, h1, h2⟩ := h
      obtain ⟨k, h3, h4, h5⟩ := ih j h1 h2
      exact ⟨k, h3, by omega, h5⟩
    · exact ⟨n, hn, by omega, fun j hj hp => h ⟨j, hj, hp⟩⟩
theorem dep_met {ns : List Nd} (h1 : 1 ≤ ns.length) (hl : ∀ n ∈ ns, ∀ z ∈ n.ks, 1 ≤ z ∧ z < (ns.length : Int)) (j : Nat) (hj : j < ns.length) : (depthsP ns)[j]?.getD 0 = 0 ↔ metB ns (j : Int) = false := by
  have hki := kids_in hl
  obtain ⟨vis, st, hr, hn⟩ := walk_facts h1 hki
  have hg := hr.good h1 hki
  have hvis := hr.vis
  have hrng : ∀ x ∈ walkL ns.length (kfOf ns), 0 ≤ x.1 := fun x hx => (hg.vrng x.1 (by rw [hvis]; simp; exact ⟨x.2, hx⟩)).1
  cases hm : metB ns (j : Int) with
  | false =>
    have hno : ¬ ∃ x ∈ walkL ns.length (kfOf ns), x.1 = (j : Int) := by
      rintro ⟨x, hx, e⟩
      have : metB ns (j : Int) = true := by
        simp only [metB, List.contains_iff_mem]
        exact List.mem_map.2 ⟨x, hx, e⟩
      rw [hm] at this; cases this
    have := set_get ns.length (List.replicate ns.length 0) (by simp) (walkL ns.length (kfOf ns)) hrng j hj 0 (fun y hy e => absurd ⟨y, hy, e⟩ hno)
    rw [if_neg hno] at this
    unfold depthsP depL
    rw [this]; simp [hj]
  | true =>
    obtain ⟨d, hd⟩ := reach_met h1 hl ((reach_iff h1 hl j).2 hm)
    have hnd : ((walkL ns.length (kfOf ns)).map Prod.fst).Nodup := by have := hg.nd; rw [hvis] at this; exact (List.reverse_perm _).nodup_iff.1 this
    have hset := set_get ns.length (List.replicate ns.length 0) (by simp) (walkL ns.length (kfOf ns)) hrng j hj d (fun y hy ey => by
      have := count_unique (P := walkL ns.length (kfOf ns)) (z := (j : Int)) (by rw [hnd.count, if_pos (List.mem_map.2 ⟨_, hd, rfl⟩)]) y hy _ hd ey rfl
      rw [this])
    rw [if_pos ⟨_, hd, rfl⟩] at hset
    have hd1 := (hr.one _ hd).1
    have h2 : (depthsP ns)[j]?.getD 0 = (d : Int) := hset
    rw [h2]
    constructor
    · intro h; omega
    · intro h; cases h
set_option maxRecDepth 100000 in
set_option maxHeartbeats 1000000 in
theorem refCheck_size (q : Option Addr) (m cap : Nat) (w : World) (hm : m < 1 ∨ 65536 < m) (hs : m ≤ 9223372036854775807) :
    Calls Try.prog 15 #[.slice q m cap] w fun e W' => e = .returned (.tuple #[.int .i64 0, .int .i64 43]) ∧ Below w.heap.size w W' := by
  by_cases h : m < 1
  · have d1 : decide ((m : Int) < 1) = true := by simp; omega
    clear hm
    go_enter Try.func15, Try.ntmps15
    go_wp2
    refine bodyPost_ret (v := .tuple #[.int .i64 0, .int .i64 43]) (by simp [results, Try.results15, go_sem]) rfl ⟨rfl, Below.refl _ _⟩
  · have d1 : decide ((m : Int) < 1) = false := by simp; omega
    have d2 : decide ((m : Int) > 65536) = true := by simp; omega
    clear hm
    go_enter Try.func15, Try.ntmps15
    go_wp2
    refine bodyPost_ret (v := .tuple #[.int .i64 0, .int .i64 43]) (by simp [results, Try.results15, go_sem]) rfl ⟨rfl, Below.refl _ _⟩
/-- the document's Check -/
theorem refCheck_any (lv : Value) (ns : List Nd) (w : World) (hP : PageAt w lv ns) (hK : ∀ n ∈ ns, n.ks.length ≤ 70000) :
    Calls Try.prog 15 #[lv] w fun e W' => e = .returned (.tuple #[.int .i64 (checkP ns).1, .int .i64 (checkP ns).2]) ∧ Below w.heap.size w W' := by
  obtain ⟨q, cap, rfl⟩ := hP.form
  by_cases hlen : ¬ (1 ≤ ns.length ∧ ns.length ≤ 65536)
  · have e : checkP ns = (0, 43) := by unfold checkP; rw [if_pos hlen]
    rw [e]
    exact refCheck_size q _ cap w (by omega) hP.1
  have h1 : 1 ≤ ns.length := by omega
  have h2 : ns.length ≤ 65536 := by omega
  obtain ⟨b, off, rfl, _, _⟩ := page_cells hP h1
  rcases idx_cases wrongN ns with ⟨hw, ew⟩ | ⟨I1, n1, w1, w2, w3, ew⟩
  case inr =>
    have e : checkP ns = ((I1 : Int), 50) := by unfold checkP; rw [if_neg hlen, ew, if_pos (by omega)]
    rw [e]
    exact refCheck_wrong b off cap _ ns w rfl h1 h2 hP hK I1 (List.getElem?_eq_some_iff.1 w1).1 (Lib.hid fun j n hj hn => by rw [w3 j n hj hn]; rfl) (Lib.hid fun n hn => by rw [w1] at hn; injection hn with hn; rw [← hn, w2]; rfl)
  have HW : Hid (∀ j n, j < ns.length → ns[j]? = some n → (!wrongN n) = true) := Lib.hid fun j n hj hn => by
    rw [List.any_eq_false] at hw
    simpa using hw n (List.mem_iff_getElem?.2 ⟨j, hn⟩)
  rcases idx_cases (unlinkedN ns.length) ns with ⟨hu, eu⟩ | ⟨I2, n2, u1, u2, u3, eu⟩
  case inr =>
    have e : checkP ns = ((I2 : Int), 40) := by unfold checkP; rw [if_neg hlen, ew, if_neg (by omega), eu, if_pos (by omega)]
    rw [e]
    refine refCheck_link b off cap _ ns w rfl h1 h2 hP hK HW I2 (List.getElem?_eq_some_iff.1 u1).1 (Lib.hid fun j n hj hn z hz => ?_) (Lib.hid fun n hn => ?_)
    · have h3 := u3 j n hj hn
      unfold unlinkedN at h3
      rw [List.any_eq_false] at h3
      have := outB_false (by simpa using h3 z hz)
      omega
    · rw [u1] at hn; injection hn with hn; subst hn
      unfold unlinkedN at u2
      obtain ⟨k, z, k1, k2, k3⟩ := first_hit _ _ u2
      refine ⟨k, z, k1, fun h => ?_, fun k' z' hk' hz' => ?_⟩
      · rw [outB_in (by omega) (by omega)] at k2; cases k2
      · have := outB_false (k3 k' z' hk' hz'); omega
  have hl := linked (m := ns.length) (ns := ns) (by rw [eu]; omega)
  have HL2 : Hid (∀ j n, j < ns.length → ns[j]? = some n → ∀ z ∈ n.ks, 1 ≤ z ∧ z < (ns.length : Int)) := Lib.hid fun j n _ hn => hl n (List.mem_iff_getElem?.2 ⟨j, hn⟩)
  have hk0 : ∀ z ∈ kidsOf ns, 0 ≤ z := fun z hz => by
    obtain ⟨a, ha, hz'⟩ := List.mem_flatMap.1 hz
    have := hl a ha z hz'; omega
  have hlz : ((tms ns.length (kidsOf ns)).zip (depthsP ns)).length = ns.length := by simp [tms_len, depthsP, depL_len]
  have hzip : ∀ j x, ((tms ns.length (kidsOf ns)).zip (depthsP ns))[j]? = some x → j < ns.length ∧ (strayB x = true ↔ (((kidsOf ns).count (j : Int) : Int) + if j = 0 then 1 else 0) ≠ 1 ∨ metB ns (j : Int) = false) := fun j x hx => by
    have hj : j < ns.length := by have := (List.getElem?_eq_some_iff.1 hx).1; rw [hlz] at this; exact this
    refine ⟨hj, ?_⟩
    have ht := tms_get ns.length (kidsOf ns) hk0 j hj
    have hd := dep_met h1 hl j hj
    have a1 : j < (tms ns.length (kidsOf ns)).length := by rw [tms_len]; exact hj
    have a2 : j < (depthsP ns).length := by unfold depthsP; rw [depL_len]; exact hj
    rw [List.getElem?_eq_getElem a1] at ht
    rw [List.getElem?_eq_getElem a2] at hd
    simp only [Option.getD_some] at ht hd
    have hx2 := (List.getElem?_eq_some_iff.1 hx).2
    rw [List.getElem_zip] at hx2
    rw [← hx2, ← ht, ← hd]
    simp [strayB]
  have h00 : (kidsOf ns).count (0 : Int) = 0 := List.count_eq_zero_of_not_mem (fun h => by
    obtain ⟨a, ha, hz'⟩ := List.mem_flatMap.1 h
    have := hl a ha _ hz'; omega)
  have hm0 : metB ns ((0 : Nat) : Int) = true := (reach_iff h1 hl 0).1 .root
  rcases idx_cases strayB ((tms ns.length (kidsOf ns)).zip (depthsP ns)) with ⟨hs, es⟩ | ⟨I, x, s1, s2, s3, es⟩
  case inr =>
    have e : checkP ns = ((I : Int), 41) := by unfold checkP; rw [if_neg hlen, ew, if_neg (by omega), eu, if_neg (by omega), show strayP ns = (I : Int) from es, if_pos (by omega)]
    rw [e]
    obtain ⟨hIm, hIs⟩ := hzip I x s1
    have hIs := hIs.1 s2
    have hI1 : 1 ≤ I := by
      apply Classical.byContradiction
      intro h
      obtain rfl : I = 0 := by omega
      rw [hm0] at hIs
      rcases hIs with h | h
      · rw [show ((0 : Nat) : Int) = 0 from rfl, h00] at h; simp at h
      · cases h
    rw [if_neg (by omega)] at hIs
    have hbefore : ∀ j : Nat, 1 ≤ j → j < I → (kidsOf ns).count (j : Int) = 1 ∧ metB ns (j : Int) = true := fun j hj1 hj => by
      obtain ⟨y, hy⟩ : ∃ y, ((tms ns.length (kidsOf ns)).zip (depthsP ns))[j]? = some y := ⟨_, List.getElem?_eq_getElem (by rw [hlz]; omega)⟩
      have h3 := s3 j y hj hy
      obtain ⟨_, h4⟩ := hzip j y hy
      rw [h3, if_neg (by omega)] at h4
      have h5 : ¬ ((((kidsOf ns).count (j : Int) : Int) + 0) ≠ 1 ∨ metB ns (j : Int) = false) := fun h => by have := h4.2 h; cases this
      refine ⟨?_, ?_⟩
      · apply Classical.byContradiction; intro h; exact h5 (.inl (by omega))
      · cases hmj : metB ns (j : Int) with
        | true => rfl
        | false => exact absurd (.inr hmj) h5
    by_cases hbad : ∃ j : Nat, 1 ≤ j ∧ j < ns.length ∧ (kidsOf ns).count (j : Int) ≠ 1
    · obtain ⟨j, hj⟩ := hbad
      obtain ⟨Z, ⟨z1, z2, z3⟩, _, z4⟩ := least_of (P := fun j : Nat => 1 ≤ j ∧ j < ns.length ∧ (kidsOf ns).count (j : Int) ≠ 1) j hj
      have hIZ : I ≤ Z := by
        apply Classical.byContradiction
        intro h
        exact z3 (hbefore Z z1 (by omega)).1
      refine refCheck_bad b off cap _ ns w rfl h1 h2 hP hK HW HL2 Z z1 z2 (Lib.hid z3) (Lib.hid fun j j1 j2 => ?_) I hI1 hIZ (Lib.hid hbefore) (Lib.hid ?_)
      · apply Classical.byContradiction; intro h; exact z4 j j2 ⟨j1, by omega, h⟩
      · rcases hIs with h | h
        · exact .inl (by omega)
        · exact .inr h
    · have hgood : ∀ j : Nat, 1 ≤ j → j < ns.length → (kidsOf ns).count (j : Int) = 1 := fun j j1 j2 => by
        apply Classical.byContradiction; intro h; exact hbad ⟨j, j1, j2, h⟩
      refine refCheck_stray b off cap _ ns w rfl h1 h2 hP hK HW HL2 (Lib.hid hgood) I hI1 hIm (Lib.hid fun j j1 j2 => (hbefore j j1 j2).2) (Lib.hid ?_)
      rcases hIs with h | h
      · exact absurd (by have := hgood I hI1 hIm; omega) h
      · exact h
  have F : NoStray ns := ⟨h1, hl, hs⟩
  have hgood : ∀ j : Nat, j < ns.length → ((((kidsOf ns).count (j : Int) : Nat) : Int) + (if j = 0 then 1 else 0)) = 1 ∧ metB ns (j : Int) = true := fun j hj => by
    obtain ⟨y, hy⟩ : ∃ y, ((tms ns.length (kidsOf ns)).zip (depthsP ns))[j]? = some y := ⟨_, List.getElem?_eq_getElem (by rw [hlz]; exact hj)⟩
    obtain ⟨_, h4⟩ := hzip j y hy
    have h3 : strayB y = false := by
      rw [List.any_eq_false] at hs
      simpa using hs y (List.mem_iff_getElem?.2 ⟨j, hy⟩)
    rw [h3] at h4
    refine ⟨?_, ?_⟩
    · apply Classical.byContradiction; intro h; have := h4.2 (.inl h); cases this
    · cases hmj : metB ns (j : Int) with
      | true => rfl
      | false => have := h4.2 (.inr hmj); cases this
  have HZB : Hid (∀ j : Nat, 1 ≤ j → j < ns.length → (kidsOf ns).count (j : Int) = 1) := Lib.hid fun j j1 j2 => by
    have := (hgood j j2).1
    rw [if_neg (by omega)] at this; omega
  have HS5 : Hid (∀ j : Nat, 1 ≤ j → j < ns.length → metB ns (j : Int) = true) := Lib.hid fun j _ j2 => (hgood j j2).2
  rcases idx_cases deepB (depthsP ns) with ⟨hd, ed⟩ | ⟨I6, z6, t1, t2, t3, ed⟩
  · have e : checkP ns = (0, 0) := by unfold checkP; rw [if_neg hlen, ew, if_neg (by omega), eu, if_neg (by omega), show strayP ns = -1 from es, if_neg (by omega), ed, if_neg (by omega)]
    rw [e]
    refine refCheck_fine b off cap _ ns w rfl h1 h2 hP hK HW HL2 HZB F HS5 (Lib.hid fun j z _ hz => ?_)
    rw [List.any_eq_false] at hd
    simpa using hd z (List.mem_iff_getElem?.2 ⟨j, hz⟩)
  · have e : checkP ns = ((I6 : Int), 42) := by unfold checkP; rw [if_neg hlen, ew, if_neg (by omega), eu, if_neg (by omega), show strayP ns = -1 from es, if_neg (by omega), ed, if_pos (by omega)]
    rw [e]
    exact refCheck_deep b off cap _ ns w rfl h1 h2 hP hK HW HL2 HZB F HS5 I6 (by have := (List.getElem?_eq_some_iff.1 t1).1; unfold depthsP at this; rw [depL_len] at this; exact this) (Lib.hid t3) (Lib.hid fun z hz => by rw [t1] at hz; injection hz with hz; rw [← hz]; exact t2)
end Go.Proofs.Ytgaclepoipaecaa

namespace Go.Proofs.Ytgaclepoipaecaa
open Go.RowKit Go.Shelf
set_option linter.unusedVariables false
set_option linter.unusedSimpArgs false
attribute [local go_sem] Oper.semAt_some

set_option maxRecDepth 100000 in
set_option maxHeartbeats 2000000 in
theorem refLchk_at (q : Option Addr) (m cap : Nat) (p : Int) (ns : List Nd) (w : World) (x c : Int) (hm : ns.length = m) (hP : PageAt w (.slice q m cap) ns) (hc : c = (checkP ns).2)
    (H : Hid (Calls Try.prog 15 #[.slice q m cap] w fun e W' => e = .returned (.tuple #[.int .i64 x, .int .i64 c]) ∧ Below w.heap.size w W')) :
    Calls Try.prog 7 #[.slice q m cap, .int .i64 p] w fun e W' => e = .returned (.int .i64 (lchkP ns p)) ∧ Below w.heap.size w W' := by
  have hms : m ≤ 9223372036854775807 := by have := hP.1; omega
  by_cases h0 : c = 0
  · have hl : lchkP ns p = if isTab ns p = true then 0 else 2 := by unfold lchkP; rw [← hc, if_pos h0]
    subst h0
    by_cases hp0 : p < 0
    · have e : isTab ns p = false := by unfold isTab; rw [decide_eq_false (by omega)]; rfl
      rw [hl, e]
      have d1 : decide (p < 0) = true := by simpa using hp0
      clear hc hl e hP
      go_enter Try.func7, Try.ntmps7
      go_wp2_with (go_at_call 15; refine H.out.mono ?_; clear H; rintro e w1 ⟨rfl, hb1⟩; have HB1 := Lib.hid hb1; clear hb1)
      go_ret
      exact ⟨rfl, HB1.out⟩
    · have d1 : decide (p < 0) = false := by simpa using hp0
      obtain ⟨pn, rfl⟩ : ∃ pn : Nat, p = (pn : Int) := ⟨p.toNat, by omega⟩
      by_cases hpm : m ≤ pn
      · have e : isTab ns (pn : Int) = false := by unfold isTab; rw [decide_eq_false (p := ((pn : Int) < (ns.length : Int))) (by omega)]; simp
        rw [hl, e]
        have d2 : decide ((pn : Int) ≥ (m : Int)) = true := by simp; omega
        clear hc hl e hP
        go_enter Try.func7, Try.ntmps7
        go_wp2_with (go_at_call 15; refine H.out.mono ?_; clear H; rintro e w1 ⟨rfl, hb1⟩; have HB1 := Lib.hid hb1; clear hb1)
        go_ret
        exact ⟨rfl, HB1.out⟩
      · have d2 : decide ((pn : Int) ≥ (m : Int)) = false := by simp; omega
        have hpl : pn < m := by omega
        obtain ⟨b, off, rfl⟩ := some_page hP (by omega)
        have HP := Lib.hid hP
        have e : isTab ns (pn : Int) = (kdOf ns pn == 2) := by unfold isTab; rw [decide_eq_true (by omega), decide_eq_true (by omega)]; simp
        rw [hl, e]
        clear hc hl e hP
        have HK : Hid (∀ X, Below w.heap.size w X → X.cell? ⟨b, off + pn * 34, none⟩ = some (.int .i64 (kdOf ns pn))) := Lib.hid fun X hX => by
          exact kd_at (HP.out.below hX) pn (by omega)
        by_cases hk : kdOf ns pn = 2
        · rw [hk] at HK ⊢
          go_enter Try.func7, Try.ntmps7
          go_wp2_with (go_at_call 15; refine H.out.mono ?_; clear H; rintro e w1 ⟨rfl, hb1⟩; have HB1 := Lib.hid hb1; have ck := HK.out w1 hb1; clear hb1)
          go_ret
          exact ⟨rfl, HB1.out⟩
        · have d3 : (kdOf ns pn != 2) = true := by simpa using hk
          have d4 : (kdOf ns pn == 2) = false := by simpa using hk
          rw [d4]
          go_enter Try.func7, Try.ntmps7
          go_wp2_with (go_at_call 15; refine H.out.mono ?_; clear H; rintro e w1 ⟨rfl, hb1⟩; have HB1 := Lib.hid hb1; have ck := HK.out w1 hb1; clear hb1)
          go_ret
          exact ⟨rfl, HB1.out⟩
  · have hl : lchkP ns p = c := by unfold lchkP; rw [← hc, if_neg h0]
    rw [hl]
    have hc' : (c != 0) = true := by simpa using h0
    clear hc hl hP
    go_enter Try.func7, Try.ntmps7
    go_wp2_with (go_at_call 15; refine H.out.mono ?_; clear H; rintro e w1 ⟨rfl, hb1⟩; have HB1 := Lib.hid hb1; clear hb1)
    go_ret
    exact ⟨rfl, HB1.out⟩
theorem refLchk_any (lv : Value) (p : Int) (ns : List Nd) (w : World) (hP : PageAt w lv ns) (hK : ∀ n ∈ ns, n.ks.length ≤ 70000) :
    Calls Try.prog 7 #[lv, .int .i64 p] w fun e W' => e = .returned (.int .i64 (lchkP ns p)) ∧ Below w.heap.size w W' := by
  have H := refCheck_any lv ns w hP hK
  obtain ⟨q, cap, rfl⟩ := hP.form
  exact refLchk_at q _ cap p ns w _ _ rfl hP rfl (Lib.hid H)
/-- the rows among kids -/
def grpP (ns : List Nd) (g : Int) (ks : List Int) : List (Int × Int) := (ks.filter fun z => decide (kdOf ns z.toNat = 9)).map fun z => (z, g)
theorem grp_fnd (ns : List Nd) (g : Int) : fndP ns 9 [g] = grpP ns g (kfOf ns g) := by simp [fndP, kindK, grpP]
theorem grp_snoc (ns : List Nd) (g : Int) (ks : List Int) (k : Nat) (z : Int) (h : ks[k]? = some z) : grpP ns g (ks.take (k + 1)) = grpP ns g (ks.take k) ++ (if kdOf ns z.toNat = 9 then [(z, g)] else []) := by
  unfold grpP
  rw [List.take_add_one, h, List.filter_append, List.map_append]
  by_cases hz : kdOf ns z.toNat = 9 <;> simp [hz]
theorem grp_len (ns : List Nd) (g : Int) (ks : List Int) : (grpP ns g ks).length ≤ ks.length := by unfold grpP; rw [List.length_map]; exact List.length_filter_le _ _
theorem Try.infoLane6 : (Try.prog.info? 48).map (fun i => (i.zero, i.size, i.bytes)) = some (some (.agg #[.int .i64 0, .int .i64 0]), 2, 16) := by kernel_rfl
/-- the captions among kids -/
def cptP (ns : List Nd) (ks : List Int) : List Int := ks.filter fun z => decide (kdOf ns z.toNat = 3)
theorem cpt_snoc (ns : List Nd) (ks : List Int) (k : Nat) (z : Int) (h : ks[k]? = some z) : cptP ns (ks.take (k + 1)) = cptP ns (ks.take k) ++ (if kdOf ns z.toNat = 3 then [z] else []) := by
  unfold cptP
  rw [List.take_add_one, h, List.filter_append]
  by_cases hz : kdOf ns z.toNat = 3 <;> simp [hz]
theorem cpt_len (ns : List Nd) (ks : List Int) : (cptP ns ks).length ≤ ks.length := List.length_filter_le _ _
end Go.Proofs.Ytgaclepoipaecaa
