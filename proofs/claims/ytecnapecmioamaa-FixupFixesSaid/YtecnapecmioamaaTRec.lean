/- The document's order of a page: its walk, a function that calls itself, and the contract of purflingref04.Order. -/
import Derived.Test.YtecnapecmioamaaTPre
import Derived.Test.YtecnapecmioamaaTGrow
import Derived.Test.YtecnapecmioamaaTAlike
namespace Go.Proofs.Ytecnapecmioamaa
open Go.RowKit Go.Shelf
set_option linter.unusedVariables false
attribute [local go_sem] Oper.semAt_some

theorem fold_bound (g : Int → List Int → List Int) (m : Nat) (hg : ∀ z out, out.length ≤ m + 1 → (g z out).length ≤ m + 1) : ∀ (ks out : List Int), out.length ≤ m + 1 → (ks.foldl (fun o y => g y o) out).length ≤ m + 1
  | [], out, h => h
  | y :: ks, out, h => by
    rw [List.foldl_cons]
    exact fold_bound g m hg ks _ (hg y out h)
theorem ordD_bound (kf : Int → List Int) (m : Nat) : ∀ (f : Nat) (z : Int) (out : List Int), out.length ≤ m + 1 → (ordD kf m f z out).length ≤ m + 1
  | 0, z, out, h => h
  | f + 1, z, out, h => by
    unfold ordD
    split
    · exact h
    · exact fold_bound _ m (ordD_bound kf m f) (kf z) (out ++ [z]) (by simp; omega)
def OwnI (base : Nat) (X : World) (v : Value) (zs : List Int) : Prop := X.ownsRow base 3 1 v zs.length (zs.map (Value.int .i64))
def OrdPost (w0 : World) (zs : List Int) (e : Ending) (W' : World) : Prop := ∃ v', e = .returned v' ∧ OwnI w0.heap.size W' v' zs ∧ Below w0.heap.size w0 W'
theorem fold_snoc (g : Int → List Int → List Int) (ks : List Int) (i : Nat) (y : Int) (h : ks[i]? = some y) (out : List Int) : (ks.take (i + 1)).foldl (fun o y => g y o) out = g y ((ks.take i).foldl (fun o y => g y o) out) := by
  rw [List.take_add_one, h]
  simp [List.foldl_append]
theorem ints_at0' {W : World} {q : Option Addr} {kc kl : Nat} {zs : List Int} (h : Ints W (.slice q kl kc) zs) (t : Nat) (z : Int) (hz : zs[t]? = some z) : ∃ b o, q = some ⟨b, o, none⟩ ∧ W.cell? ⟨b, o + t, none⟩ = some (.int .i64 z) ∧ b < W.heap.size := by
  have ht := (List.getElem?_eq_some_iff.1 hz).1
  obtain ⟨_, ⟨a, cap, e, rfl⟩ | ⟨b, off, cap, e, hc⟩⟩ := h
  · simp at ht
  · injection e with e1 e2 e3
    have := hc t ht
    rw [hz] at this
    exact ⟨b, off, e1, this, cell_lt this⟩
set_option maxRecDepth 100000 in
set_option maxHeartbeats 2000000 in
theorem order_rec (b off cap m : Nat) (ns : List Nd) (w0 : World) (hm : ns.length = m) (h1 : 1 ≤ m) (h2 : m ≤ 65536) (hP : PageAt w0 (.slice (some ⟨b, off, none⟩) m cap) ns) (hK : ∀ n ∈ ns, n.ks.length ≤ 70000)
    (hL : ∀ n ∈ ns, ∀ z ∈ n.ks, 0 ≤ z ∧ z < (m : Int)) :
    ∀ (f : Nat) (z : Int) (out : List Int) (v : Value) (w : World), 0 ≤ z → z < (m : Int) → m + 2 ≤ f + out.length → out.length ≤ m + 1 → Below w0.heap.size w0 w → OwnI w0.heap.size w v out →
      Calls Try.prog 19 #[.slice (some ⟨b, off, none⟩) m cap, .int .i64 z, v] w (OrdPost w0 (ordD (kfOf ns) m f z out)) := by
  have HC : Hid (∀ (j : Nat) (n : Nd), ns[j]? = some n → w0.cell? ⟨b, off + j * 34 + 1, none⟩ = some n.kv ∧ Ints w0 n.kv n.ks ∧ b < w0.heap.size) := Lib.hid (by
    obtain ⟨b', off', e, _, hc⟩ := page_cells hP h1
    injection e with e; injection e with e1 e2
    subst e1 e2
    exact fun j n hn => (hc j n hn).2)
  have HM := Lib.hid hm
  have HKF := Lib.hid hK
  have HLI := Lib.hid hL
  clear hm hK hL hP
  intro f
  induction f with
  | zero => intro z out v w _ _ h3 h4; omega
  | succ f ih =>
    intro z out v w hz0 hz1 hf ho hB hO
    obtain ⟨j, rfl⟩ : ∃ j : Nat, z = (j : Int) := ⟨z.toNat, by omega⟩
    have hjm : j < m := by omega
    obtain ⟨p, c, rfl⟩ := (ints_own hO).1.form
    unfold OwnI at hO
    obtain ⟨k, hk⟩ : ∃ k, out.length = k := ⟨_, rfl⟩
    rw [hk] at hO hf ho ⊢
    by_cases hmk : m < k
    · have e : ordD (kfOf ns) m (f + 1) j out = out := by unfold ordD; rw [if_pos (by omega)]
      rw [e]
      have hO' : Hid (OwnI w0.heap.size w (.slice p k c) out) := Lib.hid (by unfold OwnI; rw [hk]; exact hO)
      have HB := Lib.hid hB
      clear hO hB ih e hk
      go_enter Try.func19, Try.ntmps19
      go_wp2
      go_ret
      exact ⟨_, rfl, hO'.out, HB.out⟩
    · obtain ⟨n, hn⟩ : ∃ n, ns[j]? = some n := ⟨_, List.getElem?_eq_getElem (by rw [HM.out]; exact hjm)⟩
      have hmem : n ∈ ns := List.mem_iff_getElem?.2 ⟨j, hn⟩
      have e : ordD (kfOf ns) m (f + 1) j out = n.ks.foldl (fun o y => ordD (kfOf ns) m f y o) (out ++ [(j : Int)]) := by
        conv => lhs; unfold ordD
        rw [if_neg (by omega)]
        unfold kfOf
        rw [Int.toNat_natCast, hn]; rfl
      rw [e]
      obtain ⟨cv0, hI, hb0⟩ := HC.out j n hn
      have hfew := HKF.out n hmem
      obtain ⟨qk, ck, hkv⟩ := hI.form
      rw [hkv] at cv0 hI
      obtain ⟨kl, hkl⟩ : ∃ kl, n.ks.length = kl := ⟨_, rfl⟩
      rw [hkl] at cv0 hfew hI
      have HI := Lib.hid hI
      have HKL := Lib.hid hkl
      have HLN := Lib.hid (HLI.out n hmem)
      have HO := Lib.hid hO
      have HB := Lib.hid hB
      have HO2 : Hid (out.length = k) := Lib.hid hk
      have IH := Lib.hid ih
      have hsz := hB.size
      clear hn hmem hI hkv hkl hO hB hk ih e
      obtain ⟨i0, hi0, hz0', hz1', hz2'⟩ := info_parts Try.infoInt
      have HZ1 := Lib.hid hz0'
      have HZ2 := Lib.hid hz1'
      have HZ3 := Lib.hid hz2'
      clear hz0' hz1' hz2'
      go_enter Try.func19, Try.ntmps19
      go_wp2_with (at_builtin; refine wpList_append_own_at _ rfl _ _ 34 rfl w0.heap.size 3 i0 (.int .i64 0) 1 8 Try.underlying34 hi0 HZ1.out HZ2.out HZ3.out rfl (by decide) _ _ _ rfl (HO.out.alloc _) ⟨w.heap.size, 0, none⟩ 1 1 [.int .i64 (j : Int)] rfl rfl (cell_one_new _ _ _) (by simp [Value.oneCell']) (by unfold maxLen; omega) (by omega) (by simp; omega) ?_; intro v1 w1 hown1 hgrow1 _ _; have hg1 : (w.alloc (.cells #[.int .i64 (j : Int)] 3)).grownBy w1 (Value.slice p k c).ownBlock := hgrow1; have HO1 : Hid (OwnI w0.heap.size w1 v1 (out ++ [(j : Int)])) := Lib.hid (by unfold OwnI; rw [List.length_append, HO2.out, List.map_append]; exact hown1); have HB1 := Lib.hid ((HB.out.alloc hsz _).grown hg1 (by simp; omega) (fun g e => (HO.out.lt g e).1)); clear hown1 hgrow1 hg1 HO HB)
      go_loopw [2, 7] (fun s2 s7 X => ∃ (i : Nat) (o : List Int), i ≤ kl ∧ s7 = .int .i64 i ∧ Hid (o = (n.ks.take i).foldl (fun o y => ordD (kfOf ns) m f y o) (out ++ [(j : Int)])) ∧ k + 1 ≤ o.length ∧ o.length ≤ m + 1 ∧ Hid (OwnI w0.heap.size X s2 o) ∧ Hid (Below w0.heap.size w0 X)) (fun _ s7 _ => kl - (intOf s7).toNat)
      case atStart => exact ⟨0, out ++ [(j : Int)], by omega, rfl, Lib.hid rfl, by simp [HO2.out], by simp [HO2.out]; omega, HO1, HB1⟩
      case round =>
        obtain ⟨i, o, hi, rfl, HE, hlo, hhi, HOX, HBX⟩ := hrel
        have dv := (HBX.out.cell (p := ⟨b, off + j * 34 + 1, none⟩) hb0).trans cv0
        have ls := HBX.out.size
        by_cases hlt : i < kl
        · obtain ⟨z, hz⟩ : ∃ z, n.ks[i]? = some z := ⟨_, List.getElem?_eq_getElem (by rw [HKL.out]; exact hlt)⟩
          obtain ⟨qb, qo, rfl, cz, lz⟩ := ints_at0' HI.out i z hz
          have dz := (HBX.out.cell (p := ⟨qb, qo + i, none⟩) lz).trans cz
          obtain ⟨p2, c2, hv2⟩ := (ints_own HOX.out).1.form
          obtain ⟨lo, hlo2⟩ : ∃ lo, o.length = lo := ⟨_, rfl⟩
          rw [hlo2] at hlo hhi hv2
          subst hv2
          have hzr := HLN.out z (List.mem_iff_getElem?.2 ⟨i, hz⟩)
          have HZ := Lib.hid hz
          have HLO := Lib.hid hlo2
          have HZR := Lib.hid hzr
          clear hz cz hlo2 hzr
          go_wp2_with (go_at_call 19; refine (IH.out z o _ _ HZR.out.1 HZR.out.2 (by rw [HLO.out]; omega) (by rw [HLO.out]; omega) HBX.out HOX.out).mono ?_; rintro e w3 ⟨v3, rfl, o3, b3⟩; have HO3 := Lib.hid o3; have HB3 := Lib.hid b3; clear o3 b3 HOX HBX dv dz)
          have ml := ordD_mono (kfOf ns) m f z o
          have bl := ordD_bound (kfOf ns) m f z o (by rw [HLO.out]; omega)
          rw [HLO.out] at ml
          go_roundw
          case rel => exact ⟨i + 1, _, by omega, by go_num, Lib.hid (by rw [fold_snoc _ _ i z HZ.out, ← HE.out]), by omega, bl, HO3, HB3⟩
          case measure => simp [intOf]; omega
        · obtain rfl : i = kl := by omega
          clear cv0
          go_wp2
          go_ret
          refine ⟨_, rfl, ?_, HBX.out⟩
          have := HE.out
          rw [List.take_of_length_le (by rw [HKL.out]; exact Nat.le_refl _)] at this
          rw [← this]
          exact HOX.out
end Go.Proofs.Ytecnapecmioamaa
