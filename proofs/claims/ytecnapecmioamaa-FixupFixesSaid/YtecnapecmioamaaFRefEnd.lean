/- The document's Fixed (layer 5). Written by mk_FRefEnd.py. -/
import Derived.Test.YtecnapecmioamaaFRefFix
import Derived.Test.YtecnapecmioamaaFFixed
import Derived.Test.YtecnapecmioamaaFFacts
namespace Go.Proofs.Ytecnapecmioamaa
open Go.RowKit Go.Shelf Go.Maps
set_option linter.unusedVariables false
set_option linter.unusedSimpArgs false
attribute [local go_sem] Oper.semAt_some

theorem take_all {α : Type} (p : α → Bool) (l : List α) (i : Nat) (a : α) (h : l[i]? = some a) : (l.take (i + 1)).all p = ((l.take i).all p && p a) := by
  rw [List.take_add_one, h]; simp
theorem all_no {α : Type} (p : α → Bool) (l : List α) (i : Nat) (a : α) (h : l[i]? = some a) (hp : p a = false) : l.all p = false := by
  rw [List.all_eq_false]
  exact ⟨a, List.mem_of_getElem? h, by simp [hp]⟩
theorem same_ofX {ns3 ns4 : List Nd} (h : ns4.map Nd.bare = ns3.map Nd.bare) : ns4.length = ns3.length ∧ ∀ (i : Nat) (a b : Nd), ns3[i]? = some a → ns4[i]? = some b → SameNd a b := by
  refine ⟨by have := congrArg List.length h; simpa using this, fun i a b ha hb => ?_⟩
  have := congrArg (fun l => l[i]?) h
  simp only [List.getElem?_map, ha, hb, Option.map_some, Option.some.injEq] at this
  unfold Nd.bare at this
  rw [Nd.mk.injEq] at this
  obtain ⟨e1, _, e2, e3, _, e4, e5, e6⟩ := this
  exact ⟨e1, e2, e3, e4, e5, e6⟩
set_option maxRecDepth 100000 in
set_option maxHeartbeats 4000000 in
theorem refFixed_any (b off m cap : Nat) (ns : List Nd) (w : World) (hm : ns.length = m) (h2 : m ≤ 65536) (hP : PageAt w (.slice (some ⟨b, off, none⟩) m cap) ns) (h1 : 1 ≤ m) (hK : ∀ n ∈ ns, n.ks.length ≤ 70000) (hL : ∀ n ∈ ns, ∀ z ∈ n.ks, 0 ≤ z ∧ z < (m : Int)) :
    Calls Try.prog 11 #[.slice (some ⟨b, off, none⟩) m cap] w fun e X => e = .returned (.bool (fixedB ns)) ∧ Below w.heap.size w X := by
  have HPX := Lib.hid (fun X (hX : Below w.heap.size w X) => hP.below hX)
  have HAT : Hid (∀ X, Below w.heap.size w X → ∀ i n, ns[i]? = some n → NdAt X b (off + i * 34) n) := Lib.hid (fun X hX => by
    have hpg := HPX.out X hX
    obtain ⟨b', o', he, hc⟩ : ∃ b' off', (some (⟨b, off, none⟩ : Addr)) = some ⟨b', off', none⟩ ∧ ∀ i n, ns[i]? = some n → NdAt X b' (off' + i * 34) n := page_some hpg (by omega)
    injection he with he; injection he with he1 he2
    subst he1 he2
    exact hc)
  have HM := Lib.hid hm
  have HKK := Lib.hid hK
  have HLL := Lib.hid hL
  have HBAD : Hid (∀ (i : Nat) (n : Nd) (j : Nat) (z : Int), ns[i]? = some n → n.ks[j]? = some z → mayAt n.k ns z = false → fixedB ns = false) := Lib.hid (fun i n j z hn hz hp => all_no _ ns i n hn (all_no _ n.ks j z hz hp))
  clear hP hm hK hL
  go_enter Try.func11, Try.ntmps11
  go_wp2
  go_loopw [3] (fun s3 X => ∃ i : Nat, i ≤ m ∧ s3 = .int .i64 (i : Int) ∧ Hid ((ns.take i).all (fun n => n.ks.all (mayAt n.k ns)) = true) ∧ Hid (Below w.heap.size w X)) (fun s3 _ => m - (intOf s3).toNat)
  case atStart => exact ⟨0, Nat.zero_le _, rfl, Lib.hid (by simp), Lib.hid (Below.refl _ _)⟩
  case round =>
    obtain ⟨i, hi, rfl, HA, HX⟩ := hrel
    by_cases hlt : i < m
    · obtain ⟨n, hn⟩ : ∃ n, ns[i]? = some n := ⟨_, List.getElem?_eq_getElem (by rw [HM.out]; exact hlt)⟩
      have hmem := List.mem_of_getElem? hn
      obtain ⟨q, kc, hkv⟩ := ((HPX.out w (Below.refl _ _)).2.1 n hmem).1.form
      obtain ⟨kl, hkl⟩ : ∃ kl, n.ks.length = kl := ⟨_, rfl⟩
      rw [hkl] at hkv
      have hkl7 : kl ≤ 70000 := by have := HKK.out n hmem; omega
      have HF : Hid (∀ X, Below w.heap.size w X → X.cell? ⟨b, off + i * 34, none⟩ = some (.int .i64 n.k) ∧ X.cell? ⟨b, off + i * 34 + 1, none⟩ = some (.slice q kl kc)) := Lib.hid (fun X hX => by
        have e0 := HAT.out X hX i n hn 0 _ (Nd.c0 n)
        have e1 := HAT.out X hX i n hn 1 _ (Nd.c1 n)
        rw [hkv] at e1
        exact ⟨e0, e1⟩)
      have HKV := Lib.hid hkv
      have HKL := Lib.hid hkl
      have HN := Lib.hid hn
      have him : (i : Int) < (m : Int) := by omega
      have HI0 : Hid ((n.ks.take 0).all (mayAt n.k ns) = true) := Lib.hid (by simp)
      clear hn hmem hkv hkl
      go_wp2
      go_loopw [4] (fun s4 X => ∃ j : Nat, j ≤ kl ∧ s4 = .int .i64 (j : Int) ∧ Hid ((n.ks.take j).all (mayAt n.k ns) = true) ∧ Hid (Below w.heap.size w X)) (fun s4 _ => kl - (intOf s4).toNat)
      case atStart => exact ⟨0, Nat.zero_le _, rfl, HI0, HX⟩
      case round =>
        obtain ⟨j, hj, rfl, HJ, HY⟩ := hrel
        clear HI0 HX
        obtain ⟨y0, y1⟩ := HF.out _ HY.out
        have lb := cell_lt y0
        by_cases hjl : j < kl
        · obtain ⟨z, hz⟩ : ∃ z, n.ks[j]? = some z := ⟨_, List.getElem?_eq_getElem (by rw [HKL.out]; exact hjl)⟩
          have hmem := List.mem_of_getElem? HN.out
          have hzb := HLL.out n hmem z (List.mem_of_getElem? hz)
          obtain ⟨zn, rfl⟩ : ∃ zn : Nat, z = (zn : Int) := ⟨z.toNat, by omega⟩
          obtain ⟨qb, qo, rfl⟩ : ∃ qb qo, q = some ⟨qb, qo, none⟩ := by
            obtain ⟨_, ⟨a, cp, e, h0⟩ | ⟨qb, qo, cp, e, hc⟩⟩ := ((HPX.out w (Below.refl _ _)).2.1 n hmem).1
            · rw [h0] at hz; simp at hz
            · rw [HKV.out] at e; injection e with e1; exact ⟨qb, qo, e1⟩
          have HC : Hid (∀ X, Below w.heap.size w X → X.cell? ⟨qb, qo + j, none⟩ = some (.int .i64 (zn : Int)) ∧ X.cell? ⟨b, off + zn * 34, none⟩ = some (.int .i64 (kdOf ns zn))) := Lib.hid (fun X hX => by
            refine ⟨?_, ?_⟩
            · have hjk : j < n.ks.length := (List.getElem?_eq_some_iff.1 hz).1
              obtain ⟨_, ⟨a, cp, e, h0⟩ | ⟨qb2, qo2, cp2, e2, hc2⟩⟩ := ((HPX.out X hX).2.1 n hmem).1
              · rw [h0] at hz; simp at hz
              · rw [HKV.out] at e2
                injection e2 with e3
                injection e3 with e3
                injection e3 with e3 e4
                subst e3 e4
                have := hc2 j hjk
                rw [hz] at this; exact this
            · have hzl : zn < ns.length := by rw [HM.out]; omega
              have hn2 := List.getElem?_eq_getElem hzl
              have := HAT.out X hX zn _ hn2 0 _ (Nd.c0 _)
              unfold kdOf
              rw [hn2]
              simpa using this)
          have HPM : Hid (mayAt n.k ns (zn : Int) = mayP n.k (kdOf ns zn)) := Lib.hid rfl
          have HMY := Lib.hid (fun X => refMay_any n.k (kdOf ns zn) X)
          rw [← HPM.out] at HMY
          have HST := Lib.hid (take_all (mayAt n.k ns) n.ks j _ hz)
          have HNO := Lib.hid (fun h => HBAD.out i n j _ HN.out hz h)
          have hzc : (zn : Int) < (m : Int) := hzb.2
          have hjk : (j : Int) < (kl : Int) := by omega
          clear hz hmem hzb
          go_wp2_with fail
          refine region_held_atC (S := fun X => Hid (Below w.heap.size w X)) (by kernel_rfl) (fun w9 hw9 => ?_)
          have SV : Hid (Below w.heap.size w w9) := Lib.hid (HY.out.trans (hw9 ▸ below_dn _ _ _))
          clear hw9 HY y0 y1 lb
          try simp only [Act.put, List.setIfInBounds_toArray, List.set_cons_succ, List.set_cons_zero]
          refine wpAnyH_takeC (i := 0) (v := .slice (some ⟨b, off, none⟩) m cap) (some 22) rfl rfl (by kernel_rfl) (by kernel_rfl) (by kernel_rfl) (fun _ _ _ h => h) (Or.inl ⟨by rfl, ?_⟩) SV ?_
          · intro X hX; go_simp
          try simp only [Act.put, List.setIfInBounds_toArray, List.set_cons_succ, List.set_cons_zero]
          refine wpAnyH_takeC (i := 1) (v := .int .i64 (i : Int)) (some 23) rfl rfl (by kernel_rfl) (by kernel_rfl) (by kernel_rfl) (fun _ _ _ h => h) (Or.inl ⟨by rfl, ?_⟩) SV ?_
          · intro X hX; go_simp
          try simp only [Act.put, List.setIfInBounds_toArray, List.set_cons_succ, List.set_cons_zero]
          refine wpAnyH_takeC (i := 2) (v := .pointer (some ⟨b, off + i * 34, none⟩)) (some 24) rfl rfl (by kernel_rfl) (by kernel_rfl) (by kernel_rfl) (fun _ _ _ h => h) (Or.inl ⟨by rfl, ?_⟩) SV ?_
          · intro X hX; go_simp
          try simp only [Act.put, List.setIfInBounds_toArray, List.set_cons_succ, List.set_cons_zero]
          refine wpAnyH_takeC (i := 3) (v := .pointer (some ⟨b, off + i * 34, none⟩)) (some 25) rfl rfl (by kernel_rfl) (by kernel_rfl) (by kernel_rfl) (fun _ _ _ h => h) (Or.inl ⟨by rfl, ?_⟩) SV ?_
          · intro X hX; obtain ⟨y0, y1⟩ := HF.out X hX.out; have lb := cell_lt y0; go_simp
          try simp only [Act.put, List.setIfInBounds_toArray, List.set_cons_succ, List.set_cons_zero]
          refine wpAnyH_takeC (i := 4) (v := .int .i64 n.k) (some 26) rfl rfl (by kernel_rfl) (by kernel_rfl) (by kernel_rfl) (fun _ _ _ h => h) (Or.inl ⟨by rfl, ?_⟩) SV ?_
          · intro X hX; obtain ⟨y0, y1⟩ := HF.out X hX.out; have lb := cell_lt y0; go_simp
          try simp only [Act.put, List.setIfInBounds_toArray, List.set_cons_succ, List.set_cons_zero]
          refine wpAnyH_takeC (i := 5) (v := .slice (some ⟨b, off, none⟩) m cap) (some 27) rfl rfl (by kernel_rfl) (by kernel_rfl) (by kernel_rfl) (fun _ _ _ h => h) (Or.inl ⟨by rfl, ?_⟩) SV ?_
          · intro X hX; go_simp
          try simp only [Act.put, List.setIfInBounds_toArray, List.set_cons_succ, List.set_cons_zero]
          refine wpAnyH_takeC (i := 6) (v := .slice (some ⟨b, off, none⟩) m cap) (some 28) rfl rfl (by kernel_rfl) (by kernel_rfl) (by kernel_rfl) (fun _ _ _ h => h) (Or.inl ⟨by rfl, ?_⟩) SV ?_
          · intro X hX; go_simp
          try simp only [Act.put, List.setIfInBounds_toArray, List.set_cons_succ, List.set_cons_zero]
          refine wpAnyH_takeC (i := 7) (v := .int .i64 (i : Int)) (some 29) rfl rfl (by kernel_rfl) (by kernel_rfl) (by kernel_rfl) (fun _ _ _ h => h) (Or.inl ⟨by rfl, ?_⟩) SV ?_
          · intro X hX; go_simp
          try simp only [Act.put, List.setIfInBounds_toArray, List.set_cons_succ, List.set_cons_zero]
          refine wpAnyH_takeC (i := 8) (v := .pointer (some ⟨b, off + i * 34, none⟩)) (some 30) rfl rfl (by kernel_rfl) (by kernel_rfl) (by kernel_rfl) (fun _ _ _ h => h) (Or.inl ⟨by rfl, ?_⟩) SV ?_
          · intro X hX; go_simp
          try simp only [Act.put, List.setIfInBounds_toArray, List.set_cons_succ, List.set_cons_zero]
          refine wpAnyH_takeC (i := 9) (v := .pointer (some ⟨b, off + i * 34 + 1, none⟩)) (some 31) rfl rfl (by kernel_rfl) (by kernel_rfl) (by kernel_rfl) (fun _ _ _ h => h) (Or.inl ⟨by rfl, ?_⟩) SV ?_
          · intro X hX; obtain ⟨y0, y1⟩ := HF.out X hX.out; have lb := cell_lt y0; go_simp
          try simp only [Act.put, List.setIfInBounds_toArray, List.set_cons_succ, List.set_cons_zero]
          refine wpAnyH_takeC (i := 10) (v := .slice (some ⟨qb, qo, none⟩) kl kc) (some 32) rfl rfl (by kernel_rfl) (by kernel_rfl) (by kernel_rfl) (fun _ _ _ h => h) (Or.inl ⟨by rfl, ?_⟩) SV ?_
          · intro X hX; obtain ⟨y0, y1⟩ := HF.out X hX.out; have lb := cell_lt y0; go_simp
          try simp only [Act.put, List.setIfInBounds_toArray, List.set_cons_succ, List.set_cons_zero]
          refine wpAnyH_takeC (i := 11) (v := .int .i64 (j : Int)) (some 33) rfl rfl (by kernel_rfl) (by kernel_rfl) (by kernel_rfl) (fun _ _ _ h => h) (Or.inl ⟨by rfl, ?_⟩) SV ?_
          · intro X hX; go_simp
          try simp only [Act.put, List.setIfInBounds_toArray, List.set_cons_succ, List.set_cons_zero]
          refine wpAnyH_takeC (i := 12) (v := .pointer (some ⟨qb, qo + j, none⟩)) (some 34) rfl rfl (by kernel_rfl) (by kernel_rfl) (by kernel_rfl) (fun _ _ _ h => h) (Or.inl ⟨by rfl, ?_⟩) SV ?_
          · intro X hX; go_simp
          try simp only [Act.put, List.setIfInBounds_toArray, List.set_cons_succ, List.set_cons_zero]
          refine wpAnyH_takeC (i := 13) (v := .int .i64 (zn : Int)) (some 35) rfl rfl (by kernel_rfl) (by kernel_rfl) (by kernel_rfl) (fun _ _ _ h => h) (Or.inl ⟨by rfl, ?_⟩) SV ?_
          · intro X hX; obtain ⟨x0, x1⟩ := HC.out X hX.out; have lx := cell_lt x0; have lz := cell_lt x1; go_simp
          try simp only [Act.put, List.setIfInBounds_toArray, List.set_cons_succ, List.set_cons_zero]
          refine wpAnyH_takeC (i := 14) (v := .pointer (some ⟨b, off + zn * 34, none⟩)) (some 36) rfl rfl (by kernel_rfl) (by kernel_rfl) (by kernel_rfl) (fun _ _ _ h => h) (Or.inl ⟨by rfl, ?_⟩) SV ?_
          · intro X hX; go_simp
          try simp only [Act.put, List.setIfInBounds_toArray, List.set_cons_succ, List.set_cons_zero]
          refine wpAnyH_takeC (i := 15) (v := .pointer (some ⟨b, off + zn * 34, none⟩)) (some 37) rfl rfl (by kernel_rfl) (by kernel_rfl) (by kernel_rfl) (fun _ _ _ h => h) (Or.inl ⟨by rfl, ?_⟩) SV ?_
          · intro X hX; obtain ⟨x0, x1⟩ := HC.out X hX.out; have lx := cell_lt x0; have lz := cell_lt x1; go_simp
          try simp only [Act.put, List.setIfInBounds_toArray, List.set_cons_succ, List.set_cons_zero]
          refine wpAnyH_takeC (i := 16) (v := .int .i64 (kdOf ns zn)) (some 38) rfl rfl (by kernel_rfl) (by kernel_rfl) (by kernel_rfl) (fun _ _ _ h => h) (Or.inl ⟨by rfl, ?_⟩) SV ?_
          · intro X hX; obtain ⟨x0, x1⟩ := HC.out X hX.out; have lx := cell_lt x0; have lz := cell_lt x1; go_simp
          try simp only [Act.put, List.setIfInBounds_toArray, List.set_cons_succ, List.set_cons_zero]
          refine wpAnyH_all (rs := [17]) (by kernel_rfl) (by simp) ?_
          intro ii hii; obtain rfl : ii = 17 := by simpa using hii
          clear hii
          refine wpOp_step rfl (fun K hK => ?_)
          go_simp
          refine (HMY.out _).mono ?_
          rintro e w8 ⟨rfl, rfl⟩
          refine hK _ _ ⟨SV, ?_⟩
          clear hK K
          try simp only [Act.put, List.setIfInBounds_toArray, List.set_cons_succ, List.set_cons_zero]
          refine wpAnyH_takeC (i := 18) (v := .bool (mayAt n.k ns (zn : Int))) (some 5) rfl rfl (by kernel_rfl) (by kernel_rfl) (by kernel_rfl) (fun _ _ _ h => h) (Or.inl ⟨by rfl, ?_⟩) SV ?_
          · intro X hX; go_simp
          try simp only [Act.put, List.setIfInBounds_toArray, List.set_cons_succ, List.set_cons_zero]
          refine wpAnyH_done (by kernel_rfl) ?_ _
          obtain ⟨mb, hmb⟩ : ∃ mb, mb = mayAt n.k ns (zn : Int) := ⟨_, rfl⟩
          rw [← hmb] at HST HNO ⊢
          clear hmb HMY HPM HC
          cases mb with
          | true =>
            have HJ2 : Hid ((n.ks.take (j + 1)).all (mayAt n.k ns) = true) := Lib.hid (by rw [HST.out, HJ.out]; rfl)
            clear HST HNO HJ
            go_wp2
            go_roundw
            case rel => exact ⟨j + 1, by omega, by go_num, HJ2, SV⟩
            case measure => simp [intOf]; omega
          | false =>
            have HB := Lib.hid (HNO.out rfl)
            clear HST HNO HJ
            go_wp2
            go_ret
            exact ⟨by rw [HB.out]; rfl, SV.out⟩
        · obtain rfl : kl = j := by omega
          have HA2 : Hid ((ns.take (i + 1)).all (fun n => n.ks.all (mayAt n.k ns)) = true) := Lib.hid (by
            have h := HJ.out
            rw [List.take_of_length_le (by rw [HKL.out]; exact Nat.le_refl _)] at h
            rw [take_all _ ns i n HN.out, HA.out, h]; rfl)
          clear HJ HA
          go_wp2
          go_roundw
          case rel => exact ⟨i + 1, by omega, by go_num, HA2, HY⟩
          case measure => simp [intOf]; omega
    · obtain rfl : m = i := by omega
      have HE : Hid (fixedB ns = true) := Lib.hid (by
        have h := HA.out
        rwa [List.take_of_length_le (by rw [HM.out]; exact Nat.le_refl _)] at h)
      clear HA
      go_wp2
      go_ret
      exact ⟨by rw [HE.out]; rfl, HX.out⟩
end Go.Proofs.Ytecnapecmioamaa
