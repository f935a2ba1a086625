/- purflinglaw05.met, a function that calls itself: its contract on a page that is a tree. -/
/- What fixing does to each node: those that were there keep all but their kids; new ones have no style, some kids, and are rows, cells or tables. Plain data. -/
/- A load of a whole value in a region that draws (still steps). -/
import Derived.Test.YtilighhccjdceaaTRec
import Derived.Test.YtilighhccjdceaaTNode
import Derived.StillTail
import Derived.StillTactics
namespace Go.Proofs.Ytilighhccjdceaa
open Go.RowKit Go.Shelf
set_option linter.unusedVariables false
attribute [local go_sem] Oper.semAt_some

theorem low_take (n0 : Nat) (g : Int → List Int) (ks : List Int) (i : Nat) (y : Int) (h : ks[i]? = some y) : lowL n0 ((ks.take (i + 1)).flatMap g) = lowL n0 ((ks.take i).flatMap g) ++ lowL n0 (g y) := by
  rw [List.take_add_one, h, List.flatMap_append]
  unfold lowL
  rw [List.filter_append]
  simp
theorem low_le (n0 : Nat) (g : Int → List Int) (ks : List Int) (i : Nat) : (lowL n0 ((ks.take i).flatMap g)).length ≤ (lowL n0 (ks.flatMap g)).length := by
  have e : ks.flatMap g = (ks.take i).flatMap g ++ (ks.drop i).flatMap g := by rw [← List.flatMap_append, List.take_append_drop]
  rw [e]
  unfold lowL
  rw [List.filter_append, List.length_append]; omega
set_option maxRecDepth 100000 in
set_option maxHeartbeats 2000000 in
theorem met_rec (b off cap m first : Nat) (ns : List Nd) (w0 : World) (hm : ns.length = m) (h1 : 1 ≤ m) (h2 : m ≤ 65536) (hf1 : first ≤ 65536) (hP : PageAt w0 (.slice (some ⟨b, off, none⟩) m cap) ns) (hK : ∀ n ∈ ns, n.ks.length ≤ 70000)
    (hL : ∀ n ∈ ns, ∀ z ∈ n.ks, 0 ≤ z ∧ z < (m : Int)) :
    ∀ (f : Nat) (z : Int) (out : List Int) (v : Value) (w : World), 0 ≤ z → z < (m : Int) → okF (kfOf ns) f z → out.length + (lowL first (expD (kfOf ns) f z)).length ≤ first → Below w0.heap.size w0 w → OwnI w0.heap.size w v out →
      Calls Try.prog 26 #[.slice (some ⟨b, off, none⟩) m cap, .int .i64 z, .int .i64 first, v] w (OrdPost w0 (out ++ lowL first (expD (kfOf ns) f z))) := by
  have HC : Hid (∀ (j : Nat) (n : Nd), ns[j]? = some n → w0.cell? ⟨b, off + j * 34 + 1, none⟩ = some n.kv ∧ Ints w0 n.kv n.ks ∧ b < w0.heap.size) := Lib.hid (by
    obtain ⟨b', off', e, _, hc⟩ := page_cells hP h1
    injection e with e; injection e with e1 e2
    subst e1 e2
    exact fun j n hn => (hc j n hn).2)
  have HM := Lib.hid hm
  have HKF := Lib.hid hK
  have HLI := Lib.hid hL
  clear hm hK hL hP
  intro f
  induction f with
  | zero => intro z out v w _ _ h3; exact h3.elim
  | succ f ih =>
    intro z out v w hz0 hz1 hf ho hB hO
    obtain ⟨j, rfl⟩ : ∃ j : Nat, z = (j : Int) := ⟨z.toNat, by omega⟩
    have hjm : j < m := by omega
    obtain ⟨p, c, rfl⟩ := (ints_own hO).1.form
    unfold OwnI at hO
    obtain ⟨n, hn⟩ : ∃ n, ns[j]? = some n := ⟨_, List.getElem?_eq_getElem (by rw [HM.out]; exact hjm)⟩
    have hmem : n ∈ ns := List.mem_iff_getElem?.2 ⟨j, hn⟩
    have ek : kfOf ns (j : Int) = n.ks := by
      unfold kfOf
      rw [Int.toNat_natCast, hn]; rfl
    have hok : ∀ y ∈ n.ks, okF (kfOf ns) f y := fun y hy => hf y (by rw [ek]; exact hy)
    have e : expD (kfOf ns) (f + 1) j = (j : Int) :: n.ks.flatMap (expD (kfOf ns) f) := by rw [expD, ek]
    rw [e] at ho ⊢
    obtain ⟨k, hk⟩ : ∃ k, out.length = k := ⟨_, rfl⟩
    rw [hk] at hO ho ⊢
    obtain ⟨cv0, hI, hb0⟩ := HC.out j n hn
    have hfew := HKF.out n hmem
    obtain ⟨qk, ck, hkv⟩ := hI.form
    rw [hkv] at cv0 hI
    obtain ⟨kl, hkl⟩ : ∃ kl, n.ks.length = kl := ⟨_, rfl⟩
    rw [hkl] at cv0 hfew hI
    have HI := Lib.hid hI
    have HKL := Lib.hid hkl
    have HLN := Lib.hid (HLI.out n hmem)
    have HO := Lib.hid hO
    have HB := Lib.hid hB
    have HO2 : Hid (out.length = k) := Lib.hid hk
    have IH := Lib.hid ih
    have HOK := Lib.hid hok
    have hsz := hB.size
    clear hn hmem hI hkv hkl hO hB hk ih e ek hok hf
    by_cases hjf : j < first
    · have el : lowL first ((j : Int) :: n.ks.flatMap (expD (kfOf ns) f)) = (j : Int) :: lowL first (n.ks.flatMap (expD (kfOf ns) f)) := by
        unfold lowL
        rw [List.filter_cons, if_pos (by simpa using hjf)]
      rw [el] at ho ⊢
      rw [List.length_cons] at ho
      have HTO : Hid (k + 1 + (lowL first (n.ks.flatMap (expD (kfOf ns) f))).length ≤ first) := Lib.hid (by omega)
      have hkf : k < first := by omega
      have gd : decide (first < k) = false := by simp; omega
      clear el ho
      obtain ⟨i0, hi0, hz0', hz1', hz2'⟩ := info_parts Try.infoInt
      have HZ1 := Lib.hid hz0'
      have HZ2 := Lib.hid hz1'
      have HZ3 := Lib.hid hz2'
      clear hz0' hz1' hz2'
      go_enter Try.func26, Try.ntmps26
      go_wp2_with (at_builtin; refine wpList_append_own_at _ rfl _ _ 29 rfl w0.heap.size 3 i0 (.int .i64 0) 1 8 Try.underlying29 hi0 HZ1.out HZ2.out HZ3.out rfl (by decide) _ _ _ rfl (HO.out.alloc _) ⟨w.heap.size, 0, none⟩ 1 1 [.int .i64 (j : Int)] rfl rfl (cell_one_new _ _ _) (by simp [Value.oneCell']) (by unfold maxLen; omega) (by omega) (by simp; omega) ?_; intro v1 w1 hown1 hgrow1 _ _; have hg1 : (w.alloc (.cells #[.int .i64 (j : Int)] 3)).grownBy w1 (Value.slice p k c).ownBlock := hgrow1; have HO1 : Hid (OwnI w0.heap.size w1 v1 (out ++ [(j : Int)])) := Lib.hid (by unfold OwnI; rw [List.length_append, HO2.out, List.map_append]; exact hown1); have HB1 := Lib.hid ((HB.out.alloc hsz _).grown hg1 (by simp; omega) (fun g e => (HO.out.lt g e).1)); clear hown1 hgrow1 hg1 HO HB)
      go_loopw [3, 9] (fun s3 s8 X => ∃ (i : Nat) (o : List Int), i ≤ kl ∧ s8 = .int .i64 i ∧ Hid (o = (out ++ [(j : Int)]) ++ lowL first ((n.ks.take i).flatMap (expD (kfOf ns) f))) ∧ o.length ≤ first ∧ Hid (OwnI w0.heap.size X s3 o) ∧ Hid (Below w0.heap.size w0 X)) (fun _ s8 _ => kl - (intOf s8).toNat)
      case atStart => exact ⟨0, (out ++ [(j : Int)]), by omega, rfl, Lib.hid (by simp [lowL]), by simp [HO2.out]; omega, HO1, HB1⟩
      case round =>
        obtain ⟨i, o, hi, rfl, HE, hhi, HOX, HBX⟩ := hrel
        have dv := (HBX.out.cell (p := ⟨b, off + j * 34 + 1, none⟩) hb0).trans cv0
        have ls := HBX.out.size
        by_cases hlt : i < kl
        · obtain ⟨z, hz⟩ : ∃ z, n.ks[i]? = some z := ⟨_, List.getElem?_eq_getElem (by rw [HKL.out]; exact hlt)⟩
          obtain ⟨qb, qo, rfl, cz, lz⟩ := ints_at0' HI.out i z hz
          have dz := (HBX.out.cell (p := ⟨qb, qo + i, none⟩) lz).trans cz
          obtain ⟨p2, c2, hv2⟩ := (ints_own HOX.out).1.form
          obtain ⟨lo, hlo2⟩ : ∃ lo, o.length = lo := ⟨_, rfl⟩
          rw [hlo2] at hhi hv2
          subst hv2
          have hzr := HLN.out z (List.mem_iff_getElem?.2 ⟨i, hz⟩)
          obtain ⟨zn, rfl⟩ : ∃ zn : Nat, z = (zn : Int) := ⟨z.toNat, by omega⟩
          have hzm : zn < m := by omega
          have HZK := Lib.hid (HOK.out _ (List.mem_iff_getElem?.2 ⟨i, hz⟩))
          have hle : Hid (o.length + (lowL first (expD (kfOf ns) f (zn : Int))).length ≤ first) := Lib.hid (by
            have a := low_le first (expD (kfOf ns) f) n.ks (i + 1)
            rw [low_take first _ _ i _ hz, List.length_append] at a
            have b := HTO.out
            have c := congrArg List.length HE.out
            rw [List.length_append] at c
            have d := HO2.out
            try simp only [List.length_append, List.length_singleton] at c
            omega)
          have HZ := Lib.hid hz
          have HLO := Lib.hid hlo2
          clear hz cz hlo2 hzr
          go_wp2_with (go_at_call 26; refine (IH.out (zn : Int) o _ _ (by omega) (by omega) HZK.out hle.out HBX.out HOX.out).mono ?_; rintro e w3 ⟨v3, rfl, o3, b3⟩; have HO3 := Lib.hid o3; have HB3 := Lib.hid b3; clear o3 b3 HOX HBX dv dz)
          go_roundw
          case rel => exact ⟨i + 1, _, by omega, by go_num, Lib.hid (by rw [low_take _ _ _ i _ HZ.out, ← List.append_assoc, ← HE.out]), by rw [List.length_append]; exact hle.out, HO3, HB3⟩
          case measure => simp [intOf]; omega
        · obtain rfl : i = kl := by omega
          clear cv0
          go_wp2
          go_ret
          refine ⟨_, rfl, ?_, HBX.out⟩
          have := HE.out
          rw [List.take_of_length_le (by rw [HKL.out]; exact Nat.le_refl _)] at this
          have e9 : out ++ ((j : Int) :: lowL first (n.ks.flatMap (expD (kfOf ns) f))) = o := by first | (rw [this]; done) | (rw [this]; simp)
          rw [e9]
          exact HOX.out
    · have el : lowL first ((j : Int) :: n.ks.flatMap (expD (kfOf ns) f)) = lowL first (n.ks.flatMap (expD (kfOf ns) f)) := by
        unfold lowL
        rw [List.filter_cons, if_neg (by simpa using hjf)]
      rw [el] at ho ⊢
      have HTO : Hid (k + (lowL first (n.ks.flatMap (expD (kfOf ns) f))).length ≤ first) := Lib.hid (by omega)
      have hkf : k ≤ first := by omega
      have gd : decide (first < k) = false := by simp; omega
      clear el ho
      have HO1 : Hid (OwnI w0.heap.size w (.slice p k c) out) := Lib.hid (by unfold OwnI; rw [HO2.out]; exact HO.out)
      have HB1 := HB
      clear HO HB
      go_enter Try.func26, Try.ntmps26
      go_wp2
      go_loopw [3, 9] (fun s3 s8 X => ∃ (i : Nat) (o : List Int), i ≤ kl ∧ s8 = .int .i64 i ∧ Hid (o = out ++ lowL first ((n.ks.take i).flatMap (expD (kfOf ns) f))) ∧ o.length ≤ first ∧ Hid (OwnI w0.heap.size X s3 o) ∧ Hid (Below w0.heap.size w0 X)) (fun _ s8 _ => kl - (intOf s8).toNat)
      case atStart => exact ⟨0, out, by omega, rfl, Lib.hid (by simp [lowL]), by simp [HO2.out]; omega, HO1, HB1⟩
      case round =>
        obtain ⟨i, o, hi, rfl, HE, hhi, HOX, HBX⟩ := hrel
        have dv := (HBX.out.cell (p := ⟨b, off + j * 34 + 1, none⟩) hb0).trans cv0
        have ls := HBX.out.size
        by_cases hlt : i < kl
        · obtain ⟨z, hz⟩ : ∃ z, n.ks[i]? = some z := ⟨_, List.getElem?_eq_getElem (by rw [HKL.out]; exact hlt)⟩
          obtain ⟨qb, qo, rfl, cz, lz⟩ := ints_at0' HI.out i z hz
          have dz := (HBX.out.cell (p := ⟨qb, qo + i, none⟩) lz).trans cz
          obtain ⟨p2, c2, hv2⟩ := (ints_own HOX.out).1.form
          obtain ⟨lo, hlo2⟩ : ∃ lo, o.length = lo := ⟨_, rfl⟩
          rw [hlo2] at hhi hv2
          subst hv2
          have hzr := HLN.out z (List.mem_iff_getElem?.2 ⟨i, hz⟩)
          obtain ⟨zn, rfl⟩ : ∃ zn : Nat, z = (zn : Int) := ⟨z.toNat, by omega⟩
          have hzm : zn < m := by omega
          have HZK := Lib.hid (HOK.out _ (List.mem_iff_getElem?.2 ⟨i, hz⟩))
          have hle : Hid (o.length + (lowL first (expD (kfOf ns) f (zn : Int))).length ≤ first) := Lib.hid (by
            have a := low_le first (expD (kfOf ns) f) n.ks (i + 1)
            rw [low_take first _ _ i _ hz, List.length_append] at a
            have b := HTO.out
            have c := congrArg List.length HE.out
            rw [List.length_append] at c
            have d := HO2.out
            try simp only [List.length_append, List.length_singleton] at c
            omega)
          have HZ := Lib.hid hz
          have HLO := Lib.hid hlo2
          clear hz cz hlo2 hzr
          go_wp2_with (go_at_call 26; refine (IH.out (zn : Int) o _ _ (by omega) (by omega) HZK.out hle.out HBX.out HOX.out).mono ?_; rintro e w3 ⟨v3, rfl, o3, b3⟩; have HO3 := Lib.hid o3; have HB3 := Lib.hid b3; clear o3 b3 HOX HBX dv dz)
          go_roundw
          case rel => exact ⟨i + 1, _, by omega, by go_num, Lib.hid (by rw [low_take _ _ _ i _ HZ.out, ← List.append_assoc, ← HE.out]), by rw [List.length_append]; exact hle.out, HO3, HB3⟩
          case measure => simp [intOf]; omega
        · obtain rfl : i = kl := by omega
          clear cv0
          go_wp2
          go_ret
          refine ⟨_, rfl, ?_, HBX.out⟩
          have := HE.out
          rw [List.take_of_length_le (by rw [HKL.out]; exact Nat.le_refl _)] at this
          have e9 : out ++ lowL first (n.ks.flatMap (expD (kfOf ns) f)) = o := by first | (rw [this]; done) | (rw [this]; simp)
          rw [e9]
          exact HOX.out
end Go.Proofs.Ytilighhccjdceaa

namespace Go.Proofs.Ytilighhccjdceaa
open Go.RowKit Go.Shelf
set_option linter.unusedVariables false

structure OldOf (a a' : Nd) : Prop where
  k : a'.k = a.k
  ws : a'.ws = a.ws
  h : a'.h = a.h
structure NewOf (a : Nd) : Prop where
  s : a.s = newSty
  ks : a.ks ≠ []
  k : a.k = 2 ∨ a.k = 9 ∨ a.k = 10
theorem fix_get {ns : List Nd} (h : Way ns) (i j : Nat) (a : Nd) (ha : (fixB ns i)[j]? = some a) : (j < ns.length ∧ ∃ a0, ns[j]? = some a0 ∧ OldOf a0 a ∧ a.s = a0.s ∧ (a0.ks ≠ [] → a.ks ≠ [])) ∨ (ns.length ≤ j ∧ NewOf a) := by
  cases hi : ns[i]? with
  | none =>
    have : fixB ns i = ns := by unfold fixB; rw [hi]
    rw [this] at ha
    exact .inl ⟨(List.getElem?_eq_some_iff.1 ha).1, a, ha, ⟨rfl, rfl, rfl⟩, rfl, id⟩
  | some n =>
    have hn := List.mem_iff_getElem?.2 ⟨i, hi⟩
    have hil := (List.getElem?_eq_some_iff.1 hi).1
    have e : fixB ns i = ns.set i { n with ks := (FK (mayAt n.k ns) ns.length n.ks).1 } ++ (FK (mayAt n.k ns) ns.length n.ks).2.1.map (newNd n.k) := by unfold fixB; rw [hi]
    have hrun := FK_run (mayAt n.k ns) ns.length n.ks
    have hne := FK_ne (mayAt n.k ns) ns.length n.ks
    have hback := FK_back (mayAt n.k ns) ns.length n.ks (fun y hy => (h.kids n hn y hy).2)
    rw [e] at ha
    by_cases hj : j < ns.length
    · rw [List.getElem?_append_left (by simpa using hj)] at ha
      by_cases hji : j = i
      · subst hji
        rw [List.getElem?_set_self hil] at ha
        injection ha with ha
        subst ha
        refine .inl ⟨hj, n, hi, ⟨rfl, rfl, rfl⟩, rfl, fun hk hq => hk ?_⟩
        have hq' : (FK (mayAt n.k ns) ns.length n.ks).1 = [] := hq
        rw [hq'] at hback
        exact hback.symm
      · rw [List.getElem?_set_ne (fun e => hji e.symm)] at ha
        exact .inl ⟨hj, a, ha, ⟨rfl, rfl, rfl⟩, rfl, id⟩
    · rw [List.getElem?_append_right (by simp; omega), List.getElem?_map] at ha
      cases hq : (FK (mayAt n.k ns) ns.length n.ks).2.1[j - (ns.set i { n with ks := (FK (mayAt n.k ns) ns.length n.ks).1 }).length]? with
      | none => rw [hq] at ha; cases ha
      | some run =>
        rw [hq] at ha
        injection ha with ha
        have hr' := List.mem_iff_getElem?.2 ⟨_, hq⟩
        subst ha
        refine .inr ⟨by omega, rfl, hne run hr', ?_⟩
        obtain ⟨z, hz⟩ := List.exists_mem_of_ne_nil _ (hne run hr')
        have hz2 := (hrun run hr').2 z hz
        have hkd := h.kd z.toNat
        have h1 := h.kind n hn
        have h2 : n.k ≠ 1 := fun e => by have := h.none n hn (.inl e); rw [this] at hz2; simp at hz2
        have h3 : n.k ≠ 5 := fun e => by have := h.none n hn (.inr e); rw [this] at hz2; simp at hz2
        exact (wt_step h1.1 h1.2 h2 h3 hkd.1 hkd.2 hz2.2).2.1
theorem iter_get {B : List Nd} (h : Way B) : ∀ (t j : Nat) (a : Nd), (iterB B t)[j]? = some a → (j < B.length → ∃ a0, B[j]? = some a0 ∧ OldOf a0 a) ∧ (B.length ≤ j → NewOf a)
  | 0, j, a, ha => ⟨fun _ => ⟨a, ha, ⟨rfl, rfl, rfl⟩⟩, fun hj => by
      have := (List.getElem?_eq_some_iff.1 ha).1
      have e : (iterB B 0).length = B.length := rfl
      omega⟩
  | t + 1, j, a, ha => by
    have hl := iter_len B 0 t (by omega)
    have hl' : B.length ≤ (iterB B t).length := hl
    rcases fix_get (h.iter t) t j a ha with ⟨hj, a0, h0, ho, hs, hk⟩ | ⟨hj, hN⟩
    · have ih := iter_get h t j a0 h0
      refine ⟨fun hjb => ?_, fun hjb => ?_⟩
      · obtain ⟨b, hb, hob⟩ := ih.1 hjb
        exact ⟨b, hb, ⟨ho.k.trans hob.k, ho.ws.trans hob.ws, ho.h.trans hob.h⟩⟩
      · have hn := ih.2 hjb
        exact ⟨hs.trans hn.s, hk hn.ks, by rw [ho.k]; exact hn.k⟩
    · exact ⟨fun hjb => by omega, fun _ => hN⟩
theorem keeps_of {ms ns3 : List Nd} (F : Fine ms) (hK : ∀ n ∈ ms, n.ks.length ≤ 70000) (hb : ns3.map Nd.bare = fixPg ms) : ms.length ≤ ns3.length ∧
    ∀ (j : Nat) (a : Nd), ns3[j]? = some a → (∀ a0, ms[j]? = some a0 → OldOf a0 a) ∧ (ms.length ≤ j → NewOf a) := by
  have hW := F.way hK
  have hlen : ns3.length = (fixPg ms).length := by rw [← hb, List.length_map]
  have hl := iter_len (ms.map compB) 0 ((ms.map compB).length + 3 * (kidsOf (ms.map compB)).length) (by omega)
  have e0 : (iterB (ms.map compB) 0).length = ms.length := by show (ms.map compB).length = _; rw [List.length_map]
  refine ⟨by rw [hlen, ← e0]; exact hl, fun j a ha => ?_⟩
  have hj : (iterB (ms.map compB) ((ms.map compB).length + 3 * (kidsOf (ms.map compB)).length))[j]? = some a.bare := by
    have : iterB (ms.map compB) ((ms.map compB).length + 3 * (kidsOf (ms.map compB)).length) = ns3.map Nd.bare := hb.symm
    rw [this, List.getElem?_map, ha]; rfl
  have hg := iter_get hW _ j a.bare hj
  refine ⟨fun a0 h0 => ?_, fun hm => ?_⟩
  · obtain ⟨b, hb', ho⟩ := hg.1 (by rw [List.length_map]; exact (List.getElem?_eq_some_iff.1 h0).1)
    rw [List.getElem?_map, h0] at hb'
    injection hb' with hb'
    subst hb'
    exact ⟨ho.k, ho.ws, ho.h⟩
  · have hn := hg.2 (by rw [List.length_map]; exact hm)
    exact ⟨hn.s, hn.ks, hn.k⟩
end Go.Proofs.Ytilighhccjdceaa

namespace Go.Proofs.Ytilighhccjdceaa
open Go.RowKit Go.Shelf
set_option linter.unusedVariables false

theorem wpStill_load_at {P : Program} {ops : Array Oper} {rest : List Oper} {o : Oper} {a : Act} {w : World} {Q : Act → Prop} (hgd : o.guard = none) (ty : TypeId) (x : Operand) (ho : o.op = .load ty x)
    (p : Addr) (hx : a.eval x = .pointer (some p)) (cs : Array Value) (d : TypeDesc) (hc : ∀ j v, cs[j]? = some v → w.cell? (p.add j) = some v)
    (hu : P.underlying ty = some d) (hd : (match d with | .struct _ | .array _ _ => true | _ => false) = true) (hi : (P.info? ty).map (·.size) = some cs.size)
    (h : wpStill P ops w Q rest (a.put o.dst (.agg cs))) : wpStill P ops w Q (o :: rest) a := by
  refine wpStill_step (fun K hK => ?_)
  rw [if_pos (by simp [Region.wanted, hgd])]
  unfold Oper.still execOp
  simp only [ho, hx, Instr.loadAt, Instr.sureAddr, Sem.run_bind, Sem.run_pure, Result.andThen_ok, run_loadVar_at w p ty cs d hc hu hd hi]
  exact ⟨rfl, hK _ h⟩
theorem wpStill_bin {P : Program} {ops : Array Oper} {rest : List Oper} {o : Oper} {a : Act} {w : World} {Q : Act → Prop} (hgd : o.guard = none) (b : BinOp) (t t2 : TypeId) (x y : Operand) (ho : o.op = .binOp b t x y t2)
    (u v r : Value) (hx : a.eval x = u) (hy : a.eval y = v) (he : (eqGuard b t x y u v).run P w = .ok () w) (hr : (binOp b t u v).run P w = .ok r w)
    (h : wpStill P ops w Q rest (a.put o.dst r)) : wpStill P ops w Q (o :: rest) a := by
  refine wpStill_step (fun K hK => ?_)
  rw [if_pos (by simp [Region.wanted, hgd])]
  unfold Oper.still execOp
  simp only [ho, hx, hy, Sem.run_bind, Sem.run_pure, Result.andThen_ok, he, hr]
  exact ⟨rfl, hK _ h⟩
theorem wpList_bin {P : Program} {ops : Array Oper} {rest : List Oper} {o : Oper} {a : Act} {w : World} {Q : Exit → Act → World → Prop} (hgd : o.guard = none) (b : BinOp) (t t2 : TypeId) (x y : Operand) (ho : o.op = .binOp b t x y t2)
    (u v r : Value) (hx : a.eval x = u) (hy : a.eval y = v) (he : (eqGuard b t x y u v).run P w = .ok () w) (hr : (binOp b t u v).run P w = .ok r w)
    (h : wpList P ops Q rest (a.put o.dst r) w) : wpList P ops Q (o :: rest) a w :=
  wpList_plain hgd fun K hK => by
    unfold Oper.wp execOp
    simp only [ho, hx, hy, Sem.run_bind, Sem.run_pure, Result.andThen_ok, he, hr]
    exact hK _ _ h
end Go.Proofs.Ytilighhccjdceaa
