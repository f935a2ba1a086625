/- Of a page that Check lets be: each place is once in the order, behind its parent's; depths and parents fit. Plain data. -/
import Derived.Test.YtecnapecmioamaaTParents
namespace Go.Proofs.Ytecnapecmioamaa
open Go.RowKit Go.Shelf
set_option linter.unusedVariables false

theorem nodup_sub : ∀ (l l' : List Int), l.Nodup → (∀ x ∈ l, x ∈ l') → l.length ≤ l'.length
  | [], _, _, _ => by simp
  | a :: l, l', hn, hs => by
    obtain ⟨h1, h2⟩ := List.nodup_cons.1 hn
    have ha := hs a (by simp)
    have h3 := List.length_erase_of_mem ha
    have h4 := nodup_sub l (l'.erase a) h2 (fun x hx => (List.mem_erase_of_ne (fun e => h1 (by rw [← e]; exact hx))).2 (hs x (by simp [hx])))
    have : 0 < l'.length := List.length_pos_of_mem ha
    simp; omega
/-- the last one that was set at j -/
theorem set_get (m : Nat) (base : List Int) (hb : base.length = m) (P : List (Int × Nat)) (hP : ∀ x ∈ P, 0 ≤ x.1) (j : Nat) (hj : j < m) (q : Nat) (hq : ∀ x ∈ P, x.1 = (j : Int) → x.2 = q) :
    (P.foldl (fun ds x => ds.set x.1.toNat (x.2 : Int)) base)[j]?.getD 0 = if (∃ x ∈ P, x.1 = (j : Int)) then (q : Int) else base[j]?.getD 0 := by
  induction P generalizing base with
  | nil => simp
  | cons x P ih =>
    simp only [List.foldl_cons]
    rw [ih (base.set x.1.toNat (x.2 : Int)) (by simpa using hb) (fun y hy => hP y (by simp [hy])) (fun y hy => hq y (by simp [hy]))]
    by_cases h1 : ∃ y ∈ P, y.1 = (j : Int)
    · rw [if_pos h1, if_pos (by obtain ⟨y, hy, e⟩ := h1; exact ⟨y, by simp [hy], e⟩)]
    · rw [if_neg h1]
      by_cases h2 : x.1 = (j : Int)
      · rw [if_pos ⟨x, by simp, h2⟩, h2, show ((j : Int)).toNat = j by omega, List.getElem?_set_self (by omega), hq x (by simp) h2]; rfl
      · have h0 := hP x (by simp)
        rw [List.getElem?_set_ne (by omega), if_neg]
        rintro ⟨y, hy, e⟩
        rcases List.mem_cons.1 hy with rfl | hy
        · exact h2 e
        · exact h1 ⟨y, hy, e⟩
theorem count_unique {P : List (Int × Nat)} {z : Int} (h : (P.map Prod.fst).count z = 1) : ∀ x ∈ P, ∀ y ∈ P, x.1 = z → y.1 = z → x = y := by
  induction P with
  | nil => intro x hx; cases hx
  | cons a P ih =>
    intro x hx y hy ex ey
    rw [List.map_cons, List.count_cons] at h
    by_cases ha : a.1 = z
    · rw [if_pos (by simpa using ha)] at h
      have h0 : (P.map Prod.fst).count z = 0 := by omega
      have hn : z ∉ P.map Prod.fst := List.count_eq_zero.1 h0
      rcases List.mem_cons.1 hx with rfl | hx
      · rcases List.mem_cons.1 hy with rfl | hy
        · rfl
        · exact absurd (List.mem_map.2 ⟨y, hy, ey⟩) hn
      · exact absurd (List.mem_map.2 ⟨x, hx, ex⟩) hn
    · rw [if_neg (by simpa using ha)] at h
      have hx' : x ∈ P := by rcases List.mem_cons.1 hx with rfl | hx; exact absurd ex ha; exact hx
      have hy' : y ∈ P := by rcases List.mem_cons.1 hy with rfl | hy; exact absurd ey ha; exact hy
      exact ih (by omega) x hx' y hy' ex ey
theorem pairs_fst (ns : List Nd) : (pairsOf ns).map Prod.fst = kidsOf ns := by
  unfold pairsOf kidsOf
  rw [List.map_flatMap]
  have : ∀ (l : List Nd) (k : Nat), (l.zipIdx k).flatMap (fun a => (a.1.ks.map fun z => (z, a.2)).map Prod.fst) = l.flatMap Nd.ks := by
    intro l
    induction l with
    | nil => intro k; rfl
    | cons a l ih => intro k; rw [List.zipIdx_cons, List.flatMap_cons, List.flatMap_cons, ih, List.map_map, show (Prod.fst ∘ fun z : Int => (z, k)) = id from rfl, List.map_id]
  exact this ns 0
theorem pairs_mem {ns : List Nd} {z : Int} {q : Nat} (h : (z, q) ∈ pairsOf ns) : ∃ n, ns[q]? = some n ∧ z ∈ n.ks := by
  unfold pairsOf at h
  obtain ⟨⟨n, i⟩, h1, h2⟩ := List.mem_flatMap.1 h
  obtain ⟨z', h3, e⟩ := List.mem_map.1 h2
  injection e with e1 e2
  subst e1 e2
  exact ⟨n, by simpa using List.mem_zipIdx_iff_getElem?.1 h1, h3⟩
theorem mem_pairs {ns : List Nd} {z : Int} {q : Nat} {n : Nd} (h : ns[q]? = some n) (hz : z ∈ n.ks) : (z, q) ∈ pairsOf ns :=
  List.mem_flatMap.2 ⟨(n, q), List.mem_zipIdx_iff_getElem?.2 (by simpa using h), List.mem_map.2 ⟨z, hz, rfl⟩⟩
/-- what holds of the three lists -/
structure Ords (m : Nat) (o d p : List Int) : Prop where
  lo : o.length = m
  ld : d.length = m
  lp : p.length = m
  rng : ∀ z ∈ o, 0 ≤ z ∧ z < (m : Int)
  nd : o.Nodup
  o0 : o[0]? = some 0
  d0 : d[0]? = some 1
  p0 : p[0]? = some (-1)
  all : ∀ i : Nat, i < m → (i : Int) ∈ o
  up : ∀ (k : Nat) (i : Nat), o[k]? = some (i : Int) → 1 ≤ i → ∃ j q e : Nat, j < k ∧ o[j]? = some (q : Int) ∧ q < m ∧ p[i]?.getD 0 = (q : Int) ∧ d[q]?.getD 0 = (e : Int) ∧ d[i]?.getD 0 = (e : Int) + 1 ∧ e + 1 ≤ 64
/-- what holds of the three lists, however deep -/
structure Ords0 (m : Nat) (o d p : List Int) : Prop where
  lo : o.length = m
  ld : d.length = m
  lp : p.length = m
  rng : ∀ z ∈ o, 0 ≤ z ∧ z < (m : Int)
  nd : o.Nodup
  o0 : o[0]? = some 0
  d0 : d[0]? = some 1
  p0 : p[0]? = some (-1)
  all : ∀ i : Nat, i < m → (i : Int) ∈ o
  up : ∀ (k : Nat) (i : Nat), o[k]? = some (i : Int) → 1 ≤ i → ∃ j q e : Nat, j < k ∧ o[j]? = some (q : Int) ∧ q < m ∧ p[i]?.getD 0 = (q : Int) ∧ d[q]?.getD 0 = (e : Int) ∧ d[i]?.getD 0 = (e : Int) + 1
/-- a page without strays -/
structure NoStray (ns : List Nd) : Prop where
  len1 : 1 ≤ ns.length
  link : ∀ n ∈ ns, ∀ z ∈ n.ks, 1 ≤ z ∧ z < (ns.length : Int)
  stray : ((tms ns.length (kidsOf ns)).zip (depthsP ns)).any strayB = false
theorem ords0 {ns : List Nd} (F : NoStray ns) : Ords0 ns.length ((walkL ns.length (kfOf ns)).map Prod.fst) (depthsP ns) (parentsP ns) := by
  have hki := kids_in F.link
  obtain ⟨vis, st, hr, hn⟩ := walk_facts F.len1 hki
  have hg := hr.good F.len1 hki
  have hvis := hr.vis
  have hup := hr.up
  obtain ⟨xs, hxs⟩ : ∃ xs, walkL ns.length (kfOf ns) = xs := ⟨_, rfl⟩
  have hd : depthsP ns = depL ns.length xs := by unfold depthsP; rw [hxs]
  rw [hxs] at hr hvis hup ⊢
  have hnd : (xs.map Prod.fst).Nodup := by have := hg.nd; rw [hvis] at this; exact (List.reverse_perm _).nodup_iff.1 this
  have hrng : ∀ z ∈ xs.map Prod.fst, 0 ≤ z ∧ z < (ns.length : Int) := fun z hz => hg.vrng z (by rw [hvis]; simpa using hz)
  have hx0 : ∀ x ∈ xs, 0 ≤ x.1 := fun x hx => (hrng x.1 (List.mem_map.2 ⟨x, hx, rfl⟩)).1
  have hone : ∀ x ∈ xs, ∀ y ∈ xs, x.1 = y.1 → x = y := fun x hx y hy e => by
    refine count_unique (P := xs) (z := y.1) ?_ x hx y hy e rfl
    rw [hnd.count, if_pos (List.mem_map.2 ⟨y, hy, rfl⟩)]
  have hdep : ∀ x ∈ xs, (depL ns.length xs)[x.1.toNat]?.getD 0 = (x.2 : Int) := fun x hx => by
    have hb := hrng x.1 (List.mem_map.2 ⟨x, hx, rfl⟩)
    have := set_get ns.length (List.replicate ns.length 0) (by simp) xs hx0 x.1.toNat (by omega) x.2 (fun y hy e => by rw [hone y hy x hx (by omega)])
    rw [if_pos ⟨x, hx, by omega⟩] at this
    exact this
  have hzip : ∀ j, j < ns.length → (tms ns.length (kidsOf ns))[j]?.getD 0 = 1 ∧ (depL ns.length xs)[j]?.getD 0 ≠ 0 := fun j hj => by
    have h := F.stray
    rw [List.any_eq_false] at h
    have h1 : j < (tms ns.length (kidsOf ns)).length := by rw [tms_len]; exact hj
    have h2 : j < (depthsP ns).length := by rw [hd, depL_len]; exact hj
    have h3 := h ((tms ns.length (kidsOf ns))[j], (depthsP ns)[j]) (List.mem_iff_getElem?.2 ⟨j, by rw [List.getElem?_eq_getElem (by simp; omega)]; simp⟩)
    simp [strayB] at h3
    rw [List.getElem?_eq_getElem h1, ← hd, List.getElem?_eq_getElem h2]
    exact h3
  have hall : ∀ j : Nat, j < ns.length → ∃ x ∈ xs, x.1 = (j : Int) := fun j hj => by
    apply Classical.byContradiction
    intro hno
    apply (hzip j hj).2
    have := set_get ns.length (List.replicate ns.length 0) (by simp) xs hx0 j hj 0 (fun y hy e => absurd ⟨y, hy, e⟩ hno)
    rw [if_neg hno] at this
    unfold depL
    rw [this]; simp [hj]
  have hlen : xs.length = ns.length := by
    have h1 := nodup_le ns.length _ hnd hrng
    have h2 := nodup_sub ((List.range ns.length).map Int.ofNat) (xs.map Prod.fst) (by
      rw [List.nodup_iff_pairwise_ne, List.pairwise_map]
      exact (List.nodup_range (n := ns.length)).imp fun h e => h (by injection e)) (fun z hz => by
      obtain ⟨j, hj, rfl⟩ := List.mem_map.1 hz
      obtain ⟨x, hx, e⟩ := hall j (by simpa using hj)
      exact List.mem_map.2 ⟨x, hx, e⟩)
    simp at h1 h2
    omega
  have hx0' : xs[0]? = some ((0 : Int), 1) := by
    have h0 : 0 < xs.length := by have := F.len1; omega
    obtain ⟨z, d, e⟩ : ∃ z d, xs[0]? = some (z, d) := ⟨_, _, List.getElem?_eq_getElem h0⟩
    rcases hup 0 z d e with ⟨_, rfl, rfl⟩ | ⟨j, _, _, hj, _⟩
    · exact e
    · omega
  refine ⟨by simp [hlen], by rw [hd, depL_len], by unfold parentsP; rw [parL_len], hrng, hnd, by rw [List.getElem?_map, hx0']; rfl, ?_, ?_, (fun i hi => by obtain ⟨x, hx, e⟩ := hall i hi; exact List.mem_map.2 ⟨x, hx, e⟩), ?_⟩
  · have := hdep _ (List.mem_iff_getElem?.2 ⟨0, hx0'⟩)
    rw [hd, List.getElem?_eq_getElem (by rw [depL_len]; exact F.len1)]
    simp only [Int.toNat_zero] at this
    rw [List.getElem?_eq_getElem (by rw [depL_len]; exact F.len1)] at this
    simpa using this
  · have hp0 : ∀ x ∈ pairsOf ns, 0 ≤ x.1 := fun x hx => by
      obtain ⟨n, h1, h2⟩ := pairs_mem (z := x.1) (q := x.2) hx
      have := F.link n (List.mem_iff_getElem?.2 ⟨_, h1⟩) _ h2
      omega
    have := set_get ns.length ((List.replicate ns.length 0).set 0 (-1)) (by simp) (pairsOf ns) hp0 0 F.len1 0 (fun x hx e => by
      obtain ⟨n, h1, h2⟩ := pairs_mem (z := x.1) (q := x.2) hx
      have := F.link n (List.mem_iff_getElem?.2 ⟨_, h1⟩) _ h2
      omega)
    rw [if_neg (by
      rintro ⟨x, hx, e⟩
      obtain ⟨n, h1, h2⟩ := pairs_mem (z := x.1) (q := x.2) hx
      have := F.link n (List.mem_iff_getElem?.2 ⟨_, h1⟩) _ h2
      omega)] at this
    have hl : 0 < (parentsP ns).length := by unfold parentsP; rw [parL_len]; exact F.len1
    rw [List.getElem?_eq_getElem hl]
    have h2 : (parentsP ns)[0]?.getD 0 = -1 := by
      unfold parentsP parL
      rw [this, List.getElem?_set_self (by simp; exact F.len1)]; rfl
    rw [List.getElem?_eq_getElem hl] at h2
    simpa using h2
  · intro k i hk hi
    rw [List.getElem?_map] at hk
    obtain ⟨⟨z, dz⟩, hk', e⟩ := Option.map_eq_some_iff.1 hk
    dsimp only at e
    subst e
    have hkm : ((i : Int), dz) ∈ xs := List.mem_iff_getElem?.2 ⟨k, hk'⟩
    rcases hup k (i : Int) dz hk' with ⟨_, h0, _⟩ | ⟨j, q, e, hjk, hj, hqk, hde⟩
    · omega
    · have hjm : (q, e) ∈ xs := List.mem_iff_getElem?.2 ⟨j, hj⟩
      have hqr := hrng q (List.mem_map.2 ⟨_, hjm, rfl⟩)
      obtain ⟨qn, rfl⟩ : ∃ qn : Nat, q = (qn : Int) := ⟨q.toNat, by omega⟩
      have him : i < ns.length := by have := hrng (i : Int) (List.mem_map.2 ⟨_, hkm, rfl⟩); omega
      have d1 := hdep _ hkm
      have d2 := hdep _ hjm
      dsimp only at d1 d2
      rw [show ((i : Int)).toNat = i by omega] at d1
      rw [show ((qn : Int)).toNat = qn by omega] at d2
      refine ⟨j, qn, e, hjk, by rw [List.getElem?_map, hj]; rfl, by omega, ?_, by rw [hd, d2], by rw [hd, d1, hde]; simp⟩
      · unfold kfOf at hqk
        rw [show ((qn : Int)).toNat = qn by omega] at hqk
        cases hnq : ns[qn]? with
        | none => rw [hnq] at hqk; simp at hqk
        | some nq =>
          rw [hnq] at hqk
          simp at hqk
          have hpm := mem_pairs hnq hqk
          have hcnt : ((pairsOf ns).map Prod.fst).count (i : Int) = 1 := by
            have h1 := (hzip i him).1
            rw [tms_get ns.length _ (fun z hz => by
              unfold kidsOf at hz
              obtain ⟨n', hn', hz'⟩ := List.mem_flatMap.1 hz
              have := F.link n' hn' z hz'
              omega) i him, if_neg (by omega)] at h1
            rw [pairs_fst]; omega
          have hp0 : ∀ x ∈ pairsOf ns, 0 ≤ x.1 := fun x hx => by
            obtain ⟨n, h1, h2⟩ := pairs_mem (z := x.1) (q := x.2) hx
            have := F.link n (List.mem_iff_getElem?.2 ⟨_, h1⟩) _ h2
            omega
          have := set_get ns.length ((List.replicate ns.length 0).set 0 (-1)) (by simp) (pairsOf ns) hp0 i him qn (fun x hx ex => by rw [count_unique hcnt x hx _ hpm ex rfl])
          rw [if_pos ⟨_, hpm, rfl⟩] at this
          exact this
theorem ords {ns : List Nd} (F : Fine ns) : Ords ns.length ((walkL ns.length (kfOf ns)).map Prod.fst) (depthsP ns) (parentsP ns) := by
  have h := ords0 (ns := ns) ⟨F.len1, F.link, F.stray⟩
  refine ⟨h.lo, h.ld, h.lp, h.rng, h.nd, h.o0, h.d0, h.p0, h.all, fun k i hk hi => ?_⟩
  obtain ⟨j, q, e, h1, h2, h3, h4, h5, h6⟩ := h.up k i hk hi
  refine ⟨j, q, e, h1, h2, h3, h4, h5, h6, ?_⟩
  have hdp := F.deep
  rw [List.any_eq_false] at hdp
  have hl : i < (depthsP ns).length := by have := (h.rng (i : Int) (List.mem_iff_getElem?.2 ⟨k, hk⟩)).2; rw [h.ld]; omega
  have h7 := hdp (depthsP ns)[i] (List.getElem_mem hl)
  rw [List.getElem?_eq_getElem hl] at h6
  simp [deepB] at h6 h7
  omega
end Go.Proofs.Ytecnapecmioamaa
