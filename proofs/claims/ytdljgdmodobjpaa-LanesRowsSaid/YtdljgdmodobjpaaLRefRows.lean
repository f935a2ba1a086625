/- The document's Rows of a table. Written by program (mk_LRefRows.py). -/
import Derived.Test.YtdljgdmodobjpaaLDoc
namespace Go.Proofs.Ytdljgdmodobjpaa
open Go.RowKit Go.Shelf
set_option linter.unusedVariables false
set_option linter.unusedSimpArgs false
attribute [local go_sem] Oper.semAt_some

/-- three lists that lie apart -/
def Own3 (B : Nat) (X : World) (a b c : Value) (H D F : List (Int × Int)) : Prop :=
  OwnL B X a H ∧ OwnL B X b D ∧ OwnL B X c F ∧ (∀ g, b.ownBlock = some g → a.ownBlock ≠ some g ∧ c.ownBlock ≠ some g) ∧ (∀ g, a.ownBlock = some g → c.ownBlock ≠ some g)
theorem OwnL.belowQ {B : Nat} {X Y : World} {v : Value} {E : List (Int × Int)} (h : OwnL B X v E) (hb : Below X.heap.size X Y) : OwnL B Y v E := own_same34 h fun g e => hb.block g (h.lt g e).2
theorem Own3.nil (B : Nat) (X : World) : Own3 B X (.slice none 0 0) (.slice none 0 0) (.slice none 0 0) [] [] [] :=
  ⟨World.ownsRow_nil _ _ _ _, World.ownsRow_nil _ _ _ _, World.ownsRow_nil _ _ _ _, (fun g h => (by cases h)), (fun g h => (by cases h))⟩
theorem Own3.below {B : Nat} {X Y : World} {a b c : Value} {H D F : List (Int × Int)} (h : Own3 B X a b c H D F) (hb : Below X.heap.size X Y) : Own3 B Y a b c H D F := ⟨h.1.belowQ hb, h.2.1.belowQ hb, h.2.2.1.belowQ hb, h.2.2.2⟩
theorem Own3.head {B : Nat} {X Y : World} {a b c v : Value} {H D F E : List (Int × Int)} (h : Own3 B X a b c H D F) (hb : Below X.heap.size X Y) (hv : OwnL X.heap.size Y v E) (hB : B ≤ X.heap.size) : Own3 B Y v b c E D F := by
  refine ⟨hv.mono hB, h.2.1.belowQ hb, h.2.2.1.belowQ hb, fun g hg => ⟨fun e => ?_, (h.2.2.2.1 g hg).2⟩, fun g hg e => ?_⟩
  · have h1 := (h.2.1.lt g hg).2; have h2 := (hv.lt g e).1; omega
  · have h1 := (h.2.2.1.lt g e).2; have h2 := (hv.lt g hg).1; omega
theorem Own3.foot {B : Nat} {X Y : World} {a b c v : Value} {H D F E : List (Int × Int)} (h : Own3 B X a b c H D F) (hb : Below X.heap.size X Y) (hv : OwnL X.heap.size Y v E) (hB : B ≤ X.heap.size) : Own3 B Y a b v H D E := by
  refine ⟨h.1.belowQ hb, h.2.1.belowQ hb, hv.mono hB, fun g hg => ⟨(h.2.2.2.1 g hg).1, fun e => ?_⟩, fun g hg e => ?_⟩
  · have h1 := (h.2.1.lt g hg).2; have h2 := (hv.lt g e).1; omega
  · have h1 := (h.1.lt g hg).2; have h2 := (hv.lt g e).1; omega
theorem kept_row {B e size n : Nat} {X Y : World} {v : Value} {xs : List Value} {row : Option Nat} (h : X.ownsRow B e size v n xs) (hg : X.grownBy Y row) (hn : ∀ g, row = some g → v.ownBlock ≠ some g) : Y.ownsRow B e size v n xs := by
  refine h.kept hg ?_
  cases hv : v.ownBlock with
  | none => exact .inl rfl
  | some g => exact .inr (fun e => hn g e.symm hv)
theorem Own3.app {B n : Nat} {X Y : World} {a b c v : Value} {H D F E : List (Int × Int)} (h : Own3 B X a b c H D F) (hn : n = D.length + E.length) (hv : Y.ownsRow B 43 2 v n (D.flatMap encL ++ E.flatMap encL)) (hg : X.grownBy Y b.ownBlock) (hb : v.ownBlock = b.ownBlock ∨ v.ownBlock = some X.heap.size) : Own3 B Y a v c H (D ++ E) F := by
  refine ⟨kept_row h.1 hg fun g e => (h.2.2.2.1 g e).1, ?_, kept_row h.2.2.1 hg fun g e => (h.2.2.2.1 g e).2, fun g e => ?_, h.2.2.2.2⟩
  · unfold OwnL; rw [List.length_append, List.flatMap_append, ← hn]; exact hv
  · rcases hb with hb | hb
    · exact h.2.2.2.1 g (by rw [← hb]; exact e)
    · rw [hb] at e
      injection e with e
      exact ⟨fun e' => by have := (h.1.lt g e').2; omega, fun e' => by have := (h.2.2.1.lt g e').2; omega⟩
theorem own_srcQ {B : Nat} {X : World} {v : Value} {E : List (Int × Int)} (h : OwnL B X v E) : ∃ q c, v = .slice q E.length c ∧ (q = none → E.length = 0) ∧ ∀ a, q = some a → ∀ j u, (E.flatMap encL)[j]? = some u → X.cell? (a.add j) = some u := by
  have hc := fun g (hg : v.ownBlock = some g) => World.ownsRow.cells h hg
  rcases h.2 with ⟨rfl, h0⟩ | ⟨g, cap, cur, rfl, _⟩
  · exact ⟨none, 0, by rw [h0], (fun _ => h0), (fun a ha => (by cases ha))⟩
  · exact ⟨some ⟨g, 0, none⟩, cap, rfl, (fun e => (by cases e)), (fun a ha j u hj => (by injection ha with ha; subst ha; exact hc g rfl j u hj))⟩
theorem own_cellsQ {B e size n l c : Nat} {X : World} {q : Option Addr} {xs : List Value} (h : X.ownsRow B e size (.slice q l c) n xs) : ∀ a, q = some a → ∀ j u, xs[j]? = some u → X.cell? (a.add j) = some u := by
  have hc := fun g (hg : (Value.slice q l c).ownBlock = some g) => World.ownsRow.cells h hg
  intro a ha j u hj
  subst ha
  rcases h.2 with ⟨e, h0⟩ | ⟨g, cap, cur, e, _⟩
  · cases e
  · injection e with e1
    injection e1 with e1
    subst e1
    exact hc g rfl j u hj
theorem lanes_one (E : List (Int × Int)) : ∀ u ∈ E.flatMap encL, u.oneCell' = true := fun u hu => by
  obtain ⟨x, _, hx⟩ := List.mem_flatMap.1 hu
  simp [encL] at hx
  rcases hx with rfl | rfl <;> rfl
theorem lanes_len (E : List (Int × Int)) : (E.flatMap encL).length = E.length * 2 := by
  induction E with
  | nil => rfl
  | cons x E ih => rw [List.flatMap_cons, List.length_append, ih]; simp [encL]; omega
theorem dr_len {ns : List Nd} (hO : PageOk ns) (ks : List Int) : ∀ k, k ≤ ks.length → (drOf ns (ks.take k)).body.length ≤ 70000 * k ∧ (drOf ns (ks.take k)).head.length ≤ 70000 ∧ (drOf ns (ks.take k)).foot.length ≤ 70000 ∧ (drOf ns (ks.take k)).nh ≤ k ∧ (drOf ns (ks.take k)).nf ≤ k
  | 0, _ => by simp [drOf, DR.zero]
  | k + 1, hk => by
    obtain ⟨h1, h2, h3, h4, h5⟩ := dr_len hO ks k (by omega)
    obtain ⟨z, hz⟩ : ∃ z, ks[k]? = some z := ⟨_, List.getElem?_eq_getElem (by omega)⟩
    rw [dr_snoc ns ks k z hz]
    have hf := fnd_one_few hO z
    unfold drStep
    split
    · refine ⟨?_, h2, h3, by dsimp only; omega, by dsimp only; omega⟩; simp; omega
    · split
      · split
        · exact ⟨by simp; omega, hf, h3, by dsimp only; omega, by dsimp only; omega⟩
        · refine ⟨?_, h2, h3, by dsimp only; omega, by dsimp only; omega⟩; simp; omega
      · split
        · split
          · exact ⟨by simp; omega, h2, hf, by dsimp only; omega, by dsimp only; omega⟩
          · refine ⟨?_, h2, h3, by dsimp only; omega, by dsimp only; omega⟩; simp; omega
        · split
          · refine ⟨?_, h2, h3, by dsimp only; omega, by dsimp only; omega⟩; simp; omega
          · exact ⟨by omega, h2, h3, by omega, by omega⟩
set_option maxRecDepth 100000 in
set_option maxHeartbeats 8000000 in
theorem refRows_at (b off cap m p : Nat) (ns : List Nd) (w : World) (hO : PageOk ns) (hm : ns.length = m) (hp : p < m) (h2 : m ≤ 65536) (hP : PageAt w (.slice (some ⟨b, off, none⟩) m cap) ns) (hK : ∀ n ∈ ns, n.ks.length ≤ 70000)
    (hL : ∀ n ∈ ns, ∀ z ∈ n.ks, 0 ≤ z ∧ z < (m : Int)) (hd : (kfOf ns (p : Int)).Nodup) :
    Calls Try.prog 16 #[.slice (some ⟨b, off, none⟩) m cap, .int .i64 p] w fun e W' => ∃ v, e = .returned v ∧ OwnL w.heap.size W' v (rowsP ns p) ∧ Below w.heap.size w W' := by
  obtain ⟨n, hn⟩ : ∃ n, ns[p]? = some n := ⟨_, List.getElem?_eq_getElem (by rw [hm]; exact hp)⟩
  have hmem : n ∈ ns := List.mem_iff_getElem?.2 ⟨p, hn⟩
  have hkf := kindK_ge ns p hn
  have hR := dr_rows ns (p : Int) hd
  rw [hkf] at hR
  rw [← hR]
  have HDL := Lib.hid (dr_len hO n.ks)
  have HFW := Lib.hid (fun z => fnd_one_few hO z)
  have HGR : Hid (∀ X : World, Below w.heap.size w X → ∀ g : Nat, g < m → Calls Try.prog 32 #[.slice (some ⟨b, off, none⟩) m cap, .int .i64 g] X fun e W' => ∃ v, e = .returned v ∧ OwnL X.heap.size W' v (fndP ns 9 [(g : Int)]) ∧ Below X.heap.size X W') :=
    Lib.hid fun X hX g hg => refGroup_at b off cap m g ns X hm hg h2 (hP.below hX) hK hL
  have hc : w.cell? ⟨b, off + p * 34 + 1, none⟩ = some n.kv ∧ Ints w n.kv n.ks ∧ b < w.heap.size := by
    obtain ⟨b', off', e, _, hc⟩ := page_cells hP (by omega)
    injection e with e; injection e with e1 e2
    subst e1 e2
    exact (hc p n hn).2
  obtain ⟨ck, hI, hb0⟩ := hc
  have hfew := hK n hmem
  have HLN := Lib.hid (hL n hmem)
  obtain ⟨qk, kc, hkv⟩ := hI.form
  rw [hkv] at ck hI
  obtain ⟨kl, hkl⟩ : ∃ kl, n.ks.length = kl := ⟨_, rfl⟩
  rw [hkl] at ck hfew hI
  have HI := Lib.hid hI
  have HKL := Lib.hid hkl
  have HCK := Lib.hid ck
  have HP := Lib.hid hP
  obtain ⟨i0, hi0, hz0', hz1', hz2'⟩ := info_parts Try.infoLane
  have HZ1 := Lib.hid hz0'
  have HZ2 := Lib.hid hz1'
  have HZ3 := Lib.hid hz2'
  clear hz0' hz1' hz2' hm hK hL hP hn hmem hI hkl ck hkv hkf hR hd hO
  go_enter Try.func16, Try.ntmps16
  go_wp2
  go_loopw [5, 6, 7, 8, 9, 10] (fun s5 s6 s7 s8 s9 s10 X => ∃ (k nh nf : Nat) (H D F : List (Int × Int)), k ≤ kl ∧ nh ≤ k ∧ nf ≤ k ∧ D.length ≤ 70000 * k ∧ s10 = .int .i64 k ∧ s8 = .int .i64 nh ∧ s9 = .int .i64 nf ∧ Hid (drOf ns (n.ks.take k) = ⟨H, D, F, nh, nf⟩) ∧ Hid (Own3 w.heap.size X s5 s6 s7 H D F) ∧ Hid (Below w.heap.size w X)) (fun _ _ _ _ _ s10 _ => kl - (intOf s10).toNat)
  case atStart => exact ⟨0, 0, 0, [], [], [], by omega, by omega, by omega, by simp, rfl, rfl, rfl, Lib.hid rfl, Lib.hid (Own3.nil _ _), Lib.hid (Below.refl _ _)⟩
  case round =>
    obtain ⟨k, nh, nf, H, D, F, hk, hnh, hnf, hDl, rfl, rfl, rfl, HS, HO, HB⟩ := hrel
    have dck := (HB.out.cell (p := ⟨b, off + p * 34 + 1, none⟩) hb0).trans HCK.out
    have hsz := HB.out.size
    by_cases hlt : k < kl
    · obtain ⟨y, hy⟩ : ∃ y, n.ks[k]? = some y := ⟨_, List.getElem?_eq_getElem (by rw [HKL.out]; exact hlt)⟩
      obtain ⟨qb, qo, rfl, cy, ly⟩ := ints_at0' HI.out k y hy
      have dcy := (HB.out.cell (p := ⟨qb, qo + k, none⟩) ly).trans cy
      obtain ⟨yr0, yr1⟩ := HLN.out y (List.mem_iff_getElem?.2 ⟨k, hy⟩)
      obtain ⟨yn, rfl⟩ : ∃ yn : Nat, y = (yn : Int) := ⟨y.toNat, by omega⟩
      have ckd := kd_at (HP.out.below HB.out) yn (by omega)
      have hs := dr_snoc ns n.ks k (yn : Int) hy
      rw [HS.out] at hs
      obtain ⟨hl1, _, _, hl4, hl5⟩ := HDL.out (k + 1) (by rw [HKL.out]; omega)
      have HG := HGR.out wr HB.out yn (by omega)
      have hfw := HFW.out (yn : Int)
      have HGG := Lib.hid HG
      unfold drStep at hs
      rw [Int.toNat_natCast] at hs
      clear hy cy HS HG
      by_cases k9 : kdOf ns yn = 9
      · rw [k9] at ckd
        rw [if_pos k9] at hs
        rw [hs] at hl1
        simp only at hl1
        clear HGG hl4 hl5 k9
        have hEE : True := trivial
        have O1 := Lib.hid (HO.out.below ((Below.refl _ wr).alloc (Nat.le_refl _) (.cells #[.int .i64 (yn : Int), .int .i64 (-1)] 43)))
        have B1 := Lib.hid (HB.out.alloc hsz (.cells #[.int .i64 (yn : Int), .int .i64 (-1)] 43))
        clear HO
        go_wp2_with (at_builtin; refine wpList_append_any rfl _ _ 25 rfl w.heap.size 43 i0 (.agg #[.int .i64 0, .int .i64 0]) 2 16 Try.underlying25 hi0 HZ1.out HZ2.out HZ3.out rfl (by decide) _ _ _ rfl O1.out.2.1 (some ⟨wr.heap.size, 0, none⟩) 1 1 ([((yn : Int), (-1 : Int))].flatMap encL) rfl rfl (fun h => by cases h) (fun a ha j u hj => by injection ha with ha; subst ha; exact lay_new wr [.int .i64 (yn : Int), .int .i64 (-1)] 43 wr.heap.size rfl j u hj) (lanes_one _) (by unfold maxLen; omega) (by omega) B1.out.size ?_; intro v2 w2 ho2 hg2 hv2; have O2 := Lib.hid (O1.out.app (E := [((yn : Int), (-1 : Int))]) rfl ho2 hg2 hv2); have B2 := Lib.hid (B1.out.grown hg2 B1.out.size (fun g e => (O1.out.2.1.lt g e).1)); clear ho2 hg2 hv2 O1 B1 HB)
        go_roundw
        case rel => exact ⟨k + 1, nh, nf, _, _, _, by omega, by omega, by omega, hl1, by go_num, by go_num, by go_num, Lib.hid hs, O2, B2⟩
        case measure => (simp [intOf]; try omega)
      · by_cases k6 : kdOf ns yn = 6
        · rw [k6] at ckd
          rw [if_neg k9, if_pos k6] at hs
          by_cases h0 : nh = 0
          · subst h0
            rw [if_pos rfl] at hs
            rw [hs] at hl1
            simp only at hl1
            have hEE : True := trivial
            clear k9 k6
            go_wp2_with (go_at_call 32; refine HGG.out.mono ?_; clear HGG; rintro e w1 ⟨v1, rfl, o1, b1⟩; have O2 := Lib.hid (HO.out.head b1 o1 HB.out.size); have B2 := Lib.hid (HB.out.trans (b1.mono HB.out.size)); clear o1 b1 HO HB)
            go_roundw
            case rel => exact ⟨k + 1, 0 + 1, nf, _, _, _, by omega, by omega, by omega, hl1, by go_num, by go_num, by go_num, Lib.hid hs, O2, B2⟩
            case measure => (simp [intOf]; try omega)
          · have g0 : ((nh : Int) == 0) = false := by simp; omega
            rw [if_neg h0] at hs
            rw [hs] at hl1
            simp only at hl1
            clear k9 k6
            go_wp2_with (first
              | (go_at_call 32; refine HGG.out.mono ?_; clear HGG; rintro e w1 ⟨v1, rfl, o1, b1⟩; obtain ⟨q1, c1, hv1, n1, s1⟩ := own_srcQ o1; subst hv1; have O1 := Lib.hid (HO.out.below b1); have B1 := Lib.hid (HB.out.trans (b1.mono HB.out.size)); have S1 := Lib.hid s1; clear o1 b1 s1 HO HB; generalize hEE : fndP ns 9 [(yn : Int)] = E at *)
              | (at_builtin; refine wpList_append_any rfl _ _ 25 rfl w.heap.size 43 i0 (.agg #[.int .i64 0, .int .i64 0]) 2 16 Try.underlying25 hi0 HZ1.out HZ2.out HZ3.out rfl (by decide) _ _ _ rfl O1.out.2.1 q1 E.length c1 (E.flatMap encL) rfl (lanes_len E) n1 S1.out (lanes_one E) (by unfold maxLen; omega) (by omega) B1.out.size ?_; intro v2 w2 ho2 hg2 hv2; have O2 := Lib.hid (O1.out.app rfl ho2 hg2 hv2); have B2 := Lib.hid (B1.out.grown hg2 B1.out.size (fun g e => (O1.out.2.1.lt g e).1)); clear ho2 hg2 hv2 O1 B1 S1 n1))
            go_roundw
            case rel => exact ⟨k + 1, nh + 1, nf, _, _, _, by omega, by omega, by omega, hl1, by go_num, by go_num, by go_num, Lib.hid hs, O2, B2⟩
            case measure => (simp [intOf]; try omega)
        · by_cases k8 : kdOf ns yn = 8
          · rw [k8] at ckd
            rw [if_neg k9, if_neg k6, if_pos k8] at hs
            by_cases h0 : nf = 0
            · subst h0
              rw [if_pos rfl] at hs
              rw [hs] at hl1
              simp only at hl1
              have hEE : True := trivial
              clear k9 k6 k8
              go_wp2_with (go_at_call 32; refine HGG.out.mono ?_; clear HGG; rintro e w1 ⟨v1, rfl, o1, b1⟩; have O2 := Lib.hid (HO.out.foot b1 o1 HB.out.size); have B2 := Lib.hid (HB.out.trans (b1.mono HB.out.size)); clear o1 b1 HO HB)
              go_roundw
              case rel => exact ⟨k + 1, nh, 0 + 1, _, _, _, by omega, by omega, by omega, hl1, by go_num, by go_num, by go_num, Lib.hid hs, O2, B2⟩
              case measure => (simp [intOf]; try omega)
            · have g0 : ((nf : Int) == 0) = false := by simp; omega
              rw [if_neg h0] at hs
              rw [hs] at hl1
              simp only at hl1
              clear k9 k6 k8
              go_wp2_with (first
                | (go_at_call 32; refine HGG.out.mono ?_; clear HGG; rintro e w1 ⟨v1, rfl, o1, b1⟩; obtain ⟨q1, c1, hv1, n1, s1⟩ := own_srcQ o1; subst hv1; have O1 := Lib.hid (HO.out.below b1); have B1 := Lib.hid (HB.out.trans (b1.mono HB.out.size)); have S1 := Lib.hid s1; clear o1 b1 s1 HO HB; generalize hEE : fndP ns 9 [(yn : Int)] = E at *)
                | (at_builtin; refine wpList_append_any rfl _ _ 25 rfl w.heap.size 43 i0 (.agg #[.int .i64 0, .int .i64 0]) 2 16 Try.underlying25 hi0 HZ1.out HZ2.out HZ3.out rfl (by decide) _ _ _ rfl O1.out.2.1 q1 E.length c1 (E.flatMap encL) rfl (lanes_len E) n1 S1.out (lanes_one E) (by unfold maxLen; omega) (by omega) B1.out.size ?_; intro v2 w2 ho2 hg2 hv2; have O2 := Lib.hid (O1.out.app rfl ho2 hg2 hv2); have B2 := Lib.hid (B1.out.grown hg2 B1.out.size (fun g e => (O1.out.2.1.lt g e).1)); clear ho2 hg2 hv2 O1 B1 S1 n1))
              go_roundw
              case rel => exact ⟨k + 1, nh, nf + 1, _, _, _, by omega, by omega, by omega, hl1, by go_num, by go_num, by go_num, Lib.hid hs, O2, B2⟩
              case measure => (simp [intOf]; try omega)
          · by_cases k7 : kdOf ns yn = 7
            · rw [k7] at ckd
              rw [if_neg k9, if_neg k6, if_neg k8, if_pos k7] at hs
              rw [hs] at hl1
              simp only at hl1
              clear k9 k6 k8 k7
              go_wp2_with (first
                | (go_at_call 32; refine HGG.out.mono ?_; clear HGG; rintro e w1 ⟨v1, rfl, o1, b1⟩; obtain ⟨q1, c1, hv1, n1, s1⟩ := own_srcQ o1; subst hv1; have O1 := Lib.hid (HO.out.below b1); have B1 := Lib.hid (HB.out.trans (b1.mono HB.out.size)); have S1 := Lib.hid s1; clear o1 b1 s1 HO HB; generalize hEE : fndP ns 9 [(yn : Int)] = E at *)
                | (at_builtin; refine wpList_append_any rfl _ _ 25 rfl w.heap.size 43 i0 (.agg #[.int .i64 0, .int .i64 0]) 2 16 Try.underlying25 hi0 HZ1.out HZ2.out HZ3.out rfl (by decide) _ _ _ rfl O1.out.2.1 q1 E.length c1 (E.flatMap encL) rfl (lanes_len E) n1 S1.out (lanes_one E) (by unfold maxLen; omega) (by omega) B1.out.size ?_; intro v2 w2 ho2 hg2 hv2; have O2 := Lib.hid (O1.out.app rfl ho2 hg2 hv2); have B2 := Lib.hid (B1.out.grown hg2 B1.out.size (fun g e => (O1.out.2.1.lt g e).1)); clear ho2 hg2 hv2 O1 B1 S1 n1))
              go_roundw
              case rel => exact ⟨k + 1, nh, nf, _, _, _, by omega, by omega, by omega, hl1, by go_num, by go_num, by go_num, Lib.hid hs, O2, B2⟩
              case measure => (simp [intOf]; try omega)
            · rw [if_neg k9, if_neg k6, if_neg k8, if_neg k7] at hs
              rw [hs] at hl1
              simp only at hl1
              have g9 : (kdOf ns yn == 9) = false := by simpa using k9
              have g6 : (kdOf ns yn == 6) = false := by simpa using k6
              have g8 : (kdOf ns yn == 8) = false := by simpa using k8
              have g7 : (kdOf ns yn == 7) = false := by simpa using k7
              clear k9 k6 k8 k7 HGG
              have O2 := HO
              have B2 := HB
              go_wp2
              go_roundw
              case rel => exact ⟨k + 1, nh, nf, _, _, _, by omega, by omega, by omega, hl1, by go_num, rfl, rfl, Lib.hid hs, O2, B2⟩
              case measure => (simp [intOf]; try omega)
    · obtain rfl : kl = k := by omega
      have hs := HS.out
      rw [List.take_of_length_le (by rw [HKL.out]; exact Nat.le_refl _)] at hs
      obtain ⟨_, hlh, hlf, _, _⟩ := HDL.out kl (by rw [HKL.out]; exact Nat.le_refl _)
      rw [HS.out] at hlh hlf
      simp only at hlh hlf
      have HS2 := Lib.hid hs
      obtain ⟨q6, c6, hv6, n6, s6⟩ := own_srcQ HO.out.2.1
      obtain ⟨q7, c7, hv7, n7, s7⟩ := own_srcQ HO.out.2.2.1
      subst hv6 hv7
      have S6 := Lib.hid s6
      clear s6 s7 HS hs
      go_wp2_with (first
        | (at_builtin; refine wpList_append_any rfl _ _ 25 rfl w.heap.size 43 i0 (.agg #[.int .i64 0, .int .i64 0]) 2 16 Try.underlying25 hi0 HZ1.out HZ2.out HZ3.out rfl (by decide) _ _ _ rfl HO.out.1 q6 D.length c6 (D.flatMap encL) rfl (lanes_len D) n6 S6.out (lanes_one D) (by unfold maxLen; omega) (by omega) HB.out.size ?_; intro v2 w2 ho2 hg2 hv2; have O7 := Lib.hid (kept_row HO.out.2.2.1 hg2 (fun g e => HO.out.2.2.2.2 g e)); have S7 := Lib.hid (own_cellsQ O7.out); have O2 := Lib.hid ho2; have B2 := Lib.hid (HB.out.grown hg2 HB.out.size (fun g e => (HO.out.1.lt g e).1)); clear ho2 hg2 hv2 S6 HO HB)
        | (at_builtin; refine wpList_append_any rfl _ _ 25 rfl w.heap.size 43 i0 (.agg #[.int .i64 0, .int .i64 0]) 2 16 Try.underlying25 hi0 HZ1.out HZ2.out HZ3.out rfl (by decide) _ _ _ rfl O2.out q7 F.length c7 (F.flatMap encL) rfl (lanes_len F) n7 S7.out (lanes_one F) (by unfold maxLen; omega) (by omega) B2.out.size ?_; intro v3 w3 ho3 hg3 hv3; have O3 := Lib.hid ho3; have B3 := Lib.hid (B2.out.grown hg3 B2.out.size (fun g e => (O2.out.lt g e).1)); clear ho3 hg3 hv3 S7 O2 B2 O7))
      go_ret
      refine ⟨_, rfl, ?_, B3.out⟩
      rw [HS2.out]
      unfold OwnL
      simp only
      rw [List.length_append, List.length_append, List.flatMap_append, List.flatMap_append]
      exact O3.out
end Go.Proofs.Ytdljgdmodobjpaa
