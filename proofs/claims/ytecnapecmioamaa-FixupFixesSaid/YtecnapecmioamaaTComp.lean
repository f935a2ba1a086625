/- Contract of tree.Computed. -/
import Derived.Test.YtecnapecmioamaaTAlike
namespace Go.Proofs.Ytecnapecmioamaa
open Go.RowKit Go.Shelf
set_option linter.unusedVariables false
attribute [local go_sem] Oper.semAt_some

theorem Try.infoInt64 : (Try.prog.info? 2).map (fun i => (i.zero, i.size, i.bytes)) = some (some (.int .i64 0), 1, 8) := by kernel_rfl
theorem comp_call (s : Sty) (hv : validS s = true) (X : World) : Calls Try.prog 26 #[.agg s.cells.toArray] X fun e W' => e = .returned (.tuple #[.agg (compS s).cells.toArray, .int .i64 0]) ∧ Below X.heap.size X W' := by
  have hR : compR s = .tuple #[(compS s).val, .int .i64 0] := by unfold compR; rw [hv]; rfl
  refine (comp_ok s X hv).mono ?_
  rintro e W' ⟨rfl, hb⟩
  rw [hR]
  exact ⟨rfl, hb⟩
theorem there_style {Y : World} {g t : Nat} {n : Nd} (h : Whole Y g t n.cells) (s : Sty) : Y.there g 2 s.cells.toArray.size := fun j hj => by
  have hj' : j < 29 := by simpa [Sty.cells, styCells] using hj
  refine ⟨?_, h.free _⟩
  rw [h.cellAt, List.getElem?_eq_getElem (by rw [n.len]; omega)]; rfl
/-- a node, computed, its slices laid anew -/
def copyN (n : Nd) (kv wv : Value) : Nd := { n with s := compS n.s, kv := kv, wv := wv }
theorem copy_load {n : Nd} {kv wv : Value} {W : World} {g t : Nat} (h : Whole W g t (({ n with s := compS n.s } : Nd).cells.set 1 kv)) : ∀ j v, (copyN n kv wv).cells.toArray[j]? = some v → (W.setCell ⟨g, 31, none⟩ wv).cell? ((⟨g, 0, none⟩ : Addr).add j) = some v := by
  have h2 : Whole (W.setCell ⟨g, 31, none⟩ wv) g t (copyN n kv wv).cells := h.set 31 wv
  exact (NdAt.whole h2).load
theorem copy_size (n : Nd) (kv wv : Value) : (copyN n kv wv).cells.toArray.size = 34 := by simp [Nd.len]
theorem copy_fill (ds : Array Value) (h : ds.size = 34) : Array.foldl (fun (cs : Array Value) (x : Value × Nat) => cs.setIfInBounds x.snd x.fst) #[.int .i64 0, .slice none 0 0, .int .i64 0, .int .i64 0, .int .i64 0, .int .i64 0, .int .i64 0, .int .i64 0, .int .i64 0, .int .i64 0, .int .i64 0, .int .i64 0, .int .u32 0, .int .i64 0, .int .i64 0, .int .u32 0, .int .i64 0, .int .i64 0, .int .u32 0, .int .i64 0, .int .i64 0, .int .u32 0, .int .i64 0, .int .i64 0, .int .i64 0, .bool false, .bool false, .int .i64 0, .int .i64 0, .bool false, .bool false, .slice none 0 0, .int .i64 0, .int .i64 0] ds.zipIdx 0 34 = ds := by
  have h2 := fill_row Nd.zero.cells.toArray ds (by rw [h]; exact nd_size0)
  rw [h] at h2
  exact h2
theorem copy_ok {n : Nd} {Z W1 W2 U : World} {g : Nat} {p1 p2 : Option Addr} {l1 c1 l2 c2 : Nat} (h : n.ok U) (i1 : Ints W1 (.slice p1 l1 c1) n.ks) (a1 : ∀ L, L < Z.heap.size → Apart L (.slice p1 l1 c1) n.ks) (hz : g < Z.heap.size)
    (i2 : Ints W2 (.slice p2 l2 c2) n.ws) (a2 : ∀ L, L < (W1.setCell ⟨g, 1, none⟩ (.slice p1 l1 c1)).heap.size → Apart L (.slice p2 l2 c2) n.ws) (hg : g < (W1.setCell ⟨g, 1, none⟩ (.slice p1 l1 c1)).heap.size)
    (b2 : Below (W1.setCell ⟨g, 1, none⟩ (.slice p1 l1 c1)).heap.size (W1.setCell ⟨g, 1, none⟩ (.slice p1 l1 c1)) W2) (k1 : CapOk (.slice p1 l1 c1)) (k2 : CapOk (.slice p2 l2 c2)) :
    (copyN n (.slice p1 l1 c1) (.slice p2 l2 c2)).ok (W2.setCell ⟨g, 31, none⟩ (.slice p2 l2 c2)) :=
  ⟨((i1.setApart ⟨g, 1, none⟩ (.slice p1 l1 c1) (a1 g hz)).below b2).setApart ⟨g, 31, none⟩ (.slice p2 l2 c2) (a1 g hz), i2.setApart ⟨g, 31, none⟩ (.slice p2 l2 c2) (a2 g hg), k1, k2⟩
def CompPost (ns : List Nd) (w : World) (e : Ending) (W' : World) : Prop := (∃ v ns', e = .returned (.tuple #[v, .int .i64 0]) ∧ CompPg ns ns' ∧ PageAt W' v ns') ∧ Below w.heap.size w W'
/-- where the computed nodes lie -/
def CompLaid (ns : List Nd) (w : World) (e : Ending) (W' : World) : Prop := (∃ L c ns', e = .returned (.tuple #[.slice (some ⟨L, 0, none⟩) ns'.length c, .int .i64 0]) ∧ CompPg ns ns' ∧ Laid W' L c ns'.length ns' ∧ w.heap.size ≤ L ∧ ns'.length ≤ c ∧ c ≤ maxLen) ∧ Below w.heap.size w W'
theorem CompLaid.post {ns : List Nd} {w W' : World} {e : Ending} (h : CompLaid ns w e W') (hn : ns.length ≤ 65536) : CompPost ns w e W' := by
  obtain ⟨⟨L, c, ns', rfl, h1, h2, _⟩, h3⟩ := h
  exact ⟨⟨_, ns', rfl, h1, h2.page (by have := h1.len; omega)⟩, h3⟩
set_option maxRecDepth 100000 in
set_option maxHeartbeats 4000000 in
theorem computed_ok (b off cap m : Nat) (ns : List Nd) (w : World) (hm : ns.length = m) (h1 : 1 ≤ m) (h2 : m ≤ 65536) (hv : ∀ n ∈ ns, validS n.s = true) (hK : ∀ n ∈ ns, n.ks.length ≤ 70000 ∧ n.ws.length ≤ 70000)
    (hok : ∀ n ∈ ns, n.ok w) (hc : ∀ i n, ns[i]? = some n → NdAt w b (off + i * 34) n)
    (H : Hid (Calls Try.prog 16 #[.slice (some ⟨b, off, none⟩) m cap] w fun e W' => e = .returned (.tuple #[.int .i64 0, .int .i64 0]) ∧ Below w.heap.size w W')) :
    Calls Try.prog 13 #[.slice (some ⟨b, off, none⟩) m cap] w (CompLaid ns w) := by
  have hmk := make_nodes0 m (by omega)
  have HS := Lib.hid (fun X => Laid.start X m)
  obtain ⟨zc, hzc⟩ : ∃ zc, (flatN (List.replicate m Nd.zero)).toArray = zc := ⟨_, rfl⟩
  rw [hzc] at hmk HS
  clear hzc
  have HV := Lib.hid hv
  have HK := Lib.hid hK
  have HOK := Lib.hid hok
  have HC := Lib.hid hc
  have HM := Lib.hid hm
  clear hv hK hok hc hm
  cases hi0 : Try.prog.info? 47 with
  | none => have := Try.infoNd2; rw [hi0] at this; cases this
  | some i0 =>
  have hq := Try.infoNd2
  rw [hi0] at hq
  simp only [Option.map_some, Option.some.injEq, Prod.mk.injEq] at hq
  obtain ⟨hz0, hz1, hz2⟩ := hq
  clear hz0 hz2
  go_enter Try.func13, Try.ntmps13
  go_wp2_with (go_at_call 16; refine H.out.mono ?_; clear H; rintro e w1 ⟨rfl, hb1⟩; have HB1 := Lib.hid hb1; clear hb1)
  go_loopw [6, 22] (fun v i x => ∃ k : Nat, k ≤ m ∧ i = .int .i64 k ∧ v = .slice (some ⟨w1.heap.size, 0, none⟩) k m ∧ Hid (∃ ns', CompPg (ns.take k) ns' ∧ Laid x w1.heap.size m k ns') ∧ Hid (Below w1.heap.size w1 x) ∧ w1.heap.size < x.heap.size) (fun _ i _ => m - (intOf i).toNat)
  case atStart => exact ⟨0, Nat.zero_le _, rfl, rfl, Lib.hid ⟨[], by simpa using CompPg.nil, HS.out w1⟩, Lib.hid ((Below.refl _ w1).alloc (Nat.le_refl _) _), by simp⟩
  case round =>
    obtain ⟨k, hk, rfl, rfl, HL, HB, hLx⟩ := hrel
    clear hmk HS
    by_cases hlt : k < m
    · obtain ⟨n, hn⟩ : ∃ n, ns[k]? = some n := ⟨_, List.getElem?_eq_getElem (by rw [HM.out]; exact hlt)⟩
      have hmem : n ∈ ns := List.mem_iff_getElem?.2 ⟨k, hn⟩
      have hBw : Below w.heap.size w wr := HB1.out.trans (HB.out.mono HB1.out.size)
      have hok := (HOK.out n hmem).below hBw
      have LN := Lib.hid ((HC.out k n hn).below hBw).load
      have iN := Lib.hid (nd_info n)
      have oN := Lib.hid (nd_one n wr hok)
      have zN : Hid (Nd.zero.cells.toArray.size = n.cells.toArray.size) := Lib.hid (by simp [Nd.len])
      have HNO := Lib.hid hok
      have ST : Hid (ns.take (k + 1) = ns.take k ++ [n]) := Lib.hid (by rw [List.take_add_one, hn]; rfl)
      obtain ⟨kq, kc, hkv⟩ := hok.1.form
      obtain ⟨wq, wc, hwv⟩ := hok.2.1.form
      have hkk := (HK.out n hmem).1
      have hww := (HK.out n hmem).2
      obtain ⟨cs, hcs⟩ : ∃ cs, n.cells.toArray = cs := ⟨_, rfl⟩
      rw [hcs] at LN iN oN zN
      have HCE := Lib.hid hcs
      -- the style
      have CC := Lib.hid (comp_call n.s (HV.out n hmem))
      have SL : Hid (∀ X, Whole X wr.heap.size 47 n.cells → ∀ j v, n.s.cells.toArray[j]? = some v → X.cell? ((⟨wr.heap.size, 2, none⟩ : Addr).add j) = some v) := Lib.hid fun X hX j v hj => (NdAt.whole hX).style j v hj
      have iS := Lib.hid (sty_info' n.s)
      have iT := Lib.hid (sty_info' (compS n.s))
      have oT := Lib.hid (cells_one (compS n.s))
      have TH : Hid (∀ Y, Whole Y wr.heap.size 47 n.cells → Y.there wr.heap.size 2 (compS n.s).cells.toArray.size) := Lib.hid fun Y hY => there_style hY _
      have WS : Hid (∀ Y, Whole Y wr.heap.size 47 n.cells → Whole (Y.setCells wr.heap.size 2 (compS n.s).cells.toArray.toList) wr.heap.size 47 ({ n with s := compS n.s } : Nd).cells) := Lib.hid fun Y hY => whole_style hY _
      obtain ⟨sc, hsc⟩ : ∃ sc, n.s.cells.toArray = sc := ⟨_, rfl⟩
      obtain ⟨tc, htc⟩ : ∃ tc, (compS n.s).cells.toArray = tc := ⟨_, rfl⟩
      rw [hsc] at CC SL iS
      rw [htc] at CC iT oT TH WS
      clear hsc htc
      have CS2 : Hid (∀ X, Whole X wr.heap.size 47 ({ n with s := compS n.s } : Nd).cells → X.cell? ⟨wr.heap.size, 1, none⟩ = some (.slice kq n.ks.length kc) ∧ X.cell? ⟨wr.heap.size, 31, none⟩ = some (.slice wq n.ws.length wc)) := Lib.hid fun X h => ⟨by rw [h.cellAt, ← hkv]; rfl, by rw [h.cellAt, ← hwv]; rfl⟩
      have IK : Hid (∀ X, Below wr.heap.size wr X → Ints X (.slice kq n.ks.length kc) n.ks) := Lib.hid fun X h => by rw [← hkv]; exact hok.1.below h
      have IW : Hid (∀ X, Below wr.heap.size wr X → Ints X (.slice wq n.ws.length wc) n.ws) := Lib.hid fun X h => by rw [← hwv]; exact hok.2.1.below h
      clear hcs hn hmem hkv hwv hok hBw HV HK HOK HC
      obtain ⟨kl, hkl⟩ : ∃ kl, n.ks.length = kl := ⟨_, rfl⟩
      obtain ⟨wl, hwl⟩ : ∃ wl, n.ws.length = wl := ⟨_, rfl⟩
      rw [hkl] at CS2 IK
      rw [hwl] at CS2 IW
      have HKK := Lib.hid hkk
      have HWW := Lib.hid hww
      obtain ⟨ns0, hcp, hlaid⟩ := HL.out
      obtain ⟨cur, hcur, hcs, hfl⟩ := hlaid.row
      have HCP := Lib.hid hcp
      have HLD := Lib.hid hlaid
      have HCU := Lib.hid hcur
      have HCZ := Lib.hid hcs
      clear hkl hwl hkk hww hcp hlaid hcur hcs HL
      go_wp2_with (first
        | (refine wpList_load_at rfl 47 (.tmp 24) rfl _ rfl cs _ LN.out Try.underlying47 rfl iN.out ?_)
        | (refine wpList_store_row rfl 47 (.tmp 8) (.tmp 25) rfl _ cs rfl rfl 47 Nd.zero.cells.toArray (whole_new wr Nd.zero.cells 47 _ rfl) iN.out zN.out oN.out ?_; refine at_world (fun X => Whole X wr.heap.size 47 n.cells ∧ Below wr.heap.size wr X) ⟨by rw [← HCE.out]; exact whole_row (whole_new wr Nd.zero.cells 47 _ rfl) _, ((Below.refl _ wr).alloc (Nat.le_refl _) _).trans (below_row _ _ _ (Nat.le_refl _))⟩ (fun X hX => ?_); obtain ⟨KX, BX⟩ := hX; have KXX := Lib.hid KX; have BXX := Lib.hid BX; clear KX BX LN oN zN)
        | (refine wpList_load_at rfl 44 (.tmp 27) rfl _ rfl sc _ (SL.out X KXX.out) Try.underlying44 rfl iS.out ?_)
        | (go_at_call 26; refine (CC.out X).mono ?_; clear CC; rintro e Y ⟨rfl, hbY⟩; have KY := Lib.hid (KXX.out.below hbY KXX.out.lt); have BY := Lib.hid (BXX.out.trans (hbY.mono BXX.out.size)); clear hbY SL)
        | (refine wpList_store_mid rfl 44 (.tmp 32) (.tmp 30) rfl wr.heap.size 2 tc rfl rfl (TH.out Y KY.out) iT.out oT.out ?_; refine at_world (fun Z => Whole Z wr.heap.size 47 ({ n with s := compS n.s } : Nd).cells ∧ Below wr.heap.size wr Z) ⟨WS.out Y KY.out, below_setCells (Nat.le_refl _) _ _ _ BY.out⟩ (fun Z hZ => ?_); obtain ⟨kz, bz⟩ := hZ; obtain ⟨cz1, _⟩ := CS2.out Z kz; have lz := kz.lt; have KZ := Lib.hid kz; have BZ := Lib.hid bz; clear kz bz TH WS oT)
        | (at_builtin; refine wpList_append_ints rfl _ _ 34 rfl 3 Try.underlying34 Try.infoInt rfl _ n.ks rfl (IK.out Z BZ.out) HKK.out ?_; intro v1 W1 i1 c1 a1 b1; have c1' := c1; obtain ⟨p1, l1, cc1, rfl, e1, e2⟩ := c1; have CK1 := Lib.hid c1'; clear c1'; have KW1 := Lib.hid (KZ.out.below b1 lz); have BW1 := Lib.hid (BZ.out.trans (b1.mono BZ.out.size)); have I1 := Lib.hid i1; have A1 := Lib.hid a1; obtain ⟨cx1, cx31⟩ := CS2.out W1 KW1.out; have lx := KW1.out.lt; have fx := KW1.out.free 1; have LZ := Lib.hid lz; clear i1 a1 b1 e1 e2 cz1 lz)
        | (at_builtin; refine wpList_append_ints rfl _ _ 45 rfl 2 Try.underlying45 Try.infoInt64 rfl _ n.ws rfl (IW.out _ (BW1.out.setCell (p := ⟨wr.heap.size, 1, none⟩) (Nat.le_refl _) (.slice p1 l1 cc1))) HWW.out ?_; intro v2 W2 i2 c2 a2 b2; have c2' := c2; obtain ⟨p2, l2, cc2, rfl, e1, e2⟩ := c2; have CK2 := Lib.hid c2'; clear c2'; have KW2 := Lib.hid ((KW1.out.set 1 (.slice p1 l1 cc1)).below b2 (by simpa using lx)); have BW2 := Lib.hid ((BW1.out.setCell (p := ⟨wr.heap.size, 1, none⟩) (Nat.le_refl _) (.slice p1 l1 cc1)).trans (b2.mono (by simpa using BW1.out.size))); have I2 := Lib.hid i2; have A2 := Lib.hid a2; have B2 := Lib.hid b2; have cy31 := (KW2.out.cellAt 31).trans (show (({ n with s := compS n.s } : Nd).cells.set 1 (.slice p1 l1 cc1))[31]? = some n.wv from rfl); have ly := KW2.out.lt; have fy := KW2.out.free 31; clear i2 a2 b2 e1 e2 cx1 cx31 fx; obtain ⟨ds, hds⟩ : ∃ ds, (copyN n (.slice p1 l1 cc1) (.slice p2 l2 cc2)).cells.toArray = ds := ⟨_, rfl⟩; have LD : Hid (∀ j v, ds[j]? = some v → (W2.setCell ⟨wr.heap.size, 31, none⟩ (.slice p2 l2 cc2)).cell? ((⟨wr.heap.size, 0, none⟩ : Addr).add j) = some v) := Lib.hid (hds ▸ copy_load KW2.out); have iD := Lib.hid (hds ▸ nd_info (copyN n (.slice p1 l1 cc1) (.slice p2 l2 cc2))); have hdsz : ds.size = 34 := hds ▸ copy_size n _ _; have hfill := copy_fill ds hdsz; have HDS := Lib.hid hds; clear hds)
        | (refine wpList_load_at rfl 47 (.tmp 8) rfl _ rfl ds _ LD.out Try.underlying47 rfl iD.out ?_; clear cy31 fy)
        | (at_builtin; refine wpList_append_room' _ rfl _ _ 22 rfl 47 i0 Try.underlying22 hi0 w1.heap.size k m cur rfl ?c5 ⟨W2.heap.size, 0, none⟩ 1 1 (copyN n (.slice p1 l1 cc1) (.slice p2 l2 cc2)).cells rfl ?c0 ?c1 ?c2 ?c3 ?c4 ?_))
      case c5 => exact ((((BW2.out.setCell (p := ⟨wr.heap.size, 31, none⟩) (Nat.le_refl _) _).alloc (by simp; exact BW2.out.size) _).block _ hLx).trans HCU.out)
      case c0 => rw [Nd.len]
      case c1 =>
        intro j u hj
        have h := HDS.out
        simp only [← h]
        first
          | (simpa using hj)
          | (exact lay_new _ (copyN n (.slice p1 l1 cc1) (.slice p2 l2 cc2)).cells _ _ (by simp) j u hj)
      case c2 =>
        intro u hu
        exact (Array.all_eq_true_iff_forall_mem.1 (nd_one _ _ (copy_ok HNO.out I1.out A1.out LZ.out I2.out A2.out (by simpa using lx) B2.out CK1.out CK2.out))) u (by simpa using hu)
      case c3 => omega
      case c4 => rw [Nd.len, HCZ.out]; omega
      have BV := (BW2.out.setCell (p := ⟨wr.heap.size, 31, none⟩) (Nat.le_refl _) (.slice p2 l2 cc2)).alloc (by simp; exact BW2.out.size) (.cells ds 47)
      have hw := BW2.out.size
      have hzz := BZ.out.size
      have hst := (HLD.out.below hLx BV).step ((BV.block _ hLx).trans HCU.out) _ ((copy_ok HNO.out I1.out A1.out LZ.out I2.out A2.out (by simpa using lx) B2.out CK1.out CK2.out).below ((Below.refl _ _).alloc (Nat.le_refl _) _)) (A1.out _ (by omega)) (A2.out _ (by simp; omega)) hlt
      rw [hfl, List.append_assoc] at hst
      refine ⟨⟨k + 1, by omega, by go_num, rfl, Lib.hid ⟨_, ?cp, hst⟩, Lib.hid ((HB.out.trans (BV.mono (by omega))).trans (below_row _ _ _ (Nat.le_refl _))), by simp; omega⟩, ?measure⟩
      case cp => rw [ST.out]; exact HCP.out.snoc ⟨rfl, rfl, rfl, rfl, rfl, rfl⟩
      case measure => simp [intOf]; omega
    · obtain rfl : k = m := by omega
      obtain ⟨ns0, hcp, hlaid⟩ := HL.out
      go_wp2
      refine bodyPost_ret (v := .tuple #[.slice (some ⟨w1.heap.size, 0, none⟩) k k, .int .i64 0]) (by simp [results, Try.results13, go_sem]) rfl ⟨⟨w1.heap.size, k, ns0, by rw [hlaid.len], ?_, by rw [hlaid.len]; exact hlaid, HB1.out.size, by rw [hlaid.len]; omega, by unfold maxLen; omega⟩, HB1.out.trans (HB.out.mono HB1.out.size)⟩
      rw [List.take_of_length_le (by rw [HM.out]; omega)] at hcp
      exact hcp
set_option maxHeartbeats 400000 in
theorem computed_bad (p : Option Addr) (m cap : Nat) (w : World) (a b : Int) (hb : b ≠ 0) (H : Hid (Calls Try.prog 16 #[.slice p m cap] w fun e W' => e = .returned (.tuple #[.int .i64 a, .int .i64 b]) ∧ Below w.heap.size w W')) :
    Calls Try.prog 13 #[.slice p m cap] w fun e W' => e = .returned (.tuple #[.slice none 0 0, .int .i64 b]) ∧ Below w.heap.size w W' := by
  have hb' : (b != 0) = true := by simpa using hb
  go_enter Try.func13, Try.ntmps13
  go_wp2_with (go_at_call 16; refine H.out.mono ?_; rintro e w1 ⟨rfl, hb1⟩)
  refine bodyPost_ret (v := .tuple #[.slice none 0 0, .int .i64 b]) (by simp [results, Try.results13, go_sem]) rfl ⟨rfl, hb1⟩
theorem computed_laid (lv : Value) (ns : List Nd) (w : World) (hP : PageAt w lv ns) (hK : ∀ n ∈ ns, n.ks.length ≤ 70000 ∧ n.ws.length ≤ 70000) (F : Fine ns) : Calls Try.prog 13 #[lv] w (CompLaid ns w) := by
  obtain ⟨p, cap, rfl⟩ := hP.form
  have H := check_at p _ cap ns w rfl hP (fun n hn => (hK n hn).1)
  rw [fine_check F] at H
  obtain ⟨b, off, rfl, hc⟩ := page_some hP F.len1
  have hw := F.wrong
  rw [List.any_eq_false] at hw
  exact computed_ok b off cap _ ns w rfl F.len1 F.len2 (fun n hn => wrong_valid (by simpa using hw n hn)) hK hP.2.1 hc (Lib.hid H)
theorem computed_good (lv : Value) (ns : List Nd) (w : World) (hP : PageAt w lv ns) (hK : ∀ n ∈ ns, n.ks.length ≤ 70000 ∧ n.ws.length ≤ 70000) (F : Fine ns) : Calls Try.prog 13 #[lv] w (CompPost ns w) :=
  (computed_laid lv ns w hP hK F).mono fun e W' h => h.post F.len2
theorem computed_not (lv : Value) (ns : List Nd) (w : World) (hP : PageAt w lv ns) (hK : ∀ n ∈ ns, n.ks.length ≤ 70000) (hb : (checkP ns).2 ≠ 0) : Calls Try.prog 13 #[lv] w fun e W' => e = .returned (.tuple #[.slice none 0 0, .int .i64 (checkP ns).2]) ∧ Below w.heap.size w W' := by
  obtain ⟨p, cap, rfl⟩ := hP.form
  exact computed_bad p _ cap w _ _ hb (Lib.hid (check_at p _ cap ns w rfl hP hK))
end Go.Proofs.Ytecnapecmioamaa
