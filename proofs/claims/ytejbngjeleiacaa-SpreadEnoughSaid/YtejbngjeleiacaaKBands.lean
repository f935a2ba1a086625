/- Contract of columns.Bands: the bands of right sizes and needs. -/
import Derived.Test.YtejbngjeleiacaaKBand
namespace Go.Proofs.Ytejbngjeleiacaa
open Go.RowKit Go.Shelf Go.Sort
set_option linter.unusedVariables false
set_option linter.unusedSimpArgs false
attribute [local go_sem] Oper.semAt_some

def noPan (Q : Exit → Act → World → Prop) : Exit → Act → World → Prop
  | .panic _, _, _ => False
  | e, a, w => Q e a w
theorem noPan_le {Q : Exit → Act → World → Prop} (e : Exit) (a : Act) (w : World) (h : noPan Q e a w) : Q e a w := by cases e <;> first | exact h | exact h.elim
theorem region_held_np {P : Program} {ops : Array Oper} {Q : Exit → Act → World → Prop} {S : World → Prop} {id : Nat} {a : Act} {w : World} (hm : P.follows .mixedOrders = true)
    (h : ∀ w2 : World, w.drew = w2 → wpAnyH P .any ops (noPan Q) S ops.size (Array.replicate ops.size false) a w2) : (Code.region id ops true).wp P Q a w :=
  (wpIn_wide (n := 0)).1 (wpIn_mono (wpIn_wide.2 (wp_region_held hm (h _ rfl))) noPan_le)
theorem results_twoK {W : World} {x y : Value} {tmps : Array Value} {fn : Func} (hf : fn.results = #[.tmp 4, .tmp 5]) (h4 : tmps[4]? = some x) (h5 : tmps[5]? = some y) :
    (results fn tmps).run Try.prog W = .ok (.tuple #[x, y]) W := by
  simp [results, hf, go_sem, h4, h5]
theorem fill_step (f : Sz → Ba) (zs : List Sz) (k m : Nat) (z : Ba) (s : Sz) (hm : zs.length = m) (hs : zs[k]? = some s) :
    ((zs.take k).map f ++ List.replicate (m - k) z).set k (f s) = (zs.take (k + 1)).map f ++ List.replicate (m - (k + 1)) z := by
  have hk := (List.getElem?_eq_some_iff.1 hs).1
  have hl : ((zs.take k).map f).length = k := by simp; omega
  rw [List.set_append_right _ _ (by omega), hl, Nat.sub_self, show m - k = (m - (k + 1)) + 1 by omega, List.replicate_succ, List.set_cons_zero, List.take_add_one, hs]
  simp
theorem map_step (f : Ba → Ba) (bs : List Ba) (k : Nat) (b : Ba) (hb : bs[k]? = some b) : ((bs.take k).map f ++ bs.drop k).set k (f b) = (bs.take (k + 1)).map f ++ bs.drop (k + 1) := by
  have hk := (List.getElem?_eq_some_iff.1 hb).1
  have hl : ((bs.take k).map f).length = k := by simp; omega
  rw [List.set_append_right _ _ (by omega), hl, Nat.sub_self, List.drop_eq_getElem_cons hk, List.set_cons_zero, List.take_add_one, hb]
  simp
theorem map_at (f : Ba → Ba) (bs : List Ba) (k : Nat) (b : Ba) (hb : bs[k]? = some b) : ((bs.take k).map f ++ bs.drop k)[k]? = some b := by
  have hk := (List.getElem?_eq_some_iff.1 hb).1
  have hl : ((bs.take k).map f).length = k := by simp; omega
  rw [List.getElem?_append_right (by omega), hl, Nat.sub_self, List.drop_eq_getElem_cons hk, List.getElem?_cons_zero, (List.getElem?_eq_some_iff.1 hb).2]

set_option maxHeartbeats 1000000 in
theorem bands_bad (p q : Option Addr) (m c m' c' : Nat) (zs : List Sz) (ns : List Ne) (W : World) (hz : RowsK Sz.cells 2 W (.slice p m c) zs) (hn : RowsK Ne.cells 9 W (.slice q m' c') ns) (hr : rightK zs ns = false) :
    Calls Try.prog 17 #[.slice p m c, .slice q m' c'] W fun e W' => e = .returned (.tuple #[.slice none 0 0, .int .i64 130]) ∧ Below W.heap.size W W' := by
  have HR := Lib.hid (hr ▸ kright_any p q m c m' c' zs ns W hz hn)
  clear hz hn hr
  refine (callsIn_wide (n := 3)).1 (callsIn_of_wp_marks Try.func17 rfl trivial (wpIn_wide.2 ?_) rfl)
  simp only [Try.ntmps17, List.size_toArray, List.length_cons, List.length_nil, Nat.reduceAdd, Nat.reduceSub, Array.replicate_succ, Array.replicate_zero, List.push_toArray, List.append_toArray, List.nil_append, List.cons_append]
  go_wp2_with fail
  refine HR.out.mono ?_
  rintro e w1 ⟨rfl, hb1⟩
  have HB := Lib.hid hb1
  clear hb1 HR
  go_wp2
  refine leaves_marks W.heap.size [] _ (Marks.nil _ _) (fun W' hck hbk => ⟨_, results_twoK rfl rfl rfl, ⟨rfl, HB.out.trans hbk⟩⟩)

/-- what lies while the bands are made -/
structure BMem (W : World) (G : Nat) (m : Nat) (bs : List Ba) (X : World) : Prop where
  bs : BsAt G bs X
  box : Whole X (G + 1) 22 [.slice (some ⟨G, 0, none⟩) m m]
  lo : Below W.heap.size W X
theorem BMem.below {W : World} {G m : Nat} {bs : List Ba} {X Y : World} (h : BMem W G m bs X) (hb : Below X.heap.size X Y) : BMem W G m bs Y :=
  ⟨h.bs.below hb h.bs.lt, h.box.below hb h.box.lt, h.lo.trans (hb.mono h.lo.size)⟩
theorem BMem.drew {W : World} {G m : Nat} {bs : List Ba} {X : World} (h : BMem W G m bs X) : BMem W G m bs X.drew := h.below (below_dn _ _ _)
theorem wp_store_midK {P : Program} {o : Oper} {a : Act} {w : World} {K : Act → World → Prop} {Q : Exit → Act → World → Prop} (hd : o.dst = none) (ty : TypeId) (x y : Operand) (ho : o.op = .store ty x y)
    (b n : Nat) (cells : Array Value) (hx : a.eval x = .pointer (some ⟨b, n, none⟩)) (hy : a.eval y = .agg cells)
    (ht : w.there b n cells.size) (hi : (P.info? ty).map (·.size) = some cells.size) (h1 : cells.all (·.oneCell') = true)
    (h : K a (w.setCells b n cells.toList)) : o.wp P a w K Q := by
  refine wp_store_mid ty x y ho b n cells hx hy ht hi h1 ?_
  rw [hd]; exact h
/-- what a region's order leaves: all blocks but the bands' -/
structure SBk (G B : Nat) (V X : World) : Prop where
  lo : Below B V X
  kp : KeepBut [G] V X
theorem SBk.refl (G B : Nat) (V : World) : SBk G B V V := ⟨Below.refl _ _, KeepBut.refl _ _⟩
theorem SBk.low {G B : Nat} {V X Y : World} (h : SBk G B V X) (hB : B ≤ V.heap.size) (hb : Below X.heap.size X Y) : SBk G B V Y :=
  ⟨h.lo.trans (hb.mono (Nat.le_trans hB h.lo.size)), h.kp.trans (KeepBut.of_below hb)⟩
theorem SBk.start (G B : Nat) (V : World) : SBk G B V V.drew := ⟨below_dn _ _ _, KeepBut.of_below (below_dn _ _ _)⟩
theorem SBk.put {G B : Nat} {V X : World} (h : SBk G B V X) (hG : B ≤ G) (o : Nat) (b : Ba) : SBk G B V (X.setCells G o b.cells) :=
  ⟨below_setCells4 h.lo hG b, h.kp.trans ⟨by rw [size_setCells4]; exact Nat.le_refl _, fun k hk _ => heap_setCells4 X (by simpa using hk) b⟩⟩
theorem SBk.set {G B : Nat} {V X : World} (h : SBk G B V X) (hG : B ≤ G) (o : Nat) (v : Value) : SBk G B V (X.setCell ⟨G, o, none⟩ v) :=
  ⟨h.lo.setCell (p := ⟨G, o, none⟩) hG v, h.kp.trans ⟨by simp, fun k hk _ => Below.heap_setCell X ⟨G, o, none⟩ v k (by simpa using hk)⟩⟩
theorem SBk.cells {G B g t : Nat} {V X : World} {xs : List Value} (h : SBk G B V X) (k : Whole V g t xs) (hne : g ≠ G) : Whole X g t xs := (h.kp.2 g (by simpa using hne) k.lt).trans k
theorem oneBa (b : Ba) : b.cells.toArray.all (·.oneCell') = true := by simp [Ba.cells, Value.oneCell']
theorem infoBa4 (b : Ba) : (Try.prog.info? 43).map (·.size) = some b.cells.toArray.size := by
  have h : (Try.prog.info? 43).map (·.size) = some 4 := by kernel_rfl
  rw [h]; rfl
theorem KeepBut.froms {G B : Nat} {V X : World} (h : KeepBut [G] V X) (hG : G < B) : KeepsFrom B V X := ⟨h.1, fun k o hB hk _ => (h.2 k (by simp; omega) (Array.getElem?_eq_some_iff.1 hk).1).trans hk⟩
theorem KeepBut.more {E F : List Nat} {V X : World} (h : KeepBut E V X) (hE : ∀ k ∈ E, k ∈ F) : KeepBut F V X := ⟨h.1, fun k hk hl => h.2 k (fun hm => hk (hE k hm)) hl⟩
theorem BMem.belowAt {W : World} {G m B : Nat} {bs : List Ba} {X Y : World} (h : BMem W G m bs X) (hb : Below B X Y) (hG : G + 1 < B) (hW : W.heap.size ≤ B) : BMem W G m bs Y :=
  ⟨h.bs.below hb (by omega), h.box.below hb hG, h.lo.trans (hb.mono hW)⟩
theorem BMem.grown {W : World} {G m : Nat} {bs : List Ba} {X Y : World} {row : Option Nat} (h : BMem W G m bs X) (hg : X.grownBy Y row) (hr : NoCells X row) (hl : ∀ r, row = some r → W.heap.size ≤ r) : BMem W G m bs Y :=
  ⟨Whole.grown h.bs hg (Whole.ne h.bs hr), h.box.grown hg (h.box.ne hr), h.lo.grown hg h.lo.size hl⟩
set_option maxRecDepth 100000 in
set_option maxHeartbeats 4000000 in
theorem bands_ok (p q : Option Addr) (m c m' c' : Nat) (zs : List Sz) (ns : List Ne) (W : World) (hz : RowsK Sz.cells 2 W (.slice p m c) zs) (hn : RowsK Ne.cells 9 W (.slice q m' c') ns) (hr : rightK zs ns = true) :
    Calls Try.prog 17 #[.slice p m c, .slice q m' c'] W fun e W' => ∃ G, e = .returned (.tuple #[.slice (some ⟨G, 0, none⟩) m m, .int .i64 0]) ∧ W.heap.size ≤ G ∧ BsAt G (bandsB zs ns) W' ∧ Below W.heap.size W W' := by
  have hl : zs.length = m := hz.len
  have hl' : ns.length = m' := hn.len
  have hm2 : m' ≤ 9223372036854775807 := by have := hn.1; omega
  have hm : m ≤ 10000 := by have := (rightK_iff zs ns).1 hr; omega
  have HR := Lib.hid (hr ▸ kright_any p q m c m' c' zs ns W hz hn)
  have HAT := Lib.hid (fun k s h => hz.at k s h)
  have HNN := Lib.hid hn
  have HRT := Lib.hid hr
  have HL := Lib.hid hl
  have HL' := Lib.hid hl'
  have hmk := make_bands m hm
  obtain ⟨zc, hzc⟩ : ∃ zc, ((List.replicate m (⟨0, 0, 0, 0⟩ : Ba)).flatMap Ba.cells).toArray = zc := ⟨_, rfl⟩
  rw [hzc] at hmk
  have HZC := Lib.hid hzc
  clear hz hn hr hl hl' hzc
  refine (callsIn_wide (n := 3)).1 (callsIn_of_wp_marks Try.func17 rfl trivial (wpIn_wide.2 ?_) rfl)
  simp only [Try.ntmps17, List.size_toArray, List.length_cons, List.length_nil, Nat.reduceAdd, Nat.reduceSub, Array.replicate_succ, Array.replicate_zero, List.push_toArray, List.append_toArray, List.nil_append, List.cons_append]
  go_wp2_with fail
  refine HR.out.mono ?_
  rintro e w1 ⟨rfl, hb1⟩
  have HB := Lib.hid hb1
  clear hb1 HR
  obtain ⟨G, hG⟩ : ∃ G, w1.heap.size = G := ⟨_, rfl⟩
  have hWG : W.heap.size ≤ G := by rw [← hG]; exact HB.out.size
  obtain ⟨W1, hW1⟩ : ∃ W1, (w1.alloc (.cells zc 43)).alloc (.cells #[.slice (some ⟨G, 0, none⟩) m m] 22) = W1 := ⟨_, rfl⟩
  have HM1 : Hid (BMem W G m (List.replicate m ⟨0, 0, 0, 0⟩) W1) := Lib.hid ⟨by
      unfold BsAt
      rw [← hW1]
      refine Whole.alloc ?_ _
      have := whole_new w1 ((List.replicate m (⟨0, 0, 0, 0⟩ : Ba)).flatMap Ba.cells) 43 G hG.symm
      rwa [HZC.out] at this,
    by rw [← hW1]; exact whole_new _ [.slice (some ⟨G, 0, none⟩) m m] 22 _ (by simp [hG]),
    by rw [← hW1]; exact (HB.out.alloc HB.out.size _).alloc (by have := HB.out.size; simp; omega) _⟩
  clear HB
  go_wp2
  clear hW1 hmk HZC
  go_loopw [22] (fun s22 X => ∃ k : Nat, k ≤ m ∧ s22 = .int .i64 k ∧ Hid (BMem W G m ((zs.take k).map (askB ⟨0, 0, -1, -1⟩) ++ List.replicate (m - k) ⟨0, 0, 0, 0⟩) X)) (fun s22 _ => m - (intOf s22).toNat)
  case atStart => exact ⟨0, Nat.zero_le _, rfl, by simpa using HM1⟩
  case round =>
    obtain ⟨k, hk, rfl, HM⟩ := hrel
    by_cases hlt : k < m
    · obtain ⟨s, hs⟩ : ∃ s, zs[k]? = some s := ⟨_, List.getElem?_eq_getElem (by rw [HL.out]; exact hlt)⟩
      obtain ⟨b, off, rfl, hb, hc⟩ := HAT.out k s hs
      have HST := Lib.hid (fill_step (askB ⟨0, 0, -1, -1⟩) zs k m ⟨0, 0, 0, 0⟩ s HL.out hs)
      have HLN : Hid (((zs.take k).map (askB ⟨0, 0, -1, -1⟩) ++ List.replicate (m - k) (⟨0, 0, 0, 0⟩ : Ba)).length = m) := Lib.hid (by have := HL.out; simp; omega)
      generalize (zs.take k).map (askB ⟨0, 0, -1, -1⟩) ++ List.replicate (m - k) (⟨0, 0, 0, 0⟩ : Ba) = bs at HM HST HLN
      clear hs
      obtain ⟨zk, zn⟩ := s
      have q0 : wr.cell? ⟨b, off + k * 2, none⟩ = some (.int .i64 zk) := (HM.out.lo.cell (p := ⟨b, off + k * 2, none⟩) hb).trans (hc 0 _ rfl)
      have q1 : wr.cell? ⟨b, off + k * 2 + 1, none⟩ = some (.int .i64 zn) := (HM.out.lo.cell (p := ⟨b, off + k * 2 + 1, none⟩) hb).trans (hc 1 _ rfl)
      have lb : b < wr.heap.size := by have := HM.out.lo.size; omega
      obtain ⟨V, hV⟩ : ∃ V, wr.alloc (.cells #[.int .i64 zk, .int .i64 zn] 39) = V := ⟨_, rfl⟩
      have KV : Hid (Whole V wr.heap.size 39 [.int .i64 zk, .int .i64 zn]) := Lib.hid (hV ▸ whole_new wr [.int .i64 zk, .int .i64 zn] 39 _ rfl)
      have BV : Below wr.heap.size wr V := by rw [← hV]; exact (Below.refl _ wr).alloc (Nat.le_refl _) _
      have HMV := Lib.hid (HM.out.below BV)
      have lG1 : G + 1 < wr.heap.size := HM.out.box.lt
      clear hc HM BV
      go_wp2
      try rw [hV]
      clear hV q0 q1 lb
      have hVs := HMV.out.lo.size
      have KX : Hid (Whole V (G + 1) 22 [.slice (some ⟨G, 0, none⟩) m m]) := Lib.hid HMV.out.box
      refine region_held_np (S := fun X => Hid (SBk G W.heap.size V X)) (by kernel_rfl) (fun w2 hw2 => ?_)
      have SV : Hid (SBk G W.heap.size V w2) := Lib.hid (hw2 ▸ SBk.start _ _ _)
      have HB2 : Hid (BsAt G bs w2) := Lib.hid (hw2 ▸ HMV.out.bs.below (below_dn _ _ _) HMV.out.bs.lt)
      clear hw2
      try simp only [Act.put, List.setIfInBounds_toArray, List.set_cons_succ, List.set_cons_zero]
      refine wpAnyH_takeC (i := 0) (v := .slice (some ⟨G, 0, none⟩) m m) (some 27) rfl rfl (by kernel_rfl) (by kernel_rfl) (by kernel_rfl) (fun _ _ _ h => h) (Or.inl ⟨by rfl, ?_⟩) SV ?_
      · intro X hX; have kx := hX.out.cells KX.out (by omega); have o0 := kx.cellAt 0; have lX := kx.lt; clear kx; go_simp
      try simp only [Act.put, List.setIfInBounds_toArray, List.set_cons_succ, List.set_cons_zero]
      refine wpAnyH_takeC (i := 1) (v := .int .i64 (k : Int)) (some 28) rfl rfl (by kernel_rfl) (by kernel_rfl) (by kernel_rfl) (fun _ _ _ h => h) (Or.inl ⟨by rfl, ?_⟩) SV ?_
      · intro X hX; go_simp
      try simp only [Act.put, List.setIfInBounds_toArray, List.set_cons_succ, List.set_cons_zero]
      refine wpAnyH_takeC (i := 2) (v := .agg #[.int .i64 0, .int .i64 0, .int .i64 (-1), .int .i64 (-1)]) (some 29) rfl rfl (by kernel_rfl) (by kernel_rfl) (by kernel_rfl) (fun _ _ _ h => h) (Or.inl ⟨by rfl, ?_⟩) SV ?_
      · intro X hX; go_simp
      try simp only [Act.put, List.setIfInBounds_toArray, List.set_cons_succ, List.set_cons_zero]
      refine wpAnyH_takeC (i := 3) (v := .agg #[.int .i64 zk, .int .i64 zn]) (some 30) rfl rfl (by kernel_rfl) (by kernel_rfl) (by kernel_rfl) (fun _ _ _ h => h) (Or.inl ⟨by rfl, ?_⟩) SV ?_
      · intro X hX; have kx := hX.out.cells KV.out (by omega); have o0 := kx.cellAt 0; have o1 := kx.cellAt 1; have lX := kx.lt; clear kx; go_simp
      try simp only [Act.put, List.setIfInBounds_toArray, List.set_cons_succ, List.set_cons_zero]
      refine wpAnyH_all (rs := [4]) (by kernel_rfl) (by simp) ?_
      intro ii hii; obtain rfl : ii = 4 := by simpa using hii
      clear hii
      refine wpOp_step rfl (fun K hK => ?_)
      have HAK := Lib.hid (asked_any ⟨0, 0, -1, -1⟩ ⟨zk, zn⟩ w2)
      unfold Ba.val Sz.val at HAK
      dsimp only at HAK
      go_simp
      refine HAK.out.mono ?_
      rintro e w3 ⟨rfl, hb3⟩
      have SX : Hid (SBk G W.heap.size V w3) := Lib.hid (SV.out.low hVs hb3)
      have HB3 : Hid (BsAt G bs w3) := Lib.hid (HB2.out.below hb3 HB2.out.lt)
      refine hK _ _ ⟨SX, ?_⟩
      clear hK K hb3 SV HB2 HAK
      have SV := SX
      clear SX
      obtain ⟨nb, hnb⟩ : ∃ nb, askB ⟨0, 0, -1, -1⟩ ⟨zk, zn⟩ = nb := ⟨_, rfl⟩
      rw [hnb] at HST ⊢
      clear hnb
      try simp only [Act.put, List.setIfInBounds_toArray, List.set_cons_succ, List.set_cons_zero]
      refine wpAnyH_takeC (i := 5) (v := .pointer (some ⟨G, k * 4, none⟩)) (some 32) rfl rfl (by kernel_rfl) (by kernel_rfl) (by kernel_rfl) (fun _ _ _ h => h) (Or.inl ⟨by rfl, ?_⟩) SV ?_
      · intro X hX; go_simp
      try simp only [Act.put, List.setIfInBounds_toArray, List.set_cons_succ, List.set_cons_zero]
      refine wpAnyH_all (rs := [6]) (by kernel_rfl) (by simp) ?_
      intro ii hii; obtain rfl : ii = 6 := by simpa using hii
      clear hii
      refine wpOp_step rfl (fun K hK => ?_)
      refine wp_store_midK rfl 43 (.tmp 32) (.tmp 31) rfl G (k * 4) nb.cells.toArray rfl rfl (HB3.out.there k (by rw [HLN.out]; exact hlt)) (infoBa4 nb) (oneBa nb) ?_
      refine hK _ _ ⟨Lib.hid (SV.out.put hWG (k * 4) nb), ?_⟩
      have HB4 := Lib.hid (HB3.out.put k nb (by rw [HLN.out]; exact hlt))
      have SX := Lib.hid (SV.out.put hWG (k * 4) nb)
      clear hK K SV HB3
      generalize World.setCells w3 G (k * 4) nb.cells.toArray.toList = w4 at *
      refine wpAnyH_done (by kernel_rfl) ?_ _
      try dsimp only [noPan]
      have HM4 : Hid (BMem W G m (bs.set k nb) w4) := Lib.hid ⟨HB4.out, SX.out.cells KX.out (by omega), HMV.out.lo.trans SX.out.lo⟩
      clear HB4 SX KX HMV KV
      go_wp2
      go_roundw
      case rel => exact ⟨k + 1, by omega, by go_num, by rw [← HST.out]; exact HM4⟩
      case measure => simp [intOf]; omega
    · have HE : Hid ((zs.take k).map (askB ⟨0, 0, -1, -1⟩) ++ List.replicate (m - k) (⟨0, 0, 0, 0⟩ : Ba) = rawsB zs []) := Lib.hid (by
        have := HL.out
        rw [show m - k = 0 by omega, List.take_of_length_le (by omega), rawsB_nil]; simp)
      rw [HE.out] at HM
      clear HE
      obtain rfl : k = m := by omega
      clear hk
      have HCH := Lib.hid (fun X => chosen_any 37 #[] q m' c' X)
      go_wp2_with (go_at_call 36; refine (HCH.out _).mono ?_; clear HCH; rintro e w' ⟨rfl, rfl⟩)
      have l0 := HM.out.box.lt
      obtain ⟨W2, hW2⟩ : ∃ W2, (wr.alloc (.cells #[.func (.func 37) #[] #[]] 72)).alloc (.cells #[.slice q m' c'] 23) = W2 := ⟨_, rfl⟩
      have B2 : Below wr.heap.size wr W2 := hW2 ▸ ((Below.refl _ wr).alloc (Nat.le_refl _) _).alloc (by simp) _
      have kM : Whole W2 wr.heap.size 72 [.func (.func 37) #[] #[]] := hW2 ▸ (whole_new wr [.func (.func 37) #[] #[]] 72 _ rfl).alloc _
      have kL : Whole W2 (wr.heap.size + 1) 23 [.slice q m' c'] := hW2 ▸ whole_new (wr.alloc (.cells #[.func (.func 37) #[] #[]] 72)) [.slice q m' c'] 23 _ (by simp)
      have s2 : W2.heap.size = wr.heap.size + 2 := by rw [← hW2]; simp
      have HM2 : Hid (BMem W G k (rawsB zs []) W2) := Lib.hid (HM.out.below B2)
      have hseq := cho_nextO (3 - 1) (by omega) wr.heap.size (wr.heap.size + 1) [W2.heap.size + 1, G] (fun s => decide (s.cs = 1)) q m' c' ns HL'.out hm2 W2
        (fun s X _ => one_any s X) (by simp; omega) (by simp; omega) (kM.cellAt 0) (kL.cellAt 0)
        (fun i s hs => by
          obtain ⟨b, off, e, hb, hc⟩ := HNN.out.at i s hs
          exact ⟨b, off, e, by omega, by simp; omega, fun i v hv => ((HM2.out.lo.cell (p := ⟨b, off + _ * 9 + i, none⟩) hb)).trans (hc i v hv)⟩)
      have HS := Lib.hid hseq
      clear hseq kM kL B2 HM
      rw [hW2]
      clear hW2
      refine (wpIn_wide (n := 3)).1 (range_keep (F := Fence.wide) rfl (by omega) (gf := 60) (lb := #[.pointer (some ⟨wr.heap.size + 1, 0, none⟩), .pointer (some ⟨wr.heap.size, 0, none⟩)]) rfl trivial (enters_of Try.func60 (by kernel_rfl) rfl)
        (Kp := KeepBut [W2.heap.size + 1, G]) (fun _ _ _ h k => h.trans k) (fun W o _ => KeepBut.put W _ o (by simp)) HS.out (fun _ => rfl)
        (fun pre X => BMem W G k (rawsB zs pre) X) (fun _ _ _ => False)
        (fun s X Y h hb => h.belowAt hb (by omega) (by omega)) (fun _ _ _ _ h _ => h.elim) HM2.out ?round ?done ?stop)
      case round =>
        rintro l pre x V hl hI ⟨i, hi, hP, hpre⟩
        clear HS HM2
        have hx1 : x.cs = 1 := by simpa using hP
        have hxm : x ∈ ns := List.mem_of_getElem? hi
        have hxo := (neB_iff _ x).1 (((rightK_iff zs ns).1 HRT.out).2.2 x hxm)
        rw [hx1] at hxo
        obtain ⟨j, hj⟩ : ∃ j : Nat, x.co = (j : Int) := ⟨x.co.toNat, by omega⟩
        have hjk : j < k := by have := HL.out; omega
        obtain ⟨b0, hb0⟩ : ∃ b0, (rawsB zs pre)[j]? = some b0 := ⟨_, List.getElem?_eq_getElem (by rw [rawsB_len]; have := HL.out; omega)⟩
        have HU := Lib.hid (rawsB_use zs pre x j b0 hx1 hj hb0)
        have HLR : Hid ((rawsB zs pre).length = k) := Lib.hid (by rw [rawsB_len]; exact HL.out)
        generalize rawsB zs pre = bs at hI HU HLR hb0
        clear hi hP hpre hxm hxo
        obtain ⟨nd, ro, co, rs, cs, xm, xx, ⟨wk, wn⟩⟩ := x
        dsimp only at hx1 hj
        subst hx1 hj
        apply Exists.intro
        apply Exists.intro
        refine ⟨?_, ?_, ?_, ?_⟩
        · intro K hK
          dsimp only [encK, Ne.val]
          gi_wp2
          exact hK
        · exact (KeepsOthers.alloc V _).from _
        · exact KeepBut.of_below ((Below.refl _ _).alloc (Nat.le_refl _) _)
        · intro V₂ hgV hnc hbl
          have KX0 := whole_new V [.int .i64 nd, .int .i64 ro, .int .i64 (j : Int), .int .i64 rs, .int .i64 1, .int .i64 xm, .int .i64 xx, .int .i64 wk, .int .i64 wn] 41 _ rfl
          have KN0 := KX0.grown hgV (KX0.ne hnc)
          have hI2 := (hI.below ((Below.refl _ V).alloc (Nat.le_refl _) (.cells #[.int .i64 nd, .int .i64 ro, .int .i64 (j : Int), .int .i64 rs, .int .i64 1, .int .i64 xm, .int .i64 xx, .int .i64 wk, .int .i64 wn] 41))).grown hgV hnc (fun r e => by cases e; omega)
          have hGV : G + 1 < V.heap.size := hI.box.lt
          obtain ⟨bx, hbx⟩ : ∃ bx, V.heap.size = bx := ⟨_, rfl⟩
          rw [hbx] at KN0 hGV ⊢
          have KN := Lib.hid KN0
          have HI := Lib.hid hI2
          have o2 := KN0.cellAt 2
          have lb := KN0.lt
          have og := hI2.box.cellAt 0
          have lg := hI2.box.lt
          simp only [List.getElem?_cons_zero, List.getElem?_cons_succ] at o2 og
          clear KX0 KN0 hI2 hI hgV hnc hbl hbx
          gi_wp2
          clear o2 lb og lg
          have hEE : ∃ b1 : Ba, b0 = b1 := ⟨_, rfl⟩
          obtain ⟨⟨mn, mx, sh, wt⟩, hb1⟩ := hEE
          rw [hb1] at hb0 HU
          clear hb1
          have hjl : j < bs.length := by rw [HLR.out]; exact hjk
          obtain ⟨L, hL⟩ : ∃ L, bs.flatMap Ba.cells = L := ⟨_, rfl⟩
          have E0 : Hid (L[j * 4]? = some (.int .i64 mn)) := Lib.hid (by have := HI.out.bs.cell j _ hb0 0 (by omega); rw [Whole.cellAt HI.out.bs, hL] at this; exact this)
          have E1 : Hid (L[j * 4 + 1]? = some (.int .i64 mx)) := Lib.hid (by have := HI.out.bs.cell j _ hb0 1 (by omega); rw [Whole.cellAt HI.out.bs, hL] at this; exact this)
          have HL0 := Lib.hid hL
          have HB0 := Lib.hid hb0
          clear hL hb0
          refine wpIn_round_held (S := fun X => Hid (SBk G W.heap.size V₂ X)) (by kernel_rfl) (by kernel_rfl) (by simp only [LetsOut, Exit.inBlock, Exit.then]; first | (rintro ⟨x, y, h⟩; exact h) | simp) ?_
          have SV : Hid (SBk G W.heap.size V₂ V₂.drew) := Lib.hid (SBk.start _ _ _)
          have HB2 : Hid (BsAt G bs V₂.drew) := Lib.hid (HI.out.bs.below (below_dn _ _ _) HI.out.bs.lt)
          have KG : Hid (Whole V₂.drew G 43 L) := Lib.hid (HL0.out ▸ HB2.out)
          generalize V₂.drew = w2 at SV HB2 KG ⊢
          have HEND := Lib.hid (BsAt.put2 HB2.out j _ HB0.out (max mn xm) (max mx xx))
          try simp only [Act.put, List.setIfInBounds_toArray, List.set_cons_succ, List.set_cons_zero]
          refine wpAnyH_takeC (i := 0) (v := .pointer (some ⟨G, j * 4, none⟩)) (some 42) rfl rfl (by kernel_rfl) (by kernel_rfl) (by kernel_rfl) (fun _ _ _ h => h) (Or.inl ⟨by rfl, ?_⟩) SV ?_
          · intro X hX; go_simp
          try simp only [Act.put, List.setIfInBounds_toArray, List.set_cons_succ, List.set_cons_zero]
          refine wpAnyH_takeC (i := 1) (v := .pointer (some ⟨G, j * 4, none⟩)) (some 43) rfl rfl (by kernel_rfl) (by kernel_rfl) (by kernel_rfl) (fun _ _ _ h => h) (Or.inl ⟨by rfl, ?_⟩) SV ?_
          · intro X hX; go_simp
          try simp only [Act.put, List.setIfInBounds_toArray, List.set_cons_succ, List.set_cons_zero]
          refine wpAnyH_takeC (i := 2) (v := .pointer (some ⟨G, j * 4, none⟩)) (some 44) rfl rfl (by kernel_rfl) (by kernel_rfl) (by kernel_rfl) (fun _ _ _ h => h) (Or.inl ⟨by rfl, ?_⟩) SV ?_
          · intro X hX; go_simp
          try simp only [Act.put, List.setIfInBounds_toArray, List.set_cons_succ, List.set_cons_zero]
          refine wpAnyH_takeC (i := 3) (v := .pointer (some ⟨G, j * 4, none⟩)) (some 45) rfl rfl (by kernel_rfl) (by kernel_rfl) (by kernel_rfl) (fun _ _ _ h => h) (Or.inl ⟨by rfl, ?_⟩) SV ?_
          · intro X hX; go_simp
          try simp only [Act.put, List.setIfInBounds_toArray, List.set_cons_succ, List.set_cons_zero]
          refine wpAnyH_takeC (i := 4) (v := .pointer (some ⟨G, j * 4, none⟩)) (some 46) rfl rfl (by kernel_rfl) (by kernel_rfl) (by kernel_rfl) (fun _ _ _ h => h) (Or.inl ⟨by rfl, ?_⟩) SV ?_
          · intro X hX; go_simp
          try simp only [Act.put, List.setIfInBounds_toArray, List.set_cons_succ, List.set_cons_zero]
          refine wpAnyH_takeC (i := 6) (v := .pointer (some ⟨bx, 5, none⟩)) (some 48) rfl rfl (by kernel_rfl) (by kernel_rfl) (by kernel_rfl) (fun _ _ _ h => h) (Or.inl ⟨by rfl, ?_⟩) SV ?_
          · intro X hX; go_simp
          try simp only [Act.put, List.setIfInBounds_toArray, List.set_cons_succ, List.set_cons_zero]
          refine wpAnyH_takeC (i := 7) (v := .int .i64 xm) (some 49) rfl rfl (by kernel_rfl) (by kernel_rfl) (by kernel_rfl) (fun _ _ _ h => h) (Or.inl ⟨by rfl, ?_⟩) SV ?_
          · intro X hX; have kx := hX.out.cells KN.out (by omega); have o5 := kx.cellAt 5; have o6 := kx.cellAt 6; have o7 := kx.cellAt 7; have o8 := kx.cellAt 8; have lX := kx.lt; clear kx; go_simp
          try simp only [Act.put, List.setIfInBounds_toArray, List.set_cons_succ, List.set_cons_zero]
          refine wpAnyH_takeC (i := 9) (v := .pointer (some ⟨G, j * 4, none⟩)) (some 51) rfl rfl (by kernel_rfl) (by kernel_rfl) (by kernel_rfl) (fun _ _ _ h => h) (Or.inl ⟨by rfl, ?_⟩) SV ?_
          · intro X hX; go_simp
          try simp only [Act.put, List.setIfInBounds_toArray, List.set_cons_succ, List.set_cons_zero]
          refine wpAnyH_takeC (i := 10) (v := .pointer (some ⟨G, j * 4, none⟩)) (some 52) rfl rfl (by kernel_rfl) (by kernel_rfl) (by kernel_rfl) (fun _ _ _ h => h) (Or.inl ⟨by rfl, ?_⟩) SV ?_
          · intro X hX; go_simp
          try simp only [Act.put, List.setIfInBounds_toArray, List.set_cons_succ, List.set_cons_zero]
          refine wpAnyH_takeC (i := 11) (v := .pointer (some ⟨G, j * 4 + 1, none⟩)) (some 53) rfl rfl (by kernel_rfl) (by kernel_rfl) (by kernel_rfl) (fun _ _ _ h => h) (Or.inl ⟨by rfl, ?_⟩) SV ?_
          · intro X hX; go_simp
          try simp only [Act.put, List.setIfInBounds_toArray, List.set_cons_succ, List.set_cons_zero]
          refine wpAnyH_takeC (i := 13) (v := .pointer (some ⟨bx, 6, none⟩)) (some 55) rfl rfl (by kernel_rfl) (by kernel_rfl) (by kernel_rfl) (fun _ _ _ h => h) (Or.inl ⟨by rfl, ?_⟩) SV ?_
          · intro X hX; go_simp
          try simp only [Act.put, List.setIfInBounds_toArray, List.set_cons_succ, List.set_cons_zero]
          refine wpAnyH_takeC (i := 14) (v := .int .i64 xx) (some 56) rfl rfl (by kernel_rfl) (by kernel_rfl) (by kernel_rfl) (fun _ _ _ h => h) (Or.inl ⟨by rfl, ?_⟩) SV ?_
          · intro X hX; have kx := hX.out.cells KN.out (by omega); have o5 := kx.cellAt 5; have o6 := kx.cellAt 6; have o7 := kx.cellAt 7; have o8 := kx.cellAt 8; have lX := kx.lt; clear kx; go_simp
          try simp only [Act.put, List.setIfInBounds_toArray, List.set_cons_succ, List.set_cons_zero]
          refine wpAnyH_all (rs := [5, 12]) (by kernel_rfl) (by simp) ?_
          intro ii hii
          rcases (show ii = 5 ∨ ii = 12 by simpa using hii) with rfl | rfl
          · clear hii
            refine wpOp_step rfl (fun K hK => ?_)
            have o0 := (Whole.cellAt KG.out (j * 4)).trans E0.out
            have lX := Whole.lt KG.out
            go_simp
            refine hK _ _ ⟨SV, ?_⟩
            clear hK K o0 lX
            try simp only [Act.put, List.setIfInBounds_toArray, List.set_cons_succ, List.set_cons_zero]
            refine wpAnyH_takeC (i := 8) (v := .int .i64 (max mn xm)) (some 50) rfl rfl (by kernel_rfl) (by kernel_rfl) (by kernel_rfl) (fun _ _ _ h => h) (Or.inl ⟨by rfl, ?_⟩) SV ?_
            · intro X hX; go_simp
            try simp only [Act.put, List.setIfInBounds_toArray, List.set_cons_succ, List.set_cons_zero]
            refine wpAnyH_all (rs := [12]) (by kernel_rfl) (by simp) ?_
            intro ii hii
            obtain rfl : ii = 12 := by simpa using hii
            clear hii
            refine wpOp_step rfl (fun K hK => ?_)
            have o0 := (Whole.cellAt KG.out (j * 4 + 1)).trans E1.out
            have lX := Whole.lt KG.out
            go_simp
            refine hK _ _ ⟨SV, ?_⟩
            clear hK K o0 lX
            try simp only [Act.put, List.setIfInBounds_toArray, List.set_cons_succ, List.set_cons_zero]
            refine wpAnyH_takeC (i := 15) (v := .int .i64 (max mx xx)) (some 57) rfl rfl (by kernel_rfl) (by kernel_rfl) (by kernel_rfl) (fun _ _ _ h => h) (Or.inl ⟨by rfl, ?_⟩) SV ?_
            · intro X hX; go_simp
            try simp only [Act.put, List.setIfInBounds_toArray, List.set_cons_succ, List.set_cons_zero]
            refine wpAnyH_takeC (i := 16) (v := .pointer (some ⟨G, j * 4, none⟩)) (some 58) rfl rfl (by kernel_rfl) (by kernel_rfl) (by kernel_rfl) (fun _ _ _ h => h) (Or.inl ⟨by rfl, ?_⟩) SV ?_
            · intro X hX; go_simp
            try simp only [Act.put, List.setIfInBounds_toArray, List.set_cons_succ, List.set_cons_zero]
            refine wpAnyH_takeC (i := 17) (v := .pointer (some ⟨G, j * 4, none⟩)) (some 59) rfl rfl (by kernel_rfl) (by kernel_rfl) (by kernel_rfl) (fun _ _ _ h => h) (Or.inl ⟨by rfl, ?_⟩) SV ?_
            · intro X hX; go_simp
            try simp only [Act.put, List.setIfInBounds_toArray, List.set_cons_succ, List.set_cons_zero]
            refine wpAnyH_all (rs := [18]) (by kernel_rfl) (by simp) ?_
            intro ii hii
            obtain rfl : ii = 18 := by simpa using hii
            clear hii
            refine wpOp_step rfl (fun K hK => ?_)
            have o0 := (Whole.cellAt KG.out (j * 4)).trans E0.out
            have f0 := Whole.free KG.out (j * 4)
            have lX := Whole.lt KG.out
            go_simp
            have SX := Lib.hid (SV.out.set hWG (j * 4) (.int .i64 (max mn xm)))
            have KX := Lib.hid (Whole.set KG.out (j * 4) (.int .i64 (max mn xm)))
            have EX := Lib.hid ((List.getElem?_set_ne (l := L) (a := .int .i64 (max mn xm)) (show j * 4 ≠ j * 4 + 1 by omega)).trans E1.out)
            refine hK _ _ ⟨SX, ?_⟩
            clear hK K o0 f0 lX SV KG
            have SV := SX
            have KG := KX
            clear KX E1
            have E1 := EX
            clear EX
            clear SX
            try simp only [Act.put, List.setIfInBounds_toArray, List.set_cons_succ, List.set_cons_zero]
            refine wpAnyH_takeC (i := 19) (v := .pointer (some ⟨G, j * 4, none⟩)) (some 60) rfl rfl (by kernel_rfl) (by kernel_rfl) (by kernel_rfl) (fun _ _ _ h => h) (Or.inl ⟨by rfl, ?_⟩) SV ?_
            · intro X hX; go_simp
            try simp only [Act.put, List.setIfInBounds_toArray, List.set_cons_succ, List.set_cons_zero]
            refine wpAnyH_takeC (i := 20) (v := .pointer (some ⟨G, j * 4 + 1, none⟩)) (some 61) rfl rfl (by kernel_rfl) (by kernel_rfl) (by kernel_rfl) (fun _ _ _ h => h) (Or.inl ⟨by rfl, ?_⟩) SV ?_
            · intro X hX; go_simp
            try simp only [Act.put, List.setIfInBounds_toArray, List.set_cons_succ, List.set_cons_zero]
            refine wpAnyH_all (rs := [21]) (by kernel_rfl) (by simp) ?_
            intro ii hii
            obtain rfl : ii = 21 := by simpa using hii
            clear hii
            refine wpOp_step rfl (fun K hK => ?_)
            have o0 := (Whole.cellAt KG.out (j * 4 + 1)).trans E1.out
            have f0 := Whole.free KG.out (j * 4 + 1)
            have lX := Whole.lt KG.out
            go_simp
            have SX := Lib.hid (SV.out.set hWG (j * 4 + 1) (.int .i64 (max mx xx)))
            refine hK _ _ ⟨SX, ?_⟩
            clear hK K o0 f0 lX SV KG
            have SV := SX
            clear SX
            refine wpAnyH_done (by kernel_rfl) ?_ _
            have HB4 := HEND
            have S4 := SV
            clear HEND SV E1
            obtain ⟨w4, hw4⟩ : ∃ w4, (w2.setCell ⟨G, j * 4, none⟩ (.int .i64 (max mn xm))).setCell ⟨G, j * 4 + 1, none⟩ (.int .i64 (max mx xx)) = w4 := ⟨_, rfl⟩
            rw [hw4] at HB4 S4 ⊢
            clear hw4
            have KN4 : Hid (Whole w4 bx 41 [.int .i64 nd, .int .i64 ro, .int .i64 (j : Int), .int .i64 rs, .int .i64 1, .int .i64 xm, .int .i64 xx, .int .i64 wk, .int .i64 wn]) := Lib.hid (S4.out.cells KN.out (by omega))
            have hs4 : W.heap.size ≤ w4.heap.size := Nat.le_trans HI.out.lo.size S4.out.kp.1
            gi_wp2
            refine wpIn_round_held (S := fun X => Hid (SBk G W.heap.size w4 X)) (by kernel_rfl) (by kernel_rfl) (by simp only [LetsOut, Exit.inBlock, Exit.then]; first | (rintro ⟨x, y, h⟩; exact h) | simp) ?_
            have SV : Hid (SBk G W.heap.size w4 w4.drew) := Lib.hid (SBk.start _ _ _)
            have HB5 : Hid (BsAt G (bs.set j ⟨max mn xm, max mx xx, sh, wt⟩) w4.drew) := Lib.hid (HB4.out.below (below_dn _ _ _) HB4.out.lt)
            clear HB4
            generalize w4.drew = w5 at SV HB5 ⊢
            try simp only [Act.put, List.setIfInBounds_toArray, List.set_cons_succ, List.set_cons_zero]
            refine wpAnyH_takeC (i := 0) (v := .pointer (some ⟨G, j * 4, none⟩)) (some 62) rfl rfl (by kernel_rfl) (by kernel_rfl) (by kernel_rfl) (fun _ _ _ h => h) (Or.inl ⟨by rfl, ?_⟩) SV ?_
            · intro X hX; go_simp
            try simp only [Act.put, List.setIfInBounds_toArray, List.set_cons_succ, List.set_cons_zero]
            refine wpAnyH_takeC (i := 1) (v := .pointer (some ⟨G, j * 4, none⟩)) (some 63) rfl rfl (by kernel_rfl) (by kernel_rfl) (by kernel_rfl) (fun _ _ _ h => h) (Or.inl ⟨by rfl, ?_⟩) SV ?_
            · intro X hX; go_simp
            try simp only [Act.put, List.setIfInBounds_toArray, List.set_cons_succ, List.set_cons_zero]
            refine wpAnyH_takeC (i := 2) (v := .pointer (some ⟨G, j * 4, none⟩)) (some 64) rfl rfl (by kernel_rfl) (by kernel_rfl) (by kernel_rfl) (fun _ _ _ h => h) (Or.inl ⟨by rfl, ?_⟩) SV ?_
            · intro X hX; go_simp
            try simp only [Act.put, List.setIfInBounds_toArray, List.set_cons_succ, List.set_cons_zero]
            refine wpAnyH_takeC (i := 4) (v := .pointer (some ⟨bx, 7, none⟩)) (some 66) rfl rfl (by kernel_rfl) (by kernel_rfl) (by kernel_rfl) (fun _ _ _ h => h) (Or.inl ⟨by rfl, ?_⟩) SV ?_
            · intro X hX; go_simp
            try simp only [Act.put, List.setIfInBounds_toArray, List.set_cons_succ, List.set_cons_zero]
            refine wpAnyH_takeC (i := 5) (v := .agg #[.int .i64 wk, .int .i64 wn]) (some 67) rfl rfl (by kernel_rfl) (by kernel_rfl) (by kernel_rfl) (fun _ _ _ h => h) (Or.inl ⟨by rfl, ?_⟩) SV ?_
            · intro X hX; have kx := hX.out.cells KN4.out (by omega); have o5 := kx.cellAt 5; have o6 := kx.cellAt 6; have o7 := kx.cellAt 7; have o8 := kx.cellAt 8; have lX := kx.lt; clear kx; go_simp
            try simp only [Act.put, List.setIfInBounds_toArray, List.set_cons_succ, List.set_cons_zero]
            refine wpAnyH_all (rs := [3]) (by kernel_rfl) (by simp) ?_
            intro ii hii
            obtain rfl : ii = 3 := by simpa using hii
            clear hii
            refine wpOp_step rfl (fun K hK => ?_)
            refine wp_load_mid 43 (.tmp 64) rfl G (j * 4) rfl (Ba.cells ⟨max mn xm, max mx xx, sh, wt⟩) _ (HB5.out.range j ⟨max mn xm, max mx xx, sh, wt⟩ (List.getElem?_set_self hjl)) Try.underlying43 rfl (infoBa4 ⟨max mn xm, max mx xx, sh, wt⟩) ?_
            refine hK _ _ ⟨SV, ?_⟩
            clear hK K
            have HAK := Lib.hid (asked_any ⟨max mn xm, max mx xx, sh, wt⟩ ⟨wk, wn⟩ w5)
            unfold Ba.val Sz.val at HAK
            unfold Ba.cells
            dsimp only at HAK ⊢
            try simp only [Act.put, List.setIfInBounds_toArray, List.set_cons_succ, List.set_cons_zero]
            refine wpAnyH_all (rs := [6]) (by kernel_rfl) (by simp) ?_
            intro ii hii
            obtain rfl : ii = 6 := by simpa using hii
            clear hii
            refine wpOp_step rfl (fun K hK => ?_)
            go_simp
            refine HAK.out.mono ?_
            rintro e w6 ⟨rfl, hb6⟩
            have SX : Hid (SBk G W.heap.size w4 w6) := Lib.hid (SV.out.low hs4 hb6)
            have HB6 : Hid (BsAt G (bs.set j ⟨max mn xm, max mx xx, sh, wt⟩) w6) := Lib.hid (HB5.out.below hb6 HB5.out.lt)
            refine hK _ _ ⟨SX, ?_⟩
            clear hK K hb6 SV HB5 HAK
            have SV := SX
            clear SX
            obtain ⟨nb, hnb⟩ : ∃ nb, askB ⟨max mn xm, max mx xx, sh, wt⟩ ⟨wk, wn⟩ = nb := ⟨_, rfl⟩
            have HU2 : Hid (rawsB zs (pre ++ [⟨nd, ro, (j : Int), rs, 1, xm, xx, ⟨wk, wn⟩⟩]) = bs.set j nb) := Lib.hid (by rw [HU.out, ← hnb]; rfl)
            rw [hnb]
            clear hnb HU
            try simp only [Act.put, List.setIfInBounds_toArray, List.set_cons_succ, List.set_cons_zero]
            refine wpAnyH_takeC (i := 7) (v := .pointer (some ⟨G, j * 4, none⟩)) (some 69) rfl rfl (by kernel_rfl) (by kernel_rfl) (by kernel_rfl) (fun _ _ _ h => h) (Or.inl ⟨by rfl, ?_⟩) SV ?_
            · intro X hX; go_simp
            try simp only [Act.put, List.setIfInBounds_toArray, List.set_cons_succ, List.set_cons_zero]
            refine wpAnyH_all (rs := [8]) (by kernel_rfl) (by simp) ?_
            intro ii hii
            obtain rfl : ii = 8 := by simpa using hii
            clear hii
            refine wpOp_step rfl (fun K hK => ?_)
            have hjs : j < (bs.set j (⟨max mn xm, max mx xx, sh, wt⟩ : Ba)).length := by simpa using hjl
            refine wp_store_midK rfl 43 (.tmp 69) (.tmp 68) rfl G (j * 4) nb.cells.toArray rfl rfl (HB6.out.there j hjs) (infoBa4 nb) (oneBa nb) ?_
            have HB7 := Lib.hid (HB6.out.put j nb hjs)
            have SX := Lib.hid (SV.out.put hWG (j * 4) nb)
            refine hK _ _ ⟨SX, ?_⟩
            clear hK K SV HB6
            generalize World.setCells w6 G (j * 4) nb.cells.toArray.toList = w7 at *
            refine wpAnyH_done (by kernel_rfl) ?_ _
            have hkp : KeepBut [G] V₂ w7 := S4.out.kp.trans SX.out.kp
            gi_wp2
            refine ⟨hkp.froms (by omega), hkp.more (by simp), ⟨?_, (hkp.2 (G + 1) (by simp) HI.out.box.lt).trans HI.out.box, HI.out.lo.trans (S4.out.lo.trans SX.out.lo)⟩⟩
            rw [HU2.out]
            have := HB7.out
            rwa [List.set_set] at this
          · clear hii
            refine wpOp_step rfl (fun K hK => ?_)
            have o0 := (Whole.cellAt KG.out (j * 4 + 1)).trans E1.out
            have lX := Whole.lt KG.out
            go_simp
            refine hK _ _ ⟨SV, ?_⟩
            clear hK K o0 lX
            try simp only [Act.put, List.setIfInBounds_toArray, List.set_cons_succ, List.set_cons_zero]
            refine wpAnyH_takeC (i := 15) (v := .int .i64 (max mx xx)) (some 57) rfl rfl (by kernel_rfl) (by kernel_rfl) (by kernel_rfl) (fun _ _ _ h => h) (Or.inl ⟨by rfl, ?_⟩) SV ?_
            · intro X hX; go_simp
            try simp only [Act.put, List.setIfInBounds_toArray, List.set_cons_succ, List.set_cons_zero]
            refine wpAnyH_all (rs := [5]) (by kernel_rfl) (by simp) ?_
            intro ii hii
            obtain rfl : ii = 5 := by simpa using hii
            clear hii
            refine wpOp_step rfl (fun K hK => ?_)
            have o0 := (Whole.cellAt KG.out (j * 4)).trans E0.out
            have lX := Whole.lt KG.out
            go_simp
            refine hK _ _ ⟨SV, ?_⟩
            clear hK K o0 lX
            try simp only [Act.put, List.setIfInBounds_toArray, List.set_cons_succ, List.set_cons_zero]
            refine wpAnyH_takeC (i := 8) (v := .int .i64 (max mn xm)) (some 50) rfl rfl (by kernel_rfl) (by kernel_rfl) (by kernel_rfl) (fun _ _ _ h => h) (Or.inl ⟨by rfl, ?_⟩) SV ?_
            · intro X hX; go_simp
            try simp only [Act.put, List.setIfInBounds_toArray, List.set_cons_succ, List.set_cons_zero]
            refine wpAnyH_takeC (i := 16) (v := .pointer (some ⟨G, j * 4, none⟩)) (some 58) rfl rfl (by kernel_rfl) (by kernel_rfl) (by kernel_rfl) (fun _ _ _ h => h) (Or.inl ⟨by rfl, ?_⟩) SV ?_
            · intro X hX; go_simp
            try simp only [Act.put, List.setIfInBounds_toArray, List.set_cons_succ, List.set_cons_zero]
            refine wpAnyH_takeC (i := 17) (v := .pointer (some ⟨G, j * 4, none⟩)) (some 59) rfl rfl (by kernel_rfl) (by kernel_rfl) (by kernel_rfl) (fun _ _ _ h => h) (Or.inl ⟨by rfl, ?_⟩) SV ?_
            · intro X hX; go_simp
            try simp only [Act.put, List.setIfInBounds_toArray, List.set_cons_succ, List.set_cons_zero]
            refine wpAnyH_all (rs := [18]) (by kernel_rfl) (by simp) ?_
            intro ii hii
            obtain rfl : ii = 18 := by simpa using hii
            clear hii
            refine wpOp_step rfl (fun K hK => ?_)
            have o0 := (Whole.cellAt KG.out (j * 4)).trans E0.out
            have f0 := Whole.free KG.out (j * 4)
            have lX := Whole.lt KG.out
            go_simp
            have SX := Lib.hid (SV.out.set hWG (j * 4) (.int .i64 (max mn xm)))
            have KX := Lib.hid (Whole.set KG.out (j * 4) (.int .i64 (max mn xm)))
            have EX := Lib.hid ((List.getElem?_set_ne (l := L) (a := .int .i64 (max mn xm)) (show j * 4 ≠ j * 4 + 1 by omega)).trans E1.out)
            refine hK _ _ ⟨SX, ?_⟩
            clear hK K o0 f0 lX SV KG
            have SV := SX
            have KG := KX
            clear KX E1
            have E1 := EX
            clear EX
            clear SX
            try simp only [Act.put, List.setIfInBounds_toArray, List.set_cons_succ, List.set_cons_zero]
            refine wpAnyH_takeC (i := 19) (v := .pointer (some ⟨G, j * 4, none⟩)) (some 60) rfl rfl (by kernel_rfl) (by kernel_rfl) (by kernel_rfl) (fun _ _ _ h => h) (Or.inl ⟨by rfl, ?_⟩) SV ?_
            · intro X hX; go_simp
            try simp only [Act.put, List.setIfInBounds_toArray, List.set_cons_succ, List.set_cons_zero]
            refine wpAnyH_takeC (i := 20) (v := .pointer (some ⟨G, j * 4 + 1, none⟩)) (some 61) rfl rfl (by kernel_rfl) (by kernel_rfl) (by kernel_rfl) (fun _ _ _ h => h) (Or.inl ⟨by rfl, ?_⟩) SV ?_
            · intro X hX; go_simp
            try simp only [Act.put, List.setIfInBounds_toArray, List.set_cons_succ, List.set_cons_zero]
            refine wpAnyH_all (rs := [21]) (by kernel_rfl) (by simp) ?_
            intro ii hii
            obtain rfl : ii = 21 := by simpa using hii
            clear hii
            refine wpOp_step rfl (fun K hK => ?_)
            have o0 := (Whole.cellAt KG.out (j * 4 + 1)).trans E1.out
            have f0 := Whole.free KG.out (j * 4 + 1)
            have lX := Whole.lt KG.out
            go_simp
            have SX := Lib.hid (SV.out.set hWG (j * 4 + 1) (.int .i64 (max mx xx)))
            refine hK _ _ ⟨SX, ?_⟩
            clear hK K o0 f0 lX SV KG
            have SV := SX
            clear SX
            refine wpAnyH_done (by kernel_rfl) ?_ _
            have HB4 := HEND
            have S4 := SV
            clear HEND SV E1
            obtain ⟨w4, hw4⟩ : ∃ w4, (w2.setCell ⟨G, j * 4, none⟩ (.int .i64 (max mn xm))).setCell ⟨G, j * 4 + 1, none⟩ (.int .i64 (max mx xx)) = w4 := ⟨_, rfl⟩
            rw [hw4] at HB4 S4 ⊢
            clear hw4
            have KN4 : Hid (Whole w4 bx 41 [.int .i64 nd, .int .i64 ro, .int .i64 (j : Int), .int .i64 rs, .int .i64 1, .int .i64 xm, .int .i64 xx, .int .i64 wk, .int .i64 wn]) := Lib.hid (S4.out.cells KN.out (by omega))
            have hs4 : W.heap.size ≤ w4.heap.size := Nat.le_trans HI.out.lo.size S4.out.kp.1
            gi_wp2
            refine wpIn_round_held (S := fun X => Hid (SBk G W.heap.size w4 X)) (by kernel_rfl) (by kernel_rfl) (by simp only [LetsOut, Exit.inBlock, Exit.then]; first | (rintro ⟨x, y, h⟩; exact h) | simp) ?_
            have SV : Hid (SBk G W.heap.size w4 w4.drew) := Lib.hid (SBk.start _ _ _)
            have HB5 : Hid (BsAt G (bs.set j ⟨max mn xm, max mx xx, sh, wt⟩) w4.drew) := Lib.hid (HB4.out.below (below_dn _ _ _) HB4.out.lt)
            clear HB4
            generalize w4.drew = w5 at SV HB5 ⊢
            try simp only [Act.put, List.setIfInBounds_toArray, List.set_cons_succ, List.set_cons_zero]
            refine wpAnyH_takeC (i := 0) (v := .pointer (some ⟨G, j * 4, none⟩)) (some 62) rfl rfl (by kernel_rfl) (by kernel_rfl) (by kernel_rfl) (fun _ _ _ h => h) (Or.inl ⟨by rfl, ?_⟩) SV ?_
            · intro X hX; go_simp
            try simp only [Act.put, List.setIfInBounds_toArray, List.set_cons_succ, List.set_cons_zero]
            refine wpAnyH_takeC (i := 1) (v := .pointer (some ⟨G, j * 4, none⟩)) (some 63) rfl rfl (by kernel_rfl) (by kernel_rfl) (by kernel_rfl) (fun _ _ _ h => h) (Or.inl ⟨by rfl, ?_⟩) SV ?_
            · intro X hX; go_simp
            try simp only [Act.put, List.setIfInBounds_toArray, List.set_cons_succ, List.set_cons_zero]
            refine wpAnyH_takeC (i := 2) (v := .pointer (some ⟨G, j * 4, none⟩)) (some 64) rfl rfl (by kernel_rfl) (by kernel_rfl) (by kernel_rfl) (fun _ _ _ h => h) (Or.inl ⟨by rfl, ?_⟩) SV ?_
            · intro X hX; go_simp
            try simp only [Act.put, List.setIfInBounds_toArray, List.set_cons_succ, List.set_cons_zero]
            refine wpAnyH_takeC (i := 4) (v := .pointer (some ⟨bx, 7, none⟩)) (some 66) rfl rfl (by kernel_rfl) (by kernel_rfl) (by kernel_rfl) (fun _ _ _ h => h) (Or.inl ⟨by rfl, ?_⟩) SV ?_
            · intro X hX; go_simp
            try simp only [Act.put, List.setIfInBounds_toArray, List.set_cons_succ, List.set_cons_zero]
            refine wpAnyH_takeC (i := 5) (v := .agg #[.int .i64 wk, .int .i64 wn]) (some 67) rfl rfl (by kernel_rfl) (by kernel_rfl) (by kernel_rfl) (fun _ _ _ h => h) (Or.inl ⟨by rfl, ?_⟩) SV ?_
            · intro X hX; have kx := hX.out.cells KN4.out (by omega); have o5 := kx.cellAt 5; have o6 := kx.cellAt 6; have o7 := kx.cellAt 7; have o8 := kx.cellAt 8; have lX := kx.lt; clear kx; go_simp
            try simp only [Act.put, List.setIfInBounds_toArray, List.set_cons_succ, List.set_cons_zero]
            refine wpAnyH_all (rs := [3]) (by kernel_rfl) (by simp) ?_
            intro ii hii
            obtain rfl : ii = 3 := by simpa using hii
            clear hii
            refine wpOp_step rfl (fun K hK => ?_)
            refine wp_load_mid 43 (.tmp 64) rfl G (j * 4) rfl (Ba.cells ⟨max mn xm, max mx xx, sh, wt⟩) _ (HB5.out.range j ⟨max mn xm, max mx xx, sh, wt⟩ (List.getElem?_set_self hjl)) Try.underlying43 rfl (infoBa4 ⟨max mn xm, max mx xx, sh, wt⟩) ?_
            refine hK _ _ ⟨SV, ?_⟩
            clear hK K
            have HAK := Lib.hid (asked_any ⟨max mn xm, max mx xx, sh, wt⟩ ⟨wk, wn⟩ w5)
            unfold Ba.val Sz.val at HAK
            unfold Ba.cells
            dsimp only at HAK ⊢
            try simp only [Act.put, List.setIfInBounds_toArray, List.set_cons_succ, List.set_cons_zero]
            refine wpAnyH_all (rs := [6]) (by kernel_rfl) (by simp) ?_
            intro ii hii
            obtain rfl : ii = 6 := by simpa using hii
            clear hii
            refine wpOp_step rfl (fun K hK => ?_)
            go_simp
            refine HAK.out.mono ?_
            rintro e w6 ⟨rfl, hb6⟩
            have SX : Hid (SBk G W.heap.size w4 w6) := Lib.hid (SV.out.low hs4 hb6)
            have HB6 : Hid (BsAt G (bs.set j ⟨max mn xm, max mx xx, sh, wt⟩) w6) := Lib.hid (HB5.out.below hb6 HB5.out.lt)
            refine hK _ _ ⟨SX, ?_⟩
            clear hK K hb6 SV HB5 HAK
            have SV := SX
            clear SX
            obtain ⟨nb, hnb⟩ : ∃ nb, askB ⟨max mn xm, max mx xx, sh, wt⟩ ⟨wk, wn⟩ = nb := ⟨_, rfl⟩
            have HU2 : Hid (rawsB zs (pre ++ [⟨nd, ro, (j : Int), rs, 1, xm, xx, ⟨wk, wn⟩⟩]) = bs.set j nb) := Lib.hid (by rw [HU.out, ← hnb]; rfl)
            rw [hnb]
            clear hnb HU
            try simp only [Act.put, List.setIfInBounds_toArray, List.set_cons_succ, List.set_cons_zero]
            refine wpAnyH_takeC (i := 7) (v := .pointer (some ⟨G, j * 4, none⟩)) (some 69) rfl rfl (by kernel_rfl) (by kernel_rfl) (by kernel_rfl) (fun _ _ _ h => h) (Or.inl ⟨by rfl, ?_⟩) SV ?_
            · intro X hX; go_simp
            try simp only [Act.put, List.setIfInBounds_toArray, List.set_cons_succ, List.set_cons_zero]
            refine wpAnyH_all (rs := [8]) (by kernel_rfl) (by simp) ?_
            intro ii hii
            obtain rfl : ii = 8 := by simpa using hii
            clear hii
            refine wpOp_step rfl (fun K hK => ?_)
            have hjs : j < (bs.set j (⟨max mn xm, max mx xx, sh, wt⟩ : Ba)).length := by simpa using hjl
            refine wp_store_midK rfl 43 (.tmp 69) (.tmp 68) rfl G (j * 4) nb.cells.toArray rfl rfl (HB6.out.there j hjs) (infoBa4 nb) (oneBa nb) ?_
            have HB7 := Lib.hid (HB6.out.put j nb hjs)
            have SX := Lib.hid (SV.out.put hWG (j * 4) nb)
            refine hK _ _ ⟨SX, ?_⟩
            clear hK K SV HB6
            generalize World.setCells w6 G (j * 4) nb.cells.toArray.toList = w7 at *
            refine wpAnyH_done (by kernel_rfl) ?_ _
            have hkp : KeepBut [G] V₂ w7 := S4.out.kp.trans SX.out.kp
            gi_wp2
            refine ⟨hkp.froms (by omega), hkp.more (by simp), ⟨?_, (hkp.2 (G + 1) (by simp) HI.out.box.lt).trans HI.out.box, HI.out.lo.trans (S4.out.lo.trans SX.out.lo)⟩⟩
            rw [HU2.out]
            have := HB7.out
            rwa [List.set_set] at this
      case done =>
        rintro D xs V hD hxs hI hK
        have HXS := Lib.hid hxs
        have hDl := (Array.getElem?_eq_some_iff.1 hK).1
        have HBL : Hid ((rawsB zs xs).length = k) := Lib.hid (by rw [rawsB_len]; exact HL.out)
        have HOUT : Hid ((rawsB zs xs).map setB = bandsB zs ns) := Lib.hid (by rw [← bandsB_eq, hxs]; exact bandsB_one zs ns)
        generalize rawsB zs xs = bs at hI HBL HOUT
        have HI := Lib.hid hI
        have HK := Lib.hid hK
        have hGD : G + 1 < W2.heap.size := by omega
        clear hxs hI hK HS HM2
        have og := HI.out.box.cellAt 0
        have lg := HI.out.box.lt
        simp only [List.getElem?_cons_zero] at og
        go_wp2
        clear og lg
        go_loopw [72] (fun s72 X => ∃ j : Nat, j ≤ k ∧ s72 = .int .i64 j ∧ Hid (BMem W G k ((bs.take j).map setB ++ bs.drop j) X) ∧ Hid (X.heap[D]? = some (.deferred (some [])))) (fun s72 _ => k - (intOf s72).toNat)
        case atStart => exact ⟨0, Nat.zero_le _, rfl, by simpa using HI, HK⟩
        case round =>
          clear HI HK
          obtain ⟨j, hj, rfl, HM, HKX⟩ := hrel
          by_cases hlt : j < k
          · obtain ⟨b, hb⟩ : ∃ b, bs[j]? = some b := ⟨_, List.getElem?_eq_getElem (by rw [HBL.out]; exact hlt)⟩
            have HST := Lib.hid (map_step setB bs j b hb)
            have hat := map_at setB bs j b hb
            have HLN : Hid (((bs.take j).map setB ++ bs.drop j).length = k) := Lib.hid (by have := HBL.out; simp; omega)
            generalize (bs.take j).map setB ++ bs.drop j = cs at HM HST HLN hat
            clear hb
            obtain ⟨mn, mx, sh, wt⟩ := b
            have q0 : wr.cell? ⟨G, j * 4, none⟩ = some (.int .i64 mn) := HM.out.bs.cell j _ hat 0 (by omega)
            have q1 : wr.cell? ⟨G, j * 4 + 1, none⟩ = some (.int .i64 mx) := HM.out.bs.cell j _ hat 1 (by omega)
            have q2 : wr.cell? ⟨G, j * 4 + 2, none⟩ = some (.int .i64 sh) := HM.out.bs.cell j _ hat 2 (by omega)
            have q3 : wr.cell? ⟨G, j * 4 + 3, none⟩ = some (.int .i64 wt) := HM.out.bs.cell j _ hat 3 (by omega)
            have lb : G < wr.heap.size := HM.out.bs.lt
            obtain ⟨V, hV⟩ : ∃ V, wr.alloc (.cells #[.int .i64 mn, .int .i64 mx, .int .i64 sh, .int .i64 wt] 43) = V := ⟨_, rfl⟩
            have KV : Hid (Whole V wr.heap.size 43 [.int .i64 mn, .int .i64 mx, .int .i64 sh, .int .i64 wt]) := Lib.hid (hV ▸ whole_new wr [.int .i64 mn, .int .i64 mx, .int .i64 sh, .int .i64 wt] 43 _ rfl)
            have BV : Below wr.heap.size wr V := by rw [← hV]; exact (Below.refl _ wr).alloc (Nat.le_refl _) _
            have HMV := Lib.hid (HM.out.below BV)
            have HKV : Hid (V.heap[D]? = some (.deferred (some []))) := Lib.hid ((BV.block D (Array.getElem?_eq_some_iff.1 HKX.out).1).trans HKX.out)
            have lG1 : G + 1 < wr.heap.size := HM.out.box.lt
            clear HM BV HKX hat
            go_wp2
            try rw [hV]
            clear hV q0 q1 q2 q3 lb
            have hVs := HMV.out.lo.size
            have KX : Hid (Whole V (G + 1) 22 [.slice (some ⟨G, 0, none⟩) k k]) := Lib.hid HMV.out.box
            refine region_held_np (S := fun X => Hid (SBk G W.heap.size V X)) (by kernel_rfl) (fun w2 hw2 => ?_)
            have SV : Hid (SBk G W.heap.size V w2) := Lib.hid (hw2 ▸ SBk.start _ _ _)
            have HB2 : Hid (BsAt G cs w2) := Lib.hid (hw2 ▸ HMV.out.bs.below (below_dn _ _ _) HMV.out.bs.lt)
            clear hw2
            try simp only [Act.put, List.setIfInBounds_toArray, List.set_cons_succ, List.set_cons_zero]
            refine wpAnyH_takeC (i := 0) (v := .slice (some ⟨G, 0, none⟩) k k) (some 77) rfl rfl (by kernel_rfl) (by kernel_rfl) (by kernel_rfl) (fun _ _ _ h => h) (Or.inl ⟨by rfl, ?_⟩) SV ?_
            · intro X hX; have kx := hX.out.cells KX.out (by omega); have o0 := kx.cellAt 0; have lX := kx.lt; clear kx; go_simp
            try simp only [Act.put, List.setIfInBounds_toArray, List.set_cons_succ, List.set_cons_zero]
            refine wpAnyH_takeC (i := 1) (v := .int .i64 (j : Int)) (some 78) rfl rfl (by kernel_rfl) (by kernel_rfl) (by kernel_rfl) (fun _ _ _ h => h) (Or.inl ⟨by rfl, ?_⟩) SV ?_
            · intro X hX; go_simp
            try simp only [Act.put, List.setIfInBounds_toArray, List.set_cons_succ, List.set_cons_zero]
            refine wpAnyH_takeC (i := 2) (v := .agg #[.int .i64 mn, .int .i64 mx, .int .i64 sh, .int .i64 wt]) (some 79) rfl rfl (by kernel_rfl) (by kernel_rfl) (by kernel_rfl) (fun _ _ _ h => h) (Or.inl ⟨by rfl, ?_⟩) SV ?_
            · intro X hX; have kx := hX.out.cells KV.out (by omega); have o0 := kx.cellAt 0; have o1 := kx.cellAt 1; have o2 := kx.cellAt 2; have o3 := kx.cellAt 3; have lX := kx.lt; clear kx; go_simp
            try simp only [Act.put, List.setIfInBounds_toArray, List.set_cons_succ, List.set_cons_zero]
            refine wpAnyH_all (rs := [3]) (by kernel_rfl) (by simp) ?_
            intro ii hii
            obtain rfl : ii = 3 := by simpa using hii
            clear hii
            refine wpOp_step rfl (fun K hK => ?_)
            have HAK := Lib.hid (settled_any ⟨mn, mx, sh, wt⟩ w2)
            unfold Ba.val at HAK
            dsimp only at HAK
            go_simp
            refine HAK.out.mono ?_
            rintro e w3 ⟨rfl, hb3⟩
            have SX : Hid (SBk G W.heap.size V w3) := Lib.hid (SV.out.low hVs hb3)
            have HB3 : Hid (BsAt G cs w3) := Lib.hid (HB2.out.below hb3 HB2.out.lt)
            refine hK _ _ ⟨SX, ?_⟩
            clear hK K hb3 SV HB2 HAK
            have SV := SX
            clear SX
            obtain ⟨nb, hnb⟩ : ∃ nb, setB ⟨mn, mx, sh, wt⟩ = nb := ⟨_, rfl⟩
            rw [hnb] at HST ⊢
            clear hnb
            try simp only [Act.put, List.setIfInBounds_toArray, List.set_cons_succ, List.set_cons_zero]
            refine wpAnyH_takeC (i := 4) (v := .pointer (some ⟨G, j * 4, none⟩)) (some 81) rfl rfl (by kernel_rfl) (by kernel_rfl) (by kernel_rfl) (fun _ _ _ h => h) (Or.inl ⟨by rfl, ?_⟩) SV ?_
            · intro X hX; go_simp
            try simp only [Act.put, List.setIfInBounds_toArray, List.set_cons_succ, List.set_cons_zero]
            refine wpAnyH_all (rs := [5]) (by kernel_rfl) (by simp) ?_
            intro ii hii
            obtain rfl : ii = 5 := by simpa using hii
            clear hii
            refine wpOp_step rfl (fun K hK => ?_)
            refine wp_store_midK rfl 43 (.tmp 81) (.tmp 80) rfl G (j * 4) nb.cells.toArray rfl rfl (HB3.out.there j (by rw [HLN.out]; exact hlt)) (infoBa4 nb) (oneBa nb) ?_
            have HB4 := Lib.hid (HB3.out.put j nb (by rw [HLN.out]; exact hlt))
            have SX := Lib.hid (SV.out.put hWG (j * 4) nb)
            refine hK _ _ ⟨SX, ?_⟩
            clear hK K SV HB3
            generalize World.setCells w3 G (j * 4) nb.cells.toArray.toList = w4 at *
            refine wpAnyH_done (by kernel_rfl) ?_ _
            try dsimp only [noPan]
            have HM4 : Hid (BMem W G k (cs.set j nb) w4) := Lib.hid ⟨HB4.out, SX.out.cells KX.out (by omega), HMV.out.lo.trans SX.out.lo⟩
            have HK4 : Hid (w4.heap[D]? = some (.deferred (some []))) := Lib.hid ((SX.out.kp.2 D (by simp; omega) (Array.getElem?_eq_some_iff.1 HKV.out).1).trans HKV.out)
            clear HB4 SX KX HMV KV HKV
            go_wp2
            go_roundw
            case rel => exact ⟨j + 1, by omega, by go_num, by rw [← HST.out]; exact HM4, HK4⟩
            case measure => simp [intOf]; omega
          · have HE : Hid ((bs.take j).map setB ++ bs.drop j = bandsB zs ns) := Lib.hid (by
              have := HBL.out
              rw [List.take_of_length_le (by omega), List.drop_eq_nil_of_le (by omega), List.append_nil]; exact HOUT.out)
            rw [HE.out] at HM
            clear HE
            have og := HM.out.box.cellAt 0
            have lg := HM.out.box.lt
            simp only [List.getElem?_cons_zero] at og
            go_wp2
            exact leaves_marks W.heap.size [D] _ ((Marks.nil W.heap.size _).cons (D := D) (by omega) HKX.out (fun E hE => by cases hE)) (fun W' hck hbk => ⟨_, results_twoK rfl rfl rfl, ⟨G, rfl, hWG, hck _ _ HM.out.bs rfl, HM.out.lo.trans hbk⟩⟩)
      case stop =>
        rintro D cd pre V hD _ h hK
        exact h.elim
end Go.Proofs.Ytejbngjeleiacaa
