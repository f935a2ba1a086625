/- Contract of columns.Bands: the bands of right sizes and needs. -/
/- The law's shown and Cut, its arguments opened, and the document's Same of two lists that have the same bands. -/
import Derived.Test.YtmljndggblfeiaaKBand
namespace Go.Proofs.Ytmljndggblfeiaa
open Go.RowKit Go.Shelf Go.Sort
set_option linter.unusedVariables false
set_option linter.unusedSimpArgs false
attribute [local go_sem] Oper.semAt_some

def noPan (Q : Exit → Act → World → Prop) : Exit → Act → World → Prop
  | .panic _, _, _ => False
  | e, a, w => Q e a w
theorem noPan_le {Q : Exit → Act → World → Prop} (e : Exit) (a : Act) (w : World) (h : noPan Q e a w) : Q e a w := by cases e <;> first | exact h | exact h.elim
theorem region_held_np {P : Program} {ops : Array Oper} {Q : Exit → Act → World → Prop} {S : World → Prop} {id : Nat} {a : Act} {w : World} (hm : P.follows .mixedOrders = true)
    (h : ∀ w2 : World, w.drew = w2 → wpAnyH P .any ops (noPan Q) S ops.size (Array.replicate ops.size false) a w2) : (Code.region id ops true).wp P Q a w :=
  (wpIn_wide (n := 0)).1 (wpIn_mono (wpIn_wide.2 (wp_region_held hm (h _ rfl))) noPan_le)
theorem results_twoK {W : World} {x y : Value} {tmps : Array Value} {fn : Func} (hf : fn.results = #[.tmp 4, .tmp 5]) (h4 : tmps[4]? = some x) (h5 : tmps[5]? = some y) :
    (results fn tmps).run Try.prog W = .ok (.tuple #[x, y]) W := by
  simp [results, hf, go_sem, h4, h5]
theorem fill_step (f : Sz → Ba) (zs : List Sz) (k m : Nat) (z : Ba) (s : Sz) (hm : zs.length = m) (hs : zs[k]? = some s) :
    ((zs.take k).map f ++ List.replicate (m - k) z).set k (f s) = (zs.take (k + 1)).map f ++ List.replicate (m - (k + 1)) z := by
  have hk := (List.getElem?_eq_some_iff.1 hs).1
  have hl : ((zs.take k).map f).length = k := by simp; omega
  rw [List.set_append_right _ _ (by omega), hl, Nat.sub_self, show m - k = (m - (k + 1)) + 1 by omega, List.replicate_succ, List.set_cons_zero, List.take_add_one, hs]
  simp
theorem map_step (f : Ba → Ba) (bs : List Ba) (k : Nat) (b : Ba) (hb : bs[k]? = some b) : ((bs.take k).map f ++ bs.drop k).set k (f b) = (bs.take (k + 1)).map f ++ bs.drop (k + 1) := by
  have hk := (List.getElem?_eq_some_iff.1 hb).1
  have hl : ((bs.take k).map f).length = k := by simp; omega
  rw [List.set_append_right _ _ (by omega), hl, Nat.sub_self, List.drop_eq_getElem_cons hk, List.set_cons_zero, List.take_add_one, hb]
  simp
theorem map_at (f : Ba → Ba) (bs : List Ba) (k : Nat) (b : Ba) (hb : bs[k]? = some b) : ((bs.take k).map f ++ bs.drop k)[k]? = some b := by
  have hk := (List.getElem?_eq_some_iff.1 hb).1
  have hl : ((bs.take k).map f).length = k := by simp; omega
  rw [List.getElem?_append_right (by omega), hl, Nat.sub_self, List.drop_eq_getElem_cons hk, List.getElem?_cons_zero, (List.getElem?_eq_some_iff.1 hb).2]

/-- what lies while the bands are made -/
structure BMem (W : World) (G : Nat) (m : Nat) (bs : List Ba) (X : World) : Prop where
  bs : BsAt G bs X
  box : Whole X (G + 1) 22 [.slice (some ⟨G, 0, none⟩) m m]
  lo : Below W.heap.size W X
theorem BMem.below {W : World} {G m : Nat} {bs : List Ba} {X Y : World} (h : BMem W G m bs X) (hb : Below X.heap.size X Y) : BMem W G m bs Y :=
  ⟨h.bs.below hb h.bs.lt, h.box.below hb h.box.lt, h.lo.trans (hb.mono h.lo.size)⟩
theorem BMem.drew {W : World} {G m : Nat} {bs : List Ba} {X : World} (h : BMem W G m bs X) : BMem W G m bs X.drew := h.below (below_dn _ _ _)
theorem wp_store_midK {P : Program} {o : Oper} {a : Act} {w : World} {K : Act → World → Prop} {Q : Exit → Act → World → Prop} (hd : o.dst = none) (ty : TypeId) (x y : Operand) (ho : o.op = .store ty x y)
    (b n : Nat) (cells : Array Value) (hx : a.eval x = .pointer (some ⟨b, n, none⟩)) (hy : a.eval y = .agg cells)
    (ht : w.there b n cells.size) (hi : (P.info? ty).map (·.size) = some cells.size) (h1 : cells.all (·.oneCell') = true)
    (h : K a (w.setCells b n cells.toList)) : o.wp P a w K Q := by
  refine wp_store_mid ty x y ho b n cells hx hy ht hi h1 ?_
  rw [hd]; exact h
/-- what a region's order leaves: all blocks but the bands' -/
structure SBk (G B : Nat) (V X : World) : Prop where
  lo : Below B V X
  kp : KeepBut [G] V X
theorem SBk.refl (G B : Nat) (V : World) : SBk G B V V := ⟨Below.refl _ _, KeepBut.refl _ _⟩
theorem SBk.low {G B : Nat} {V X Y : World} (h : SBk G B V X) (hB : B ≤ V.heap.size) (hb : Below X.heap.size X Y) : SBk G B V Y :=
  ⟨h.lo.trans (hb.mono (Nat.le_trans hB h.lo.size)), h.kp.trans (KeepBut.of_below hb)⟩
theorem SBk.start (G B : Nat) (V : World) : SBk G B V V.drew := ⟨below_dn _ _ _, KeepBut.of_below (below_dn _ _ _)⟩
theorem SBk.put {G B : Nat} {V X : World} (h : SBk G B V X) (hG : B ≤ G) (o : Nat) (b : Ba) : SBk G B V (X.setCells G o b.cells) :=
  ⟨below_setCells4 h.lo hG b, h.kp.trans ⟨by rw [size_setCells4]; exact Nat.le_refl _, fun k hk _ => heap_setCells4 X (by simpa using hk) b⟩⟩
theorem SBk.set {G B : Nat} {V X : World} (h : SBk G B V X) (hG : B ≤ G) (o : Nat) (v : Value) : SBk G B V (X.setCell ⟨G, o, none⟩ v) :=
  ⟨h.lo.setCell (p := ⟨G, o, none⟩) hG v, h.kp.trans ⟨by simp, fun k hk _ => Below.heap_setCell X ⟨G, o, none⟩ v k (by simpa using hk)⟩⟩
theorem SBk.cells {G B g t : Nat} {V X : World} {xs : List Value} (h : SBk G B V X) (k : Whole V g t xs) (hne : g ≠ G) : Whole X g t xs := (h.kp.2 g (by simpa using hne) k.lt).trans k
theorem oneBa (b : Ba) : b.cells.toArray.all (·.oneCell') = true := by simp [Ba.cells, Value.oneCell']
theorem infoBa4 (b : Ba) : (Try.prog.info? 39).map (·.size) = some b.cells.toArray.size := by
  have h : (Try.prog.info? 39).map (·.size) = some 4 := by kernel_rfl
  rw [h]; rfl
theorem KeepBut.froms {G B : Nat} {V X : World} (h : KeepBut [G] V X) (hG : G < B) : KeepsFrom B V X := ⟨h.1, fun k o hB hk _ => (h.2 k (by simp; omega) (Array.getElem?_eq_some_iff.1 hk).1).trans hk⟩
theorem KeepBut.more {E F : List Nat} {V X : World} (h : KeepBut E V X) (hE : ∀ k ∈ E, k ∈ F) : KeepBut F V X := ⟨h.1, fun k hk hl => h.2 k (fun hm => hk (hE k hm)) hl⟩
theorem BMem.belowAt {W : World} {G m B : Nat} {bs : List Ba} {X Y : World} (h : BMem W G m bs X) (hb : Below B X Y) (hG : G + 1 < B) (hW : W.heap.size ≤ B) : BMem W G m bs Y :=
  ⟨h.bs.below hb (by omega), h.box.below hb hG, h.lo.trans (hb.mono hW)⟩
theorem BMem.grown {W : World} {G m : Nat} {bs : List Ba} {X Y : World} {row : Option Nat} (h : BMem W G m bs X) (hg : X.grownBy Y row) (hr : NoCells X row) (hl : ∀ r, row = some r → W.heap.size ≤ r) : BMem W G m bs Y :=
  ⟨Whole.grown h.bs hg (Whole.ne h.bs hr), h.box.grown hg (h.box.ne hr), h.lo.grown hg h.lo.size hl⟩
end Go.Proofs.Ytmljndggblfeiaa

namespace Go.Proofs.Ytmljndggblfeiaa
open Go.ChangeShapes Go.WideShapes Go.ChangeAt Go.RowKit Go.Joins Go.Shelf
set_option linter.unusedVariables false
set_option linter.unusedSimpArgs false
attribute [local go_sem] Oper.semAt_some

theorem band_eql (a b c d : Int) (X : World) : (binOp .neq 39 (.agg #[.int .i64 a, .int .i64 b, .int .i64 c, .int .i64 d]) (.agg #[.int .i64 a, .int .i64 b, .int .i64 c, .int .i64 d])).run Try.prog X = .ok (.bool false) X := by go_simp
set_option maxRecDepth 100000 in
set_option maxHeartbeats 2000000 in
theorem ksame_any (v1 v2 : Value) (L : List Ba) (w : World) (h1 : RowsK Ba.cells 4 w v1 L) (h2 : RowsK Ba.cells 4 w v2 L) :
    Calls Try.prog 10 #[v1, v2] w fun e w' => e = .returned (.bool true) ∧ Below w.heap.size w w' := by
  obtain ⟨p1, c1, rfl⟩ := h1.slice
  obtain ⟨p2, c2, rfl⟩ := h2.slice
  have hmm := h1.1
  obtain ⟨m, hm⟩ : ∃ m, L.length = m := ⟨_, rfl⟩
  rw [hm] at h1 h2 hmm ⊢
  have HM := Lib.hid hm
  have H1 := Lib.hid h1
  have H2 := Lib.hid h2
  clear h1 h2 hm
  go_enter Try.func10, Try.ntmps10
  go_wp2
  go_loopw [5] (fun s5 X => ∃ k : Nat, k ≤ m ∧ s5 = .int .i64 (k : Int) ∧ Hid (Below w.heap.size w X)) (fun s5 _ => m - (intOf s5).toNat)
  case atStart => exact ⟨0, Nat.zero_le _, rfl, Lib.hid (Below.refl _ _)⟩
  case round =>
    obtain ⟨k, hk, rfl, HB⟩ := hrel
    by_cases hlt : k < m
    · obtain ⟨q, hq⟩ : ∃ q, L[k]? = some q := ⟨_, List.getElem?_eq_getElem (by rw [HM.out]; exact hlt)⟩
      obtain ⟨g1, o1, rfl, l1, ha⟩ := (H1.out.below HB.out).at k q hq
      obtain ⟨g2, o2, rfl, l2, hb⟩ := (H2.out.below HB.out).at k q hq
      obtain ⟨x, y, u, v⟩ := q
      have a0 : wr.cell? ⟨g1, o1 + k * 4, none⟩ = some (.int .i64 x) := ha 0 _ rfl
      have a1 : wr.cell? ⟨g1, o1 + k * 4 + 1, none⟩ = some (.int .i64 y) := ha 1 _ rfl
      have a2 : wr.cell? ⟨g1, o1 + k * 4 + 2, none⟩ = some (.int .i64 u) := ha 2 _ rfl
      have a3 : wr.cell? ⟨g1, o1 + k * 4 + 3, none⟩ = some (.int .i64 v) := ha 3 _ rfl
      have b0 : wr.cell? ⟨g2, o2 + k * 4, none⟩ = some (.int .i64 x) := hb 0 _ rfl
      have b1 : wr.cell? ⟨g2, o2 + k * 4 + 1, none⟩ = some (.int .i64 y) := hb 1 _ rfl
      have b2 : wr.cell? ⟨g2, o2 + k * 4 + 2, none⟩ = some (.int .i64 u) := hb 2 _ rfl
      have b3 : wr.cell? ⟨g2, o2 + k * 4 + 3, none⟩ = some (.int .i64 v) := hb 3 _ rfl
      have hneq := band_eql x y u v
      clear hq ha hb
      go_wp2
      go_quiet (fail)
      go_wp2
      go_roundw
      case rel => exact ⟨k + 1, by omega, by go_num, Lib.hid (HB.out.trans (below_dn _ _ _))⟩
      case measure => simp [intOf]; omega
    · go_wp2
      go_ret
      exact ⟨rfl, HB.out⟩
theorem shown_bands : bandsB [⟨1, 100⟩, ⟨0, 0⟩] [⟨0, 0, 0, 0, 1, 30, 300, ⟨0, 0⟩⟩, ⟨0, 0, 1, 0, 1, 30, 300, ⟨0, 0⟩⟩] = [⟨30, 100, -1, 100⟩, ⟨30, 300, -1, -1⟩] := by decide
theorem shown_right : rightK [⟨1, 100⟩, ⟨0, 0⟩] [⟨0, 0, 0, 0, 1, 30, 300, ⟨0, 0⟩⟩, ⟨0, 0, 1, 0, 1, 30, 300, ⟨0, 0⟩⟩] = true := by decide
theorem shown_wrong : rightK [⟨0, 1⟩] [] = false := by decide
end Go.Proofs.Ytmljndggblfeiaa
