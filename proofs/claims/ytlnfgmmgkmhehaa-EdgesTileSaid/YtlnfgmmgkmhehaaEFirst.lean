/- Contract of edges.firstStarts: the first starts of bands, in a list of their own. -/
import Derived.Test.YtlnfgmmgkmhehaaESpan
import Derived.Test.YtlnfgmmgkmhehaaERow
namespace Go.Proofs.Ytlnfgmmgkmhehaa
open Go.RowKit Go.Shelf
set_option linter.unusedVariables false
attribute [local go_sem] Oper.semAt_some

/-- the first j starts -/
def begsW (g : Int) (bs : List Int) (j : Nat) : List Int := (List.range j).map (begW g bs)
theorem begsW_len (g : Int) (bs : List Int) (j : Nat) : (begsW g bs j).length = j := by simp [begsW]
theorem begsW_succ (g : Int) (bs : List Int) (j : Nat) : begsW g bs (j + 1) = begsW g bs j ++ [begW g bs j] := by simp [begsW, List.range_succ]
theorem begsW_get {g : Int} {bs : List Int} {j i : Nat} (h : i < j) : (begsW g bs j)[i]? = some (begW g bs i) := by simp [begsW, h]
/-- while the starts are visited: the box of the number, the list, its box -/
structure FI (N k : Nat) (w : World) (g : Int) (bs : List Int) (j : Nat) (W : World) : Prop where
  num : Whole W N 3 [.int .i64 (k : Int)]
  row : Whole W (N + 1) 2 (encB (begsW g bs j) k)
  box : Whole W (N + 1 + 1) 22 [.slice (some ⟨N + 1, 0, none⟩) j k]
  le : j ≤ k
  lo : Below N w W
theorem FI.grown {N k : Nat} {w : World} {g : Int} {bs : List Int} {j : Nat} {X Y : World} {row : Option Nat} (h : FI N k w g bs j X) (hg : X.grownBy Y row) (hn : NoCells X row) (hr : ∀ r, row = some r → N ≤ r) (hN : N ≤ X.heap.size) : FI N k w g bs j Y :=
  ⟨h.num.grown hg (h.num.ne hn), h.row.grown hg (h.row.ne hn), h.box.grown hg (h.box.ne hn), h.le, h.lo.grown hg hN hr⟩
def FJ (N k : Nat) (w : World) (g : Int) (bs : List Int) (pre : List Nat) (W : World) : Prop := FI N k w g bs pre.length W
def FX (N k : Nat) (w : World) (g : Int) (bs : List Int) (c : Code) (pre : List Nat) (W : World) : Prop := c = .exit 0 ∧ FI N k w g bs k W
theorem FJ.own (N k : Nat) (w : World) (g : Int) (bs : List Int) (K : Nat) (h2 : N ≤ K) (hw : N ≤ w.heap.size) : OwnFrom K (FJ N k w g bs) := fun pre X Y row h hg hr =>
  FI.grown h hg (fun r e => (hr r e).2) (fun r e => Nat.le_trans h2 (hr r e).1) (Nat.le_trans hw h.lo.size)
theorem FX.own (N k : Nat) (w : World) (g : Int) (bs : List Int) (K : Nat) (h2 : N ≤ K) (hw : N ≤ w.heap.size) (c : Code) : OwnFrom K (FX N k w g bs c) := fun pre X Y row h hg hr =>
  ⟨h.1, FI.grown h.2 hg (fun r e => (hr r e).2) (fun r e => Nat.le_trans h2 (hr r e).1) (Nat.le_trans hw h.2.lo.size)⟩
set_option maxRecDepth 100000 in
set_option maxHeartbeats 2000000 in
theorem first_any (g : Int) (p : Option Addr) (m c k : Nat) (bs : List Int) (w : World) (hL : LowI w.heap.size w (.slice p m c) bs) (hm : bs.length = m) (hok : okW g bs) (hk : k ≤ m + 1) :
    Calls Try.prog 26 #[.int .i64 (k : Int), .int .i64 g, .slice p m c] w fun e W' => e = .returned (.slice (some ⟨w.heap.size + 1, 0, none⟩) k k) ∧ Whole W' (w.heap.size + 1) 2 ((begsW g bs k).map (Value.int .i64)) ∧ Below w.heap.size w W' := by
  have HOK : Hid (okW g bs) := Lib.hid hok
  have HLOW := Lib.hid hL
  have hmk : m ≤ 10000 := by have := hok.2.1; omega
  have hmake := make_intsE k (by omega)
  have hb1 := hok.1.1
  have hb2 := hok.1.2
  have HM := Lib.hid hm
  have HWF := Lib.hid (fun X => startsF_any g p m c X)
  obtain ⟨W1, hW1⟩ : ∃ W1, ((w.alloc (.cells #[.int .i64 (k : Int)] 3)).alloc (.cells (encB [] k).toArray 2)).alloc (.cells #[.slice (some ⟨w.heap.size + 1, 0, none⟩) 0 k] 22) = W1 := ⟨_, rfl⟩
  have b1 : Below w.heap.size w W1 := by rw [← hW1]; exact (((Below.refl _ w).alloc (Nat.le_refl _) _).alloc (by simp) _).alloc (by simp <;> omega) _
  have k1 : Whole W1 w.heap.size 3 [.int .i64 (k : Int)] := by rw [← hW1]; exact ((whole_new w [.int .i64 (k : Int)] 3 _ rfl).alloc _).alloc _
  have k2 : Whole W1 (w.heap.size + 1) 2 (encB [] k) := by rw [← hW1]; exact (whole_new (w.alloc (.cells #[.int .i64 (k : Int)] 3)) (encB [] k) 2 _ (by simp)).alloc _
  have k3 : Whole W1 (w.heap.size + 1 + 1) 22 [.slice (some ⟨w.heap.size + 1, 0, none⟩) 0 k] := by rw [← hW1]; exact whole_new ((w.alloc (.cells #[.int .i64 (k : Int)] 3)).alloc (.cells (encB [] k).toArray 2)) [.slice (some ⟨w.heap.size + 1, 0, none⟩) 0 k] 22 _ (by simp)
  have s1 : W1.heap.size = w.heap.size + 3 := by rw [← hW1]; simp
  obtain ⟨W3, hW3⟩ : ∃ W3, (W1.alloc (.cells #[.int .i64 g] 2)).alloc (.cells #[.slice p m c] 22) = W3 := ⟨_, rfl⟩
  have b3 : Below W1.heap.size W1 W3 := by rw [← hW3]; exact ((Below.refl _ W1).alloc (Nat.le_refl _) _).alloc (by simp) _
  have x1 : Whole W3 W1.heap.size 2 [.int .i64 g] := by rw [← hW3]; exact (whole_new W1 [.int .i64 g] 2 _ rfl).alloc _
  have x2 : Whole W3 (W1.heap.size + 1) 22 [.slice p m c] := by rw [← hW3]; exact whole_new (W1.alloc (.cells #[.int .i64 g] 2)) [.slice p m c] 22 _ (by simp)
  have s3 : W3.heap.size = W1.heap.size + 2 := by rw [← hW3]; simp
  have hB3 : Below w.heap.size w W3 := b1.trans (b3.mono (by omega))
  have HMEM : Hid (WidMem w.heap.size W1.heap.size (W1.heap.size + 1) g (.slice p m c) bs W3) := Lib.hid ⟨hB3.size, by omega, by omega, x1.cellAt 0, x2.cellAt 0, hL.keep (fun j hj => hB3.block j (by omega))⟩
  have HI0 : Hid (FI w.heap.size k w g bs 0 W3) := Lib.hid ⟨k1.below b3 (by omega), k2.below b3 (by omega), k3.below b3 (by omega), Nat.zero_le _, hB3⟩
  have HS3 := Lib.hid s3
  have z1 : w.heap.size + 3 ≤ W1.heap.size := by omega
  clear hL hm hok b1 k1 k2 k3 s1 b3 x1 x2 s3 hB3
  refine (callsIn_wide (n := 3)).1 (callsIn_of_wp_marks Try.func26 rfl trivial (wpIn_wide.2 ?_) rfl)
  simp only [Try.ntmps26, List.size_toArray, List.length_cons, List.length_nil, Nat.reduceAdd, Nat.reduceSub, Array.replicate_succ, Array.replicate_zero, List.push_toArray, List.append_toArray, List.nil_append, List.cons_append]
  go_wp2
  refine wp_scope_straight ?_
  go_wp2
  clear hW1 hmake
  refine wp_label ?_
  go_wp2_with (go_at_call 30; refine (HWF.out _).mono ?_; clear HWF; rintro e w' ⟨rfl, rfl⟩; rw [hW3])
  have z3 : W1.heap.size + 2 ≤ W3.heap.size := by have := HS3.out; omega
  clear hW3
  refine (wpIn_wide (n := 3)).1 (range_next (F := Fence.wide) rfl (by omega) (gf := 35) (lb := #[.pointer (some ⟨W1.heap.size, 0, none⟩), .pointer (some ⟨W1.heap.size + 1, 0, none⟩)]) rfl trivial (enters_of Try.func35 (by kernel_rfl) rfl)
    (Kp := KeepL (WidMem w.heap.size W1.heap.size (W1.heap.size + 1) g (.slice p m c) bs)) (fun _ _ _ h k => h.trans k) (fun W l o h1 h2 => ⟨by simp, fun h => h.keep (by simp) (fun k hk => World.putObj_heap_other (by omega)) (World.putObj_heap_other (by omega)) (World.putObj_heap_other (by omega))⟩) (starts_next _ (by omega) w.heap.size W1.heap.size (W1.heap.size + 1) g (.slice p m c) bs W3 HOK.out HMEM.out) (fun _ => rfl)
    (FJ w.heap.size k w g bs) (FX w.heap.size k w g bs) (FJ.own _ _ _ _ _ _ (by omega) (Nat.le_refl _)) (FX.own _ _ _ _ _ _ (by omega) (Nat.le_refl _)) HI0.out ?round ?done ?stop)
  case round =>
    rintro l pre x V hl hI ⟨hx1, hx2⟩
    obtain ⟨j, HJ⟩ : ∃ j, Hid (pre.length = j) := ⟨_, Lib.hid rfl⟩
    have hI' : FI w.heap.size k w g bs j V := by rw [← HJ.out]; exact hI
    have HXJ : Hid (x = j) := Lib.hid (hx1.trans HJ.out)
    clear hx1 hI
    apply Exists.intro
    apply Exists.intro
    refine ⟨?_, ?_, ?_, ?_⟩
    · intro K hK
      dsimp only [encS]
      gi_wp2
      exact hK
    · exact (KeepsOthers.refl V).from _
    · exact ⟨Nat.le_refl _, id⟩
    · intro V₂ hgV hnc' hbl
      have hI2 : FI w.heap.size k w g bs j V₂ := hI'.grown hgV hnc' (fun r e => by cases e; omega) hI'.lo.size
      have c0 := hI2.num.cellAt 0
      have l0 := hI2.num.lt
      have c2 := hI2.box.cellAt 0
      have f2 := hI2.box.free 0
      have l2 := hI2.box.lt
      have HI2 := Lib.hid hI2
      have hle := hI2.le
      clear hI' hgV hnc' hbl HI0 HMEM HLOW
      by_cases hjk : j = k
      · have HJK := Lib.hid hjk
        have hd : ((j : Int) == (k : Int)) = true := by simp [hjk]
        clear hjk
        gi_wp2
        refine ⟨(KeepsOthers.refl _).from _, rfl, ?_⟩
        have e := HI2.out
        rw [HJK.out] at e
        exact e
      · have hd : ((j : Int) == (k : Int)) = false := by simp; omega
        have hjk' : j < k := by omega
        have HROW := Lib.hid (hI2.row.alloc (.cells #[.int .i64 (begW g bs x)] 2))
        clear hI2 hjk
        gi_wp2_with (gi_at_builtin; refine wpListIn_pushE _ rfl _ _ rfl (w.heap.size + 1) j k (begsW g bs j) (begW g bs x) rfl HROW.out (begsW_len _ _ _) hjk' V₂.heap.size rfl (by simp) ?_)
        intro Y HY
        have hY := HY.out
        clear HY
        have hbox := whole_row_otherE (HI2.out.box.alloc (.cells #[.int .i64 (begW g bs x)] 2)) (w.heap.size + 1) (encB (begsW g bs j ++ [begW g bs x]) k).toArray (by omega)
        have hnum := whole_row_otherE (HI2.out.num.alloc (.cells #[.int .i64 (begW g bs x)] 2)) (w.heap.size + 1) (encB (begsW g bs j ++ [begW g bs x]) k).toArray (by omega)
        have hrow := whole_rowE HROW.out (encB (begsW g bs j ++ [begW g bs x]) k)
        have hkee := (KeepsOthers.alloc V₂ (.cells #[.int .i64 (begW g bs x)] 2)).trans (keeps_rowE HROW.out (encB (begsW g bs j ++ [begW g bs x]) k))
        have hlo := (HI2.out.lo.alloc HI2.out.lo.size (.cells #[.int .i64 (begW g bs x)] 2)).trans (below_rowE _ (w.heap.size + 1) (encB (begsW g bs j ++ [begW g bs x]) k).toArray (B := w.heap.size) (by omega))
        have hkw : KeepL (WidMem w.heap.size W1.heap.size (W1.heap.size + 1) g (.slice p m c) bs) V₂ Y := by
          rw [← hY]
          refine KeepL.trans ⟨by simp, fun h => h.below ((Below.refl _ V₂).alloc (Nat.le_refl _) _)⟩ ⟨by simp, fun h => h.keep (by simp) (fun k hk => setRow_other _ _ _ _ (by omega)) (setRow_other _ _ _ _ (by omega)) (setRow_other _ _ _ _ (by omega))⟩
        rw [hY] at hbox hnum hrow hkee hlo
        have c3 := hbox.cellAt 0
        have f3 := hbox.free 0
        have l3 := hbox.lt
        have HBOX := Lib.hid hbox
        have HNUM := Lib.hid hnum
        have HROWY := Lib.hid hrow
        have HKEE := Lib.hid hkee
        have HLO := Lib.hid hlo
        have HKW := Lib.hid hkw
        clear hY hbox hnum hrow hkee hlo hkw c0 l0 c2 f2 l2
        gi_wp2
        refine ⟨(HKEE.out.trans (KeepsOthers.setCell _ _ _)).from _, KeepL.trans HKW.out ⟨by simp, fun h => h.keep (by simp) (fun k hk => Below.heap_setCell _ _ _ _ (by show k ≠ w.heap.size + 1 + 1; omega)) (Below.heap_setCell _ _ _ _ (by show W1.heap.size ≠ w.heap.size + 1 + 1; omega)) (Below.heap_setCell _ _ _ _ (by show W1.heap.size + 1 ≠ w.heap.size + 1 + 1; omega))⟩, ?_⟩
        show FI w.heap.size k w g bs (pre ++ [x]).length _
        rw [List.length_append, HJ.out, show j + [x].length = j + 1 from rfl]
        refine ⟨HNUM.out.other _ _ (by show w.heap.size ≠ w.heap.size + 1 + 1; omega), ?_, ?_, hjk', HLO.out.setCell (p := ⟨w.heap.size + 1 + 1, 0, none⟩) (by show w.heap.size ≤ w.heap.size + 1 + 1; omega) _⟩
        · have e := HROWY.out
          rw [HXJ.out] at e
          rw [begsW_succ]
          exact e.other _ _ (by show w.heap.size + 1 ≠ w.heap.size + 1 + 1; omega)
        · exact HBOX.out.set 0 _
  case done =>
    rintro D xs V hD hxs hI hK
    have hkk : k = m + 1 := by have := hI.le; rw [hxs, HM.out] at this; omega
    have hI' : FI w.heap.size k w g bs k V := by have e := hI; unfold FJ at e; rwa [hxs, HM.out, ← hkk] at e
    have c2 := hI'.box.cellAt 0
    have l2 := hI'.box.lt
    have HI := Lib.hid hI'
    have HM2 := Lib.hid ((Marks.nil w.heap.size V).cons (D := D) (by omega) hK (fun E hE => by cases hE))
    clear hI hI' hK hkk hxs
    go_wp2
    simp only [Exit.noGoto]
    refine leaves_marks w.heap.size [D] _ HM2.out (fun W' hck hbk => ⟨_, results_tmp rfl _ _ _, ⟨rfl, ?_, HI.out.lo.trans hbk⟩⟩)
    have e := HI.out.row
    rw [encB_full (begsW_len _ _ _)] at e
    exact hck _ _ e rfl
  case stop =>
    rintro D c pre V hD _ ⟨rfl, hI⟩ hK
    have c2 := hI.box.cellAt 0
    have l2 := hI.box.lt
    have HI := Lib.hid hI
    have HM2 := Lib.hid ((Marks.nil w.heap.size V).cons (D := D) (by omega) hK (fun E hE => by cases hE))
    clear hI hK
    refine wpIn_exit ?_
    go_wp2
    simp only [Exit.noGoto]
    refine leaves_marks w.heap.size [D] _ HM2.out (fun W' hck hbk => ⟨_, results_tmp rfl _ _ _, ⟨rfl, ?_, HI.out.lo.trans hbk⟩⟩)
    have e := HI.out.row
    rw [encB_full (begsW_len _ _ _)] at e
    exact hck _ _ e rfl
end Go.Proofs.Ytlnfgmmgkmhehaa
