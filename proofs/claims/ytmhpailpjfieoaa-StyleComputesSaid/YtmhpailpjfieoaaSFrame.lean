/- Contract of style.Frame: what is around a box. -/
import Derived.Test.YtmhpailpjfieoaaSComp
namespace Go.Proofs.Ytmhpailpjfieoaa
open Go.RowKit Go.Shelf
set_option linter.unusedVariables false
attribute [local go_sem] Oper.semAt_some

theorem comp_any (s : Sty) (w : World) : Calls Try.prog 9 #[s.val] w fun e W' => e = .returned (compR s) ∧ Below w.heap.size w W' := by
  cases hv : validS s with
  | true => exact comp_ok s w hv
  | false => exact comp_bad s w hv
/-- each number fits -/
def Fits (n : Int) : Prop := -9223372036854775808 ≤ n ∧ n ≤ 9223372036854775807
/-- what is around a box at a side -/
def frV (b : Bool) (x : Sd) : Int := if b then sat (x.p + x.w) else x.p
def frS (b : Bool) (s : Sty) : Nat → Int := fun k => frV b (s.sd k)
def four (h : Nat → Int) : List Value := [.int .i64 (h 0), .int .i64 (h 1), .int .i64 (h 2), .int .i64 (h 3)]
theorem four_at (h : Nat → Int) (k : Nat) (hk : k < 4) : (four h)[k]? = some (.int .i64 (h k)) := by
  obtain rfl | rfl | rfl | rfl : k = 0 ∨ k = 1 ∨ k = 2 ∨ k = 3 := by omega
  all_goals rfl
theorem four_set (h : Nat → Int) (k : Nat) (hk : k < 4) (v : Int) : (four h).set k (.int .i64 v) = four (fun j => if j = k then v else h j) := by
  obtain rfl | rfl | rfl | rfl : k = 0 ∨ k = 1 ∨ k = 2 ∨ k = 3 := by omega
  all_goals simp [four]
theorem addS_two (a b : Int) (ha : Fits a) : addS [a, b] = sat (a + b) := by
  unfold addS
  simp only [List.foldl_cons, List.foldl_nil, Int.zero_add]
  rw [sat_in ha.1 ha.2]
theorem Try.infoFour : (Try.prog.info? 24).map (·.size) = some 4 := by kernel_rfl
theorem results_four {fn : Func} {W : World} {g n : Nat} {h : Nat → Int} {tmps : Array Value} (hf : fn.results = #[.cell n 24]) (ht : tmps.getD n undef = .pointer (some ⟨g, 0, none⟩)) (hw : Whole W g 24 (four h)) :
    (results fn tmps).run Try.prog W = .ok (.agg (four h).toArray) W :=
  results_cell_row hf tmps W g 24 (four h).toArray (0, 0) _ ht hw Try.underlying24 rfl (by rw [Try.infoFour]; rfl)
def FI (b : Bool) (s : Sty) (B : Nat) (w : World) (pre : List (Nat × Sd)) (W : World) : Prop :=
  (Whole W (B + 1 + 1 + 1) 24 (four (putS (frV b) (fun _ => 0) pre)) ∧ Whole W (B + 1) 4 [.bool b] ∧ Whole W (B + 1 + 1) 24 (four (fun _ => 0)) ∧ B + 1 + 1 + 1 + 1 < W.heap.size) ∧ Below B w W
theorem FI.own (b : Bool) (s : Sty) (B : Nat) (w : World) (K : Nat) (h1 : B ≤ w.heap.size) (h2 : B ≤ K) : OwnFrom K (FI b s B w) := fun pre X Y row ⟨⟨ha, hc, hd, hz⟩, hb⟩ hg hr =>
  ⟨⟨ha.grown hg (ha.ne fun r e => (hr r e).2), hc.grown hg (hc.ne fun r e => (hr r e).2), hd.grown hg (hd.ne fun r e => (hr r e).2), Nat.lt_of_lt_of_le hz hg.size⟩, (ownFrom_below (β := Unit) h1 h2) () X Y row hb hg hr⟩
set_option maxRecDepth 100000 in
set_option maxHeartbeats 4000000 in
theorem frame_any (s : Sty) (b : Bool) (w : World) (hf : ∀ k, k < 4 → Fits (s.sd k).p ∧ Fits (s.sd k).w) : Calls Try.prog 13 #[s.val, .bool b] w fun e W' => e = .returned (.agg (four (frS b s)).toArray) ∧ Below w.heap.size w W' := by
  have SF := Lib.hid (fun X => sidesF_any s X)
  obtain ⟨cs, hcs⟩ : ∃ cs, s.cells.toArray = cs := ⟨_, rfl⟩
  have hsz : (Try.prog.info? 31).map (·.size) = some cs.size := by rw [← hcs]; exact Try.infoSty
  rw [show s.val = .agg s.cells.toArray from rfl]
  rw [show s.val = .agg s.cells.toArray from rfl] at SF
  rw [hcs] at SF ⊢
  have kb : Whole ((((w.alloc (.cells cs 31)).alloc (.cells #[.bool b] 4)).alloc (.cells #[.int .i64 0, .int .i64 0, .int .i64 0, .int .i64 0] 24)).alloc (.cells #[.int .i64 0, .int .i64 0, .int .i64 0, .int .i64 0] 24)) w.heap.size 31 s.cells := by rw [← hcs]; exact (((whole_new w s.cells 31 _ rfl).alloc _).alloc _).alloc _
  unfold Whole at kb
  rw [hcs] at kb
  refine (callsIn_wide (n := 3)).1 (callsIn_of_wp_marks Try.func13 rfl trivial (wpIn_wide.2 ?_) rfl)
  simp only [Try.ntmps13, List.size_toArray, List.length_cons, List.length_nil, Nat.reduceAdd, Nat.reduceSub, Array.replicate_succ, Array.replicate_zero, List.push_toArray, List.append_toArray, List.nil_append, List.cons_append]
  go_wp2_with (first
    | (go_at_call 15; refine (SF.out _).mono ?_; clear SF; rintro e w' ⟨rfl, rfl⟩)
    | (refine wpList_load_row rfl 31 (.tmp 2) rfl _ rfl 31 cs (0, 0) _ kb Try.underlying31 rfl hsz ?_))
  obtain ⟨W1, hW1⟩ : ∃ W1, ((((w.alloc (.cells cs 31)).alloc (.cells #[.bool b] 4)).alloc (.cells #[.int .i64 0, .int .i64 0, .int .i64 0, .int .i64 0] 24)).alloc (.cells #[.int .i64 0, .int .i64 0, .int .i64 0, .int .i64 0] 24)).alloc (.cells cs 31) = W1 := ⟨_, rfl⟩
  have k1 : Whole W1 (w.heap.size + 1) 4 [.bool b] := by rw [← hW1]; exact (((whole_new (w.alloc (.cells cs 31)) [.bool b] 4 _ (by simp)).alloc _).alloc _).alloc _
  have k2 : Whole W1 (w.heap.size + 1 + 1) 24 (four (fun _ => 0)) := by rw [← hW1]; exact ((whole_new ((w.alloc (.cells cs 31)).alloc (.cells #[.bool b] 4)) (four (fun _ => 0)) 24 _ (by simp)).alloc _).alloc _
  have k3 : Whole W1 (w.heap.size + 1 + 1 + 1) 24 (four (fun _ => 0)) := by rw [← hW1]; exact (whole_new (((w.alloc (.cells cs 31)).alloc (.cells #[.bool b] 4)).alloc (.cells #[.int .i64 0, .int .i64 0, .int .i64 0, .int .i64 0] 24)) (four (fun _ => 0)) 24 _ (by simp)).alloc _
  have k4 : Whole W1 (w.heap.size + 1 + 1 + 1 + 1) 31 s.cells := by rw [← hW1, ← hcs]; exact whole_new _ s.cells 31 _ (by simp)
  have hB : Below w.heap.size w W1 := by rw [← hW1]; exact (((((Below.refl _ w).alloc (Nat.le_refl _) _).alloc (by simp) _).alloc (by simp <;> omega) _).alloc (by simp <;> omega) _).alloc (by simp <;> omega) _
  have hsz1 : W1.heap.size = w.heap.size + 5 := by rw [← hW1]; simp
  rw [hW1]
  clear hW1 kb
  refine (wpIn_wide (n := 3)).1 (range_next (F := Fence.wide) rfl (by omega) (gf := 26) (lb := #[.pointer (some ⟨w.heap.size + 1 + 1 + 1 + 1, 0, none⟩)]) rfl trivial (enters_of Try.func26 (by kernel_rfl) rfl)
    (Kp := Stay w.heap.size (w.heap.size + 1 + 1 + 1 + 1)) (fun _ _ _ h k => h.trans k) (fun W l o h1 h2 => Stay.put W o (by omega) h2 (by omega)) (sides_next _ (by omega) (w.heap.size + 1 + 1 + 1 + 1) w.heap.size s W1 (by omega) k4) (fun _ => rfl)
    (FI b s w.heap.size w) (fun _ _ _ => False) (FI.own _ _ _ _ _ (Nat.le_refl _) (by omega)) (fun _ _ _ _ _ hs _ _ => hs)
    ⟨⟨k3, k1, k2, by omega⟩, hB⟩ ?round ?done ?stop)
  case round =>
    rintro l pre x V hl ⟨⟨v3, v1, v2, hbx⟩, hbV⟩ ⟨k, hk, hnz, rfl, rfl⟩
    have hfk := hf k hk
    have hst := putS_snoc (frV b) (fun _ => 0) (sdEls s.sd k) (k, s.sd k)
    obtain ⟨⟨p, s', w', c⟩, ek⟩ : ∃ a, s.sd k = a := ⟨_, rfl⟩
    rw [ek] at hfk hst ⊢
    have hbs := hbV.size
    refine ⟨{ tmps := #[.agg cs, .bool b, .pointer (some ⟨w.heap.size, 0, none⟩), .pointer (some ⟨w.heap.size + 1, 0, none⟩), .pointer (some ⟨w.heap.size + 1 + 1, 0, none⟩), .pointer (some ⟨w.heap.size + 1 + 1 + 1, 0, none⟩), .int .i64 (k : Int), .pointer (some ⟨V.heap.size, 0, none⟩), .agg cs, .func (.func 26) #[] #[.pointer (some ⟨w.heap.size + 1 + 1 + 1 + 1, 0, none⟩)], .int .i64 (k : Int), .agg #[.int .i64 p, .int .i64 s', .int .i64 w', .int .u32 c], undef, undef, undef, undef, undef, undef, undef, undef, undef, undef, undef, undef, undef, undef, undef], defers := [] }, V.alloc (.cells #[.int .i64 p, .int .i64 s', .int .i64 w', .int .u32 c] 43), ?_, (KeepsOthers.alloc V _).from _, ⟨(Below.refl _ V).alloc (by omega) _, Below.heap_alloc _ _ _ hbx⟩, ?_⟩
    · intro K hK
      clear v1 v2 v3 hbV k1 k2 k3 k4 hB hst
      dsimp only [encS]
      gi_wp2
      exact hK
    · intro V₂ hgV hnc' hbl
      have kc : Whole V₂ V.heap.size 43 [.int .i64 p, .int .i64 s', .int .i64 w', .int .u32 c] := Whole.grown (whole_new V [.int .i64 p, .int .i64 s', .int .i64 w', .int .u32 c] 43 _ rfl) hgV (Whole.ne (whole_new V [.int .i64 p, .int .i64 s', .int .i64 w', .int .u32 c] 43 _ rfl) hnc')
      have v1' := (v1.alloc (.cells #[.int .i64 p, .int .i64 s', .int .i64 w', .int .u32 c] 43)).grown hgV ((v1.alloc _).ne hnc')
      have v2' := (v2.alloc (.cells #[.int .i64 p, .int .i64 s', .int .i64 w', .int .u32 c] 43)).grown hgV ((v2.alloc _).ne hnc')
      have v3' := (v3.alloc (.cells #[.int .i64 p, .int .i64 s', .int .i64 w', .int .u32 c] 43)).grown hgV ((v3.alloc _).ne hnc')
      have hb2 : Below w.heap.size w V₂ := (hbV.trans ((Below.refl _ V).alloc (by omega) _)).trans hbl.1
      have q0 : V₂.cell? ⟨V.heap.size, 0, none⟩ = some (.int .i64 p) := kc.cellAt 0
      have q2 : V₂.cell? ⟨V.heap.size, 2, none⟩ = some (.int .i64 w') := kc.cellAt 2
      have lc := kc.lt
      obtain ⟨h, hh⟩ : ∃ h, putS (frV b) (fun _ => 0) (sdEls s.sd k) = h := ⟨_, rfl⟩
      rw [hh] at hst v3'
      have ck := (v3'.cellAt k).trans (four_at _ k hk)
      have fk := v3'.free k
      have l3 := v3'.lt
      have c1 : V₂.cell? ⟨w.heap.size + 1, 0, none⟩ = some (.bool b) := v1'.cellAt 0
      have l1 := v1'.lt
      have KV1 := Lib.hid v1'
      have KV2 := Lib.hid v2'
      have KV3 := Lib.hid v3'
      have HB2 := Lib.hid hb2
      have HST := Lib.hid hst
      have hk4 : (k : Int) < 4 := by omega
      have hl2 : w.heap.size + 1 + 1 + 1 + 1 < V₂.heap.size := by have := hbl.1.size; simp at this; omega
      have hz2 := hb2.size
      clear v1 v2 v3 v1' v2' v3' hbV k1 k2 k3 k4 hB hgV hnc' hbl hb2 kc hcs hsz hst hh ek hnz hf
      cases b with
      | false =>
        gi_wp2
        refine ⟨(KeepsOthers.setCell V₂ _ _).from _, ⟨(Below.refl _ V₂).setCell (p := ⟨w.heap.size + 1 + 1 + 1, k, none⟩) (by simp; omega) _, Below.heap_setCell _ _ _ _ (by simp)⟩, ⟨?_, KV1.out.other _ _ (by simp), KV2.out.other _ _ (by simp), by simpa using hl2⟩, HB2.out.setCell (p := ⟨w.heap.size + 1 + 1 + 1, k, none⟩) (by simp; omega) _⟩
        have h' := KV3.out.set k (.int .i64 p)
        rw [four_set _ _ hk] at h'
        rw [HST.out]
        exact h'
      | true =>
        have ha := Lib.hid (addS_two p w' hfk.1)
        have BA : Below w.heap.size V₂ ((V₂.setCell ⟨w.heap.size + 1 + 1 + 1, k, none⟩ (.int .i64 p)).alloc (.cells #[.int .i64 p, .int .i64 w'] 2)) := ((Below.refl _ V₂).setCell (p := ⟨w.heap.size + 1 + 1 + 1, k, none⟩) (by simp; omega) _).alloc (by simp; omega) _
        have HBA := Lib.hid BA
        have hn : Hid (Nums .i64 ((V₂.setCell ⟨w.heap.size + 1 + 1 + 1, k, none⟩ (.int .i64 p)).alloc (.cells #[.int .i64 p, .int .i64 w'] 2)) (.slice (some ⟨V₂.heap.size, 0, none⟩) 2 2) [p, w']) := by
          apply Lib.hid
          have kn := whole_new (V₂.setCell ⟨w.heap.size + 1 + 1 + 1, k, none⟩ (.int .i64 p)) [.int .i64 p, .int .i64 w'] 2 V₂.heap.size (by simp)
          refine ⟨by simp, .inr ⟨V₂.heap.size, 0, 2, rfl, by simp, by omega, fun j hj => ?_⟩⟩
          have : j = 0 ∨ j = 1 := by simp at hj; omega
          rcases this with rfl | rfl
          · exact kn.cellAt 0
          · exact kn.cellAt 1
        have hi : Hid (In64 [p, w']) := by
          apply Lib.hid
          intro j hj
          have : j = 0 ∨ j = 1 := by simp at hj; omega
          rcases this with rfl | rfl
          · exact hfk.1
          · exact hfk.2
        clear BA
        gi_wp2
        refine ⟨trivial, (CallsIn.inRound l (callsIn_wide.2 (add_any _ [p, w'] _ hn.out hi.out))).mono ?_⟩
        rintro e w3 ⟨rfl, rfl⟩
        rw [ha.out]
        gi_wp2
        have KO : KeepsOthers V₂ (((V₂.setCell ⟨w.heap.size + 1 + 1 + 1, k, none⟩ (.int .i64 p)).setCell ⟨w.heap.size + 1 + 1 + 1, k, none⟩ (.int .i64 (sat (p + w')))).alloc (.cells #[.int .i64 p, .int .i64 w'] 2)) := ((KeepsOthers.setCell V₂ _ _).trans (KeepsOthers.setCell _ _ _)).trans (KeepsOthers.alloc _ _)
        have K1 : ∀ {g t : Nat} {xs : List Value}, Whole V₂ g t xs → g ≠ w.heap.size + 1 + 1 + 1 → Whole (((V₂.setCell ⟨w.heap.size + 1 + 1 + 1, k, none⟩ (.int .i64 p)).setCell ⟨w.heap.size + 1 + 1 + 1, k, none⟩ (.int .i64 (sat (p + w')))).alloc (.cells #[.int .i64 p, .int .i64 w'] 2)) g t xs := fun hw hne => ((hw.other ⟨w.heap.size + 1 + 1 + 1, k, none⟩ (.int .i64 p) hne).other ⟨w.heap.size + 1 + 1 + 1, k, none⟩ _ hne).alloc _
        have B2 : Below w.heap.size V₂ (((V₂.setCell ⟨w.heap.size + 1 + 1 + 1, k, none⟩ (.int .i64 p)).setCell ⟨w.heap.size + 1 + 1 + 1, k, none⟩ (.int .i64 (sat (p + w')))).alloc (.cells #[.int .i64 p, .int .i64 w'] 2)) := (((Below.refl _ V₂).setCell (p := ⟨w.heap.size + 1 + 1 + 1, k, none⟩) (by simp; omega) _).setCell (p := ⟨w.heap.size + 1 + 1 + 1, k, none⟩) (by simp; omega) _).alloc (by simp; omega) _
        refine ⟨KO.from _, ⟨B2, ?_⟩, ⟨?_, K1 KV1.out (by omega), K1 KV2.out (by omega), by have := B2.size; simp; omega⟩, HB2.out.trans B2⟩
        · rw [Below.heap_alloc _ _ _ (by simp; omega), Below.heap_setCell _ _ _ _ (by simp), Below.heap_setCell _ _ _ _ (by simp)]
        · have h' := ((KV3.out.set k (.int .i64 p)).set k (.int .i64 (sat (p + w')))).alloc (.cells #[.int .i64 p, .int .i64 w'] 2)
          rw [List.set_set, four_set _ _ hk] at h'
          rw [HST.out]
          exact h'
  case done =>
    rintro D xs V hD rfl ⟨⟨v3, v1, v2, hbx⟩, hbV⟩ hK
    have he : four (putS (frV b) (fun _ => 0) (sdEls s.sd 4)) = four (frS b s) := by
      have h : ∀ k, k < 4 → putS (frV b) (fun _ => (0 : Int)) (sdEls s.sd 4) k = frS b s k := fun k hk => putS_all (frV b) _ s.sd 4 (fun k _ hz => by rw [hz]; cases b <;> rfl) k hk
      unfold four
      rw [h 0 (by omega), h 1 (by omega), h 2 (by omega), h 3 (by omega)]
    rw [he] at v3
    have KV := Lib.hid (whole_row v2 (four (frS b s)))
    have HBV := Lib.hid (hbV.trans (below_row V (w.heap.size + 1 + 1) (four (frS b s)).toArray (by omega)))
    have hDl : D < V.heap.size := (Array.getElem?_eq_some_iff.1 hK).1
    have HK : Hid ((V.setRow (w.heap.size + 1 + 1) (four (frS b s)).toArray).heap[D]? = some (.deferred (some []))) := Lib.hid ((setRow_other _ _ _ _ (by omega)).trans hK)
    have V3 := Lib.hid v3
    have V2 := Lib.hid v2
    have hone : (four (frS b s)).toArray.all (·.oneCell') = true := by unfold four; simp [Value.oneCell']
    clear v1 v2 v3 hbV hK k1 k2 k3 k4 hB hcs hsz he hf
    go_wp2_with (first
      | (refine wpList_load_row rfl 24 (.tmp 5) rfl _ rfl 24 (four (frS b s)).toArray (0, 0) _ V3.out Try.underlying24 rfl (by rw [Try.infoFour]; rfl) ?_; clear V3)
      | (refine wpList_store_row rfl 24 (.tmp 4) (.tmp 26) rfl _ (four (frS b s)).toArray rfl rfl 24 (four (fun _ => 0)).toArray V2.out (by rw [Try.infoFour]; rfl) rfl hone ?_; clear V2))
    refine leaves_marks w.heap.size [D] _ ((Marks.nil w.heap.size _).cons (D := D) (by omega) HK.out (fun E hE => by cases hE)) (fun W' hck hbk => ⟨_, results_four (g := w.heap.size + 1 + 1) (n := 4) rfl rfl (hck _ _ KV.out rfl), rfl, HBV.out.trans hbk⟩)
  case stop =>
    rintro D c pre W _ _ h _
    exact h.elim
end Go.Proofs.Ytmhpailpjfieoaa
