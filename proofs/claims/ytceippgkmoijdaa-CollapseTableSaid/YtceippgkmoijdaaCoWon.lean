/- Contract of collapse.course.won. Written by mk_CoWon.py. -/
import Derived.Test.YtceippgkmoijdaaCoReq
import Derived.Test.YtceippgkmoijdaaCoCell
import Derived.Test.YtceippgkmoijdaaRndL
import Derived.Test.YtceippgkmoijdaaCoEdg2
namespace Go.Proofs.Ytceippgkmoijdaa
open Go.RowKit Go.Shelf Go.Sort Go.Maps
set_option linter.unusedVariables false
set_option linter.unusedSimpArgs false
attribute [local go_sem] Oper.semAt_some

theorem ent_num : ∀ (L : List Pz) (k : Nat), ∀ e ∈ entL k L, k ≤ e.2 ∧ e.2 < k + L.length
  | [], k => fun e he => by simp [entL] at he
  | p :: t, k => fun e he => by
    rcases List.mem_append.1 (show e ∈ (slotsL p.pl).map (fun s => (s, k)) ++ entL (k + 1) t from he) with he | he
    · obtain ⟨s, _, rfl⟩ := List.mem_map.1 he
      simp
    · have := ent_num t (k + 1) e he
      simp only [List.length_cons]; omega
theorem ownA_num (ps : List Pz) (s : Nat × Nat) : ownA (entL 0 ps).reverse s = -1 ∨ ∃ i : Nat, i < ps.length ∧ ownA (entL 0 ps).reverse s = (i : Int) := by
  unfold ownA
  cases h : (entL 0 ps).reverse.find? (fun e => e.1 == s) with
  | none => exact .inl rfl
  | some e =>
    have := List.mem_of_find?_eq_some h
    have := ent_num ps 0 e (by simpa using this)
    exact .inr ⟨e.2, by omega, rfl⟩
/-- whose a slot is: nobody's, or a place's -/
def OwN (n : Nat) (o : Int) : Prop := o = -1 ∨ ∃ i : Nat, i < n ∧ o = (i : Int)
theorem whoP_num (ps : List Pz) (rn kn : Nat) (i j : Int) : OwN ps.length (whoP ps rn kn i j) := by
  unfold whoP
  split
  · exact ownA_num ps _
  · exact .inl rfl
theorem whoL_num (l : Bool) (ps : List Pz) (rn kn : Nat) (a b : Int) : OwN ps.length (whoL l ps rn kn a b) := by
  cases l <;> exact whoP_num ..
def parN (l : Bool) (rn kn : Nat) : Nat := if l then rn else kn
def aloN (l : Bool) (rn kn : Nat) : Nat := if l then kn else rn
def forN (l : Bool) : Nat := if l then 0 else 3
def reaN (l : Bool) : Nat := if l then 2 else 1
/-- what comes to an edge: the claims of cells, and what is asked for beside -/
def allP (l : Bool) (ps : List Pz) (rn kn : Nat) (cf : Int → Nat → Cl) (af : Nat → Nat → Cl) (x : Int × Int) : Cl :=
  togP [cf (whoL l ps rn kn (x.1 - 1) x.2) (reaN l), cf (whoL l ps rn kn x.1 x.2) (forN l), af x.1.toNat x.2.toNat]
def wonP (l : Bool) (ps : List Pz) (rn kn : Nat) (cf : Int → Nat → Cl) (af : Nat → Nat → Cl) (x : Int × Int) : Ed :=
  ⟨(turnP l x.1 x.2).1, (turnP l x.1 x.2).2, l, (allP l ps rn kn cf af x).won, (allP l ps rn kn cf af x).n⟩
theorem build_ed1 (a : Ed) (w : World) : (Instr.buildSlice 31 1 #[(0, a.val)]).run Try.prog w = .ok (.slice (some ⟨w.heap.size, 0, none⟩) 1 1) (w.alloc (.cells a.cells.toArray 56)) := by
  obtain ⟨r, c, l, ⟨a0, a1, a2, a3, a4, a5⟩, n⟩ := a
  kernel_rfl
theorem run_appEd1 (W : World) (B : Nat) (v : Value) (n : Nat) (ys : List Ed) (z : Ed) (hown : W.ownsRow B 56 10 v n (ys.flatMap Ed.cells)) (g : Nat) (hz : Whole W g 56 z.cells) (hn : n ≤ 1000000) (hB : B ≤ W.heap.size) :
    ∃ v' w', (Builtin.append_ #[31, 31] 31 #[v, .slice (some ⟨g, 0, none⟩) 1 1]).run Try.prog W = .ok v' w' ∧ w'.ownsRow B 56 10 v' (n + 1) ((ys ++ [z]).flatMap Ed.cells) ∧ W.grownBy w' v.ownBlock := by
  cases hi : Try.prog.info? 56 with
  | none => have := Try.infoEdA; rw [hi] at this; cases this
  | some i =>
    have h := Try.infoEdA
    rw [hi] at h
    simp only [Option.map_some, Option.some.injEq, Prod.mk.injEq] at h
    obtain ⟨hiz, hs, hby⟩ := h
    obtain ⟨v', w', hr, ho, hg, -, hat⟩ := run_append_own_at (P := Try.prog) W B 31 31 56 i _ 10 80 Try.underlying31 hi hiz hs hby rfl (by decide) v n (ys.flatMap Ed.cells) hown ⟨g, 0, none⟩ 1 1 z.cells (by rw [Ed.cells_len]) (fun j u hu => by rw [add_plainC, Nat.zero_add, hz.cellAt]; exact hu)
        (fun u hu => by have := Ed.one z; rw [Array.all_eq_true_iff_forall_mem] at this; exact this u (by simpa using hu)) (by unfold maxLen; omega) (by omega) hB
    exact ⟨v', w', hr, by rw [List.flatMap_append]; simpa using ho, hg⟩
theorem keeps_of_below {W X : World} (h : Below W.heap.size W X) : KeepsOthers W X := ⟨h.size, fun k o hk _ => (h.block k (Array.getElem?_eq_some_iff.1 hk).1).trans hk⟩
theorem own_cells {W W' : World} {base e sz n : Nat} {v : Value} {xs : List Value} (h : W.ownsRow base e sz v n xs) (hck : CellsKept W W') : W'.ownsRow base e sz v n xs := by
  refine ⟨h.1, h.2.imp id ?_⟩
  rintro ⟨g, cap, cur, e, h1, h2, h3⟩
  exact ⟨g, cap, cur, e, h1, hck _ _ h2 rfl, h3⟩
theorem plain_all {rest : List Oper} (h : PlainOps rest.toArray = true) : ∀ o ∈ rest, ∀ c, o.op ≠ .defer c := fun o ho => by
  obtain ⟨i, hi⟩ := List.getElem?_of_mem ho
  exact PlainOps.spec h (i := i) (by simpa using hi)
theorem edR_len (f : Nat → Nat → Option (Int × Int)) (C i : Nat) : ((List.range i).flatMap fun r => (List.range C).filterMap (f r)).length ≤ i * C := by
  induction i with
  | zero => simp
  | succ i ih =>
    rw [List.range_succ, List.flatMap_append, List.length_append, Nat.succ_mul, List.flatMap_cons, List.flatMap_nil, List.append_nil]
    have h := List.length_filterMap_le (f i) (List.range C)
    rw [List.length_range] at h
    exact Nat.add_le_add ih h
theorem edT_len (f : Nat → Nat → Option (Int × Int)) (C i j : Nat) : (edT f C i j).length ≤ i * C + j := by
  unfold edT
  rw [List.length_append]
  have h := List.length_filterMap_le (f i) (List.range j)
  rw [List.length_range] at h
  exact Nat.add_le_add (edR_len f C i) h
/-- where an edge is: at a seam, along a band -/
theorem nxt_at {l : Bool} {ps : List Pz} {rn kn : Nat} {pre : List (Int × Int)} {x : Int × Int} (h : nxtE (edF l ps rn kn) (edR l rn kn) (edC l rn kn) pre x) (hrk : (rn + 1) * (kn + 1) ≤ 100000) : ∃ s b : Nat, x = ((s : Int), (b : Int)) ∧ s < parN l rn kn + 1 ∧ b < aloN l rn kn ∧ pre.length ≤ 100000 := by
  obtain ⟨i, j, hi, hj, hf, rfl⟩ := h
  have hx : x = turnP l i j := by
    unfold edF at hf
    split at hf
    · cases hf
    · injection hf with hf; exact hf.symm
  have hlen := edT_len (edF l ps rn kn) (edC l rn kn) i j
  have hle : i * edC l rn kn + j ≤ 100000 := by
    have h1 : (i + 1) * edC l rn kn ≤ edR l rn kn * edC l rn kn := Nat.mul_le_mul_right _ hi
    rw [Nat.succ_mul] at h1
    have h2 : edR l rn kn * edC l rn kn ≤ (rn + 1) * (kn + 1) := by
      cases l
      · exact Nat.mul_le_mul (by simp [edR]) (by simp [edC])
      · exact Nat.mul_le_mul (by simp [edR]) (by simp [edC])
    omega
  cases l
  · exact ⟨j, i, by rw [hx]; rfl, by simpa [parN, edC] using hj, by simpa [aloN, edR] using hi, by omega⟩
  · exact ⟨i, j, by rw [hx]; rfl, by simpa [parN, edR] using hi, by simpa [aloN, edC] using hj, by omega⟩
/-- the memory of won at the start of a round -/
structure WonI (W : World) (A : Nat) (cx : List Value) (fa qa : Array Value) (es : List Ed) (X : World) : Prop where
  crs : Whole X W.heap.size 70 cx
  frm : Whole X (W.heap.size + 1) 30 fa.toList
  req : Whole X (W.heap.size + 2) 89 qa.toList
  lst : ∃ v, Whole X (W.heap.size + 3) 31 [v] ∧ X.ownsRow A 56 10 v es.length (es.flatMap Ed.cells)
  be : Below W.heap.size W X
  sz : A ≤ X.heap.size
theorem WonI.below {W : World} {A : Nat} {cx : List Value} {fa qa : Array Value} {es : List Ed} {X Y : World} (h : WonI W A cx fa qa es X) (hb : Below X.heap.size X Y) : WonI W A cx fa qa es Y := by
  obtain ⟨v, h1, h2⟩ := h.lst
  exact ⟨h.crs.below hb h.crs.lt, h.frm.below hb h.frm.lt, h.req.below hb h.req.lt, ⟨v, h1.below hb h1.lt, own_belowT h2 hb⟩, h.be.trans (hb.mono h.be.size), Nat.le_trans h.sz hb.size⟩
theorem WonI.grown {W : World} {A : Nat} {cx : List Value} {fa qa : Array Value} {es : List Ed} {X Y : World} {l : Nat} (h : WonI W A cx fa qa es X) (hg : X.grownBy Y (some l)) (hn : NoCells X (some l)) (hl : A ≤ l) (hA : W.heap.size ≤ A) : WonI W A cx fa qa es Y := by
  obtain ⟨v, h1, h2⟩ := h.lst
  exact ⟨h.crs.grown hg (h.crs.ne hn), h.frm.grown hg (h.frm.ne hn), h.req.grown hg (h.req.ne hn), ⟨v, h1.grown hg (h1.ne hn), own_grown h2 hg hn⟩, h.be.grown hg h.be.size (fun k e => by cases e; omega), Nat.le_trans h.sz hg.size⟩
theorem Whole.apE {W W' : World} {base e size n g t : Nat} {v : Value} {xs ys : List Value} (hw : Whole W g t ys) (h : W.ownsRow base e size v n xs) (hte : t ≠ e) (hg : W.grownBy W' v.ownBlock) : Whole W' g t ys := hw.grown hg (whole_own hw h hte)
/-- an edge more -/
theorem WonI.add {W : World} {A : Nat} {cx : List Value} {fa qa : Array Value} {es : List Ed} {X : World} (h : WonI W A cx fa qa es X) (hl : es.length ≤ 1000000) (hA : W.heap.size + 4 ≤ A) (e : Ed) :
    ∃ v v' Y, Whole (X.alloc (.cells e.cells.toArray 56)) (W.heap.size + 3) 31 [v] ∧ X.cell? ⟨W.heap.size + 3, 0, none⟩ = some v ∧
      (Builtin.append_ #[31, 31] 31 #[v, .slice (some ⟨X.heap.size, 0, none⟩) 1 1]).run Try.prog (X.alloc (.cells e.cells.toArray 56)) = .ok v' Y ∧ Whole Y (W.heap.size + 3) 31 [v] ∧ WonI W A cx fa qa (es ++ [e]) (Y.setCell ⟨W.heap.size + 3, 0, none⟩ v') ∧ KeepsOthers X (Y.setCell ⟨W.heap.size + 3, 0, none⟩ v') ∧ KpL A [W.heap.size + 3] X (Y.setCell ⟨W.heap.size + 3, 0, none⟩ v') ∧ ∃ pa pn pc, v' = .slice pa pn pc := by
  have hb1 := (Below.refl X.heap.size X).alloc (Nat.le_refl _) (.cells e.cells.toArray 56)
  have hk1 := KeepsOthers.alloc X (.cells e.cells.toArray 56)
  have hz := whole_new X e.cells 56 _ rfl
  obtain ⟨v, x1, x2⟩ := h.lst
  have h1 := h.below hb1
  have y1 := x1.below hb1 x1.lt
  have y2 := own_belowT x2 hb1
  obtain ⟨v', Y, hr, ho, hg⟩ := run_appEd1 _ A v es.length es e y2 _ hz hl h1.sz
  have hB : Below A (X.alloc (.cells e.cells.toArray 56)) Y := (Below.refl _ _).grown hg h1.sz (fun k ek => (y2.lt k ek).1)
  have hB2 : Below A X (Y.setCell ⟨W.heap.size + 3, 0, none⟩ v') ∨ True := .inr trivial
  have w1 := y1.apE y2 (by decide) hg
  refine ⟨v, v', Y, y1, by rw [x1.cellAt]; rfl, hr, w1, ?_, ?_, ?_, own_slice ho⟩
  · refine ⟨(h1.crs.apE y2 (by decide) hg).other _ _ (by show W.heap.size ≠ W.heap.size + 3; omega), (h1.frm.apE y2 (by decide) hg).other _ _ (by show W.heap.size + 1 ≠ W.heap.size + 3; omega), (h1.req.apE y2 (by decide) hg).other _ _ (by show W.heap.size + 2 ≠ W.heap.size + 3; omega), ⟨v', w1.set 0 v', ?_⟩, ?_, ?_⟩
    · rw [List.length_append]
      exact own_setCell ho (whole_own w1 ho (by decide))
    · exact ((h1.be.trans (hB.mono (by omega)))).setCell (p := ⟨W.heap.size + 3, 0, none⟩) (by show W.heap.size ≤ W.heap.size + 3; omega) _
    · have := hB.size
      have := h1.sz
      simp only [World.size_setCell]; omega
  · exact (hk1.trans (own_keeps y2 hg)).trans (KeepsOthers.setCell _ _ _)
  · refine ⟨?_, fun k hk hA' hkx => ?_⟩
    · have := hB.size; have := hb1.size
      simp only [World.size_setCell]; omega
    · rw [Below.heap_setCell Y ⟨W.heap.size + 3, 0, none⟩ v' k (by simpa using hk), hB.block k hA']
      exact hb1.block k hkx

set_option maxRecDepth 100000 in
set_option maxHeartbeats 8000000 in
theorem won_any (l : Bool) (ps : List Pz) (rn kn gb : Nat) (po : Option Addr) (co B : Nat) (fa qa : Array Value) (cf : Int → Nat → Cl) (af : Nat → Nat → Cl) (W : World) (hN : NK ps rn kn gb po co B W) (hrn : rn ≤ 10000) (hkn : kn ≤ 10000) (hrk : (rn + 1) * (kn + 1) ≤ 100000) (hfs : fa.size = 20) (hqs : qa.size = 3)
    (HF : ∀ X, Below W.heap.size W X → ∀ o (k : Nat), OwN ps.length o → k < 4 → Calls Try.prog 58 #[.agg fa, .int .i64 o, .int .i64 (k : Int)] X fun e X' => e = .returned (cf o k).val ∧ Below X.heap.size X X')
    (HQ : ∀ X, Below W.heap.size W X → ∀ i j, i < parN l rn kn + 1 → j < aloN l rn kn → Calls Try.prog 59 #[.agg qa, .int .i64 (i : Int), .int .i64 (j : Int)] X fun e X' => e = .returned (af i j).val ∧ Below X.heap.size X X')
    (HOF : ∀ o (k : Nat), OwN ps.length o → k < 4 → OkC 1000000000000000000 (cf o k)) (HOQ : ∀ i j, i < parN l rn kn + 1 → j < aloN l rn kn → OkC 1000000000000000000 (af i j)) :
    Calls Try.prog 36 #[.agg (crs l rn kn gb).toArray, .agg fa, .agg qa] W fun e X => ∃ v, e = .returned v ∧ RowsK Ed.cells 10 X v ((edT (edF l ps rn kn) (edC l rn kn) (edR l rn kn) 0).map (wonP l ps rn kn cf af)) ∧ Below W.heap.size W X := by
  have HEDG := Lib.hid (fun X => edges_any l rn kn gb (by omega) (by omega) X)
  obtain ⟨x0, x1, x2, x3, x4, hx, hx0, hx1, hx2, hx3, hx4⟩ := crs_form l rn kn gb
  have HXI := Lib.hid (show x0 = l ∧ x3 = ((forN l : Nat) : Int) ∧ x4 = ((reaN l : Nat) : Int) from ⟨hx0, by rw [hx3]; cases l <;> rfl, by rw [hx4]; cases l <;> rfl⟩)
  have HCX := Lib.hid hx
  have HHN := Lib.hid hN
  obtain ⟨cx, hcx⟩ : ∃ cx, crs l rn kn gb = cx := ⟨_, rfl⟩
  rw [hcx] at HEDG HCX ⊢
  have HCXE := Lib.hid hcx
  obtain ⟨ca, hca⟩ : ∃ ca, cx.toArray = ca := ⟨_, rfl⟩
  rw [hca] at HEDG ⊢
  have HCA := Lib.hid hca
  have ICA : Hid ((Try.prog.info? 70).map (·.size) = some ca.size) := Lib.hid (by rw [Try.infoCourse, ← hca, HCX.out]; rfl)
  have IFA : Hid ((Try.prog.info? 30).map (·.size) = some fa.size) := Lib.hid (by rw [hfs]; kernel_rfl)
  have IQA : Hid ((Try.prog.info? 89).map (·.size) = some qa.size) := Lib.hid (by rw [hqs]; kernel_rfl)
  have HF := Lib.hid HF
  have HQ := Lib.hid HQ
  have HOF := Lib.hid HOF
  have HOQ := Lib.hid HOQ
  obtain ⟨W4, hW4⟩ : ∃ W4, (((W.alloc (.cells ca 70)).alloc (.cells fa 30)).alloc (.cells qa 89)).alloc (.cells #[.slice none 0 0] 31) = W4 := ⟨_, rfl⟩
  have I0 : Hid (∀ X, Below W4.heap.size W4 X → WonI W X.heap.size cx fa qa [] X) := Lib.hid (fun X hX => by
    subst hca
    obtain ⟨fl, hfl⟩ : ∃ fl, fa.toList = fl := ⟨_, rfl⟩
    obtain ⟨ql, hql⟩ : ∃ ql, qa.toList = ql := ⟨_, rfl⟩
    have e1 : fa = fl.toArray := by rw [← hfl]
    have e2 : qa = ql.toArray := by rw [← hql]
    subst e1 e2
    have k1 : Whole W4 W.heap.size 70 cx := hW4 ▸ (((whole_new W cx 70 _ rfl).alloc _).alloc _).alloc _
    have k2 : Whole W4 (W.heap.size + 1) 30 fl := hW4 ▸ ((whole_new (W.alloc _) fl 30 _ (by simp)).alloc _).alloc _
    have k3 : Whole W4 (W.heap.size + 2) 89 ql := hW4 ▸ (whole_new ((W.alloc _).alloc _) ql 89 _ (by simp)).alloc _
    have k4 : Whole W4 (W.heap.size + 3) 31 [.slice none 0 0] := hW4 ▸ whole_new (((W.alloc _).alloc _).alloc _) [.slice none 0 0] 31 _ (by simp)
    have k5 : Below W.heap.size W W4 := hW4 ▸ (((((Below.refl _ W).alloc (Nat.le_refl _) _).alloc (by simp) _).alloc (by simp; omega) _).alloc (by simp; omega) _)
    exact ⟨k1.below hX k1.lt, k2.below hX k2.lt, k3.below hX k3.lt, ⟨.slice none 0 0, k4.below hX k4.lt, World.ownsRow_nil _ _ _ _⟩, k5.trans (hX.mono k5.size), Nat.le_refl _⟩)
  have s4 : W4.heap.size = W.heap.size + 4 := by rw [← hW4]; simp
  have S4 := Lib.hid s4
  clear hN hx hx0 hx1 hx2 hx3 hx4 hcx hca s4
  refine (callsIn_wide (n := 3)).1 (callsIn_of_wp_marks Try.func36 rfl trivial (wpIn_wide.2 ?_) rfl)
  simp only [Try.ntmps36, List.size_toArray, List.length_cons, List.length_nil, Nat.reduceAdd, Nat.reduceSub, Array.replicate_succ, Array.replicate_zero, List.push_toArray, List.append_toArray, List.nil_append, List.cons_append]
  have LC : Hid (∀ j v, ca[j]? = some v → W4.cell? ((⟨W.heap.size, 0, none⟩ : Addr).add j) = some v) := Lib.hid ((whole_arr (I0.out W4 (Below.refl _ _)).crs HCA.out).loads)
  go_wp2_with (first
    | ((try rw [hW4]); refine wpList_loadC rfl 70 (.tmp 3) rfl ⟨W.heap.size, 0, none⟩ rfl ca _ LC.out Try.underlying70 rfl ICA.out ?_; clear hW4)
    | (go_at_call 56; refine (HEDG.out _).mono ?_; rintro e w5 ⟨rfl, e1, e2, e3, e4⟩; have HE := Lib.hid (And.intro e1 (And.intro e2 (And.intro e3 e4))); clear HEDG e1 e2 e3 e4)
    | fail)
  have HS5 : Hid (W.heap.size + 4 ≤ w5.heap.size ∧ W4.heap.size + 2 < w5.heap.size) := Lib.hid (by
    have h1 := cell_lt HE.out.2.1
    have := S4.out
    dsimp only at h1
    omega)
  have I5 : Hid (WonI W w5.heap.size cx fa qa [] w5) := Lib.hid (I0.out w5 HE.out.2.2.2)
  have HSQ := Lib.hid (edges_next2 (3 - 1) (by omega) l ps rn kn gb po co B (W4.heap.size + 1) (W4.heap.size + 2) W4.heap.size [W.heap.size + 3] (edR l rn kn) (edC l rn kn) (by unfold edR; split <;> omega) (by unfold edC; split <;> omega) w5 (fun k hk => by have := HHN.out.size; simp at hk; omega) (by have := S4.out; simp; omega) (by have := S4.out; simp; omega) (by have := S4.out; simp; omega) HE.out.1 HE.out.2.1 (by rw [HCXE.out]; exact HE.out.2.2.1) (HHN.out.grow I5.out.be))
  obtain ⟨wf, hwf⟩ : ∃ wf, wonP l ps rn kn cf af = wf := ⟨_, rfl⟩
  have HWF := Lib.hid hwf
  obtain ⟨gr, hgr⟩ : ∃ g, W4.heap.size + 1 = g := ⟨_, rfl⟩
  obtain ⟨gc, hgc⟩ : ∃ g, W4.heap.size + 2 = g := ⟨_, rfl⟩
  obtain ⟨g3, hg3⟩ : ∃ g, W4.heap.size = g := ⟨_, rfl⟩
  rw [hgr, hgc, hg3] at HSQ
  try rw [hgr, hgc, hg3]
  clear I0 HE LC hwf hgr hgc hg3
  refine (wpIn_wide (n := 3)).1 (range_grow (F := Fence.wide) rfl (by omega) (gf := 71) (lb := #[.pointer (some ⟨gr, 0, none⟩), .pointer (some ⟨gc, 0, none⟩), .pointer (some ⟨g3, 0, none⟩)]) rfl trivial (enters_of Try.func71 (by kernel_rfl) rfl)
    (Kp := KpL w5.heap.size [W.heap.size + 3]) (fun _ _ _ h k => h.trans k) (fun X o _ => KpL.put X _ o (by omega)) HSQ.out (fun _ => rfl)
    (fun pre X => WonI W w5.heap.size cx fa qa (pre.map wf) X) (fun _ _ _ => False)
    (fun s X Y h hb => h.below hb) (fun _ _ _ _ h _ => h.elim) (fun s X Y l' hl h hg hn => h.grown hg hn hl (by have := HS5.out; omega)) (fun _ _ _ _ _ _ h _ _ => h.elim)
    I5.out ?round ?done ?stop)
  case round =>
    rintro l' pre x V hl hI hnx
    obtain ⟨sN, bN, rfl, hs1, hb1, hpl⟩ := nxt_at hnx hrk
    have HX := Lib.hid (And.intro hs1 (And.intro hb1 hpl))
    have HI := Lib.hid hI
    clear hnx HSQ hI hs1 hb1 hpl I5
    apply Exists.intro
    apply Exists.intro
    refine ⟨?_, ?_, ?_, ?_⟩
    · intro K hK
      simp only [encE]
      gi_wp2
      exact hK
    · exact KeepsFrom.refl _ _
    · exact KpL.refl _ _ _
    · intro V₂ hgV hnc hbl
      have I2 := Lib.hid (HI.out.grown hgV hnc hl (by have := HS5.out; omega))
      clear hgV hnc hbl HI
      have HWX : Hid (wf ((sN : Int), (bN : Int)) = ⟨(turnP l sN bN).1, (turnP l sN bN).2, l, (togP [cf (whoL l ps rn kn ((sN : Int) - 1) bN) (reaN l), cf (whoL l ps rn kn sN bN) (forN l), af sN bN]).won, (togP [cf (whoL l ps rn kn ((sN : Int) - 1) bN) (reaN l), cf (whoL l ps rn kn sN bN) (forN l), af sN bN]).n⟩) := Lib.hid (by rw [← HWF.out]; rfl)
      have hN2 := HHN.out.grow I2.out.be
      have hsb : (sN : Int) ≤ 20001 ∧ (bN : Int) ≤ 20001 := by
        have h1 := HX.out.1; have h2 := HX.out.2.1
        revert h1 h2
        cases l <;> simp [parN, aloN] <;> omega
      have HBS := Lib.hid (beside_any l ps rn kn gb po co B sN bN V₂ hN2 ⟨by omega, by omega⟩ ⟨by omega, by omega⟩)
      have hw1 : IntKind.i64.wrap ((sN : Int) - 1) = (sN : Int) - 1 := by rw [IntKind.wrap_i64]; omega
      rw [hw1, HCXE.out, HCA.out] at HBS
      have on1 := whoL_num l ps rn kn ((sN : Int) - 1) bN
      have on2 := whoL_num l ps rn kn sN bN
      have hk4 : reaN l < 4 ∧ forN l < 4 := by cases l <;> simp [reaN, forN]
      obtain ⟨bf, hbf⟩ : ∃ b, whoL l ps rn kn ((sN : Int) - 1) bN = b := ⟨_, rfl⟩
      obtain ⟨bh, hbh⟩ : ∃ b, whoL l ps rn kn sN bN = b := ⟨_, rfl⟩
      rw [hbf, hbh] at HWX HBS
      rw [hbf] at on1
      rw [hbh] at on2
      obtain ⟨rk, hrk2⟩ : ∃ k, reaN l = k := ⟨_, rfl⟩
      obtain ⟨fk, hfk2⟩ : ∃ k, forN l = k := ⟨_, rfl⟩
      have HC0 : Hid (cx[0]? = some (.bool l)) := Lib.hid (by rw [HCX.out, HXI.out.1]; rfl)
      have HC3 : Hid (cx[3]? = some (.int .i64 (fk : Int))) := Lib.hid (by rw [HCX.out, HXI.out.2.1, hfk2]; rfl)
      have HC4 : Hid (cx[4]? = some (.int .i64 (rk : Int))) := Lib.hid (by rw [HCX.out, HXI.out.2.2, hrk2]; rfl)
      have HC5 : Hid (cx[5]? = some (.func (.func (turnF l)) #[] #[])) := Lib.hid (by rw [HCX.out]; rfl)
      rw [hrk2, hfk2] at HWX hk4
      have C1 := Lib.hid (fun X (hX : Below W.heap.size W X) => HF.out X hX bf rk on1 hk4.1)
      have C2 := Lib.hid (fun X (hX : Below W.heap.size W X) => HF.out X hX bh fk on2 hk4.2)
      have C3 := Lib.hid (fun X (hX : Below W.heap.size W X) => HQ.out X hX sN bN HX.out.1 HX.out.2.1)
      have O1 := Lib.hid (HOF.out bf rk on1 hk4.1)
      have O2 := Lib.hid (HOF.out bh fk on2 hk4.2)
      have O3 := Lib.hid (HOQ.out sN bN HX.out.1 HX.out.2.1)
      obtain ⟨c1, hc1⟩ : ∃ c, cf bf rk = c := ⟨_, rfl⟩
      obtain ⟨c2, hc2⟩ : ∃ c, cf bh fk = c := ⟨_, rfl⟩
      obtain ⟨c3, hc3⟩ : ∃ c, af sN bN = c := ⟨_, rfl⟩
      rw [hc1] at C1 O1 HWX
      rw [hc2] at C2 O2 HWX
      rw [hc3] at C3 O3 HWX
      have HT1 := Lib.hid (fun X => turn_any l sN bN X)
      have HEN := Lib.hid (turn_enter l)
      obtain ⟨ft, hft⟩ : ∃ f, turnF l = f := ⟨_, rfl⟩
      rw [hft] at HT1 HEN HC5
      obtain ⟨t1, ht1⟩ : ∃ z, (turnP l sN bN).1 = z := ⟨_, rfl⟩
      obtain ⟨t2, ht2⟩ : ∃ z, (turnP l sN bN).2 = z := ⟨_, rfl⟩
      rw [ht1, ht2] at HT1 HWX
      have LC2 : Hid (∀ j v, ca[j]? = some v → V₂.cell? ((⟨W.heap.size, 0, none⟩ : Addr).add j) = some v) := Lib.hid ((whole_arr I2.out.crs HCA.out).loads)
      clear hN2 hsb hw1 on1 on2 hk4 hbf hbh hrk2 hfk2 hc1 hc2 hc3 hft ht1 ht2
      gi_wp2_with (refine listIn_of_plain (by first | (rintro ⟨x, y, h⟩; exact h) | (simp only [LetsOut, Exit.inBlock, Exit.then]; rintro ⟨x, y, h⟩; exact h)) _ (plain_all (by kernel_rfl)) _ _ ?_)
      go_wp2_with (first
        | (refine wpList_loadC rfl 70 (.tmp 3) rfl ⟨W.heap.size, 0, none⟩ rfl ca _ LC2.out Try.underlying70 rfl ICA.out ?_)
        | (go_at_call 25; refine HBS.out.mono ?_; rintro e w6 ⟨rfl, hb6⟩; have B6 := Lib.hid hb6; have I6 := Lib.hid (I2.out.below hb6); clear hb6 HBS LC2)
        | fail)
      gi_wp2_with (refine round_L (S := fun X => Hid (Below w6.heap.size w6 X)) (by kernel_rfl) (by kernel_rfl) (by first | (rintro ⟨x, y, h⟩; exact h) | (simp only [LetsOut, Exit.inBlock, Exit.then]; rintro ⟨x, y, h⟩; exact h)) (fun w9 hw9 => ?_))
      have SV : Hid (Below w6.heap.size w6 w9) := Lib.hid (by rw [← hw9]; exact below_dn _ _ 1)
      clear hw9
      try simp only [Act.put, List.setIfInBounds_toArray, List.set_cons_succ, List.set_cons_zero]
      refine AnyL.take (i := 0) (v := .agg fa) (some 26) rfl rfl (by kernel_rfl) (by kernel_rfl) (by kernel_rfl) (fun _ _ _ h => h) SV (yields_loadC (by rfl) 30 (.tmp 4) rfl _ rfl fa _ (fun X hX => (I6.out.frm.below hX.out I6.out.frm.lt).loads) Try.underlying30 rfl IFA.out) ?_
      try simp only [Act.put, List.setIfInBounds_toArray, List.set_cons_succ, List.set_cons_zero]
      refine AnyL.take (i := 1) (v := .int .i64 bf) (some 27) rfl rfl (by kernel_rfl) (by kernel_rfl) (by kernel_rfl) (fun _ _ _ h => h) SV (Or.inl ⟨by rfl, ?_⟩) ?_
      · intro X hX; go_simp
      try simp only [Act.put, List.setIfInBounds_toArray, List.set_cons_succ, List.set_cons_zero]
      refine AnyL.take (i := 2) (v := .pointer (some ⟨W.heap.size, 4, none⟩)) (some 28) rfl rfl (by kernel_rfl) (by kernel_rfl) (by kernel_rfl) (fun _ _ _ h => h) SV (Or.inl ⟨by rfl, ?_⟩) ?_
      · intro X hX; go_simp
      try simp only [Act.put, List.setIfInBounds_toArray, List.set_cons_succ, List.set_cons_zero]
      refine AnyL.take (i := 3) (v := .int .i64 (rk : Int)) (some 29) rfl rfl (by kernel_rfl) (by kernel_rfl) (by kernel_rfl) (fun _ _ _ h => h) SV (Or.inl ⟨by rfl, ?_⟩) ?_
      · intro X hX; have q := (I6.out.crs.below hX.out I6.out.crs.lt).cellAt 4; rw [HC4.out] at q; have lq := (I6.out.crs.below hX.out I6.out.crs.lt).lt; go_simp
      try simp only [Act.put, List.setIfInBounds_toArray, List.set_cons_succ, List.set_cons_zero]
      refine AnyL.take (i := 5) (v := .agg fa) (some 31) rfl rfl (by kernel_rfl) (by kernel_rfl) (by kernel_rfl) (fun _ _ _ h => h) SV (yields_loadC (by rfl) 30 (.tmp 4) rfl _ rfl fa _ (fun X hX => (I6.out.frm.below hX.out I6.out.frm.lt).loads) Try.underlying30 rfl IFA.out) ?_
      try simp only [Act.put, List.setIfInBounds_toArray, List.set_cons_succ, List.set_cons_zero]
      refine AnyL.take (i := 6) (v := .int .i64 bh) (some 32) rfl rfl (by kernel_rfl) (by kernel_rfl) (by kernel_rfl) (fun _ _ _ h => h) SV (Or.inl ⟨by rfl, ?_⟩) ?_
      · intro X hX; go_simp
      try simp only [Act.put, List.setIfInBounds_toArray, List.set_cons_succ, List.set_cons_zero]
      refine AnyL.take (i := 7) (v := .pointer (some ⟨W.heap.size, 3, none⟩)) (some 33) rfl rfl (by kernel_rfl) (by kernel_rfl) (by kernel_rfl) (fun _ _ _ h => h) SV (Or.inl ⟨by rfl, ?_⟩) ?_
      · intro X hX; go_simp
      try simp only [Act.put, List.setIfInBounds_toArray, List.set_cons_succ, List.set_cons_zero]
      refine AnyL.take (i := 8) (v := .int .i64 (fk : Int)) (some 34) rfl rfl (by kernel_rfl) (by kernel_rfl) (by kernel_rfl) (fun _ _ _ h => h) SV (Or.inl ⟨by rfl, ?_⟩) ?_
      · intro X hX; have q := (I6.out.crs.below hX.out I6.out.crs.lt).cellAt 3; rw [HC3.out] at q; have lq := (I6.out.crs.below hX.out I6.out.crs.lt).lt; go_simp
      try simp only [Act.put, List.setIfInBounds_toArray, List.set_cons_succ, List.set_cons_zero]
      refine AnyL.take (i := 10) (v := .agg qa) (some 36) rfl rfl (by kernel_rfl) (by kernel_rfl) (by kernel_rfl) (fun _ _ _ h => h) SV (yields_loadC (by rfl) 89 (.tmp 5) rfl _ rfl qa _ (fun X hX => (I6.out.req.below hX.out I6.out.req.lt).loads) Try.underlying89 rfl IQA.out) ?_
      try simp only [Act.put, List.setIfInBounds_toArray, List.set_cons_succ, List.set_cons_zero]
      refine AnyL.take (i := 11) (v := .int .i64 (sN : Int)) (some 37) rfl rfl (by kernel_rfl) (by kernel_rfl) (by kernel_rfl) (fun _ _ _ h => h) SV (Or.inl ⟨by rfl, ?_⟩) ?_
      · intro X hX; go_simp
      try simp only [Act.put, List.setIfInBounds_toArray, List.set_cons_succ, List.set_cons_zero]
      refine AnyL.take (i := 12) (v := .int .i64 (bN : Int)) (some 38) rfl rfl (by kernel_rfl) (by kernel_rfl) (by kernel_rfl) (fun _ _ _ h => h) SV (Or.inl ⟨by rfl, ?_⟩) ?_
      · intro X hX; go_simp
      try simp only [Act.put, List.setIfInBounds_toArray, List.set_cons_succ, List.set_cons_zero]
      refine AnyL.some (rs := [4, 16]) (by kernel_rfl) (by simp) ?_
      intro ii hii
      obtain rfl | rfl : ii = 4 ∨ ii = 16 := by simpa using hii
      · clear hii
        refine wpOp_step rfl (fun K hK => ?_)
        go_simp
        refine ((C1.out w9 (I6.out.be.trans (SV.out.mono I6.out.be.size)))).mono ?_
        rintro e wa ⟨rfl, hb⟩
        have SX := Lib.hid (SV.out.trans (hb.mono SV.out.size))
        refine hK _ _ ⟨fun _ => SX, ?_⟩
        clear hK K hb SV
        have SV := SX
        clear SX
        try simp only [Act.put, List.setIfInBounds_toArray, List.set_cons_succ, List.set_cons_zero]
        refine AnyL.some (rs := [9, 16]) (by kernel_rfl) (by simp) ?_
        intro ii hii
        obtain rfl | rfl : ii = 9 ∨ ii = 16 := by simpa using hii
        · clear hii
          refine wpOp_step rfl (fun K hK => ?_)
          go_simp
          refine ((C2.out wa (I6.out.be.trans (SV.out.mono I6.out.be.size)))).mono ?_
          rintro e wb ⟨rfl, hb⟩
          have SX := Lib.hid (SV.out.trans (hb.mono SV.out.size))
          refine hK _ _ ⟨fun _ => SX, ?_⟩
          clear hK K hb SV
          have SV := SX
          clear SX
          try simp only [Act.put, List.setIfInBounds_toArray, List.set_cons_succ, List.set_cons_zero]
          refine AnyL.some (rs := [13, 16]) (by kernel_rfl) (by simp) ?_
          intro ii hii
          obtain rfl | rfl : ii = 13 ∨ ii = 16 := by simpa using hii
          · clear hii
            refine wpOp_step rfl (fun K hK => ?_)
            go_simp
            refine ((C3.out wb (I6.out.be.trans (SV.out.mono I6.out.be.size)))).mono ?_
            rintro e wc ⟨rfl, hb⟩
            have SX := Lib.hid (SV.out.trans (hb.mono SV.out.size))
            refine hK _ _ ⟨fun _ => SX, ?_⟩
            clear hK K hb SV
            have SV := SX
            clear SX
            try simp only [Act.put, List.setIfInBounds_toArray, List.set_cons_succ, List.set_cons_zero]
            refine AnyL.some (rs := [14, 16]) (by kernel_rfl) (by simp) ?_
            intro ii hii
            obtain rfl | rfl : ii = 14 ∨ ii = 16 := by simpa using hii
            · clear hii
              refine wpOp_step rfl (fun K hK => ?_)
              refine wp_build3 87 (.tmp 30) (.tmp 35) (.tmp 39) rfl c1.val c2.val c3.val _ rfl rfl rfl (build_cl3 c1 c2 c3 wc) ?_
              have R3 := Lib.hid (three_cl (whole_new wc (c1.cells ++ (c2.cells ++ c3.cells)) 108 _ rfl))
              have HBN := Lib.hid ((Below.refl wc.heap.size wc).alloc (Nat.le_refl _) (.cells (c1.cells ++ (c2.cells ++ c3.cells)).toArray 108))
              obtain ⟨gl, hgl⟩ : ∃ g, wc.heap.size = g := ⟨_, rfl⟩
              rw [hgl] at R3 ⊢
              have SX := Lib.hid (SV.out.trans (HBN.out.mono SV.out.size))
              generalize wc.alloc (.cells (c1.cells ++ (c2.cells ++ c3.cells)).toArray 108) = wd at R3 SX HBN ⊢
              refine hK _ _ ⟨fun _ => SX, ?_⟩
              clear hK K SV HBN hgl
              have SV := SX
              clear SX
              try simp only [Act.put, List.setIfInBounds_toArray, List.set_cons_succ, List.set_cons_zero]
              refine AnyL.some (rs := [15, 16]) (by kernel_rfl) (by simp) ?_
              intro ii hii
              obtain rfl | rfl : ii = 15 ∨ ii = 16 := by simpa using hii
              · clear hii
                refine wpOp_step rfl (fun K hK => ?_)
                go_simp
                refine (tog_any (some ⟨gl, 0, none⟩) 3 3 [c1, c2, c3] wd R3.out rfl (by omega) (fun c hc => ?_) (fun c hc => ?_)).mono ?_
                · simp only [List.mem_cons, List.not_mem_nil, or_false] at hc
                  rcases hc with rfl | rfl | rfl
                  · exact O1.out.1
                  · exact O2.out.1
                  · exact O3.out.1
                · simp only [List.mem_cons, List.not_mem_nil, or_false] at hc
                  rcases hc with rfl | rfl | rfl
                  · exact O1.out.2
                  · exact O2.out.2
                  · exact O3.out.2
                rintro e we ⟨rfl, hb⟩
                have SX := Lib.hid (SV.out.trans (hb.mono SV.out.size))
                refine hK _ _ ⟨fun _ => SX, ?_⟩
                clear hK K hb SV R3
                have SV := SX
                clear SX
                try simp only [Act.put, List.setIfInBounds_toArray, List.set_cons_succ, List.set_cons_zero]
                refine AnyL.one (i := 16) rfl (by kernel_rfl) ?_
                refine wpOp_step rfl (fun K hK => ?_)
                go_simp
                have KA : Hid (Whole (we.alloc (.cells #[.int .i64 0, .int .i64 0, .int .u32 0, .int .i64 0, .int .i64 0, .int .i64 0, .int .i64 0] 108)) we.heap.size 108 Cl.zero.cells) := Lib.hid (whole_new we Cl.zero.cells 108 _ rfl)
                have HBN := Lib.hid ((Below.refl we.heap.size we).alloc (Nat.le_refl _) (.cells #[.int .i64 0, .int .i64 0, .int .u32 0, .int .i64 0, .int .i64 0, .int .i64 0, .int .i64 0] 108))
                have HGA : Hid (w6.heap.size ≤ we.heap.size) := Lib.hid SV.out.size
                obtain ⟨ga, hga⟩ : ∃ g, we.heap.size = g := ⟨_, rfl⟩
                rw [hga] at KA HGA ⊢
                have SX := Lib.hid (SV.out.trans (HBN.out.mono SV.out.size))
                generalize we.alloc (.cells #[.int .i64 0, .int .i64 0, .int .u32 0, .int .i64 0, .int .i64 0, .int .i64 0, .int .i64 0] 108) = wx at KA SX HBN ⊢
                refine hK _ _ ⟨fun _ => SX, ?_⟩
                clear hK K SV HBN hga
                have SV := SX
                clear SX
                try simp only [Act.put, List.setIfInBounds_toArray, List.set_cons_succ, List.set_cons_zero]
                refine AnyL.one (i := 17) rfl (by kernel_rfl) ?_
                refine wpOp_step rfl (fun K hK => ?_)
                refine wp_store_rowC rfl 108 (.tmp 12) (.tmp 41) rfl ga (togP [c1, c2, c3]).cells.toArray rfl rfl 108 Cl.zero.cells.toArray KA.out (by rw [Try.infoClN]; simp [Cl.cells_len]) (by simp [Cl.cells_len]) (Cl.one _) ?_
                have KC := Lib.hid (whole_rowA KA.out (togP [c1, c2, c3]).cells.toArray)
                have SX : Hid (Below w6.heap.size w6 (wx.setRow ga (togP [c1, c2, c3]).cells.toArray)) := Lib.hid (SV.out.trans (below_setRow (Below.refl _ _) _ _ HGA.out))
                generalize wx.setRow ga (togP [c1, c2, c3]).cells.toArray = wz at KC SX ⊢
                refine hK _ _ ⟨fun h => no_last h (by kernel_rfl), ?_⟩
                clear hK K SV KA
                refine AnyL.done (by kernel_rfl) ?_
                obtain ⟨cc, hcc⟩ : ∃ c, togP [c1, c2, c3] = c := ⟨_, rfl⟩
                have HWZ := Lib.hid HWX.out
                rw [hcc] at KC HWZ
                clear hcc
                obtain ⟨⟨s0, s1, s2, s3, s4, s5⟩, sn⟩ := cc
                have IZ := Lib.hid (I6.out.below SX.out)
                have KZ : Hid (KeepsOthers V₂ wz ∧ KpL w5.heap.size [W.heap.size + 3] V₂ wz) := Lib.hid ⟨(keeps_of_below B6.out).trans (keeps_of_below SX.out), (KpL.of_below B6.out).trans (KpL.of_below SX.out)⟩
                have q5 := IZ.out.crs.cellAt 5
                rw [HC5.out] at q5
                have lq := IZ.out.crs.lt
                clear SX
                gi_wp2_with (refine listIn_of_plain (by first | (rintro ⟨x, y, h⟩; exact h) | (simp only [LetsOut, Exit.inBlock, Exit.then]; rintro ⟨x, y, h⟩; exact h)) _ (plain_all (by kernel_rfl)) _ _ ?_)
                go_wp2_with fail
                rw [HEN.out, Oper.upon_enter]
                refine (HT1.out wz).mono ?_
                rintro e w7 ⟨rfl, rfl⟩
                go_wp2_with fail
                have q0 := IZ.out.crs.cellAt 0
                rw [HC0.out] at q0
                obtain ⟨v, v', Y, y1, y2, y3, y4, y5, y6, y7, pa, pn, pc, rfl⟩ := IZ.out.add (by rw [List.length_map]; exact Nat.le_trans HX.out.2.2 (by omega)) HS5.out.1 (wf ((sN : Int), (bN : Int)))
                rw [HWZ.out] at y1 y3 y5
                have l7 := cell_lt y2
                dsimp only at l7
                have KC2 : Whole wz ga 108 [.int .i64 s0, .int .i64 s1, .int .u32 s2, .int .i64 s3, .int .i64 s4, .int .i64 s5, .int .i64 sn] := KC.out
                have k0 := KC2.cellAt 0
                have k1 := KC2.cellAt 1
                have k2 := KC2.cellAt 2
                have k3 := KC2.cellAt 3
                have k4 := KC2.cellAt 4
                have k5 := KC2.cellAt 5
                have k6 := KC2.cellAt 6
                have lk := KC2.lt
                simp only [List.getElem?_cons_zero, List.getElem?_cons_succ] at k0 k1 k2 k3 k4 k5 k6
                clear KC2
                have Y5 := Lib.hid y5
                have Y6 := Lib.hid y6
                have Y7 := Lib.hid y7
                have d0 := y4.cellAt 0
                have f0 := y4.free 0
                have l8 := y4.lt
                simp only [List.getElem?_cons_zero] at d0
                clear y1 y4 y5 y6 y7 q5
                gi_wp2_with (refine listIn_of_plain (by first | (rintro ⟨x, y, h⟩; exact h) | (simp only [LetsOut, Exit.inBlock, Exit.then]; rintro ⟨x, y, h⟩; exact h)) _ (plain_all (by kernel_rfl)) _ _ ?_)
                go_wp2_with (first
                  | (refine wpList_build1 rfl 31 (.tmp 59) rfl (Ed.val ⟨t1, t2, l, ⟨s0, s1, s2, s3, s4, s5⟩, sn⟩) _ rfl (build_ed1 _ wz) ?_)
                  | (at_builtin; refine Lib.wpList_append_run _ rfl _ _ _ _ rfl _ _ rfl rfl _ _ y3 ?_; clear y3 k0 k1 k2 k3 k4 k5 k6 q0 y2)
                  | fail)
                gi_wp2
                refine ⟨(KZ.out.1.trans Y6.out).from _, KZ.out.2.trans Y7.out, ?_⟩
                show WonI W _ _ _ _ (List.map wf (pre ++ [((sN : Int), (bN : Int))])) _
                rw [List.map_append, List.map_cons, List.map_nil, HWZ.out]
                exact Y5.out
              · clear hii
                refine wpOp_step rfl (fun K hK => ?_)
                go_simp
                have KA : Hid (Whole (wd.alloc (.cells #[.int .i64 0, .int .i64 0, .int .u32 0, .int .i64 0, .int .i64 0, .int .i64 0, .int .i64 0] 108)) wd.heap.size 108 Cl.zero.cells) := Lib.hid (whole_new wd Cl.zero.cells 108 _ rfl)
                have HBN := Lib.hid ((Below.refl wd.heap.size wd).alloc (Nat.le_refl _) (.cells #[.int .i64 0, .int .i64 0, .int .u32 0, .int .i64 0, .int .i64 0, .int .i64 0, .int .i64 0] 108))
                have HGA : Hid (w6.heap.size ≤ wd.heap.size) := Lib.hid SV.out.size
                obtain ⟨ga, hga⟩ : ∃ g, wd.heap.size = g := ⟨_, rfl⟩
                rw [hga] at KA HGA ⊢
                have SX := Lib.hid (SV.out.trans (HBN.out.mono SV.out.size))
                have RX := Lib.hid (R3.out.below HBN.out)
                generalize wd.alloc (.cells #[.int .i64 0, .int .i64 0, .int .u32 0, .int .i64 0, .int .i64 0, .int .i64 0, .int .i64 0] 108) = wx at KA SX HBN RX ⊢
                refine hK _ _ ⟨fun _ => SX, ?_⟩
                clear hK K SV HBN hga R3
                have SV := SX
                have R3 := RX
                clear RX
                clear SX
                try simp only [Act.put, List.setIfInBounds_toArray, List.set_cons_succ, List.set_cons_zero]
                refine AnyL.one (i := 15) rfl (by kernel_rfl) ?_
                refine wpOp_step rfl (fun K hK => ?_)
                go_simp
                refine (tog_any (some ⟨gl, 0, none⟩) 3 3 [c1, c2, c3] wx R3.out rfl (by omega) (fun c hc => ?_) (fun c hc => ?_)).mono ?_
                · simp only [List.mem_cons, List.not_mem_nil, or_false] at hc
                  rcases hc with rfl | rfl | rfl
                  · exact O1.out.1
                  · exact O2.out.1
                  · exact O3.out.1
                · simp only [List.mem_cons, List.not_mem_nil, or_false] at hc
                  rcases hc with rfl | rfl | rfl
                  · exact O1.out.2
                  · exact O2.out.2
                  · exact O3.out.2
                rintro e we ⟨rfl, hb⟩
                have SX := Lib.hid (SV.out.trans (hb.mono SV.out.size))
                have KX := Lib.hid (KA.out.below hb KA.out.lt)
                refine hK _ _ ⟨fun _ => SX, ?_⟩
                clear hK K hb SV R3 KA
                have SV := SX
                have KA := KX
                clear KX
                clear SX
                try simp only [Act.put, List.setIfInBounds_toArray, List.set_cons_succ, List.set_cons_zero]
                refine AnyL.one (i := 17) rfl (by kernel_rfl) ?_
                refine wpOp_step rfl (fun K hK => ?_)
                refine wp_store_rowC rfl 108 (.tmp 12) (.tmp 41) rfl ga (togP [c1, c2, c3]).cells.toArray rfl rfl 108 Cl.zero.cells.toArray KA.out (by rw [Try.infoClN]; simp [Cl.cells_len]) (by simp [Cl.cells_len]) (Cl.one _) ?_
                have KC := Lib.hid (whole_rowA KA.out (togP [c1, c2, c3]).cells.toArray)
                have SX : Hid (Below w6.heap.size w6 (we.setRow ga (togP [c1, c2, c3]).cells.toArray)) := Lib.hid (SV.out.trans (below_setRow (Below.refl _ _) _ _ HGA.out))
                generalize we.setRow ga (togP [c1, c2, c3]).cells.toArray = wz at KC SX ⊢
                refine hK _ _ ⟨fun h => no_last h (by kernel_rfl), ?_⟩
                clear hK K SV KA
                refine AnyL.done (by kernel_rfl) ?_
                obtain ⟨cc, hcc⟩ : ∃ c, togP [c1, c2, c3] = c := ⟨_, rfl⟩
                have HWZ := Lib.hid HWX.out
                rw [hcc] at KC HWZ
                clear hcc
                obtain ⟨⟨s0, s1, s2, s3, s4, s5⟩, sn⟩ := cc
                have IZ := Lib.hid (I6.out.below SX.out)
                have KZ : Hid (KeepsOthers V₂ wz ∧ KpL w5.heap.size [W.heap.size + 3] V₂ wz) := Lib.hid ⟨(keeps_of_below B6.out).trans (keeps_of_below SX.out), (KpL.of_below B6.out).trans (KpL.of_below SX.out)⟩
                have q5 := IZ.out.crs.cellAt 5
                rw [HC5.out] at q5
                have lq := IZ.out.crs.lt
                clear SX
                gi_wp2_with (refine listIn_of_plain (by first | (rintro ⟨x, y, h⟩; exact h) | (simp only [LetsOut, Exit.inBlock, Exit.then]; rintro ⟨x, y, h⟩; exact h)) _ (plain_all (by kernel_rfl)) _ _ ?_)
                go_wp2_with fail
                rw [HEN.out, Oper.upon_enter]
                refine (HT1.out wz).mono ?_
                rintro e w7 ⟨rfl, rfl⟩
                go_wp2_with fail
                have q0 := IZ.out.crs.cellAt 0
                rw [HC0.out] at q0
                obtain ⟨v, v', Y, y1, y2, y3, y4, y5, y6, y7, pa, pn, pc, rfl⟩ := IZ.out.add (by rw [List.length_map]; exact Nat.le_trans HX.out.2.2 (by omega)) HS5.out.1 (wf ((sN : Int), (bN : Int)))
                rw [HWZ.out] at y1 y3 y5
                have l7 := cell_lt y2
                dsimp only at l7
                have KC2 : Whole wz ga 108 [.int .i64 s0, .int .i64 s1, .int .u32 s2, .int .i64 s3, .int .i64 s4, .int .i64 s5, .int .i64 sn] := KC.out
                have k0 := KC2.cellAt 0
                have k1 := KC2.cellAt 1
                have k2 := KC2.cellAt 2
                have k3 := KC2.cellAt 3
                have k4 := KC2.cellAt 4
                have k5 := KC2.cellAt 5
                have k6 := KC2.cellAt 6
                have lk := KC2.lt
                simp only [List.getElem?_cons_zero, List.getElem?_cons_succ] at k0 k1 k2 k3 k4 k5 k6
                clear KC2
                have Y5 := Lib.hid y5
                have Y6 := Lib.hid y6
                have Y7 := Lib.hid y7
                have d0 := y4.cellAt 0
                have f0 := y4.free 0
                have l8 := y4.lt
                simp only [List.getElem?_cons_zero] at d0
                clear y1 y4 y5 y6 y7 q5
                gi_wp2_with (refine listIn_of_plain (by first | (rintro ⟨x, y, h⟩; exact h) | (simp only [LetsOut, Exit.inBlock, Exit.then]; rintro ⟨x, y, h⟩; exact h)) _ (plain_all (by kernel_rfl)) _ _ ?_)
                go_wp2_with (first
                  | (refine wpList_build1 rfl 31 (.tmp 59) rfl (Ed.val ⟨t1, t2, l, ⟨s0, s1, s2, s3, s4, s5⟩, sn⟩) _ rfl (build_ed1 _ wz) ?_)
                  | (at_builtin; refine Lib.wpList_append_run _ rfl _ _ _ _ rfl _ _ rfl rfl _ _ y3 ?_; clear y3 k0 k1 k2 k3 k4 k5 k6 q0 y2)
                  | fail)
                gi_wp2
                refine ⟨(KZ.out.1.trans Y6.out).from _, KZ.out.2.trans Y7.out, ?_⟩
                show WonI W _ _ _ _ (List.map wf (pre ++ [((sN : Int), (bN : Int))])) _
                rw [List.map_append, List.map_cons, List.map_nil, HWZ.out]
                exact Y5.out
            · clear hii
              refine wpOp_step rfl (fun K hK => ?_)
              go_simp
              have KA : Hid (Whole (wc.alloc (.cells #[.int .i64 0, .int .i64 0, .int .u32 0, .int .i64 0, .int .i64 0, .int .i64 0, .int .i64 0] 108)) wc.heap.size 108 Cl.zero.cells) := Lib.hid (whole_new wc Cl.zero.cells 108 _ rfl)
              have HBN := Lib.hid ((Below.refl wc.heap.size wc).alloc (Nat.le_refl _) (.cells #[.int .i64 0, .int .i64 0, .int .u32 0, .int .i64 0, .int .i64 0, .int .i64 0, .int .i64 0] 108))
              have HGA : Hid (w6.heap.size ≤ wc.heap.size) := Lib.hid SV.out.size
              obtain ⟨ga, hga⟩ : ∃ g, wc.heap.size = g := ⟨_, rfl⟩
              rw [hga] at KA HGA ⊢
              have SX := Lib.hid (SV.out.trans (HBN.out.mono SV.out.size))
              generalize wc.alloc (.cells #[.int .i64 0, .int .i64 0, .int .u32 0, .int .i64 0, .int .i64 0, .int .i64 0, .int .i64 0] 108) = wx at KA SX HBN ⊢
              refine hK _ _ ⟨fun _ => SX, ?_⟩
              clear hK K SV HBN hga
              have SV := SX
              clear SX
              try simp only [Act.put, List.setIfInBounds_toArray, List.set_cons_succ, List.set_cons_zero]
              refine AnyL.one (i := 14) rfl (by kernel_rfl) ?_
              refine wpOp_step rfl (fun K hK => ?_)
              refine wp_build3 87 (.tmp 30) (.tmp 35) (.tmp 39) rfl c1.val c2.val c3.val _ rfl rfl rfl (build_cl3 c1 c2 c3 wx) ?_
              have R3 := Lib.hid (three_cl (whole_new wx (c1.cells ++ (c2.cells ++ c3.cells)) 108 _ rfl))
              have HBN := Lib.hid ((Below.refl wx.heap.size wx).alloc (Nat.le_refl _) (.cells (c1.cells ++ (c2.cells ++ c3.cells)).toArray 108))
              obtain ⟨gl, hgl⟩ : ∃ g, wx.heap.size = g := ⟨_, rfl⟩
              rw [hgl] at R3 ⊢
              have SX := Lib.hid (SV.out.trans (HBN.out.mono SV.out.size))
              have KX := Lib.hid (KA.out.below HBN.out KA.out.lt)
              generalize wx.alloc (.cells (c1.cells ++ (c2.cells ++ c3.cells)).toArray 108) = wd at R3 SX HBN KX ⊢
              refine hK _ _ ⟨fun _ => SX, ?_⟩
              clear hK K SV HBN hgl KA
              have SV := SX
              have KA := KX
              clear KX
              clear SX
              try simp only [Act.put, List.setIfInBounds_toArray, List.set_cons_succ, List.set_cons_zero]
              refine AnyL.one (i := 15) rfl (by kernel_rfl) ?_
              refine wpOp_step rfl (fun K hK => ?_)
              go_simp
              refine (tog_any (some ⟨gl, 0, none⟩) 3 3 [c1, c2, c3] wd R3.out rfl (by omega) (fun c hc => ?_) (fun c hc => ?_)).mono ?_
              · simp only [List.mem_cons, List.not_mem_nil, or_false] at hc
                rcases hc with rfl | rfl | rfl
                · exact O1.out.1
                · exact O2.out.1
                · exact O3.out.1
              · simp only [List.mem_cons, List.not_mem_nil, or_false] at hc
                rcases hc with rfl | rfl | rfl
                · exact O1.out.2
                · exact O2.out.2
                · exact O3.out.2
              rintro e we ⟨rfl, hb⟩
              have SX := Lib.hid (SV.out.trans (hb.mono SV.out.size))
              have KX := Lib.hid (KA.out.below hb KA.out.lt)
              refine hK _ _ ⟨fun _ => SX, ?_⟩
              clear hK K hb SV R3 KA
              have SV := SX
              have KA := KX
              clear KX
              clear SX
              try simp only [Act.put, List.setIfInBounds_toArray, List.set_cons_succ, List.set_cons_zero]
              refine AnyL.one (i := 17) rfl (by kernel_rfl) ?_
              refine wpOp_step rfl (fun K hK => ?_)
              refine wp_store_rowC rfl 108 (.tmp 12) (.tmp 41) rfl ga (togP [c1, c2, c3]).cells.toArray rfl rfl 108 Cl.zero.cells.toArray KA.out (by rw [Try.infoClN]; simp [Cl.cells_len]) (by simp [Cl.cells_len]) (Cl.one _) ?_
              have KC := Lib.hid (whole_rowA KA.out (togP [c1, c2, c3]).cells.toArray)
              have SX : Hid (Below w6.heap.size w6 (we.setRow ga (togP [c1, c2, c3]).cells.toArray)) := Lib.hid (SV.out.trans (below_setRow (Below.refl _ _) _ _ HGA.out))
              generalize we.setRow ga (togP [c1, c2, c3]).cells.toArray = wz at KC SX ⊢
              refine hK _ _ ⟨fun h => no_last h (by kernel_rfl), ?_⟩
              clear hK K SV KA
              refine AnyL.done (by kernel_rfl) ?_
              obtain ⟨cc, hcc⟩ : ∃ c, togP [c1, c2, c3] = c := ⟨_, rfl⟩
              have HWZ := Lib.hid HWX.out
              rw [hcc] at KC HWZ
              clear hcc
              obtain ⟨⟨s0, s1, s2, s3, s4, s5⟩, sn⟩ := cc
              have IZ := Lib.hid (I6.out.below SX.out)
              have KZ : Hid (KeepsOthers V₂ wz ∧ KpL w5.heap.size [W.heap.size + 3] V₂ wz) := Lib.hid ⟨(keeps_of_below B6.out).trans (keeps_of_below SX.out), (KpL.of_below B6.out).trans (KpL.of_below SX.out)⟩
              have q5 := IZ.out.crs.cellAt 5
              rw [HC5.out] at q5
              have lq := IZ.out.crs.lt
              clear SX
              gi_wp2_with (refine listIn_of_plain (by first | (rintro ⟨x, y, h⟩; exact h) | (simp only [LetsOut, Exit.inBlock, Exit.then]; rintro ⟨x, y, h⟩; exact h)) _ (plain_all (by kernel_rfl)) _ _ ?_)
              go_wp2_with fail
              rw [HEN.out, Oper.upon_enter]
              refine (HT1.out wz).mono ?_
              rintro e w7 ⟨rfl, rfl⟩
              go_wp2_with fail
              have q0 := IZ.out.crs.cellAt 0
              rw [HC0.out] at q0
              obtain ⟨v, v', Y, y1, y2, y3, y4, y5, y6, y7, pa, pn, pc, rfl⟩ := IZ.out.add (by rw [List.length_map]; exact Nat.le_trans HX.out.2.2 (by omega)) HS5.out.1 (wf ((sN : Int), (bN : Int)))
              rw [HWZ.out] at y1 y3 y5
              have l7 := cell_lt y2
              dsimp only at l7
              have KC2 : Whole wz ga 108 [.int .i64 s0, .int .i64 s1, .int .u32 s2, .int .i64 s3, .int .i64 s4, .int .i64 s5, .int .i64 sn] := KC.out
              have k0 := KC2.cellAt 0
              have k1 := KC2.cellAt 1
              have k2 := KC2.cellAt 2
              have k3 := KC2.cellAt 3
              have k4 := KC2.cellAt 4
              have k5 := KC2.cellAt 5
              have k6 := KC2.cellAt 6
              have lk := KC2.lt
              simp only [List.getElem?_cons_zero, List.getElem?_cons_succ] at k0 k1 k2 k3 k4 k5 k6
              clear KC2
              have Y5 := Lib.hid y5
              have Y6 := Lib.hid y6
              have Y7 := Lib.hid y7
              have d0 := y4.cellAt 0
              have f0 := y4.free 0
              have l8 := y4.lt
              simp only [List.getElem?_cons_zero] at d0
              clear y1 y4 y5 y6 y7 q5
              gi_wp2_with (refine listIn_of_plain (by first | (rintro ⟨x, y, h⟩; exact h) | (simp only [LetsOut, Exit.inBlock, Exit.then]; rintro ⟨x, y, h⟩; exact h)) _ (plain_all (by kernel_rfl)) _ _ ?_)
              go_wp2_with (first
                | (refine wpList_build1 rfl 31 (.tmp 59) rfl (Ed.val ⟨t1, t2, l, ⟨s0, s1, s2, s3, s4, s5⟩, sn⟩) _ rfl (build_ed1 _ wz) ?_)
                | (at_builtin; refine Lib.wpList_append_run _ rfl _ _ _ _ rfl _ _ rfl rfl _ _ y3 ?_; clear y3 k0 k1 k2 k3 k4 k5 k6 q0 y2)
                | fail)
              gi_wp2
              refine ⟨(KZ.out.1.trans Y6.out).from _, KZ.out.2.trans Y7.out, ?_⟩
              show WonI W _ _ _ _ (List.map wf (pre ++ [((sN : Int), (bN : Int))])) _
              rw [List.map_append, List.map_cons, List.map_nil, HWZ.out]
              exact Y5.out
          · clear hii
            refine wpOp_step rfl (fun K hK => ?_)
            go_simp
            have KA : Hid (Whole (wb.alloc (.cells #[.int .i64 0, .int .i64 0, .int .u32 0, .int .i64 0, .int .i64 0, .int .i64 0, .int .i64 0] 108)) wb.heap.size 108 Cl.zero.cells) := Lib.hid (whole_new wb Cl.zero.cells 108 _ rfl)
            have HBN := Lib.hid ((Below.refl wb.heap.size wb).alloc (Nat.le_refl _) (.cells #[.int .i64 0, .int .i64 0, .int .u32 0, .int .i64 0, .int .i64 0, .int .i64 0, .int .i64 0] 108))
            have HGA : Hid (w6.heap.size ≤ wb.heap.size) := Lib.hid SV.out.size
            obtain ⟨ga, hga⟩ : ∃ g, wb.heap.size = g := ⟨_, rfl⟩
            rw [hga] at KA HGA ⊢
            have SX := Lib.hid (SV.out.trans (HBN.out.mono SV.out.size))
            generalize wb.alloc (.cells #[.int .i64 0, .int .i64 0, .int .u32 0, .int .i64 0, .int .i64 0, .int .i64 0, .int .i64 0] 108) = wx at KA SX HBN ⊢
            refine hK _ _ ⟨fun _ => SX, ?_⟩
            clear hK K SV HBN hga
            have SV := SX
            clear SX
            try simp only [Act.put, List.setIfInBounds_toArray, List.set_cons_succ, List.set_cons_zero]
            refine AnyL.one (i := 13) rfl (by kernel_rfl) ?_
            refine wpOp_step rfl (fun K hK => ?_)
            go_simp
            refine ((C3.out wx (I6.out.be.trans (SV.out.mono I6.out.be.size)))).mono ?_
            rintro e wc ⟨rfl, hb⟩
            have SX := Lib.hid (SV.out.trans (hb.mono SV.out.size))
            have KX := Lib.hid (KA.out.below hb KA.out.lt)
            refine hK _ _ ⟨fun _ => SX, ?_⟩
            clear hK K hb SV KA
            have SV := SX
            have KA := KX
            clear KX
            clear SX
            try simp only [Act.put, List.setIfInBounds_toArray, List.set_cons_succ, List.set_cons_zero]
            refine AnyL.one (i := 14) rfl (by kernel_rfl) ?_
            refine wpOp_step rfl (fun K hK => ?_)
            refine wp_build3 87 (.tmp 30) (.tmp 35) (.tmp 39) rfl c1.val c2.val c3.val _ rfl rfl rfl (build_cl3 c1 c2 c3 wc) ?_
            have R3 := Lib.hid (three_cl (whole_new wc (c1.cells ++ (c2.cells ++ c3.cells)) 108 _ rfl))
            have HBN := Lib.hid ((Below.refl wc.heap.size wc).alloc (Nat.le_refl _) (.cells (c1.cells ++ (c2.cells ++ c3.cells)).toArray 108))
            obtain ⟨gl, hgl⟩ : ∃ g, wc.heap.size = g := ⟨_, rfl⟩
            rw [hgl] at R3 ⊢
            have SX := Lib.hid (SV.out.trans (HBN.out.mono SV.out.size))
            have KX := Lib.hid (KA.out.below HBN.out KA.out.lt)
            generalize wc.alloc (.cells (c1.cells ++ (c2.cells ++ c3.cells)).toArray 108) = wd at R3 SX HBN KX ⊢
            refine hK _ _ ⟨fun _ => SX, ?_⟩
            clear hK K SV HBN hgl KA
            have SV := SX
            have KA := KX
            clear KX
            clear SX
            try simp only [Act.put, List.setIfInBounds_toArray, List.set_cons_succ, List.set_cons_zero]
            refine AnyL.one (i := 15) rfl (by kernel_rfl) ?_
            refine wpOp_step rfl (fun K hK => ?_)
            go_simp
            refine (tog_any (some ⟨gl, 0, none⟩) 3 3 [c1, c2, c3] wd R3.out rfl (by omega) (fun c hc => ?_) (fun c hc => ?_)).mono ?_
            · simp only [List.mem_cons, List.not_mem_nil, or_false] at hc
              rcases hc with rfl | rfl | rfl
              · exact O1.out.1
              · exact O2.out.1
              · exact O3.out.1
            · simp only [List.mem_cons, List.not_mem_nil, or_false] at hc
              rcases hc with rfl | rfl | rfl
              · exact O1.out.2
              · exact O2.out.2
              · exact O3.out.2
            rintro e we ⟨rfl, hb⟩
            have SX := Lib.hid (SV.out.trans (hb.mono SV.out.size))
            have KX := Lib.hid (KA.out.below hb KA.out.lt)
            refine hK _ _ ⟨fun _ => SX, ?_⟩
            clear hK K hb SV R3 KA
            have SV := SX
            have KA := KX
            clear KX
            clear SX
            try simp only [Act.put, List.setIfInBounds_toArray, List.set_cons_succ, List.set_cons_zero]
            refine AnyL.one (i := 17) rfl (by kernel_rfl) ?_
            refine wpOp_step rfl (fun K hK => ?_)
            refine wp_store_rowC rfl 108 (.tmp 12) (.tmp 41) rfl ga (togP [c1, c2, c3]).cells.toArray rfl rfl 108 Cl.zero.cells.toArray KA.out (by rw [Try.infoClN]; simp [Cl.cells_len]) (by simp [Cl.cells_len]) (Cl.one _) ?_
            have KC := Lib.hid (whole_rowA KA.out (togP [c1, c2, c3]).cells.toArray)
            have SX : Hid (Below w6.heap.size w6 (we.setRow ga (togP [c1, c2, c3]).cells.toArray)) := Lib.hid (SV.out.trans (below_setRow (Below.refl _ _) _ _ HGA.out))
            generalize we.setRow ga (togP [c1, c2, c3]).cells.toArray = wz at KC SX ⊢
            refine hK _ _ ⟨fun h => no_last h (by kernel_rfl), ?_⟩
            clear hK K SV KA
            refine AnyL.done (by kernel_rfl) ?_
            obtain ⟨cc, hcc⟩ : ∃ c, togP [c1, c2, c3] = c := ⟨_, rfl⟩
            have HWZ := Lib.hid HWX.out
            rw [hcc] at KC HWZ
            clear hcc
            obtain ⟨⟨s0, s1, s2, s3, s4, s5⟩, sn⟩ := cc
            have IZ := Lib.hid (I6.out.below SX.out)
            have KZ : Hid (KeepsOthers V₂ wz ∧ KpL w5.heap.size [W.heap.size + 3] V₂ wz) := Lib.hid ⟨(keeps_of_below B6.out).trans (keeps_of_below SX.out), (KpL.of_below B6.out).trans (KpL.of_below SX.out)⟩
            have q5 := IZ.out.crs.cellAt 5
            rw [HC5.out] at q5
            have lq := IZ.out.crs.lt
            clear SX
            gi_wp2_with (refine listIn_of_plain (by first | (rintro ⟨x, y, h⟩; exact h) | (simp only [LetsOut, Exit.inBlock, Exit.then]; rintro ⟨x, y, h⟩; exact h)) _ (plain_all (by kernel_rfl)) _ _ ?_)
            go_wp2_with fail
            rw [HEN.out, Oper.upon_enter]
            refine (HT1.out wz).mono ?_
            rintro e w7 ⟨rfl, rfl⟩
            go_wp2_with fail
            have q0 := IZ.out.crs.cellAt 0
            rw [HC0.out] at q0
            obtain ⟨v, v', Y, y1, y2, y3, y4, y5, y6, y7, pa, pn, pc, rfl⟩ := IZ.out.add (by rw [List.length_map]; exact Nat.le_trans HX.out.2.2 (by omega)) HS5.out.1 (wf ((sN : Int), (bN : Int)))
            rw [HWZ.out] at y1 y3 y5
            have l7 := cell_lt y2
            dsimp only at l7
            have KC2 : Whole wz ga 108 [.int .i64 s0, .int .i64 s1, .int .u32 s2, .int .i64 s3, .int .i64 s4, .int .i64 s5, .int .i64 sn] := KC.out
            have k0 := KC2.cellAt 0
            have k1 := KC2.cellAt 1
            have k2 := KC2.cellAt 2
            have k3 := KC2.cellAt 3
            have k4 := KC2.cellAt 4
            have k5 := KC2.cellAt 5
            have k6 := KC2.cellAt 6
            have lk := KC2.lt
            simp only [List.getElem?_cons_zero, List.getElem?_cons_succ] at k0 k1 k2 k3 k4 k5 k6
            clear KC2
            have Y5 := Lib.hid y5
            have Y6 := Lib.hid y6
            have Y7 := Lib.hid y7
            have d0 := y4.cellAt 0
            have f0 := y4.free 0
            have l8 := y4.lt
            simp only [List.getElem?_cons_zero] at d0
            clear y1 y4 y5 y6 y7 q5
            gi_wp2_with (refine listIn_of_plain (by first | (rintro ⟨x, y, h⟩; exact h) | (simp only [LetsOut, Exit.inBlock, Exit.then]; rintro ⟨x, y, h⟩; exact h)) _ (plain_all (by kernel_rfl)) _ _ ?_)
            go_wp2_with (first
              | (refine wpList_build1 rfl 31 (.tmp 59) rfl (Ed.val ⟨t1, t2, l, ⟨s0, s1, s2, s3, s4, s5⟩, sn⟩) _ rfl (build_ed1 _ wz) ?_)
              | (at_builtin; refine Lib.wpList_append_run _ rfl _ _ _ _ rfl _ _ rfl rfl _ _ y3 ?_; clear y3 k0 k1 k2 k3 k4 k5 k6 q0 y2)
              | fail)
            gi_wp2
            refine ⟨(KZ.out.1.trans Y6.out).from _, KZ.out.2.trans Y7.out, ?_⟩
            show WonI W _ _ _ _ (List.map wf (pre ++ [((sN : Int), (bN : Int))])) _
            rw [List.map_append, List.map_cons, List.map_nil, HWZ.out]
            exact Y5.out
        · clear hii
          refine wpOp_step rfl (fun K hK => ?_)
          go_simp
          have KA : Hid (Whole (wa.alloc (.cells #[.int .i64 0, .int .i64 0, .int .u32 0, .int .i64 0, .int .i64 0, .int .i64 0, .int .i64 0] 108)) wa.heap.size 108 Cl.zero.cells) := Lib.hid (whole_new wa Cl.zero.cells 108 _ rfl)
          have HBN := Lib.hid ((Below.refl wa.heap.size wa).alloc (Nat.le_refl _) (.cells #[.int .i64 0, .int .i64 0, .int .u32 0, .int .i64 0, .int .i64 0, .int .i64 0, .int .i64 0] 108))
          have HGA : Hid (w6.heap.size ≤ wa.heap.size) := Lib.hid SV.out.size
          obtain ⟨ga, hga⟩ : ∃ g, wa.heap.size = g := ⟨_, rfl⟩
          rw [hga] at KA HGA ⊢
          have SX := Lib.hid (SV.out.trans (HBN.out.mono SV.out.size))
          generalize wa.alloc (.cells #[.int .i64 0, .int .i64 0, .int .u32 0, .int .i64 0, .int .i64 0, .int .i64 0, .int .i64 0] 108) = wx at KA SX HBN ⊢
          refine hK _ _ ⟨fun _ => SX, ?_⟩
          clear hK K SV HBN hga
          have SV := SX
          clear SX
          try simp only [Act.put, List.setIfInBounds_toArray, List.set_cons_succ, List.set_cons_zero]
          refine AnyL.one (i := 9) rfl (by kernel_rfl) ?_
          refine wpOp_step rfl (fun K hK => ?_)
          go_simp
          refine ((C2.out wx (I6.out.be.trans (SV.out.mono I6.out.be.size)))).mono ?_
          rintro e wb ⟨rfl, hb⟩
          have SX := Lib.hid (SV.out.trans (hb.mono SV.out.size))
          have KX := Lib.hid (KA.out.below hb KA.out.lt)
          refine hK _ _ ⟨fun _ => SX, ?_⟩
          clear hK K hb SV KA
          have SV := SX
          have KA := KX
          clear KX
          clear SX
          try simp only [Act.put, List.setIfInBounds_toArray, List.set_cons_succ, List.set_cons_zero]
          refine AnyL.one (i := 13) rfl (by kernel_rfl) ?_
          refine wpOp_step rfl (fun K hK => ?_)
          go_simp
          refine ((C3.out wb (I6.out.be.trans (SV.out.mono I6.out.be.size)))).mono ?_
          rintro e wc ⟨rfl, hb⟩
          have SX := Lib.hid (SV.out.trans (hb.mono SV.out.size))
          have KX := Lib.hid (KA.out.below hb KA.out.lt)
          refine hK _ _ ⟨fun _ => SX, ?_⟩
          clear hK K hb SV KA
          have SV := SX
          have KA := KX
          clear KX
          clear SX
          try simp only [Act.put, List.setIfInBounds_toArray, List.set_cons_succ, List.set_cons_zero]
          refine AnyL.one (i := 14) rfl (by kernel_rfl) ?_
          refine wpOp_step rfl (fun K hK => ?_)
          refine wp_build3 87 (.tmp 30) (.tmp 35) (.tmp 39) rfl c1.val c2.val c3.val _ rfl rfl rfl (build_cl3 c1 c2 c3 wc) ?_
          have R3 := Lib.hid (three_cl (whole_new wc (c1.cells ++ (c2.cells ++ c3.cells)) 108 _ rfl))
          have HBN := Lib.hid ((Below.refl wc.heap.size wc).alloc (Nat.le_refl _) (.cells (c1.cells ++ (c2.cells ++ c3.cells)).toArray 108))
          obtain ⟨gl, hgl⟩ : ∃ g, wc.heap.size = g := ⟨_, rfl⟩
          rw [hgl] at R3 ⊢
          have SX := Lib.hid (SV.out.trans (HBN.out.mono SV.out.size))
          have KX := Lib.hid (KA.out.below HBN.out KA.out.lt)
          generalize wc.alloc (.cells (c1.cells ++ (c2.cells ++ c3.cells)).toArray 108) = wd at R3 SX HBN KX ⊢
          refine hK _ _ ⟨fun _ => SX, ?_⟩
          clear hK K SV HBN hgl KA
          have SV := SX
          have KA := KX
          clear KX
          clear SX
          try simp only [Act.put, List.setIfInBounds_toArray, List.set_cons_succ, List.set_cons_zero]
          refine AnyL.one (i := 15) rfl (by kernel_rfl) ?_
          refine wpOp_step rfl (fun K hK => ?_)
          go_simp
          refine (tog_any (some ⟨gl, 0, none⟩) 3 3 [c1, c2, c3] wd R3.out rfl (by omega) (fun c hc => ?_) (fun c hc => ?_)).mono ?_
          · simp only [List.mem_cons, List.not_mem_nil, or_false] at hc
            rcases hc with rfl | rfl | rfl
            · exact O1.out.1
            · exact O2.out.1
            · exact O3.out.1
          · simp only [List.mem_cons, List.not_mem_nil, or_false] at hc
            rcases hc with rfl | rfl | rfl
            · exact O1.out.2
            · exact O2.out.2
            · exact O3.out.2
          rintro e we ⟨rfl, hb⟩
          have SX := Lib.hid (SV.out.trans (hb.mono SV.out.size))
          have KX := Lib.hid (KA.out.below hb KA.out.lt)
          refine hK _ _ ⟨fun _ => SX, ?_⟩
          clear hK K hb SV R3 KA
          have SV := SX
          have KA := KX
          clear KX
          clear SX
          try simp only [Act.put, List.setIfInBounds_toArray, List.set_cons_succ, List.set_cons_zero]
          refine AnyL.one (i := 17) rfl (by kernel_rfl) ?_
          refine wpOp_step rfl (fun K hK => ?_)
          refine wp_store_rowC rfl 108 (.tmp 12) (.tmp 41) rfl ga (togP [c1, c2, c3]).cells.toArray rfl rfl 108 Cl.zero.cells.toArray KA.out (by rw [Try.infoClN]; simp [Cl.cells_len]) (by simp [Cl.cells_len]) (Cl.one _) ?_
          have KC := Lib.hid (whole_rowA KA.out (togP [c1, c2, c3]).cells.toArray)
          have SX : Hid (Below w6.heap.size w6 (we.setRow ga (togP [c1, c2, c3]).cells.toArray)) := Lib.hid (SV.out.trans (below_setRow (Below.refl _ _) _ _ HGA.out))
          generalize we.setRow ga (togP [c1, c2, c3]).cells.toArray = wz at KC SX ⊢
          refine hK _ _ ⟨fun h => no_last h (by kernel_rfl), ?_⟩
          clear hK K SV KA
          refine AnyL.done (by kernel_rfl) ?_
          obtain ⟨cc, hcc⟩ : ∃ c, togP [c1, c2, c3] = c := ⟨_, rfl⟩
          have HWZ := Lib.hid HWX.out
          rw [hcc] at KC HWZ
          clear hcc
          obtain ⟨⟨s0, s1, s2, s3, s4, s5⟩, sn⟩ := cc
          have IZ := Lib.hid (I6.out.below SX.out)
          have KZ : Hid (KeepsOthers V₂ wz ∧ KpL w5.heap.size [W.heap.size + 3] V₂ wz) := Lib.hid ⟨(keeps_of_below B6.out).trans (keeps_of_below SX.out), (KpL.of_below B6.out).trans (KpL.of_below SX.out)⟩
          have q5 := IZ.out.crs.cellAt 5
          rw [HC5.out] at q5
          have lq := IZ.out.crs.lt
          clear SX
          gi_wp2_with (refine listIn_of_plain (by first | (rintro ⟨x, y, h⟩; exact h) | (simp only [LetsOut, Exit.inBlock, Exit.then]; rintro ⟨x, y, h⟩; exact h)) _ (plain_all (by kernel_rfl)) _ _ ?_)
          go_wp2_with fail
          rw [HEN.out, Oper.upon_enter]
          refine (HT1.out wz).mono ?_
          rintro e w7 ⟨rfl, rfl⟩
          go_wp2_with fail
          have q0 := IZ.out.crs.cellAt 0
          rw [HC0.out] at q0
          obtain ⟨v, v', Y, y1, y2, y3, y4, y5, y6, y7, pa, pn, pc, rfl⟩ := IZ.out.add (by rw [List.length_map]; exact Nat.le_trans HX.out.2.2 (by omega)) HS5.out.1 (wf ((sN : Int), (bN : Int)))
          rw [HWZ.out] at y1 y3 y5
          have l7 := cell_lt y2
          dsimp only at l7
          have KC2 : Whole wz ga 108 [.int .i64 s0, .int .i64 s1, .int .u32 s2, .int .i64 s3, .int .i64 s4, .int .i64 s5, .int .i64 sn] := KC.out
          have k0 := KC2.cellAt 0
          have k1 := KC2.cellAt 1
          have k2 := KC2.cellAt 2
          have k3 := KC2.cellAt 3
          have k4 := KC2.cellAt 4
          have k5 := KC2.cellAt 5
          have k6 := KC2.cellAt 6
          have lk := KC2.lt
          simp only [List.getElem?_cons_zero, List.getElem?_cons_succ] at k0 k1 k2 k3 k4 k5 k6
          clear KC2
          have Y5 := Lib.hid y5
          have Y6 := Lib.hid y6
          have Y7 := Lib.hid y7
          have d0 := y4.cellAt 0
          have f0 := y4.free 0
          have l8 := y4.lt
          simp only [List.getElem?_cons_zero] at d0
          clear y1 y4 y5 y6 y7 q5
          gi_wp2_with (refine listIn_of_plain (by first | (rintro ⟨x, y, h⟩; exact h) | (simp only [LetsOut, Exit.inBlock, Exit.then]; rintro ⟨x, y, h⟩; exact h)) _ (plain_all (by kernel_rfl)) _ _ ?_)
          go_wp2_with (first
            | (refine wpList_build1 rfl 31 (.tmp 59) rfl (Ed.val ⟨t1, t2, l, ⟨s0, s1, s2, s3, s4, s5⟩, sn⟩) _ rfl (build_ed1 _ wz) ?_)
            | (at_builtin; refine Lib.wpList_append_run _ rfl _ _ _ _ rfl _ _ rfl rfl _ _ y3 ?_; clear y3 k0 k1 k2 k3 k4 k5 k6 q0 y2)
            | fail)
          gi_wp2
          refine ⟨(KZ.out.1.trans Y6.out).from _, KZ.out.2.trans Y7.out, ?_⟩
          show WonI W _ _ _ _ (List.map wf (pre ++ [((sN : Int), (bN : Int))])) _
          rw [List.map_append, List.map_cons, List.map_nil, HWZ.out]
          exact Y5.out
      · clear hii
        refine wpOp_step rfl (fun K hK => ?_)
        go_simp
        have KA : Hid (Whole (w9.alloc (.cells #[.int .i64 0, .int .i64 0, .int .u32 0, .int .i64 0, .int .i64 0, .int .i64 0, .int .i64 0] 108)) w9.heap.size 108 Cl.zero.cells) := Lib.hid (whole_new w9 Cl.zero.cells 108 _ rfl)
        have HBN := Lib.hid ((Below.refl w9.heap.size w9).alloc (Nat.le_refl _) (.cells #[.int .i64 0, .int .i64 0, .int .u32 0, .int .i64 0, .int .i64 0, .int .i64 0, .int .i64 0] 108))
        have HGA : Hid (w6.heap.size ≤ w9.heap.size) := Lib.hid SV.out.size
        obtain ⟨ga, hga⟩ : ∃ g, w9.heap.size = g := ⟨_, rfl⟩
        rw [hga] at KA HGA ⊢
        have SX := Lib.hid (SV.out.trans (HBN.out.mono SV.out.size))
        generalize w9.alloc (.cells #[.int .i64 0, .int .i64 0, .int .u32 0, .int .i64 0, .int .i64 0, .int .i64 0, .int .i64 0] 108) = wx at KA SX HBN ⊢
        refine hK _ _ ⟨fun _ => SX, ?_⟩
        clear hK K SV HBN hga
        have SV := SX
        clear SX
        try simp only [Act.put, List.setIfInBounds_toArray, List.set_cons_succ, List.set_cons_zero]
        refine AnyL.one (i := 4) rfl (by kernel_rfl) ?_
        refine wpOp_step rfl (fun K hK => ?_)
        go_simp
        refine ((C1.out wx (I6.out.be.trans (SV.out.mono I6.out.be.size)))).mono ?_
        rintro e wa ⟨rfl, hb⟩
        have SX := Lib.hid (SV.out.trans (hb.mono SV.out.size))
        have KX := Lib.hid (KA.out.below hb KA.out.lt)
        refine hK _ _ ⟨fun _ => SX, ?_⟩
        clear hK K hb SV KA
        have SV := SX
        have KA := KX
        clear KX
        clear SX
        try simp only [Act.put, List.setIfInBounds_toArray, List.set_cons_succ, List.set_cons_zero]
        refine AnyL.one (i := 9) rfl (by kernel_rfl) ?_
        refine wpOp_step rfl (fun K hK => ?_)
        go_simp
        refine ((C2.out wa (I6.out.be.trans (SV.out.mono I6.out.be.size)))).mono ?_
        rintro e wb ⟨rfl, hb⟩
        have SX := Lib.hid (SV.out.trans (hb.mono SV.out.size))
        have KX := Lib.hid (KA.out.below hb KA.out.lt)
        refine hK _ _ ⟨fun _ => SX, ?_⟩
        clear hK K hb SV KA
        have SV := SX
        have KA := KX
        clear KX
        clear SX
        try simp only [Act.put, List.setIfInBounds_toArray, List.set_cons_succ, List.set_cons_zero]
        refine AnyL.one (i := 13) rfl (by kernel_rfl) ?_
        refine wpOp_step rfl (fun K hK => ?_)
        go_simp
        refine ((C3.out wb (I6.out.be.trans (SV.out.mono I6.out.be.size)))).mono ?_
        rintro e wc ⟨rfl, hb⟩
        have SX := Lib.hid (SV.out.trans (hb.mono SV.out.size))
        have KX := Lib.hid (KA.out.below hb KA.out.lt)
        refine hK _ _ ⟨fun _ => SX, ?_⟩
        clear hK K hb SV KA
        have SV := SX
        have KA := KX
        clear KX
        clear SX
        try simp only [Act.put, List.setIfInBounds_toArray, List.set_cons_succ, List.set_cons_zero]
        refine AnyL.one (i := 14) rfl (by kernel_rfl) ?_
        refine wpOp_step rfl (fun K hK => ?_)
        refine wp_build3 87 (.tmp 30) (.tmp 35) (.tmp 39) rfl c1.val c2.val c3.val _ rfl rfl rfl (build_cl3 c1 c2 c3 wc) ?_
        have R3 := Lib.hid (three_cl (whole_new wc (c1.cells ++ (c2.cells ++ c3.cells)) 108 _ rfl))
        have HBN := Lib.hid ((Below.refl wc.heap.size wc).alloc (Nat.le_refl _) (.cells (c1.cells ++ (c2.cells ++ c3.cells)).toArray 108))
        obtain ⟨gl, hgl⟩ : ∃ g, wc.heap.size = g := ⟨_, rfl⟩
        rw [hgl] at R3 ⊢
        have SX := Lib.hid (SV.out.trans (HBN.out.mono SV.out.size))
        have KX := Lib.hid (KA.out.below HBN.out KA.out.lt)
        generalize wc.alloc (.cells (c1.cells ++ (c2.cells ++ c3.cells)).toArray 108) = wd at R3 SX HBN KX ⊢
        refine hK _ _ ⟨fun _ => SX, ?_⟩
        clear hK K SV HBN hgl KA
        have SV := SX
        have KA := KX
        clear KX
        clear SX
        try simp only [Act.put, List.setIfInBounds_toArray, List.set_cons_succ, List.set_cons_zero]
        refine AnyL.one (i := 15) rfl (by kernel_rfl) ?_
        refine wpOp_step rfl (fun K hK => ?_)
        go_simp
        refine (tog_any (some ⟨gl, 0, none⟩) 3 3 [c1, c2, c3] wd R3.out rfl (by omega) (fun c hc => ?_) (fun c hc => ?_)).mono ?_
        · simp only [List.mem_cons, List.not_mem_nil, or_false] at hc
          rcases hc with rfl | rfl | rfl
          · exact O1.out.1
          · exact O2.out.1
          · exact O3.out.1
        · simp only [List.mem_cons, List.not_mem_nil, or_false] at hc
          rcases hc with rfl | rfl | rfl
          · exact O1.out.2
          · exact O2.out.2
          · exact O3.out.2
        rintro e we ⟨rfl, hb⟩
        have SX := Lib.hid (SV.out.trans (hb.mono SV.out.size))
        have KX := Lib.hid (KA.out.below hb KA.out.lt)
        refine hK _ _ ⟨fun _ => SX, ?_⟩
        clear hK K hb SV R3 KA
        have SV := SX
        have KA := KX
        clear KX
        clear SX
        try simp only [Act.put, List.setIfInBounds_toArray, List.set_cons_succ, List.set_cons_zero]
        refine AnyL.one (i := 17) rfl (by kernel_rfl) ?_
        refine wpOp_step rfl (fun K hK => ?_)
        refine wp_store_rowC rfl 108 (.tmp 12) (.tmp 41) rfl ga (togP [c1, c2, c3]).cells.toArray rfl rfl 108 Cl.zero.cells.toArray KA.out (by rw [Try.infoClN]; simp [Cl.cells_len]) (by simp [Cl.cells_len]) (Cl.one _) ?_
        have KC := Lib.hid (whole_rowA KA.out (togP [c1, c2, c3]).cells.toArray)
        have SX : Hid (Below w6.heap.size w6 (we.setRow ga (togP [c1, c2, c3]).cells.toArray)) := Lib.hid (SV.out.trans (below_setRow (Below.refl _ _) _ _ HGA.out))
        generalize we.setRow ga (togP [c1, c2, c3]).cells.toArray = wz at KC SX ⊢
        refine hK _ _ ⟨fun h => no_last h (by kernel_rfl), ?_⟩
        clear hK K SV KA
        refine AnyL.done (by kernel_rfl) ?_
        obtain ⟨cc, hcc⟩ : ∃ c, togP [c1, c2, c3] = c := ⟨_, rfl⟩
        have HWZ := Lib.hid HWX.out
        rw [hcc] at KC HWZ
        clear hcc
        obtain ⟨⟨s0, s1, s2, s3, s4, s5⟩, sn⟩ := cc
        have IZ := Lib.hid (I6.out.below SX.out)
        have KZ : Hid (KeepsOthers V₂ wz ∧ KpL w5.heap.size [W.heap.size + 3] V₂ wz) := Lib.hid ⟨(keeps_of_below B6.out).trans (keeps_of_below SX.out), (KpL.of_below B6.out).trans (KpL.of_below SX.out)⟩
        have q5 := IZ.out.crs.cellAt 5
        rw [HC5.out] at q5
        have lq := IZ.out.crs.lt
        clear SX
        gi_wp2_with (refine listIn_of_plain (by first | (rintro ⟨x, y, h⟩; exact h) | (simp only [LetsOut, Exit.inBlock, Exit.then]; rintro ⟨x, y, h⟩; exact h)) _ (plain_all (by kernel_rfl)) _ _ ?_)
        go_wp2_with fail
        rw [HEN.out, Oper.upon_enter]
        refine (HT1.out wz).mono ?_
        rintro e w7 ⟨rfl, rfl⟩
        go_wp2_with fail
        have q0 := IZ.out.crs.cellAt 0
        rw [HC0.out] at q0
        obtain ⟨v, v', Y, y1, y2, y3, y4, y5, y6, y7, pa, pn, pc, rfl⟩ := IZ.out.add (by rw [List.length_map]; exact Nat.le_trans HX.out.2.2 (by omega)) HS5.out.1 (wf ((sN : Int), (bN : Int)))
        rw [HWZ.out] at y1 y3 y5
        have l7 := cell_lt y2
        dsimp only at l7
        have KC2 : Whole wz ga 108 [.int .i64 s0, .int .i64 s1, .int .u32 s2, .int .i64 s3, .int .i64 s4, .int .i64 s5, .int .i64 sn] := KC.out
        have k0 := KC2.cellAt 0
        have k1 := KC2.cellAt 1
        have k2 := KC2.cellAt 2
        have k3 := KC2.cellAt 3
        have k4 := KC2.cellAt 4
        have k5 := KC2.cellAt 5
        have k6 := KC2.cellAt 6
        have lk := KC2.lt
        simp only [List.getElem?_cons_zero, List.getElem?_cons_succ] at k0 k1 k2 k3 k4 k5 k6
        clear KC2
        have Y5 := Lib.hid y5
        have Y6 := Lib.hid y6
        have Y7 := Lib.hid y7
        have d0 := y4.cellAt 0
        have f0 := y4.free 0
        have l8 := y4.lt
        simp only [List.getElem?_cons_zero] at d0
        clear y1 y4 y5 y6 y7 q5
        gi_wp2_with (refine listIn_of_plain (by first | (rintro ⟨x, y, h⟩; exact h) | (simp only [LetsOut, Exit.inBlock, Exit.then]; rintro ⟨x, y, h⟩; exact h)) _ (plain_all (by kernel_rfl)) _ _ ?_)
        go_wp2_with (first
          | (refine wpList_build1 rfl 31 (.tmp 59) rfl (Ed.val ⟨t1, t2, l, ⟨s0, s1, s2, s3, s4, s5⟩, sn⟩) _ rfl (build_ed1 _ wz) ?_)
          | (at_builtin; refine Lib.wpList_append_run _ rfl _ _ _ _ rfl _ _ rfl rfl _ _ y3 ?_; clear y3 k0 k1 k2 k3 k4 k5 k6 q0 y2)
          | fail)
        gi_wp2
        refine ⟨(KZ.out.1.trans Y6.out).from _, KZ.out.2.trans Y7.out, ?_⟩
        show WonI W _ _ _ _ (List.map wf (pre ++ [((sN : Int), (bN : Int))])) _
        rw [List.map_append, List.map_cons, List.map_nil, HWZ.out]
        exact Y5.out

  case done =>
    rintro D xs V hD rfl hI hK
    obtain ⟨v, hbx, ho⟩ := hI.lst
    obtain ⟨pa, pn, pc, rfl⟩ := own_slice ho
    have HO := Lib.hid ho
    have HBE := Lib.hid hI.be
    have d0 := hbx.cellAt 0
    have l0 := hbx.lt
    simp only [List.getElem?_cons_zero] at d0
    have HM := Lib.hid ((Marks.nil W.heap.size V).cons (D := D) (by have := HS5.out; omega) hK (fun E hE => by cases hE))
    have HLL : Hid (((edT (edF l ps rn kn) (edC l rn kn) (edR l rn kn) 0).map wf).length ≤ 1000000) := Lib.hid (by
      rw [List.length_map]
      have h1 := edT_len (edF l ps rn kn) (edC l rn kn) (edR l rn kn) 0
      have h2 : edR l rn kn * edC l rn kn ≤ (rn + 1) * (kn + 1) := by
        cases l
        · exact Nat.mul_le_mul (by simp [edR]) (by simp [edC])
        · exact Nat.mul_le_mul (by simp [edR]) (by simp [edC])
      omega)
    obtain ⟨es, hes⟩ : ∃ es, (edT (edF l ps rn kn) (edC l rn kn) (edR l rn kn) 0).map wf = es := ⟨_, rfl⟩
    rw [hes] at HO HLL
    have HES := Lib.hid hes
    clear ho hbx hI hK HSQ hes I5
    go_wp2
    refine leaves_marks W.heap.size [D] _ HM.out (fun W' hck hbk => ⟨_, by simp [results, Try.func36, go_sem]; rfl, ⟨_, rfl, ?_, HBE.out.trans hbk⟩⟩)
    rw [HWF.out, HES.out]
    exact own_rowsEd (own_cells HO.out hck) rfl (by have := HLL.out; omega)
  case stop =>
    rintro D cd pre V hD _ h hK
    exact h.elim
end Go.Proofs.Ytceippgkmoijdaa
