/- Contract of collapse.course.requests. Written by mk_CoReq.py. -/
import Derived.Test.YtceippgkmoijdaaCoCov
import Derived.Test.YtceippgkmoijdaaCoAt
import Derived.Test.YtceippgkmoijdaaCoRow
namespace Go.Proofs.Ytceippgkmoijdaa
open Go.RowKit Go.Shelf Go.Sort Go.Maps
set_option linter.unusedVariables false
set_option linter.unusedSimpArgs false
attribute [local go_sem] Oper.semAt_some

/-- who asks at a seam: those that begin there, those that end there -/
def seamL (fk rk : Nat) (ss : List Sr) (i : Nat) : List Si := ss.flatMap fun s => (if s.run.fr = (i : Int) then [s.sd fk] else []) ++ (if s.run.to = (i : Int) then [s.sd rk] else [])
theorem seamL_snoc (fk rk : Nat) (ss : List Sr) (s : Sr) (i : Nat) : seamL fk rk (ss ++ [s]) i = seamL fk rk ss i ++ ((if s.run.fr = (i : Int) then [s.sd fk] else []) ++ (if s.run.to = (i : Int) then [s.sd rk] else [])) := by
  unfold seamL
  rw [List.flatMap_append]
  simp
theorem seamL_mem {fk rk : Nat} {ss : List Sr} {i : Nat} {x : Si} (h : x ∈ seamL fk rk ss i) : ∃ s ∈ ss, x = s.sd fk ∨ x = s.sd rk := by
  obtain ⟨s, hs, hx⟩ := List.mem_flatMap.1 h
  refine ⟨s, hs, ?_⟩
  rcases List.mem_append.1 hx with hx | hx
  · split at hx
    · exact .inl (by simpa using hx)
    · simp at hx
  · split at hx
    · exact .inr (by simpa using hx)
    · simp at hx
theorem seamL_len (fk rk : Nat) (ss : List Sr) (i : Nat) : (seamL fk rk ss i).length ≤ 2 * ss.length := by
  induction ss with
  | nil => simp [seamL]
  | cons s ss ih =>
    have e : seamL fk rk (s :: ss) i = ((if s.run.fr = (i : Int) then [s.sd fk] else []) ++ (if s.run.to = (i : Int) then [s.sd rk] else [])) ++ seamL fk rk ss i := by unfold seamL; rw [List.flatMap_cons]
    rw [e, List.length_append, List.length_append, List.length_cons]
    have h1 : (if s.run.fr = (i : Int) then [s.sd fk] else []).length ≤ 1 := by split <;> simp
    have h2 : (if s.run.to = (i : Int) then [s.sd rk] else []).length ≤ 1 := by split <;> simp
    omega
def seamP (fk rk : Nat) (ss : List Sr) (n : Nat) : List Cl := (List.range n).map fun i => clOf (seamL fk rk ss i)
theorem seamP_len (fk rk : Nat) (ss : List Sr) (n : Nat) : (seamP fk rk ss n).length = n := by simp [seamP]
theorem seamP_get (fk rk : Nat) (ss : List Sr) (n i : Nat) (h : i < n) : (seamP fk rk ss n)[i]? = some (clOf (seamL fk rk ss i)) := by simp [seamP, h]
theorem seamP_nil (fk rk n : Nat) : seamP fk rk [] n = List.replicate n Cl.zero := by
  apply List.ext_getElem?
  intro i
  by_cases h : i < n
  · rw [seamP_get _ _ _ _ _ h, List.getElem?_replicate, if_pos h]; rfl
  · rw [List.getElem?_eq_none (by rw [seamP_len]; omega), List.getElem?_eq_none (by simp; omega)]
theorem tog_snoc (A : List Si) (s : Sr) (k : Nat) (h : rightS (s.sd k) = true) (hA : ∀ x ∈ A, rightS x = true) : togP [clOf A, s.claim k] = clOf (A ++ [s.sd k]) := by
  rw [Sr.claim_cl s k h]
  have := tog_cl [A, [s.sd k]] (fun x hx => by
    simp only [List.flatten_cons, List.flatten_nil, List.append_nil, List.mem_append, List.mem_singleton] at hx
    rcases hx with hx | rfl
    · exact hA x hx
    · exact h)
  simpa using this
/-- one stretch more -/
theorem seam_step (fk rk : Nat) (ss : List Sr) (s : Sr) (n f t : Nat) (hf : s.run.fr = (f : Int)) (ht : s.run.to = (t : Int)) (hft : f < t) (htn : t < n) (h1 : AllR fk (ss ++ [s])) (h2 : AllR rk (ss ++ [s])) :
    ∃ y y2, (seamP fk rk ss n)[f]? = some y ∧ ((seamP fk rk ss n).set f (togP [y, s.claim fk]))[t]? = some y2 ∧ y = clOf (seamL fk rk ss f) ∧ y2 = clOf (seamL fk rk ss t) ∧ ((seamP fk rk ss n).set f (togP [y, s.claim fk])).set t (togP [y2, s.claim rk]) = seamP fk rk (ss ++ [s]) n := by
  have hr : ∀ i, ∀ x ∈ seamL fk rk ss i, rightS x = true := fun i x hx => by
    obtain ⟨a, ha, rfl | rfl⟩ := seamL_mem hx
    · exact h1 a (by simp [ha])
    · exact h2 a (by simp [ha])
  refine ⟨_, _, seamP_get _ _ _ _ _ (by omega), by rw [List.getElem?_set_ne (by omega), seamP_get _ _ _ _ _ htn], rfl, rfl, ?_⟩
  rw [tog_snoc _ s fk (h1 s (by simp)) (hr f), tog_snoc _ s rk (h2 s (by simp)) (hr t)]
  apply List.ext_getElem?
  intro i
  by_cases h : i < n
  · rw [seamP_get _ _ _ _ _ h, seamL_snoc, hf, ht]
    by_cases e1 : i = t
    · subst e1
      rw [List.getElem?_set_self (by rw [List.length_set, seamP_len]; exact h), if_neg (by omega), if_pos rfl, List.nil_append]
    · rw [List.getElem?_set_ne (Ne.symm e1)]
      by_cases e2 : i = f
      · subst e2
        rw [List.getElem?_set_self (by rw [seamP_len]; exact h), if_pos rfl, if_neg (by omega), List.append_nil]
      · rw [List.getElem?_set_ne (Ne.symm e2), seamP_get _ _ _ _ _ h, if_neg (by omega), if_neg (by omega), List.append_nil, List.append_nil]
  · rw [List.getElem?_eq_none (by rw [List.length_set, List.length_set, seamP_len]; omega), List.getElem?_eq_none (by rw [seamP_len]; omega)]
theorem clOf_okc {L : List Si} (hr : ∀ x ∈ L, rightS x = true) (hh : ∀ x ∈ L, x.hue) : OkC L.length (clOf L) := by
  refine ⟨⟨by show (0 : Int) ≤ (L.length : Int); omega, Int.le_refl _⟩, fun hp => ?_⟩
  exact hh _ (winR_in hr ((clOf_bs L).pos.1 hp)).1
/-- the whole table, a stretch -/
def wholeP (n : Nat) (tb : Fr) : Sr := ⟨⟨0, n, tb⟩, ⟨0, 0, 0, 5, 0, 0⟩⟩
theorem build_sr1 (a : Sr) (w : World) : (Instr.buildSlice 82 1 #[(0, a.val)]).run Try.prog w = .ok (.slice (some ⟨w.heap.size, 0, none⟩) 1 1) (w.alloc (.cells a.cells.toArray 99)) := by
  obtain ⟨⟨fr, to, ⟨⟨a0, a1, a2⟩, ⟨b0, b1, b2⟩, ⟨c0, c1, c2⟩, ⟨d0, d1, d2⟩⟩⟩, ⟨st, wd, co, bb, ro, cl⟩⟩ := a
  kernel_rfl
theorem results_rq {fn : Func} {W : World} {g q : Nat} {a b c : Value} {tmps : Array Value} (hf : fn.results = #[.cell q 89]) (ht : tmps.getD q undef = .pointer (some ⟨g, 0, none⟩)) (h : Whole W g 89 [a, b, c]) :
    (results fn tmps).run Try.prog W = .ok (.agg #[a, b, c]) W :=
  results_cell_row hf tmps W g 89 #[a, b, c] (0, 0) _ ht h Try.underlying89 rfl (by kernel_rfl)
/-- the memory of requests at its start -/
structure WE (x0 : Bool) (pn an fk rk : Nat) (f1 f2 : Value) (W : World) (ta : Array Value) (X : World) : Prop where
  crs : Whole X W.heap.size 70 [.bool x0, .int .i64 (pn : Int), .int .i64 (an : Int), .int .i64 (fk : Int), .int .i64 (rk : Int), f1, f2]
  tab : Whole X (W.heap.size + 1) 28 ta.toList
  res : Whole X (W.heap.size + 2) 89 [.slice none 0 0, .slice none 0 0, .slice none 0 0]
  be : Below W.heap.size W X
  sz : W.heap.size + 3 ≤ X.heap.size
theorem WE.start (x0 : Bool) (pn an fk rk : Nat) (f1 f2 : Value) (W : World) (ta : Array Value) : WE x0 pn an fk rk f1 f2 W ta (((W.alloc (.cells #[.bool x0, .int .i64 (pn : Int), .int .i64 (an : Int), .int .i64 (fk : Int), .int .i64 (rk : Int), f1, f2] 70)).alloc (.cells ta 28)).alloc (.cells #[.slice none 0 0, .slice none 0 0, .slice none 0 0] 89)) := by
  obtain ⟨tl, htl⟩ : ∃ tl, ta.toList = tl := ⟨_, rfl⟩
  have e : ta = tl.toArray := by rw [← htl]
  subst e
  exact ⟨((whole_new W [.bool x0, .int .i64 (pn : Int), .int .i64 (an : Int), .int .i64 (fk : Int), .int .i64 (rk : Int), f1, f2] 70 _ rfl).alloc _).alloc _,
    (whole_new (W.alloc _) tl 28 _ (by simp)).alloc _,
    whole_new ((W.alloc _).alloc _) [.slice none 0 0, .slice none 0 0, .slice none 0 0] 89 _ (by simp),
    ((((Below.refl _ W).alloc (Nat.le_refl _) _).alloc (by simp) _).alloc (by simp; omega) _), by simp⟩
theorem WE.below {x0 : Bool} {pn an fk rk : Nat} {f1 f2 : Value} {W : World} {ta : Array Value} {X Y : World} (h : WE x0 pn an fk rk f1 f2 W ta X) (hb : Below X.heap.size X Y) : WE x0 pn an fk rk f1 f2 W ta Y :=
  ⟨h.crs.below hb h.crs.lt, h.tab.below hb h.tab.lt, h.res.below hb h.res.lt, h.be.trans (hb.mono h.be.size), Nat.le_trans h.sz hb.size⟩
set_option maxRecDepth 100000 in
set_option maxHeartbeats 8000000 in
theorem req_any (x0 : Bool) (pn an fk rk : Nat) (f1 f2 : Value) (pp ap : Option Addr) (m pc m2 ac : Nat) (ps als : List Sr) (tb : Fr) (W : World) (hp : RowsK Sr.cells 20 W (.slice pp m pc) ps) (ha : RowsK Sr.cells 20 W (.slice ap m2 ac) als) (hpn : pn ≤ 10000) (han : an ≤ 10000) (hm : m ≤ 400) (hm2 : m2 ≤ 400) (hfk : fk < 4) (hrk : rk < 4)
    (hs : ∀ s ∈ ps, 0 ≤ s.run.fr ∧ s.run.fr < s.run.to ∧ s.run.to ≤ (pn : Int)) (hs2 : ∀ s ∈ als, SrOk an s) (hR : ∀ k, k < 4 → AllR k (ps ++ (als ++ [wholeP an tb]))) (hH : ∀ k, k < 4 → ∀ s ∈ ps ++ (als ++ [wholeP an tb]), (s.sd k).hue) :
    Calls Try.prog 37 #[.agg #[.bool x0, .int .i64 (pn : Int), .int .i64 (an : Int), .int .i64 (fk : Int), .int .i64 (rk : Int), f1, f2], .slice pp m pc, .slice ap m2 ac, tb.val] W fun e X => ∃ q1 q2 q3 c1 c2 c3, e = .returned (.agg #[.slice q1 (pn + 1) c1, .slice q2 an c2, .slice q3 an c3]) ∧ RowsK Cl.cells 7 X (.slice q1 (pn + 1) c1) (seamP fk rk ps (pn + 1)) ∧ RowsK Cl.cells 7 X (.slice q2 an c2) (covP fk (als ++ [wholeP an tb]) an) ∧ RowsK Cl.cells 7 X (.slice q3 an c3) (covP rk (als ++ [wholeP an tb]) an) ∧ Below W.heap.size W X := by
  have lp := hp.len
  have la := ha.len
  have HAT : Hid (∀ X, Below W.heap.size W X → ∀ j c, ps[j]? = some c → ∃ g o, pp = some ⟨g, o, none⟩ ∧ g < W.heap.size ∧ ∀ q v, c.cells[q]? = some v → X.cell? ⟨g, o + j * 20 + q, none⟩ = some v) := Lib.hid fun X hX j c hj => by
    obtain ⟨g, o, e, hg, hc⟩ := hp.at j c hj
    exact ⟨g, o, e, hg, fun q v hv => (hX.cell (p := ⟨g, o + j * 20 + q, none⟩) hg).trans (hc q v hv)⟩
  have HAR := Lib.hid ha
  have HM := Lib.hid (show ps.length = m ∧ als.length = m2 from ⟨lp, la⟩)
  have HS := Lib.hid hs
  have HR := Lib.hid hR
  have HH := Lib.hid hH
  have HKK := Lib.hid (show fk < 4 ∧ rk < 4 from ⟨hfk, hrk⟩)
  obtain ⟨wh, hwh⟩ : ∃ s, wholeP an tb = s := ⟨_, rfl⟩
  have HWV : Hid (wh.cells = [.int .i64 0, .int .i64 (an : Int)] ++ tb.cells ++ [.int .i64 0, .int .i64 0, .int .u32 0, .int .i64 5, .int .i64 0, .int .i64 0]) := Lib.hid (by rw [← hwh]; rfl)
  have HS2 : Hid (∀ s ∈ als ++ [wh], SrOk an s) := Lib.hid (fun s h => by
    rcases List.mem_append.1 h with h | h
    · exact hs2 s h
    · obtain rfl := List.mem_singleton.1 h
      rw [← hwh]
      exact ⟨Int.le_refl _, by show (0 : Int) ≤ (an : Int); omega, Int.le_refl _⟩)
  rw [hwh] at HR HH ⊢
  clear hp ha lp la hs hR hH hfk hrk hs2 hwh
  obtain ⟨⟨a0, a1, a2⟩, ⟨b0, b1, b2⟩, ⟨c0, c1, c2⟩, ⟨d0, d1, d2⟩⟩ := tb
  simp only [Fr.cells, Li.cells, List.cons_append, List.nil_append] at HWV
  unfold Fr.val
  simp only [Fr.cells, Li.cells, List.cons_append, List.nil_append]
  obtain ⟨ta, hta⟩ : ∃ ta : Array Value, #[.int .i64 a0, .int .i64 a1, .int .u32 a2, .int .i64 b0, .int .i64 b1, .int .u32 b2, .int .i64 c0, .int .i64 c1, .int .u32 c2, .int .i64 d0, .int .i64 d1, .int .u32 d2] = ta := ⟨_, rfl⟩
  have HTA := Lib.hid hta
  have HTL : Hid (∀ X : World, Whole X (W.heap.size + 1) 28 ta.toList → ∀ j v, (#[.int .i64 a0, .int .i64 a1, .int .u32 a2, .int .i64 b0, .int .i64 b1, .int .u32 b2, .int .i64 c0, .int .i64 c1, .int .u32 c2, .int .i64 d0, .int .i64 d1, .int .u32 d2] : Array Value)[j]? = some v → X.cell? ((⟨W.heap.size + 1, 0, none⟩ : Addr).add j) = some v) := Lib.hid (fun X hX => by rw [hta]; exact hX.loads)
  have W0E : Hid (WE x0 pn an fk rk f1 f2 W ta ((W.alloc (.cells #[.bool x0, .int .i64 (pn : Int), .int .i64 (an : Int), .int .i64 (fk : Int), .int .i64 (rk : Int), f1, f2] 70)).alloc (.cells #[.int .i64 a0, .int .i64 a1, .int .u32 a2, .int .i64 b0, .int .i64 b1, .int .u32 b2, .int .i64 c0, .int .i64 c1, .int .u32 c2, .int .i64 d0, .int .i64 d1, .int .u32 d2] 28) |>.alloc (.cells #[.slice none 0 0, .slice none 0 0, .slice none 0 0] 89))) := Lib.hid (by rw [hta]; exact WE.start x0 pn an fk rk f1 f2 W ta)
  have oW := Lib.hid (Sr.one wh)
  have zW : Hid (Sr.zero.cells.toArray.size = wh.cells.toArray.size) := Lib.hid (by simp [Sr.cells_len])
  have iW : Hid ((Try.prog.info? 99).map (·.size) = some wh.cells.toArray.size) := Lib.hid (by rw [Try.infoSrN]; simp [Sr.cells_len])
  obtain ⟨wx, hwx⟩ : ∃ wx, wh.cells = wx := ⟨_, rfl⟩
  rw [hwx] at HWV oW zW iW
  have HWX := Lib.hid hwx
  have HWA : Hid (Value.agg #[.int .i64 0, .int .i64 (an : Int), .int .i64 a0, .int .i64 a1, .int .u32 a2, .int .i64 b0, .int .i64 b1, .int .u32 b2, .int .i64 c0, .int .i64 c1, .int .u32 c2, .int .i64 d0, .int .i64 d1, .int .u32 d2, .int .i64 0, .int .i64 0, .int .u32 0, .int .i64 5, .int .i64 0, .int .i64 0] = .agg wx.toArray) := Lib.hid (by rw [HWV.out])
  clear hta hwx
  go_enter Try.func37, Try.ntmps37
  go_wp2_with (first
    | (refine at_worldX (fun X => WE x0 pn an fk rk f1 f2 W ta X) W0E.out (fun X hX => ?_); have KX := Lib.hid hX; clear hX W0E; have q2 := KX.out.crs.cellAt 2; have lk := KX.out.crs.lt; simp only [List.getElem?_cons_zero, List.getElem?_cons_succ] at q2; have TL := Lib.hid (HTL.out X KX.out.tab))
    | (refine wpList_loadC rfl 28 (.tmp 7) rfl _ rfl _ _ TL.out Try.underlying28 rfl (by kernel_rfl) ?_; have sz := KX.out.sz)
    | (refine wpList_store_row rfl 99 (.tmp 9) (.tmp 18) rfl _ wx.toArray rfl HWA.out 99 Sr.zero.cells.toArray (whole_new X Sr.zero.cells 99 _ rfl) iW.out zW.out oW.out ?_; refine at_worldX (fun Y => Whole Y X.heap.size 99 wx ∧ Below X.heap.size X Y) ⟨whole_rowA (whole_new X Sr.zero.cells 99 _ rfl) _, ((Below.refl _ X).alloc (Nat.le_refl _) _).trans (below_setRow (Below.refl _ _) _ _ (Nat.le_refl _))⟩ (fun Y hY => ?_); have KY := Lib.hid hY; clear hY q2 lk TL; have ls := KY.out.1.lt)
    | (refine wpList_loadC rfl 99 (.tmp 9) rfl _ rfl wx.toArray _ (KY.out.1 : Whole Y X.heap.size _ wx.toArray.toList).loads Try.underlying99 rfl iW.out ?_)
    | (refine wpList_build1 rfl 82 (.tmp 20) rfl wh.val _ (show Value.agg wx.toArray = wh.val by rw [← HWX.out]; rfl) (build_sr1 wh Y) ?_; refine at_worldX (fun Z => RowsK Sr.cells 20 Z (.slice (some ⟨Y.heap.size, 0, none⟩) 1 1) [wh] ∧ Below Y.heap.size Y Z) ⟨RowsK.whole Sr.cells_len (zs := [wh]) (m := 1) (by simpa using whole_new Y wh.cells 99 _ rfl) rfl 1 (by decide), (Below.refl _ Y).alloc (Nat.le_refl _) _⟩ (fun Z hZ => ?_); have KZ := Lib.hid hZ; clear hZ ls)
    | fail)
  have EZ : Hid (WE x0 pn an fk rk f1 f2 W ta Z) := Lib.hid ((KX.out.below KY.out.2).below KZ.out.2)
  have AZ := Lib.hid (HAR.out.below (EZ.out.be.mono (Nat.le_refl _)))
  have HWZ := Lib.hid KZ.out.1
  obtain ⟨yb, hyb⟩ : ∃ b, Y.heap.size = b := ⟨_, rfl⟩
  rw [hyb] at HWZ ⊢
  clear KX KY KZ hyb sz oW zW iW
  have HV := Lib.hid (whole_new Z [.slice ap m2 ac, .slice (some ⟨yb, 0, none⟩) 1 1] 82 _ rfl)
  have BV := Lib.hid ((Below.refl Z.heap.size Z).alloc (Nat.le_refl _) (.cells [.slice ap m2 ac, .slice (some ⟨yb, 0, none⟩) 1 1].toArray 82))
  have HCC := concat_str Z.heap.size 2 2 [als, [wh]] (Z.alloc (.cells [.slice ap m2 ac, .slice (some ⟨yb, 0, none⟩) 1 1].toArray 82)) rfl (by omega) (by simp [HM.out.2]; omega) (by simp) (fun i L hL => by
    rcases i with _ | _ | i
    · simp at hL; subst hL
      exact ⟨ap, ac, by rw [HV.out.cellAt, HM.out.2]; rfl, by rw [HM.out.2]; exact AZ.out.below BV.out⟩
    · simp at hL; subst hL
      exact ⟨some ⟨yb, 0, none⟩, 1, by rw [HV.out.cellAt]; rfl, HWZ.out.below BV.out⟩
    · simp at hL)
  refine HCC.mono ?_
  rintro e w1 ⟨v, rfl, hv, hb⟩
  have E1 := Lib.hid ((EZ.out.below BV.out).below hb)
  have HV1 : Hid (RowsK Sr.cells 20 w1 v (als ++ [wh])) := Lib.hid (by simpa using hv)
  clear hv hb HCC HV BV EZ AZ HWZ
  have q1 := E1.out.crs.cellAt 1
  have lk := E1.out.crs.lt
  simp only [List.getElem?_cons_zero, List.getElem?_cons_succ] at q1
  have hw1 : IntKind.i64.wrap ((pn : Int) + 1) = ((pn + 1 : Nat) : Int) := by rw [IntKind.wrap_i64]; omega
  obtain ⟨p1, hp1⟩ : ∃ p1, pn + 1 = p1 := ⟨_, rfl⟩
  rw [hp1] at hw1
  have HP1 := Lib.hid hp1
  have hmk := make_cl p1 (by omega) w1
  obtain ⟨zc, hzc⟩ : ∃ zc, ((List.replicate p1 Cl.zero).flatMap Cl.cells).toArray = zc := ⟨_, rfl⟩
  have K0 : Hid (CRow (w1.alloc (.cells zc 108)) w1.heap.size (seamP fk rk (ps.take 0) p1) []) := Lib.hid (by
    rw [← hzc, List.take_zero, seamP_nil]
    exact (LsR.of (whole_new w1 _ 108 _ rfl)).crow)
  have B0 : Hid (Below w1.heap.size w1 (w1.alloc (.cells zc 108))) := Lib.hid ((Below.refl _ w1).alloc (Nat.le_refl _) _)
  rw [hzc] at hmk
  obtain ⟨G, hG⟩ : ∃ G, w1.heap.size = G := ⟨_, rfl⟩
  rw [hG] at hmk K0
  have HG := Lib.hid hG
  clear hp1 hzc
  go_wp2
  try rw [hG]
  clear hmk hG q1 lk
  generalize w1.alloc (.cells zc 108) = w2 at K0 B0 ⊢
  have K4 : Hid (Whole w1 W.heap.size 70 [.bool x0, .int .i64 (pn : Int), .int .i64 (an : Int), .int .i64 (fk : Int), .int .i64 (rk : Int), f1, f2]) := Lib.hid E1.out.crs
  go_loopw [30] (fun s30 X => ∃ j : Nat, j ≤ m ∧ s30 = .int .i64 (j : Int) ∧ Hid (CRow X G (seamP fk rk (ps.take j) p1) []) ∧ Hid (Below w1.heap.size w1 X)) (fun s30 _ => m - (intOf s30).toNat)
  case atStart => exact ⟨0, Nat.zero_le _, rfl, K0, B0⟩
  case round =>
    clear K0 B0
    obtain ⟨j, hj, rfl, HL, HB⟩ := hrel
    by_cases hlt : j < m
    · obtain ⟨x, hx⟩ : ∃ x, ps[j]? = some x := ⟨_, List.getElem?_eq_getElem (by rw [HM.out.1]; exact hlt)⟩
      obtain ⟨g, o, rfl, lg0, hcx⟩ := HAT.out wr (E1.out.be.trans (HB.out.mono E1.out.be.size)) j x hx
      have hxm := List.mem_of_getElem? hx
      obtain ⟨x1, x2, x3⟩ := HS.out x hxm
      obtain ⟨f, hf⟩ : ∃ f : Nat, x.run.fr = (f : Int) := ⟨x.run.fr.toNat, by omega⟩
      obtain ⟨t, ht⟩ : ∃ t : Nat, x.run.to = (t : Int) := ⟨x.run.to.toNat, by omega⟩
      have lg : g < wr.heap.size := Nat.lt_of_lt_of_le lg0 (Nat.le_trans E1.out.be.size HB.out.size)
      have LN : Hid (∀ j' v, x.cells.toArray[j']? = some v → wr.cell? ((⟨g, o + j * 20, none⟩ : Addr).add j') = some v) := Lib.hid (fun j' v hj' => by rw [add_plainC]; exact hcx j' v (by simpa using hj'))
      have iN : Hid ((Try.prog.info? 99).map (·.size) = some x.cells.toArray.size) := Lib.hid (by rw [Try.infoSrN]; simp [Sr.cells_len])
      have oN := Lib.hid (Sr.one x)
      have zN : Hid (Sr.zero.cells.toArray.size = x.cells.toArray.size) := Lib.hid (by simp [Sr.cells_len])
      have HXC : Hid (x.cells[0]? = some (.int .i64 (f : Int)) ∧ x.cells[1]? = some (.int .i64 (t : Int))) := Lib.hid ⟨by rw [← hf]; rfl, by rw [← ht]; rfl⟩
      have HCKfk : Hid (∀ X, Calls Try.prog 60 #[.agg x.cells.toArray, .int .i64 (fk : Int)] X fun e X' => e = .returned (x.claim fk).val ∧ Below X.heap.size X X') := Lib.hid (fun X => claim_any x fk HKK.out.1 X)
      have HCKrk : Hid (∀ X, Calls Try.prog 60 #[.agg x.cells.toArray, .int .i64 (rk : Int)] X fun e X' => e = .returned (x.claim rk).val ∧ Below X.heap.size X X') := Lib.hid (fun X => claim_any x rk HKK.out.2 X)
      have hmem : x ∈ ps ++ (als ++ [wh]) := List.mem_append.2 (.inl hxm)
      have HHXfk := Lib.hid (HH.out fk HKK.out.1 x hmem)
      have HHXrk := Lib.hid (HH.out rk HKK.out.2 x hmem)
      rw [hf] at x1 x2
      rw [ht] at x2 x3
      have hsub : ∀ a, a ∈ ps.take j ++ [x] → a ∈ ps ++ (als ++ [wh]) := fun a ha => by
        rcases List.mem_append.1 ha with ha | ha
        · exact List.mem_append.2 (.inl (List.mem_of_mem_take ha))
        · obtain rfl := List.mem_singleton.1 ha; exact hmem
      obtain ⟨y, y2, s1, s2, s3, s4, s5⟩ := seam_step fk rk (ps.take j) x p1 f t hf ht (by omega) (by have := HP1.out; omega) (fun a ha => HR.out fk HKK.out.1 a (hsub a ha)) (fun a ha => HR.out rk HKK.out.2 a (hsub a ha))
      have okc : ∀ i, OkC 1000000000000000000 (clOf (seamL fk rk (ps.take j) i)) := fun i => by
        have := clOf_okc (L := seamL fk rk (ps.take j) i) (fun a ha => by
          obtain ⟨b, hb, rfl | rfl⟩ := seamL_mem ha
          · exact HR.out fk HKK.out.1 b (hsub b (List.mem_append.2 (.inl hb)))
          · exact HR.out rk HKK.out.2 b (hsub b (List.mem_append.2 (.inl hb)))) (fun a ha => by
          obtain ⟨b, hb, rfl | rfl⟩ := seamL_mem ha
          · exact HH.out fk HKK.out.1 b (hsub b (List.mem_append.2 (.inl hb)))
          · exact HH.out rk HKK.out.2 b (hsub b (List.mem_append.2 (.inl hb))))
        have hl := seamL_len fk rk (ps.take j) i
        have hl2 : (ps.take j).length ≤ 400 := by rw [List.length_take]; omega
        exact ⟨⟨this.1.1, by have := this.1.2; omega⟩, this.2⟩
      have Hy : Hid ((seamP fk rk (ps.take j) p1)[f]? = some y ∧ OkC 1000000000000000000 y) := Lib.hid ⟨s1, by rw [s3]; exact okc f⟩
      obtain ⟨cs1, hc1⟩ : ∃ cs1, (seamP fk rk (ps.take j) p1).set f (togP [y, x.claim fk]) = cs1 := ⟨_, rfl⟩
      rw [hc1] at s2 s5
      have Hy2 : Hid (cs1[t]? = some y2 ∧ OkC 1000000000000000000 y2) := Lib.hid ⟨s2, by rw [s4]; exact okc t⟩
      have HC1 := Lib.hid hc1
      have HST : Hid (cs1.set t (togP [y2, x.claim rk]) = seamP fk rk (ps.take (j + 1)) p1) := Lib.hid (by rw [s5, List.take_add_one, hx]; rfl)
      obtain ⟨cs, hcs⟩ : ∃ cs, seamP fk rk (ps.take j) p1 = cs := ⟨_, rfl⟩
      rw [hcs] at Hy HC1 HL
      have hfi : (f : Int) < (p1 : Int) := by have := HP1.out; omega
      have hti : (t : Int) < (p1 : Int) := by have := HP1.out; omega
      obtain ⟨xs, hxs⟩ : ∃ xs, x.cells = xs := ⟨_, rfl⟩
      rw [hxs] at LN iN oN zN HXC HCKfk HCKrk
      obtain ⟨ca, hca⟩ : ∃ ca, xs.toArray = ca := ⟨_, rfl⟩
      rw [hca] at LN iN oN zN HCKfk HCKrk
      have HCE := Lib.hid hca
      clear hca hxs hx hcx hxm hmem hsub s1 s2 s3 s4 s5 okc hc1 hcs hf ht x1 x2 x3 lg0
      go_wp2_with (first
                    | (refine wpList_loadC rfl 99 (.tmp 32) rfl _ rfl ca _ LN.out Try.underlying99 rfl iN.out ?_)
                    | (refine wpList_store_row rfl 99 (.tmp 12) (.tmp 33) rfl _ ca rfl rfl 99 Sr.zero.cells.toArray (whole_new wr Sr.zero.cells 99 _ rfl) iN.out zN.out oN.out ?_; refine at_worldX (fun X => Whole X wr.heap.size 99 xs ∧ Below wr.heap.size wr X) ⟨by rw [← HCE.out]; exact whole_rowA (whole_new wr Sr.zero.cells 99 _ rfl) _, ((Below.refl _ wr).alloc (Nat.le_refl _) _).trans (below_setRow (Below.refl _ _) _ _ (Nat.le_refl _))⟩ (fun X hX => ?_); obtain ⟨KX, BX⟩ := hX; have KXX := Lib.hid KX; have BXX := Lib.hid BX; clear KX BX LN oN zN)
                    | (refine region_L (S := fun X => Hid (KeepS w1 G cs [] wr.heap.size xs X)) (by kernel_rfl) (fun w9 hw9 => ?_)))
      have SV : Hid (KeepS w1 G cs [] wr.heap.size xs w9) := Lib.hid (by
        rw [← hw9]
        exact KeepS.below ⟨LsR.below HL.out BXX.out (Whole.lt HL.out), KXX.out, HB.out.trans (BXX.out.mono HB.out.size)⟩ (below_dn _ _ 1))
      have HGW : Hid (w1.heap.size ≤ G) := Lib.hid (by have := HG.out; omega)
      have HGS : Hid (wr.heap.size ≠ G) := Lib.hid (by have := Whole.lt HL.out; omega)
      clear hw9 KXX BXX lg
      try simp only [Act.put, List.setIfInBounds_toArray, List.set_cons_succ, List.set_cons_zero]
      refine AnyL.take (i := 0) (v := .slice (some ⟨G, 0, none⟩) p1 p1) (some 34) rfl rfl (by kernel_rfl) (by kernel_rfl) (by kernel_rfl) (fun _ _ _ h => h) SV (Or.inl ⟨by rfl, ?_⟩) ?_
      · intro X hX; go_simp
      try simp only [Act.put, List.setIfInBounds_toArray, List.set_cons_succ, List.set_cons_zero]
      refine AnyL.take (i := 1) (v := .pointer (some ⟨wr.heap.size, 0, none⟩)) (some 35) rfl rfl (by kernel_rfl) (by kernel_rfl) (by kernel_rfl) (fun _ _ _ h => h) SV (Or.inl ⟨by rfl, ?_⟩) ?_
      · intro X hX; go_simp
      try simp only [Act.put, List.setIfInBounds_toArray, List.set_cons_succ, List.set_cons_zero]
      refine AnyL.take (i := 2) (v := .pointer (some ⟨wr.heap.size, 0, none⟩)) (some 36) rfl rfl (by kernel_rfl) (by kernel_rfl) (by kernel_rfl) (fun _ _ _ h => h) SV (Or.inl ⟨by rfl, ?_⟩) ?_
      · intro X hX; go_simp
      try simp only [Act.put, List.setIfInBounds_toArray, List.set_cons_succ, List.set_cons_zero]
      refine AnyL.take (i := 3) (v := .int .i64 (f : Int)) (some 37) rfl rfl (by kernel_rfl) (by kernel_rfl) (by kernel_rfl) (fun _ _ _ h => h) SV (Or.inl ⟨by rfl, ?_⟩) ?_
      · intro X hX; have q := hX.out.2.1.cellAt 0; rw [HXC.out.1] at q; have lq := hX.out.2.1.lt; go_simp
      try simp only [Act.put, List.setIfInBounds_toArray, List.set_cons_succ, List.set_cons_zero]
      refine AnyL.take (i := 4) (v := .slice (some ⟨G, 0, none⟩) p1 p1) (some 38) rfl rfl (by kernel_rfl) (by kernel_rfl) (by kernel_rfl) (fun _ _ _ h => h) SV (Or.inl ⟨by rfl, ?_⟩) ?_
      · intro X hX; go_simp
      try simp only [Act.put, List.setIfInBounds_toArray, List.set_cons_succ, List.set_cons_zero]
      refine AnyL.take (i := 5) (v := .pointer (some ⟨wr.heap.size, 0, none⟩)) (some 39) rfl rfl (by kernel_rfl) (by kernel_rfl) (by kernel_rfl) (fun _ _ _ h => h) SV (Or.inl ⟨by rfl, ?_⟩) ?_
      · intro X hX; go_simp
      try simp only [Act.put, List.setIfInBounds_toArray, List.set_cons_succ, List.set_cons_zero]
      refine AnyL.take (i := 6) (v := .pointer (some ⟨wr.heap.size, 0, none⟩)) (some 40) rfl rfl (by kernel_rfl) (by kernel_rfl) (by kernel_rfl) (fun _ _ _ h => h) SV (Or.inl ⟨by rfl, ?_⟩) ?_
      · intro X hX; go_simp
      try simp only [Act.put, List.setIfInBounds_toArray, List.set_cons_succ, List.set_cons_zero]
      refine AnyL.take (i := 7) (v := .int .i64 (f : Int)) (some 41) rfl rfl (by kernel_rfl) (by kernel_rfl) (by kernel_rfl) (fun _ _ _ h => h) SV (Or.inl ⟨by rfl, ?_⟩) ?_
      · intro X hX; have q := hX.out.2.1.cellAt 0; rw [HXC.out.1] at q; have lq := hX.out.2.1.lt; go_simp
      try simp only [Act.put, List.setIfInBounds_toArray, List.set_cons_succ, List.set_cons_zero]
      refine AnyL.take (i := 8) (v := .pointer (some ⟨G, f * 7, none⟩)) (some 42) rfl rfl (by kernel_rfl) (by kernel_rfl) (by kernel_rfl) (fun _ _ _ h => h) SV (Or.inl ⟨by rfl, ?_⟩) ?_
      · intro X hX; go_simp
      try simp only [Act.put, List.setIfInBounds_toArray, List.set_cons_succ, List.set_cons_zero]
      refine AnyL.take (i := 9) (v := .agg y.cells.toArray) (some 43) rfl rfl (by kernel_rfl) (by kernel_rfl) (by kernel_rfl) (fun _ _ _ h => h) SV (yields_loadC (by rfl) 108 (.tmp 42) rfl _ rfl y.cells.toArray _ (fun X hX => (LsR.loads Cl.cells_len hX.out.1 Hy.out.1)) Try.underlying108 rfl (by rw [Try.infoClN]; simp [Cl.cells_len])) ?_
      try simp only [Act.put, List.setIfInBounds_toArray, List.set_cons_succ, List.set_cons_zero]
      refine AnyL.take (i := 10) (v := .agg ca) (some 44) rfl rfl (by kernel_rfl) (by kernel_rfl) (by kernel_rfl) (fun _ _ _ h => h) SV (yields_loadC (by rfl) 99 (.tmp 12) rfl _ rfl ca _ (fun X hX => (whole_arr hX.out.2.1 HCE.out).loads) Try.underlying99 rfl iN.out) ?_
      try simp only [Act.put, List.setIfInBounds_toArray, List.set_cons_succ, List.set_cons_zero]
      refine AnyL.take (i := 11) (v := .pointer (some ⟨W.heap.size, 3, none⟩)) (some 45) rfl rfl (by kernel_rfl) (by kernel_rfl) (by kernel_rfl) (fun _ _ _ h => h) SV (Or.inl ⟨by rfl, ?_⟩) ?_
      · intro X hX; go_simp
      try simp only [Act.put, List.setIfInBounds_toArray, List.set_cons_succ, List.set_cons_zero]
      refine AnyL.take (i := 12) (v := .int .i64 (fk : Int)) (some 46) rfl rfl (by kernel_rfl) (by kernel_rfl) (by kernel_rfl) (fun _ _ _ h => h) SV (Or.inl ⟨by rfl, ?_⟩) ?_
      · intro X hX; have q := (K4.out.below hX.out.2.2 K4.out.lt).cellAt 3; have lq := (K4.out.below hX.out.2.2 K4.out.lt).lt; simp only [List.getElem?_cons_zero, List.getElem?_cons_succ] at q; go_simp
      try simp only [Act.put, List.setIfInBounds_toArray, List.set_cons_succ, List.set_cons_zero]
      refine AnyL.one (i := 13) rfl (by kernel_rfl) ?_
      refine wpOp_step rfl (fun K hK => ?_)
      go_simp
      refine (HCKfk.out _).mono ?_
      rintro e w10 ⟨rfl, hb⟩
      have SX := Lib.hid (KeepS.below SV.out hb)
      refine hK _ _ ⟨fun _ => SX, ?_⟩
      clear hK K hb SV
      have SV := SX
      clear SX
      try simp only [Act.put, List.setIfInBounds_toArray, List.set_cons_succ, List.set_cons_zero]
      refine AnyL.one (i := 14) rfl (by kernel_rfl) ?_
      refine wpOp_step rfl (fun K hK => ?_)
      refine wp_build2 87 (.tmp 43) (.tmp 47) rfl y.val (x.claim fk).val _ rfl rfl (build_cl2 y (x.claim fk) w10) ?_
      have W2' := Lib.hid (two_cl (whole_new w10 (y.cells ++ (x.claim fk).cells) 108 _ rfl))
      have SX := Lib.hid (KeepS.below SV.out ((Below.refl w10.heap.size w10).alloc (Nat.le_refl _) (.cells (y.cells ++ (x.claim fk).cells).toArray 108)))
      generalize w10.alloc (.cells (y.cells ++ (x.claim fk).cells).toArray 108) = w11 at W2' SX ⊢
      refine hK _ _ ⟨fun _ => SX, ?_⟩
      clear hK K SV
      have SV := SX
      clear SX
      try simp only [Act.put, List.setIfInBounds_toArray, List.set_cons_succ, List.set_cons_zero]
      refine AnyL.one (i := 15) rfl (by kernel_rfl) ?_
      refine wpOp_step rfl (fun K hK => ?_)
      go_simp
      refine (tog_any (some ⟨w10.heap.size, 0, none⟩) 2 2 [y, x.claim fk] w11 W2'.out rfl (by omega) (fun c hc => ?_) (fun c hc => ?_)).mono ?_
      · rcases List.mem_cons.1 hc with rfl | hc
        · exact Hy.out.2.1
        · obtain rfl := List.mem_singleton.1 hc
          exact ⟨by show (0 : Int) ≤ 1; omega, by show (1 : Int) ≤ _; omega⟩
      · rcases List.mem_cons.1 hc with rfl | hc
        · exact Hy.out.2.2
        · obtain rfl := List.mem_singleton.1 hc
          exact fun _ => HHXfk.out
      rintro e w12 ⟨rfl, hb⟩
      have SX := Lib.hid (KeepS.below SV.out hb)
      refine hK _ _ ⟨fun _ => SX, ?_⟩
      clear hK K hb SV W2'
      have SV := SX
      clear SX
      try simp only [Act.put, List.setIfInBounds_toArray, List.set_cons_succ, List.set_cons_zero]
      refine AnyL.take (i := 16) (v := .pointer (some ⟨G, f * 7, none⟩)) (some 50) rfl rfl (by kernel_rfl) (by kernel_rfl) (by kernel_rfl) (fun _ _ _ h => h) SV (Or.inl ⟨by rfl, ?_⟩) ?_
      · intro X hX; go_simp
      try simp only [Act.put, List.setIfInBounds_toArray, List.set_cons_succ, List.set_cons_zero]
      refine AnyL.one (i := 17) rfl (by kernel_rfl) ?_
      refine wpOp_step rfl (fun K hK => ?_)
      refine wp_store_midL rfl 108 (.tmp 50) (.tmp 49) rfl G (f * 7) (togP [y, x.claim fk]).cells.toArray rfl rfl (by rw [List.size_toArray, Cl.cells_len]; exact LsR.there Cl.cells_len SV.out.1 f (List.getElem?_eq_some_iff.1 Hy.out.1).1) (by rw [Try.infoClN]; simp [Cl.cells_len]) (Cl.one _) ?_
      have SX := Lib.hid (KeepS.put HGW.out HGS.out SV.out f (togP [y, x.claim fk]) (List.getElem?_eq_some_iff.1 Hy.out.1).1)
      refine hK _ _ ⟨fun h => no_last h (by kernel_rfl), ?_⟩
      clear hK K SV
      have SV := SX
      clear SX
      refine AnyL.done (by kernel_rfl) ?_
      rw [HC1.out] at SV
      go_wp2_with (refine region_L (S := fun X => Hid (KeepS w1 G cs1 [] wr.heap.size xs X)) (by kernel_rfl) (fun w9 hw9 => ?_))
      have SX : Hid (KeepS w1 G cs1 [] wr.heap.size xs w9) := Lib.hid (by rw [← hw9]; exact KeepS.below SV.out (below_dn _ _ 1))
      clear hw9 SV
      have SV := SX
      clear SX
      try simp only [Act.put, List.setIfInBounds_toArray, List.set_cons_succ, List.set_cons_zero]
      refine AnyL.take (i := 0) (v := .slice (some ⟨G, 0, none⟩) p1 p1) (some 51) rfl rfl (by kernel_rfl) (by kernel_rfl) (by kernel_rfl) (fun _ _ _ h => h) SV (Or.inl ⟨by rfl, ?_⟩) ?_
      · intro X hX; go_simp
      try simp only [Act.put, List.setIfInBounds_toArray, List.set_cons_succ, List.set_cons_zero]
      refine AnyL.take (i := 1) (v := .pointer (some ⟨wr.heap.size, 0, none⟩)) (some 52) rfl rfl (by kernel_rfl) (by kernel_rfl) (by kernel_rfl) (fun _ _ _ h => h) SV (Or.inl ⟨by rfl, ?_⟩) ?_
      · intro X hX; go_simp
      try simp only [Act.put, List.setIfInBounds_toArray, List.set_cons_succ, List.set_cons_zero]
      refine AnyL.take (i := 2) (v := .pointer (some ⟨wr.heap.size, 1, none⟩)) (some 53) rfl rfl (by kernel_rfl) (by kernel_rfl) (by kernel_rfl) (fun _ _ _ h => h) SV (Or.inl ⟨by rfl, ?_⟩) ?_
      · intro X hX; go_simp
      try simp only [Act.put, List.setIfInBounds_toArray, List.set_cons_succ, List.set_cons_zero]
      refine AnyL.take (i := 3) (v := .int .i64 (t : Int)) (some 54) rfl rfl (by kernel_rfl) (by kernel_rfl) (by kernel_rfl) (fun _ _ _ h => h) SV (Or.inl ⟨by rfl, ?_⟩) ?_
      · intro X hX; have q := hX.out.2.1.cellAt 1; rw [HXC.out.2] at q; have lq := hX.out.2.1.lt; go_simp
      try simp only [Act.put, List.setIfInBounds_toArray, List.set_cons_succ, List.set_cons_zero]
      refine AnyL.take (i := 4) (v := .slice (some ⟨G, 0, none⟩) p1 p1) (some 55) rfl rfl (by kernel_rfl) (by kernel_rfl) (by kernel_rfl) (fun _ _ _ h => h) SV (Or.inl ⟨by rfl, ?_⟩) ?_
      · intro X hX; go_simp
      try simp only [Act.put, List.setIfInBounds_toArray, List.set_cons_succ, List.set_cons_zero]
      refine AnyL.take (i := 5) (v := .pointer (some ⟨wr.heap.size, 0, none⟩)) (some 56) rfl rfl (by kernel_rfl) (by kernel_rfl) (by kernel_rfl) (fun _ _ _ h => h) SV (Or.inl ⟨by rfl, ?_⟩) ?_
      · intro X hX; go_simp
      try simp only [Act.put, List.setIfInBounds_toArray, List.set_cons_succ, List.set_cons_zero]
      refine AnyL.take (i := 6) (v := .pointer (some ⟨wr.heap.size, 1, none⟩)) (some 57) rfl rfl (by kernel_rfl) (by kernel_rfl) (by kernel_rfl) (fun _ _ _ h => h) SV (Or.inl ⟨by rfl, ?_⟩) ?_
      · intro X hX; go_simp
      try simp only [Act.put, List.setIfInBounds_toArray, List.set_cons_succ, List.set_cons_zero]
      refine AnyL.take (i := 7) (v := .int .i64 (t : Int)) (some 58) rfl rfl (by kernel_rfl) (by kernel_rfl) (by kernel_rfl) (fun _ _ _ h => h) SV (Or.inl ⟨by rfl, ?_⟩) ?_
      · intro X hX; have q := hX.out.2.1.cellAt 1; rw [HXC.out.2] at q; have lq := hX.out.2.1.lt; go_simp
      try simp only [Act.put, List.setIfInBounds_toArray, List.set_cons_succ, List.set_cons_zero]
      refine AnyL.take (i := 8) (v := .pointer (some ⟨G, t * 7, none⟩)) (some 59) rfl rfl (by kernel_rfl) (by kernel_rfl) (by kernel_rfl) (fun _ _ _ h => h) SV (Or.inl ⟨by rfl, ?_⟩) ?_
      · intro X hX; go_simp
      try simp only [Act.put, List.setIfInBounds_toArray, List.set_cons_succ, List.set_cons_zero]
      refine AnyL.take (i := 9) (v := .agg y2.cells.toArray) (some 60) rfl rfl (by kernel_rfl) (by kernel_rfl) (by kernel_rfl) (fun _ _ _ h => h) SV (yields_loadC (by rfl) 108 (.tmp 59) rfl _ rfl y2.cells.toArray _ (fun X hX => (LsR.loads Cl.cells_len hX.out.1 Hy2.out.1)) Try.underlying108 rfl (by rw [Try.infoClN]; simp [Cl.cells_len])) ?_
      try simp only [Act.put, List.setIfInBounds_toArray, List.set_cons_succ, List.set_cons_zero]
      refine AnyL.take (i := 10) (v := .agg ca) (some 61) rfl rfl (by kernel_rfl) (by kernel_rfl) (by kernel_rfl) (fun _ _ _ h => h) SV (yields_loadC (by rfl) 99 (.tmp 12) rfl _ rfl ca _ (fun X hX => (whole_arr hX.out.2.1 HCE.out).loads) Try.underlying99 rfl iN.out) ?_
      try simp only [Act.put, List.setIfInBounds_toArray, List.set_cons_succ, List.set_cons_zero]
      refine AnyL.take (i := 11) (v := .pointer (some ⟨W.heap.size, 4, none⟩)) (some 62) rfl rfl (by kernel_rfl) (by kernel_rfl) (by kernel_rfl) (fun _ _ _ h => h) SV (Or.inl ⟨by rfl, ?_⟩) ?_
      · intro X hX; go_simp
      try simp only [Act.put, List.setIfInBounds_toArray, List.set_cons_succ, List.set_cons_zero]
      refine AnyL.take (i := 12) (v := .int .i64 (rk : Int)) (some 63) rfl rfl (by kernel_rfl) (by kernel_rfl) (by kernel_rfl) (fun _ _ _ h => h) SV (Or.inl ⟨by rfl, ?_⟩) ?_
      · intro X hX; have q := (K4.out.below hX.out.2.2 K4.out.lt).cellAt 4; have lq := (K4.out.below hX.out.2.2 K4.out.lt).lt; simp only [List.getElem?_cons_zero, List.getElem?_cons_succ] at q; go_simp
      try simp only [Act.put, List.setIfInBounds_toArray, List.set_cons_succ, List.set_cons_zero]
      refine AnyL.one (i := 13) rfl (by kernel_rfl) ?_
      refine wpOp_step rfl (fun K hK => ?_)
      go_simp
      refine (HCKrk.out _).mono ?_
      rintro e w10 ⟨rfl, hb⟩
      have SX := Lib.hid (KeepS.below SV.out hb)
      refine hK _ _ ⟨fun _ => SX, ?_⟩
      clear hK K hb SV
      have SV := SX
      clear SX
      try simp only [Act.put, List.setIfInBounds_toArray, List.set_cons_succ, List.set_cons_zero]
      refine AnyL.one (i := 14) rfl (by kernel_rfl) ?_
      refine wpOp_step rfl (fun K hK => ?_)
      refine wp_build2 87 (.tmp 60) (.tmp 64) rfl y2.val (x.claim rk).val _ rfl rfl (build_cl2 y2 (x.claim rk) w10) ?_
      have W2' := Lib.hid (two_cl (whole_new w10 (y2.cells ++ (x.claim rk).cells) 108 _ rfl))
      have SX := Lib.hid (KeepS.below SV.out ((Below.refl w10.heap.size w10).alloc (Nat.le_refl _) (.cells (y2.cells ++ (x.claim rk).cells).toArray 108)))
      generalize w10.alloc (.cells (y2.cells ++ (x.claim rk).cells).toArray 108) = w11 at W2' SX ⊢
      refine hK _ _ ⟨fun _ => SX, ?_⟩
      clear hK K SV
      have SV := SX
      clear SX
      try simp only [Act.put, List.setIfInBounds_toArray, List.set_cons_succ, List.set_cons_zero]
      refine AnyL.one (i := 15) rfl (by kernel_rfl) ?_
      refine wpOp_step rfl (fun K hK => ?_)
      go_simp
      refine (tog_any (some ⟨w10.heap.size, 0, none⟩) 2 2 [y2, x.claim rk] w11 W2'.out rfl (by omega) (fun c hc => ?_) (fun c hc => ?_)).mono ?_
      · rcases List.mem_cons.1 hc with rfl | hc
        · exact Hy2.out.2.1
        · obtain rfl := List.mem_singleton.1 hc
          exact ⟨by show (0 : Int) ≤ 1; omega, by show (1 : Int) ≤ _; omega⟩
      · rcases List.mem_cons.1 hc with rfl | hc
        · exact Hy2.out.2.2
        · obtain rfl := List.mem_singleton.1 hc
          exact fun _ => HHXrk.out
      rintro e w12 ⟨rfl, hb⟩
      have SX := Lib.hid (KeepS.below SV.out hb)
      refine hK _ _ ⟨fun _ => SX, ?_⟩
      clear hK K hb SV W2'
      have SV := SX
      clear SX
      try simp only [Act.put, List.setIfInBounds_toArray, List.set_cons_succ, List.set_cons_zero]
      refine AnyL.take (i := 16) (v := .pointer (some ⟨G, t * 7, none⟩)) (some 67) rfl rfl (by kernel_rfl) (by kernel_rfl) (by kernel_rfl) (fun _ _ _ h => h) SV (Or.inl ⟨by rfl, ?_⟩) ?_
      · intro X hX; go_simp
      try simp only [Act.put, List.setIfInBounds_toArray, List.set_cons_succ, List.set_cons_zero]
      refine AnyL.one (i := 17) rfl (by kernel_rfl) ?_
      refine wpOp_step rfl (fun K hK => ?_)
      refine wp_store_midL rfl 108 (.tmp 67) (.tmp 66) rfl G (t * 7) (togP [y2, x.claim rk]).cells.toArray rfl rfl (by rw [List.size_toArray, Cl.cells_len]; exact LsR.there Cl.cells_len SV.out.1 t (List.getElem?_eq_some_iff.1 Hy2.out.1).1) (by rw [Try.infoClN]; simp [Cl.cells_len]) (Cl.one _) ?_
      have SX := Lib.hid (KeepS.put HGW.out HGS.out SV.out t (togP [y2, x.claim rk]) (List.getElem?_eq_some_iff.1 Hy2.out.1).1)
      refine hK _ _ ⟨fun h => no_last h (by kernel_rfl), ?_⟩
      clear hK K SV
      have SV := SX
      clear SX
      refine AnyL.done (by kernel_rfl) ?_
      have HL2 := Lib.hid SV.out.1
      rw [HST.out] at HL2
      have HB2 := Lib.hid SV.out.2.2
      go_wp2
      go_roundw
      case rel => exact ⟨j + 1, by omega, by go_num, HL2, HB2⟩
      case measure => simp [intOf]; omega
    · obtain rfl : m = j := by omega
      have HL2 : Hid (CRow wr G (seamP fk rk ps p1) []) := Lib.hid (by have h := HL.out; rwa [List.take_of_length_le (by rw [HM.out.1]; exact Nat.le_refl _)] at h)
      clear HL
      obtain ⟨pv, cv, hve⟩ := HV1.out.slice
      have hlv : (als ++ [wh]).length = m2 + 1 := by rw [List.length_append, HM.out.2]; rfl
      rw [hlv] at hve
      subst hve
      have HCV := Lib.hid (fun k (hk : k < 4) X (hX : Below w1.heap.size w1 X) => cover_any an k pv (m2 + 1) cv (als ++ [wh]) X (HV1.out.below hX) han (by omega) hk HS2.out (fun s hs => HR.out k hk s (List.mem_append.2 (.inr hs))) (fun s hs => HH.out k hk s (List.mem_append.2 (.inr hs))))
      have HCF := Lib.hid (HCV.out fk HKK.out.1)
      have HCR := Lib.hid (HCV.out rk HKK.out.2)
      clear hlv HCV
      go_wp2_with (refine region_L (S := fun X => Hid (Below w1.heap.size w1 X ∧ CRow X G (seamP fk rk ps p1) [])) (by kernel_rfl) (fun w9 hw9 => ?_))
      have SV : Hid (Below w1.heap.size w1 w9 ∧ CRow w9 G (seamP fk rk ps p1) []) := Lib.hid (by
        rw [← hw9]
        exact ⟨HB.out.trans (below_dn _ _ 1), LsR.below HL2.out (below_dn (wr.heap.size) _ 1) (Whole.lt HL2.out)⟩)
      have KO : Hid (∀ X, Below w1.heap.size w1 X → Whole X W.heap.size 70 [.bool x0, .int .i64 (pn : Int), .int .i64 (an : Int), .int .i64 (fk : Int), .int .i64 (rk : Int), f1, f2]) := Lib.hid (fun X hX => K4.out.below hX K4.out.lt)
      clear hw9 HL2 HB
      try simp only [Act.put, List.setIfInBounds_toArray, List.set_cons_succ, List.set_cons_zero]
      refine AnyL.take (i := 0) (v := .slice (some ⟨G, 0, none⟩) p1 p1) (some 69) rfl rfl (by kernel_rfl) (by kernel_rfl) (by kernel_rfl) (fun _ _ _ h => h) SV (Or.inl ⟨by rfl, ?_⟩) ?_
      · intro X hX; go_simp
      try simp only [Act.put, List.setIfInBounds_toArray, List.set_cons_succ, List.set_cons_zero]
      refine AnyL.take (i := 1) (v := .pointer (some ⟨W.heap.size, 2, none⟩)) (some 70) rfl rfl (by kernel_rfl) (by kernel_rfl) (by kernel_rfl) (fun _ _ _ h => h) SV (Or.inl ⟨by rfl, ?_⟩) ?_
      · intro X hX; go_simp
      try simp only [Act.put, List.setIfInBounds_toArray, List.set_cons_succ, List.set_cons_zero]
      refine AnyL.take (i := 2) (v := .int .i64 (an : Int)) (some 71) rfl rfl (by kernel_rfl) (by kernel_rfl) (by kernel_rfl) (fun _ _ _ h => h) SV (Or.inl ⟨by rfl, ?_⟩) ?_
      · intro X hX; have q := (KO.out X hX.out.1).cellAt 2; have lq := (KO.out X hX.out.1).lt; simp only [List.getElem?_cons_zero, List.getElem?_cons_succ] at q; go_simp
      try simp only [Act.put, List.setIfInBounds_toArray, List.set_cons_succ, List.set_cons_zero]
      refine AnyL.take (i := 3) (v := .slice pv (m2 + 1) cv) (some 72) rfl rfl (by kernel_rfl) (by kernel_rfl) (by kernel_rfl) (fun _ _ _ h => h) SV (Or.inl ⟨by rfl, ?_⟩) ?_
      · intro X hX; go_simp
      try simp only [Act.put, List.setIfInBounds_toArray, List.set_cons_succ, List.set_cons_zero]
      refine AnyL.take (i := 4) (v := .pointer (some ⟨W.heap.size, 3, none⟩)) (some 73) rfl rfl (by kernel_rfl) (by kernel_rfl) (by kernel_rfl) (fun _ _ _ h => h) SV (Or.inl ⟨by rfl, ?_⟩) ?_
      · intro X hX; go_simp
      try simp only [Act.put, List.setIfInBounds_toArray, List.set_cons_succ, List.set_cons_zero]
      refine AnyL.take (i := 5) (v := .int .i64 (fk : Int)) (some 74) rfl rfl (by kernel_rfl) (by kernel_rfl) (by kernel_rfl) (fun _ _ _ h => h) SV (Or.inl ⟨by rfl, ?_⟩) ?_
      · intro X hX; have q := (KO.out X hX.out.1).cellAt 3; have lq := (KO.out X hX.out.1).lt; simp only [List.getElem?_cons_zero, List.getElem?_cons_succ] at q; go_simp
      try simp only [Act.put, List.setIfInBounds_toArray, List.set_cons_succ, List.set_cons_zero]
      refine AnyL.take (i := 7) (v := .pointer (some ⟨W.heap.size, 2, none⟩)) (some 76) rfl rfl (by kernel_rfl) (by kernel_rfl) (by kernel_rfl) (fun _ _ _ h => h) SV (Or.inl ⟨by rfl, ?_⟩) ?_
      · intro X hX; go_simp
      try simp only [Act.put, List.setIfInBounds_toArray, List.set_cons_succ, List.set_cons_zero]
      refine AnyL.take (i := 8) (v := .int .i64 (an : Int)) (some 77) rfl rfl (by kernel_rfl) (by kernel_rfl) (by kernel_rfl) (fun _ _ _ h => h) SV (Or.inl ⟨by rfl, ?_⟩) ?_
      · intro X hX; have q := (KO.out X hX.out.1).cellAt 2; have lq := (KO.out X hX.out.1).lt; simp only [List.getElem?_cons_zero, List.getElem?_cons_succ] at q; go_simp
      try simp only [Act.put, List.setIfInBounds_toArray, List.set_cons_succ, List.set_cons_zero]
      refine AnyL.take (i := 9) (v := .slice pv (m2 + 1) cv) (some 78) rfl rfl (by kernel_rfl) (by kernel_rfl) (by kernel_rfl) (fun _ _ _ h => h) SV (Or.inl ⟨by rfl, ?_⟩) ?_
      · intro X hX; go_simp
      try simp only [Act.put, List.setIfInBounds_toArray, List.set_cons_succ, List.set_cons_zero]
      refine AnyL.take (i := 10) (v := .pointer (some ⟨W.heap.size, 4, none⟩)) (some 79) rfl rfl (by kernel_rfl) (by kernel_rfl) (by kernel_rfl) (fun _ _ _ h => h) SV (Or.inl ⟨by rfl, ?_⟩) ?_
      · intro X hX; go_simp
      try simp only [Act.put, List.setIfInBounds_toArray, List.set_cons_succ, List.set_cons_zero]
      refine AnyL.take (i := 11) (v := .int .i64 (rk : Int)) (some 80) rfl rfl (by kernel_rfl) (by kernel_rfl) (by kernel_rfl) (fun _ _ _ h => h) SV (Or.inl ⟨by rfl, ?_⟩) ?_
      · intro X hX; have q := (KO.out X hX.out.1).cellAt 4; have lq := (KO.out X hX.out.1).lt; simp only [List.getElem?_cons_zero, List.getElem?_cons_succ] at q; go_simp
      try simp only [Act.put, List.setIfInBounds_toArray, List.set_cons_succ, List.set_cons_zero]
      refine AnyL.one (i := 6) rfl (by kernel_rfl) ?_
      refine wpOp_step rfl (fun K hK => ?_)
      go_simp
      refine (HCF.out w9 SV.out.1).mono ?_
      rintro e w10 ⟨Ga, ca, sa, rfl, h1, h2, h3, h4, h5⟩
      have RA := Lib.hid h1
      have SX : Hid (Below w1.heap.size w1 w10 ∧ CRow w10 G (seamP fk rk ps p1) []) := Lib.hid ⟨SV.out.1.trans (h5.mono SV.out.1.size), LsR.below SV.out.2 h5 (Whole.lt SV.out.2)⟩
      have GA : Hid (w1.heap.size ≤ Ga) := Lib.hid (Nat.le_trans SV.out.1.size h2)
      refine hK _ _ ⟨fun _ => SX, ?_⟩
      clear hK K SV h1 h2 h3 h4 h5
      have SV := SX
      clear SX
      try simp only [Act.put, List.setIfInBounds_toArray, List.set_cons_succ, List.set_cons_zero]
      refine AnyL.one (i := 12) rfl (by kernel_rfl) ?_
      refine wpOp_step rfl (fun K hK => ?_)
      go_simp
      refine (HCR.out w10 SV.out.1).mono ?_
      rintro e w11 ⟨Gb, cb, sb, rfl, h1, h2, h3, h4, h5⟩
      have RB := Lib.hid h1
      have RA2 := Lib.hid (LsR.below RA.out h5 (Whole.lt RA.out))
      have SX : Hid (Below w1.heap.size w1 w11 ∧ CRow w11 G (seamP fk rk ps p1) []) := Lib.hid ⟨SV.out.1.trans (h5.mono SV.out.1.size), LsR.below SV.out.2 h5 (Whole.lt SV.out.2)⟩
      have GB : Hid (w1.heap.size ≤ Gb) := Lib.hid (Nat.le_trans SV.out.1.size h2)
      refine hK _ _ ⟨fun _ => SX, ?_⟩
      clear hK K SV h1 h2 h3 h4 h5 RA
      have SV := SX
      clear SX
      try simp only [Act.put, List.setIfInBounds_toArray, List.set_cons_succ, List.set_cons_zero]
      refine AnyL.take (i := 13) (v := .agg #[.slice (some ⟨G, 0, none⟩) p1 p1, .slice (some ⟨Ga, 0, none⟩) an ca, .slice (some ⟨Gb, 0, none⟩) an cb]) (some 82) rfl rfl (by kernel_rfl) (by kernel_rfl) (by kernel_rfl) (fun _ _ _ h => h) SV (Or.inl ⟨by rfl, ?_⟩) ?_
      · intro X hX; go_simp
      try simp only [Act.put, List.setIfInBounds_toArray, List.set_cons_succ, List.set_cons_zero]
      refine AnyL.one (i := 14) rfl (by kernel_rfl) ?_
      refine wpOp_step rfl (fun K hK => ?_)
      have KRS := Lib.hid (E1.out.res.below SV.out.1 E1.out.res.lt)
      refine wp_store_rowC rfl 89 (.tmp 8) (.tmp 82) rfl (W.heap.size + 2) #[.slice (some ⟨G, 0, none⟩) p1 p1, .slice (some ⟨Ga, 0, none⟩) an ca, .slice (some ⟨Gb, 0, none⟩) an cb] rfl rfl 89 #[.slice none 0 0, .slice none 0 0, .slice none 0 0] KRS.out (by kernel_rfl) rfl (by simp [Value.oneCell']) ?_
      refine hK _ _ ⟨fun h => no_last h (by kernel_rfl), ?_⟩
      clear hK K
      refine AnyL.done (by kernel_rfl) ?_
      have l3 : W.heap.size + 2 < w1.heap.size := E1.out.res.lt
      have F1 := Lib.hid (whole_rowO SV.out.2 (W.heap.size + 2) #[.slice (some ⟨G, 0, none⟩) p1 p1, .slice (some ⟨Ga, 0, none⟩) an ca, .slice (some ⟨Gb, 0, none⟩) an cb] (by have := HG.out; omega))
      have F2 := Lib.hid (whole_rowO RA2.out (W.heap.size + 2) #[.slice (some ⟨G, 0, none⟩) p1 p1, .slice (some ⟨Ga, 0, none⟩) an ca, .slice (some ⟨Gb, 0, none⟩) an cb] (by have := GA.out; omega))
      have F3 := Lib.hid (whole_rowO RB.out (W.heap.size + 2) #[.slice (some ⟨G, 0, none⟩) p1 p1, .slice (some ⟨Ga, 0, none⟩) an ca, .slice (some ⟨Gb, 0, none⟩) an cb] (by have := GB.out; omega))
      go_wp2
      refine bodyPost_ret (results_rq (g := W.heap.size + 2) rfl rfl (whole_rowA KRS.out _)) rfl ?_
      refine ⟨some ⟨G, 0, none⟩, some ⟨Ga, 0, none⟩, some ⟨Gb, 0, none⟩, p1, ca, cb, by rw [HP1.out], ?_, ?_, ?_, ?_⟩
      · rw [HP1.out]; exact LsR.rows Cl.cells_len F1.out (seamP_len _ _ _ _) _ (by have := HP1.out; omega)
      · exact LsR.rows Cl.cells_len F2.out (covP_len _ _ _) _ (by omega)
      · exact LsR.rows Cl.cells_len F3.out (covP_len _ _ _) _ (by omega)
      · exact (E1.out.be.trans (SV.out.1.mono E1.out.be.size)).trans (below_setRow (Below.refl _ _) _ _ (by omega))
end Go.Proofs.Ytceippgkmoijdaa
