/- Contracts of heights' cells: lies; and of heights.Right. -/
import Derived.Test.YtpbkboandiigfaaHReq
import Derived.Test.YtpbkboandiigfaaHEdg
import Derived.Test.YtpbkboandiigfaaHIter
import Derived.Test.YtpbkboandiigfaaRndL
namespace Go.Proofs.Ytpbkboandiigfaa
open Go.RowKit Go.Shelf Go.Sort Go.Lib
set_option linter.unusedVariables false
set_option linter.unusedSimpArgs false
attribute [local go_sem] Oper.semAt_some

/-- does a cell lie within so many rows? -/
def lieB (n : Nat) (z : Ht) : Bool := decide (0 < z.rs) && (decide (0 ≤ z.ro) && decide (z.ro ≤ (n : Int) - z.rs))
def hiB (z : Ht) : Bool := decide (0 ≤ z.hi) && decide (z.hi ≤ 1125899906842623)
theorem out_one (M z : Int) : (!([z].any (outB 0 M))) = (decide (0 ≤ z) && decide (z ≤ M)) := by
  unfold outB
  rw [Bool.eq_iff_iff]
  simp
theorem keepsH {W X : World} (h : Below W.heap.size W X) : KeepsOthers W X := ⟨h.size, fun k o hk _ => (h.block k (Array.getElem?_eq_some_iff.1 hk).1).trans hk⟩
theorem htB_eq (n : Nat) (z : Ht) : htB n z = (lieB n z && hiB z) := rfl
/-- the numbers of a cell fit -/
def Ht.fit (z : Ht) : Prop := (-9223372036854775808 ≤ z.rs ∧ z.rs ≤ 9223372036854775807) ∧ (-9223372036854775808 ≤ z.ro ∧ z.ro ≤ 9223372036854775807)
set_option maxHeartbeats 1000000 in
theorem lies_any (z : Ht) (n : Nat) (hn : n ≤ 1000000) (hz : z.fit) (W : World) :
    Calls Try.prog 28 #[z.val, .int .i64 (n : Int)] W fun e X => e = .returned (.bool (lieB n z)) ∧ Below W.heap.size W X := by
  obtain ⟨nd, ro, co, rs, cs, hi⟩ := z
  obtain ⟨hz1, hz2⟩ := hz
  dsimp only at hz1 hz2
  unfold Ht.val
  by_cases h : 0 < rs
  · have hb : Hid (lieB n ⟨nd, ro, co, rs, cs, hi⟩ = !([ro].any (outB 0 ((n : Int) - rs)))) := Lib.hid (by
      unfold lieB outB
      simp only [List.any_cons, List.any_nil, Bool.or_false]
      rw [decide_eq_true h, Bool.true_and, Bool.eq_iff_iff]
      simp)
    have hw : IntKind.i64.wrap ((n : Int) - rs) = (n : Int) - rs := by rw [IntKind.wrap_i64]; omega
    have HW := Lib.hid (fun sv X hI => within_any_kH 0 ((n : Int) - rs) sv [ro] X hI)
    go_enter Try.func28, Try.ntmps28
    go_wp2_with fail
    refine (HW.out _ _ (Ints.whole (t := 3) (whole_new _ _ _ _ (by simp)) rfl (by simp))).mono ?_
    rintro e w1 ⟨rfl, hb1⟩
    have HB := Lib.hid ((((Below.refl _ _).alloc (Nat.le_refl _) _).alloc (by simp) _).trans (hb1.mono (by simp <;> omega)))
    clear hb1 HW
    go_wp2
    go_ret
    exact ⟨by rw [hb.out]; first | rfl | (simp; done) | (simp [go_sem]; done), HB.out⟩
  · have hb : Hid (lieB n ⟨nd, ro, co, rs, cs, hi⟩ = false) := Lib.hid (by unfold lieB; simp [h])
    go_enter Try.func28, Try.ntmps28
    go_wp2
    go_ret
    exact ⟨by rw [hb.out] <;> rfl, (Below.refl _ _).alloc (Nat.le_refl _) _⟩
/-- are requested heights, cells, a gap right? -/
def rightH (ws : List Int) (ps : List Pc) (hs : List Int) (gap : Int) : Bool := decide (hs.length = ps.length) && (okB gap (reqP ws) && (htZ ps hs).all (htB ws.length))
/-- some lengths that came in -/
structure IArg (W : World) (p : Option Addr) (m c : Nat) (zs : List Int) : Prop where
  ints : Ints W (.slice p m c) zs
  len : zs.length = m
  mc : m ≤ c
  cm : c ≤ 9223372036854775807
  form : (p = none ∧ m = 0 ∧ c = 0) ∨ ∃ x, p = some x
  cell : ∀ x, p = some x → ∀ j z, zs[j]? = some z → W.cell? (x.add j) = some (.int .i64 z)
theorem IArg.below {W X : World} {p : Option Addr} {m c : Nat} {zs : List Int} (h : IArg W p m c zs) (hb : Below W.heap.size W X) : IArg X p m c zs :=
  ⟨h.ints.below hb, h.len, h.mc, h.cm, h.form, fun x e j z hz => (hb.cell (p := x.add j) (cell_lt (h.cell x e j z hz))).trans (h.cell x e j z hz)⟩
theorem iarg_nil (W : World) : IArg W none 0 0 [] := ⟨⟨by simp, .inl ⟨none, 0, rfl, rfl⟩⟩, rfl, Nat.le_refl _, by omega, .inl ⟨rfl, rfl, rfl⟩, fun x e => by cases e⟩
/-- what heights.requested answers -/
def ReqQ (ws : List Int) (m : Nat) (W : World) : Ending → World → Prop := fun e X => ∃ p c, e = .returned (.slice p m c) ∧ Below W.heap.size W X ∧ m ≤ c ∧ c ≤ 9223372036854775807 ∧ ((p = none ∧ m = 0 ∧ c = 0) ∨ ∃ G sp, p = some ⟨G, 0, none⟩ ∧ IRow X G (reqP ws) sp ∧ W.heap.size ≤ G)
theorem req_any (p : Option Addr) (m c : Nat) (ws : List Int) (W : World) (h : IArg W p m c ws) (hm : m ≤ 1000000) :
    Calls Try.prog 19 #[.slice p m c] W (ReqQ ws m W) := by
  rcases h.form with ⟨rfl, rfl, rfl⟩ | ⟨x, rfl⟩
  · refine (req_nil W).mono ?_
    rintro e X ⟨rfl, rfl⟩
    exact ⟨none, 0, rfl, Below.refl _ _, Nat.le_refl _, by omega, .inl ⟨rfl, rfl, rfl⟩⟩
  · refine (req_some x m c ws W (h.cell x rfl) h.len hm).mono ?_
    rintro e X ⟨⟨G, cap, sp, rfl, h1, h2, h3, h4⟩, h5⟩
    rw [h.len] at h3 ⊢
    exact ⟨_, cap, rfl, h5, h3, h4, .inr ⟨G, sp, rfl, h1, h2⟩⟩
theorem ReqQ.ints {ws : List Int} {m : Nat} {W X : World} {p : Option Addr} {c : Nat} (hl : ws.length = m) (hm : m ≤ c) (hc : c ≤ 9223372036854775807) (h : (p = none ∧ m = 0 ∧ c = 0) ∨ ∃ G sp, p = some ⟨G, 0, none⟩ ∧ IRow X G (reqP ws) sp ∧ W.heap.size ≤ G) : Ints X (.slice p m c) (reqP ws) := by
  have hr := reqP_len ws
  rcases h with ⟨rfl, rfl, rfl⟩ | ⟨G, sp, rfl, h1, _⟩
  · have : reqP ws = [] := List.length_eq_zero_iff.1 (by omega)
    rw [this]; exact ⟨by simp, .inl ⟨none, 0, rfl, rfl⟩⟩
  · refine ⟨by omega, .inr ⟨G, 0, c, by rw [hr, hl], fun j hj => ?_⟩⟩
    rw [Nat.zero_add]
    exact h1.cell j hj
theorem results_boolH {W : World} {b : Bool} {tmps : Array Value} {fn : Func} (hf : fn.results = #[.tmp 8]) (ht : tmps[8]? = some (.bool b)) : (results fn tmps).run Try.prog W = .ok (.bool b) W := by
  simp [results, hf, go_sem, ht]
def IRH (g gb B : Nat) (sv : Value) (n : Nat) (w : World) (pre : List Ht) (X : World) : Prop := pre.all (htB n) = true ∧ Whole X g 4 [.bool true] ∧ Whole X gb 22 [sv] ∧ Below B w X
def IXH (g B : Nat) (w : World) (bad : Prop) (c : Code) (pre : List Ht) (X : World) : Prop := c = .exit 0 ∧ bad ∧ Whole X g 4 [.bool false] ∧ Below B w X
theorem plain_allH {rest : List Oper} (h : PlainOps rest.toArray = true) : ∀ o ∈ rest, ∀ c, o.op ≠ .defer c := fun o ho => by
  obtain ⟨i, hi⟩ := List.mem_iff_getElem?.1 ho
  exact PlainOps.spec h (i := i) (by simpa using hi)
set_option maxRecDepth 100000 in
set_option maxHeartbeats 4000000 in
theorem hright_any (p q r : Option Addr) (m c k ck h ch : Nat) (ws : List Int) (ps : List Pc) (hs : List Int) (gap : Int) (W : World) (hw : IArg W p m c ws) (hm : m ≤ 1000000) (hp : RowsK Pc.cells 5 W (.slice q k ck) ps) (hpl : ps.length = k) (hh : Ints W (.slice r h ch) hs) (hhl : hs.length = h)
    (hfit : ∀ z ∈ htZ ps hs, z.fit) :
    Calls Try.prog 14 #[.slice p m c, .slice q k ck, .slice r h ch, .int .i64 gap] W fun e X => e = .returned (.bool (rightH ws ps hs gap)) ∧ Below W.heap.size W X := by
  have KB0 : Hid (Whole (W.alloc (.cells #[.slice p m c] 22)) W.heap.size 22 [.slice p m c]) := Lib.hid (whole_new W [.slice p m c] 22 _ rfl)
  have BB0 : Hid (Below W.heap.size W (W.alloc (.cells #[.slice p m c] 22))) := Lib.hid ((Below.refl _ W).alloc (Nat.le_refl _) _)
  have hk1 : k ≤ 9223372036854775807 := by have := hp.1; omega
  refine (callsIn_wide (n := 3)).1 (callsIn_of_wp_marks Try.func14 rfl trivial (wpIn_wide.2 ?_) rfl)
  simp only [Try.ntmps14, List.size_toArray, List.length_cons, List.length_nil, Nat.reduceAdd, Nat.reduceSub, Array.replicate_succ, Array.replicate_zero, List.push_toArray, List.append_toArray, List.nil_append, List.cons_append]
  go_wp2_with fail
  refine wp_scope_straight ?_
  by_cases hne : h = k
  · subst hne
    have HRQ := Lib.hid (fun X (hX : Below W.heap.size W X) => req_any p m c ws X (hw.below hX) hm)
    have HWL := Lib.hid hw.len
    have HPP := Lib.hid (fun X (hX : Below W.heap.size W X) => hp.below hX)
    have HHH := Lib.hid (fun X (hX : Below W.heap.size W X) => hh.below hX)
    have HRR : Hid (rightH ws ps hs gap = (okB gap (reqP ws) && (htZ ps hs).all (htB m))) := Lib.hid (by unfold rightH; rw [hw.len, decide_eq_true (by omega), Bool.true_and])
    have HFT := Lib.hid hfit
    have HPL := Lib.hid (And.intro hpl hhl)
    clear hw hp hpl hh hhl hfit
    go_wp2_with fail
    refine (HRQ.out _ BB0.out).mono ?_
    rintro e w1 ⟨p1, c1, rfl, b1, g1, g2, g3⟩
    have HI1 := Lib.hid (ReqQ.ints (W := W.alloc (.cells #[.slice p m c] 22)) HWL.out g1 g2 g3)
    have HER := Lib.hid (eright_any gap p1 m c1 (reqP ws) w1 HI1.out (by rw [reqP_len, HWL.out]))
    have KB1 := Lib.hid (KB0.out.below b1 KB0.out.lt)
    have BB1 := Lib.hid (BB0.out.trans (b1.mono BB0.out.size))
    obtain ⟨ob, hob⟩ : ∃ b, okB gap (reqP ws) = b := ⟨_, rfl⟩
    rw [hob] at HER HRR
    clear b1 g1 g2 g3 HRQ KB0 BB0 HI1 hob
    cases ob with
    | false =>
      go_wp2_with fail
      refine HER.out.mono ?_
      rintro e w2 ⟨rfl, b2⟩
      have BB2 := Lib.hid (BB1.out.trans (b2.mono BB1.out.size))
      clear b2 HER
      go_wp2
      show LeavesInM _ _ _ _ _ _ _ _ _
      refine leaves_marks W.heap.size [] _ (Marks.nil _ _) (fun W' hck hbk => ⟨.bool false, results_boolH rfl rfl, ⟨by rw [HRR.out]; rfl, BB2.out.trans hbk⟩⟩)
    | true =>
      go_wp2_with fail
      refine HER.out.mono ?_
      rintro e w2 ⟨rfl, b2⟩
      have KB2 := Lib.hid (KB1.out.below b2 KB1.out.lt)
      have BB2 := Lib.hid (BB1.out.trans (b2.mono BB1.out.size))
      clear b2 HER KB1 BB1
      go_wp2_with fail
      refine wp_label ?_
      have HCE := Lib.hid (fun X => cells_any q r h ck h ch X)
      go_wp2_with (first
        | (go_at_call 21; refine (HCE.out _).mono ?_; clear HCE; rintro e w' ⟨rfl, rfl⟩; refine Hid.out ?_)
        | fail)
      have hkW : Whole (((w2.alloc (.cells #[.bool true] 4)).alloc (.cells #[.slice q h ck] 23)).alloc (.cells #[.slice r h ch] 22)) w2.heap.size 4 [.bool true] := ((whole_new w2 [.bool true] 4 _ rfl).alloc _).alloc _
      have hkP : Whole (((w2.alloc (.cells #[.bool true] 4)).alloc (.cells #[.slice q h ck] 23)).alloc (.cells #[.slice r h ch] 22)) (w2.heap.size + 1) 23 [.slice q h ck] := (whole_new (w2.alloc (.cells #[.bool true] 4)) [.slice q h ck] 23 _ (by simp)).alloc _
      have hkH : Whole (((w2.alloc (.cells #[.bool true] 4)).alloc (.cells #[.slice q h ck] 23)).alloc (.cells #[.slice r h ch] 22)) (w2.heap.size + 1 + 1) 22 [.slice r h ch] := whole_new ((w2.alloc (.cells #[.bool true] 4)).alloc (.cells #[.slice q h ck] 23)) [.slice r h ch] 22 _ (by simp)
      have hbW : Below w2.heap.size w2 (((w2.alloc (.cells #[.bool true] 4)).alloc (.cells #[.slice q h ck] 23)).alloc (.cells #[.slice r h ch] 22)) := (((Below.refl _ w2).alloc (Nat.le_refl _) _).alloc (by simp) _).alloc (by simp <;> omega) _
      have hsW : (((w2.alloc (.cells #[.bool true] 4)).alloc (.cells #[.slice q h ck] 23)).alloc (.cells #[.slice r h ch] 22)).heap.size = w2.heap.size + 3 := by simp
      obtain ⟨W3, hW3⟩ : ∃ W3, (((w2.alloc (.cells #[.bool true] 4)).alloc (.cells #[.slice q h ck] 23)).alloc (.cells #[.slice r h ch] 22)) = W3 := ⟨_, rfl⟩
      rw [hW3] at hkW hkP hkH hbW hsW
      have KB3 := Lib.hid (KB2.out.below hbW KB2.out.lt)
      have BB3 := Lib.hid (BB2.out.trans (hbW.mono BB2.out.size))
      have HS := Lib.hid (cells_keep 2 (by omega) (w2.heap.size + 1) (w2.heap.size + 1 + 1) q r h ck ch hk1 ps hs HPL.out.1 HPL.out.2 W3 ⟨hkP.cellAt 0, hkH.cellAt 0⟩ (HPP.out W3 BB3.out) (HHH.out W3 BB3.out))
      have KW := Lib.hid hkW
      have SW := Lib.hid hsW
      have lb2 : W.heap.size < w2.heap.size := KB2.out.lt
      obtain ⟨gb, hgb⟩ : ∃ g, w2.heap.size = g := ⟨_, rfl⟩
      rw [hgb] at KW SW HS lb2
      have hlg : gb + 3 = W3.heap.size := SW.out.symm
      rw [hgb, hW3]
      clear hkW hkP hkH hbW hsW hW3 HPP HHH KB2 BB2 hgb
      refine Lib.hid ?_
      go_wp2_with fail
      refine (wpIn_wide (n := 3)).1 (range_keep (F := Fence.wide) rfl (by omega) (gf := 41) (lb := #[.pointer (some ⟨gb + 1, 0, none⟩), .pointer (some ⟨gb + 1 + 1, 0, none⟩)]) rfl trivial (enters_of Try.func41 (by kernel_rfl) rfl)
        (Kp := KeepBut [W3.heap.size + 1]) (fun _ _ _ h k => h.trans k) (fun W o _ => KeepBut.put W _ o (by simp)) HS.out (fun _ => rfl)
        (IRH gb W.heap.size W.heap.size (.slice p m c) m W) (IXH gb W.heap.size W ((htZ ps hs).all (htB m) = false))
        (fun s X Y h hb => ⟨h.1, h.2.1.below hb (by omega), h.2.2.1.below hb (by omega), h.2.2.2.trans (hb.mono (by omega))⟩)
        (fun cd s X Y h hb => ⟨h.1, h.2.1, h.2.2.1.below hb (by omega), h.2.2.2.trans (hb.mono (by omega))⟩)
        ⟨rfl, KW.out, KB3.out, BB3.out⟩ ?round ?done ?stop)
      case round =>
        rintro l pre x V hl ⟨hall, v1, v4, hbV⟩ hnx
        have hmem := List.mem_of_getElem? hnx
        have LA := Lib.hid (fun X => lies_any x m hm (HFT.out x hmem) X)
        have HWI := Lib.hid (fun sv X hI => within_anyH 0 1125899906842623 sv [x.hi] X hI)
        have HBAD : Hid (htB m x = false → (htZ ps hs).all (htB m) = false) := Lib.hid (fun e => by rw [List.all_eq_false]; exact ⟨x, hmem, by simpa using e⟩)
        have HAL : Hid (htB m x = true → (pre ++ [x]).all (htB m) = true) := Lib.hid (fun e => by rw [List.all_append, hall]; simpa using e)
        have HHB := Lib.hid (htB_eq m x)
        have HHI : Hid ((!([x.hi].any (outB 0 1125899906842623))) = hiB x) := Lib.hid (out_one _ _)
        rw [HHI.out] at HWI
        obtain ⟨lb, hlb⟩ : ∃ b, lieB m x = b := ⟨_, rfl⟩
        obtain ⟨hb', hhb⟩ : ∃ b, hiB x = b := ⟨_, rfl⟩
        obtain ⟨tb, htb⟩ : ∃ b, htB m x = b := ⟨_, rfl⟩
        rw [hlb] at LA
        rw [hhb] at HWI
        rw [hlb, hhb, htb] at HHB
        rw [htb] at HBAD HAL
        clear hlb hhb htb HHI hmem hnx HFT
        obtain ⟨nd, ro, co, rs, cs, hi⟩ := x
        dsimp only at HWI
        dsimp only [Ht.val] at LA
        apply Exists.intro
        apply Exists.intro
        refine ⟨?_, ?_, ?_, ?_⟩
        · intro K hK
          dsimp only [Ht.val]
          gi_wp2
          exact hK
        · exact (KeepsOthers.alloc V _).from _
        · exact KeepBut.of_below ((Below.refl _ V).alloc (Nat.le_refl _) _)
        · intro V₂ hgV hnc' hbl
          have kx : Whole (V.alloc (.cells #[.int .i64 nd, .int .i64 ro, .int .i64 co, .int .i64 rs, .int .i64 cs, .int .i64 hi] 45)) V.heap.size 45 [.int .i64 nd, .int .i64 ro, .int .i64 co, .int .i64 rs, .int .i64 cs, .int .i64 hi] := whole_new V _ 45 _ rfl
          have x1 := (v1.alloc (.cells #[.int .i64 nd, .int .i64 ro, .int .i64 co, .int .i64 rs, .int .i64 cs, .int .i64 hi] 45))
          have x4 := (v4.alloc (.cells #[.int .i64 nd, .int .i64 ro, .int .i64 co, .int .i64 rs, .int .i64 cs, .int .i64 hi] 45))
          have xb := hbV.alloc hbV.size (.cells #[.int .i64 nd, .int .i64 ro, .int .i64 co, .int .i64 rs, .int .i64 cs, .int .i64 hi] 45)
          have kx2 := kx.grown hgV (kx.ne hnc')
          have y1 := x1.grown hgV (x1.ne hnc')
          have y4 := x4.grown hgV (x4.ne hnc')
          have yb : Below W.heap.size W V₂ := xb.grown hgV xb.size (fun k e => by cases e; have := hbV.size; omega)
          have n0 := kx2.cellAt 0
          have n1 := kx2.cellAt 1
          have n2 := kx2.cellAt 2
          have n3 := kx2.cellAt 3
          have n4 := kx2.cellAt 4
          have n5 := kx2.cellAt 5
          have ln := kx2.lt
          have m0 := y4.cellAt 0
          have lm := y4.lt
          simp only [List.getElem?_cons_zero, List.getElem?_cons_succ] at n0 n1 n2 n3 n4 n5 m0
          have Y1 := Lib.hid y1
          have Y4 := Lib.hid y4
          have YB := Lib.hid yb
          have YX := Lib.hid kx2
          clear kx x1 x4 xb kx2 y1 y4 yb v1 v4 hbV hgV hnc' hbl HS hall
          gi_wp2_with (refine listIn_of_plain (by first | (rintro ⟨x, y, h⟩; exact h) | (simp only [LetsOut, Exit.inBlock, Exit.then]; rintro ⟨x, y, h⟩; exact h)) _ (plain_allH (by kernel_rfl)) _ _ ?_)
          go_wp2_with (first
            | (go_at_call 28; refine (LA.out _).mono ?_; rintro e w6 ⟨rfl, hb6⟩; refine Hid.out ?_)
            | fail)
          have Z1 := Lib.hid (Y1.out.below hb6 Y1.out.lt)
          have Z4 := Lib.hid (Y4.out.below hb6 Y4.out.lt)
          have ZB := Lib.hid (YB.out.trans (hb6.mono YB.out.size))
          have ZX := Lib.hid (YX.out.below hb6 YX.out.lt)
          have ZK := Lib.hid (keepsH hb6)
          have ZP := Lib.hid (KeepBut.of_below (E := [W3.heap.size + 1]) hb6)
          clear n0 n1 n2 n3 n4 n5 ln m0 lm Y1 Y4 YB YX hb6 LA
          refine Lib.hid ?_
          cases lb with
          | false =>
            have HB := Lib.hid (HBAD.out HHB.out)
            have f0 := Z1.out.free 0
            have c0 := Z1.out.cellAt 0
            have l0 := Z1.out.lt
            clear HBAD HAL HHB HWI
            go_wp2_with fail
            gi_wp2
            exact ⟨(ZK.out.from _).trans ((KeepsOthers.setCell _ _ _).from _), rfl, HB.out, Z1.out.set 0 _, ZB.out.setCell (p := ⟨gb, 0, none⟩) (by simp; omega) _⟩
          | true =>
            go_wp2_with fail
            have g5 := ZX.out.cellAt 5
            have lg := ZX.out.lt
            simp only [List.getElem?_cons_zero, List.getElem?_cons_succ] at g5
            gi_wp2_with (refine listIn_of_plain (by first | (rintro ⟨x, y, h⟩; exact h) | (simp only [LetsOut, Exit.inBlock, Exit.then]; rintro ⟨x, y, h⟩; exact h)) _ (plain_allH (by kernel_rfl)) _ _ ?_)
            have hIB : Ints (w6.alloc (.cells #[.int .i64 hi] 2)) (.slice (some ⟨w6.heap.size, 0, none⟩) 1 1) [hi] := Ints.whole (t := 2) (whole_new _ _ _ _ (by simp)) rfl (by simp)
            have HW2 := Lib.hid (HWI.out _ _ hIB)
            go_wp2_with (first
              | (go_at_call 29; refine HW2.out.mono ?_; rintro e w7 ⟨rfl, hb7⟩; refine Hid.out ?_)
              | fail)
            have hb67 : Below w6.heap.size w6 w7 := ((Below.refl _ w6).alloc (Nat.le_refl _) _).trans (hb7.mono (by simp))
            have X1 := Lib.hid (Z1.out.below hb67 Z1.out.lt)
            have X4 := Lib.hid (Z4.out.below hb67 Z4.out.lt)
            have XB := Lib.hid (ZB.out.trans (hb67.mono ZB.out.size))
            have XK := Lib.hid (ZK.out.trans (keepsH hb67))
            have XP := Lib.hid (ZP.out.trans (KeepBut.of_below (E := [W3.heap.size + 1]) hb67))
            clear hb7 hb67 HW2 HWI g5 lg ZX Z1 Z4 ZB ZK ZP hIB
            refine Lib.hid ?_
            cases hb' with
            | false =>
              have HB := Lib.hid (HBAD.out HHB.out)
              have f0 := X1.out.free 0
              have c0 := X1.out.cellAt 0
              have l0 := X1.out.lt
              clear HBAD HAL HHB
              go_wp2_with fail
              gi_wp2
              exact ⟨(XK.out.from _).trans ((KeepsOthers.setCell _ _ _).from _), rfl, HB.out, X1.out.set 0 _, XB.out.setCell (p := ⟨gb, 0, none⟩) (by simp; omega) _⟩
            | true =>
              have HA := Lib.hid (HAL.out HHB.out)
              clear HBAD HAL HHB
              go_wp2_with fail
              gi_wp2
              exact ⟨XK.out.from _, XP.out, HA.out, X1.out, X4.out, XB.out⟩
      case done =>
        rintro D xs V hD hxs ⟨hall, v1, v4, hbV⟩ hK
        have HQ : Hid ((htZ ps hs).all (htB m) = true) := Lib.hid (by rw [← hxs]; exact hall)
        have f1 := v1.free 0
        have c1 := v1.cellAt 0
        have l1 := v1.lt
        simp only [List.getElem?_cons_zero] at c1
        have HBV := Lib.hid hbV
        have HKK := Lib.hid hK
        clear v1 v4 hbV hK hxs hall HS
        go_wp2
        show LeavesInM _ _ _ _ _ _ _ _ _
        refine leaves_marks W.heap.size [D] _ ((Marks.nil W.heap.size _).cons (D := D) (by omega) HKK.out (fun E hE => by cases hE)) (fun W' hck hbk => ⟨.bool true, results_boolH rfl rfl, ⟨by rw [HRR.out, HQ.out]; rfl, HBV.out.trans hbk⟩⟩)
      case stop =>
        rintro D cd pre V hD _ ⟨rfl, hbad, v1, hbV⟩ hK
        have f1 := v1.free 0
        have c1 := v1.cellAt 0
        have l1 := v1.lt
        simp only [List.getElem?_cons_zero] at c1
        have HQ := Lib.hid hbad
        have HBV := Lib.hid hbV
        have HKK := Lib.hid hK
        clear v1 hbV hK hbad HS
        gi_wp2
        go_wp2
        show LeavesInM _ _ _ _ _ _ _ _ _
        refine leaves_marks W.heap.size [D] _ ((Marks.nil W.heap.size _).cons (D := D) (by omega) HKK.out (fun E hE => by cases hE)) (fun W' hck hbk => ⟨.bool false, results_boolH rfl rfl, ⟨by rw [HRR.out, HQ.out]; rfl, HBV.out.trans hbk⟩⟩)
  · have HRR : Hid (rightH ws ps hs gap = false) := Lib.hid (by unfold rightH; rw [decide_eq_false (by omega), Bool.false_and])
    have hne' : ((h : Int) == (k : Int)) = false := by simp; omega
    clear hw hp hpl hh hhl hfit KB0
    go_wp2
    show LeavesInM _ _ _ _ _ _ _ _ _
    refine leaves_marks W.heap.size [] _ (Marks.nil _ _) (fun W' hck hbk => ⟨.bool false, results_boolH rfl rfl, ⟨by rw [HRR.out], BB0.out.trans hbk⟩⟩)
end Go.Proofs.Ytpbkboandiigfaa
