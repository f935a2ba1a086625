/- Framings; contract of collapse.netOf. -/
import Derived.Test.YtceippgkmoijdaaCoRR
import Derived.Laws.ResultCell
import Derived.Test.YtceippgkmoijdaaCoSl
namespace Go.Proofs.Ytceippgkmoijdaa
open Go.RowKit Go.Shelf
set_option linter.unusedVariables false
set_option linter.unusedSimpArgs false

/-- a framing: its numbers, and what its slices hold -/
structure Fm where
  rows : Int
  cols : Int
  ps : List Pz
  cs : List Fr
  rr : List Rn
  rg : List Rn
  cr : List Rn
  cg : List Rn
  tb : Fr
/-- a framing's slices -/
structure FmV where
  pv : Value
  cv : Value
  rv : Value
  gv : Value
  kv : Value
  hv : Value
def Fm.cells (f : Fm) (v : FmV) : List Value := [.int .i64 f.rows, .int .i64 f.cols, v.pv, v.cv, v.rv, v.gv, v.kv, v.hv] ++ f.tb.cells
def Fm.val (f : Fm) (v : FmV) : Value := .agg (f.cells v).toArray
/-- a framing in memory -/
structure FmAt (W : World) (f : Fm) (v : FmV) : Prop where
  ps : PsAt W v.pv f.ps
  pok : ∀ p ∈ f.ps, p.ok
  cs : RowsK Fr.cells 12 W v.cv f.cs
  rr : RowsK Rn.cells 14 W v.rv f.rr
  rg : RowsK Rn.cells 14 W v.gv f.rg
  cr : RowsK Rn.cells 14 W v.kv f.cr
  cg : RowsK Rn.cells 14 W v.hv f.cg
  r64 : I64 f.rows
  c64 : I64 f.cols
theorem FmAt.below {W X : World} {f : Fm} {v : FmV} (h : FmAt W f v) (hb : Below W.heap.size W X) : FmAt X f v :=
  ⟨h.ps.below hb, h.pok, h.cs.below hb, h.rr.below hb, h.rg.below hb, h.cr.below hb, h.cg.below hb, h.r64, h.c64⟩
/-- a right framing -/
structure okF (f : Fm) : Prop where
  few : ¬ 10000 < IntKind.i64.wrap (f.rows * f.cols)
  len : f.cs.length = f.ps.length
  rows : (f.rr ++ f.rg).all (rnB f.rows) = true
  cols : (f.cr ++ f.cg).all (rnB f.cols) = true
  cs : f.cs.all frB = true
  tb : frB f.tb = true
  size : SizeQ f.rows f.cols
  own : OwnQ f.rows.toNat f.cols.toNat f.ps
theorem two_at {X : World} {g : Nat} {u v : Value} {A B : List Rn} (h : Whole X g 24 [u, v]) (ha : RowsK Rn.cells 14 X u A) (hb : RowsK Rn.cells 14 X v B) : LsAt X (.slice (some ⟨g, 0, none⟩) 2 2) [A, B] := by
  refine ⟨by simp, g, 2, rfl, h.lt, fun i L hi => ?_⟩
  rcases i with _ | _ | i
  · simp at hi; subst hi
    obtain ⟨p, c, e⟩ := ha.slice
    exact ⟨p, c, by rw [h.cellAt]; simp [e], by rw [← e]; exact ha⟩
  · simp at hi; subst hi
    obtain ⟨p, c, e⟩ := hb.slice
    exact ⟨p, c, by rw [h.cellAt]; simp [e], by rw [← e]; exact hb⟩
  · simp at hi
theorem tb_at {X : World} {g t : Nat} {l : List Value} {s : Fr} (hl : l.length = 8) (h : Whole X g t (l ++ s.cells)) : RowsK Li.cells 3 X (.slice (some ⟨g, 8, none⟩) 4 4) s.list := by
  refine ⟨by simp [Fr.list], .inr ⟨g, 8, 4, rfl, h.lt, fun j hj i v' hv => ?_⟩⟩
  have hi : i < 3 := (List.getElem?_eq_some_iff.1 hv).1
  have hf := flat_getK Li.cells 3 Li.cells_len s.list j i hi hj
  rw [Fr.flat] at hf
  rw [h.cellAt, List.getElem?_append_right (by omega), show 8 + j * 3 + i - l.length = j * 3 + i by omega, hf, hv]
theorem results_net {fn : Func} {W : World} {g : Nat} {r k : Int} {o v : Value} {tmps : Array Value} (hf : fn.results = #[.cell 2 64, .tmp 3]) (ht : tmps[2]? = some (.pointer (some ⟨g, 0, none⟩))) (hv : tmps[3]? = some v) (h : Whole W g 64 [.int .i64 r, .int .i64 k, o]) :
    (results fn tmps).run Try.prog W = .ok (.tuple #[.agg #[.int .i64 r, .int .i64 k, o], v]) W := by
  have h2 : tmps.getD 2 undef = .pointer (some ⟨g, 0, none⟩) := by simp [Array.getD_eq_getD_getElem?, ht]
  have h3 : tmps.getD 3 undef = v := by simp [Array.getD_eq_getD_getElem?, hv]
  have hl := run_loadVar_row (P := Try.prog) W g 64 64 #[.int .i64 r, .int .i64 k, o] (0, 0) _ h Try.underlying64 rfl (by kernel_rfl)
  rw [results_cell_tmp hf, h2, h3]
  simp [asAddr, hl]
/-- what netOf answers -/
def NetPost (f : Fm) (W : World) (e : Ending) (W' : World) : Prop :=
  ((okF f ∧ ∃ p c, e = .returned (.tuple #[.agg #[.int .i64 f.rows, .int .i64 f.cols, .slice p f.rows.toNat c], .bool true]) ∧ RowsZ W' (.slice p f.rows.toNat c) (ownM f.ps f.rows.toNat f.cols.toNat)) ∨ (¬ okF f ∧ ∃ r k p n c, e = .returned (.tuple #[.agg #[.int .i64 r, .int .i64 k, .slice p n c], .bool false]))) ∧ Below W.heap.size W W'
set_option maxRecDepth 100000 in
set_option maxHeartbeats 8000000 in
theorem netOf_at (r k : Int) (ps : List Pz) (cs : List Fr) (rr rg cr cg : List Rn) (a0 a1 a2 b0 b1 b2 c0 c1 c2 d0 d1 d2 : Int) (pp cp ap bp dp ep : Option Addr) (pn pc cn cc an ac bn bc dn dc en ec : Nat) (W : World)
    (hf : FmAt W ⟨r, k, ps, cs, rr, rg, cr, cg, ⟨⟨a0, a1, a2⟩, ⟨b0, b1, b2⟩, ⟨c0, c1, c2⟩, ⟨d0, d1, d2⟩⟩⟩ ⟨.slice pp pn pc, .slice cp cn cc, .slice ap an ac, .slice bp bn bc, .slice dp dn dc, .slice ep en ec⟩) : Calls Try.prog 23 #[.agg #[.int .i64 r, .int .i64 k, .slice pp pn pc, .slice cp cn cc, .slice ap an ac, .slice bp bn bc, .slice dp dn dc, .slice ep en ec, .int .i64 a0, .int .i64 a1, .int .u32 a2, .int .i64 b0, .int .i64 b1, .int .u32 b2, .int .i64 c0, .int .i64 c1, .int .u32 c2, .int .i64 d0, .int .i64 d1, .int .u32 d2]] W (NetPost ⟨r, k, ps, cs, rr, rg, cr, cg, ⟨⟨a0, a1, a2⟩, ⟨b0, b1, b2⟩, ⟨c0, c1, c2⟩, ⟨d0, d1, d2⟩⟩⟩ W) := by
  have HF := Lib.hid (fun X (hX : Below W.heap.size W X) => hf.below hX)
  have hr64 := hf.r64
  have hc64 := hf.c64
  have hcn : cs.length = cn := hf.cs.len
  have hpn : ps.length = pn := by
    obtain ⟨_, ⟨a, c, e, h0⟩ | ⟨b, off, c, e, _⟩⟩ := hf.ps
    · dsimp only at e h0; injection e with _ e _; rw [h0, e]; rfl
    · dsimp only at e; injection e with _ e _; exact e.symm
  have HCN := Lib.hid hcn
  have HPN := Lib.hid hpn
  obtain ⟨R, hR⟩ : ∃ R : Fm, R = ⟨r, k, ps, cs, rr, rg, cr, cg, ⟨⟨a0, a1, a2⟩, ⟨b0, b1, b2⟩, ⟨c0, c1, c2⟩, ⟨d0, d1, d2⟩⟩⟩ := ⟨_, rfl⟩
  have HRR := Lib.hid hR
  rw [← hR]
  obtain ⟨mu, hmu⟩ : ∃ mu, IntKind.i64.wrap (r * k) = mu := ⟨_, rfl⟩
  have HMU := Lib.hid hmu
  -- its own copy of the framing, and the answer's place
  have KB : Hid (Whole ((W.alloc (.cells #[.int .i64 r, .int .i64 k, .slice pp pn pc, .slice cp cn cc, .slice ap an ac, .slice bp bn bc, .slice dp dn dc, .slice ep en ec, .int .i64 a0, .int .i64 a1, .int .u32 a2, .int .i64 b0, .int .i64 b1, .int .u32 b2, .int .i64 c0, .int .i64 c1, .int .u32 c2, .int .i64 d0, .int .i64 d1, .int .u32 d2] 30)).alloc (.cells #[.int .i64 0, .int .i64 0, .slice none 0 0] 64)) W.heap.size 30 ([.int .i64 r, .int .i64 k, .slice pp pn pc, .slice cp cn cc, .slice ap an ac, .slice bp bn bc, .slice dp dn dc, .slice ep en ec] ++ Fr.cells ⟨⟨a0, a1, a2⟩, ⟨b0, b1, b2⟩, ⟨c0, c1, c2⟩, ⟨d0, d1, d2⟩⟩)) := Lib.hid ((whole_new W ([.int .i64 r, .int .i64 k, .slice pp pn pc, .slice cp cn cc, .slice ap an ac, .slice bp bn bc, .slice dp dn dc, .slice ep en ec] ++ Fr.cells ⟨⟨a0, a1, a2⟩, ⟨b0, b1, b2⟩, ⟨c0, c1, c2⟩, ⟨d0, d1, d2⟩⟩) 30 _ rfl).alloc _)
  have KN : Hid (Whole ((W.alloc (.cells #[.int .i64 r, .int .i64 k, .slice pp pn pc, .slice cp cn cc, .slice ap an ac, .slice bp bn bc, .slice dp dn dc, .slice ep en ec, .int .i64 a0, .int .i64 a1, .int .u32 a2, .int .i64 b0, .int .i64 b1, .int .u32 b2, .int .i64 c0, .int .i64 c1, .int .u32 c2, .int .i64 d0, .int .i64 d1, .int .u32 d2] 30)).alloc (.cells #[.int .i64 0, .int .i64 0, .slice none 0 0] 64)) (W.heap.size + 1) 64 [.int .i64 0, .int .i64 0, .slice none 0 0]) := Lib.hid (whole_new _ [.int .i64 0, .int .i64 0, .slice none 0 0] 64 _ (by simp))
  have HB : Hid (Below W.heap.size W ((W.alloc (.cells #[.int .i64 r, .int .i64 k, .slice pp pn pc, .slice cp cn cc, .slice ap an ac, .slice bp bn bc, .slice dp dn dc, .slice ep en ec, .int .i64 a0, .int .i64 a1, .int .u32 a2, .int .i64 b0, .int .i64 b1, .int .u32 b2, .int .i64 c0, .int .i64 c1, .int .u32 c2, .int .i64 d0, .int .i64 d1, .int .u32 d2] 30)).alloc (.cells #[.int .i64 0, .int .i64 0, .slice none 0 0] 64))) := Lib.hid (((Below.refl _ W).alloc (Nat.le_refl _) _).alloc (by simp) _)
  obtain ⟨K0, hK0⟩ : ∃ K0, (W.alloc (.cells #[.int .i64 r, .int .i64 k, .slice pp pn pc, .slice cp cn cc, .slice ap an ac, .slice bp bn bc, .slice dp dn dc, .slice ep en ec, .int .i64 a0, .int .i64 a1, .int .u32 a2, .int .i64 b0, .int .i64 b1, .int .u32 b2, .int .i64 c0, .int .i64 c1, .int .u32 c2, .int .i64 d0, .int .i64 d1, .int .u32 d2] 30)).alloc (.cells #[.int .i64 0, .int .i64 0, .slice none 0 0] 64) = K0 := ⟨_, rfl⟩
  rw [hK0] at KB KN HB
  have HK0 := Lib.hid hK0
  have hks : Hid (K0.heap.size = W.heap.size + 2) := Lib.hid (by rw [← hK0]; simp)
  -- what the calls answer
  obtain ⟨q1, hq1⟩ : ∃ q, (rr ++ rg).all (rnB r) = q := ⟨_, rfl⟩
  obtain ⟨q2, hq2⟩ : ∃ q, (cr ++ cg).all (rnB k) = q := ⟨_, rfl⟩
  obtain ⟨q3, hq3⟩ : ∃ q, cs.all frB = q := ⟨_, rfl⟩
  obtain ⟨q4, hq4⟩ : ∃ q, frB ⟨⟨a0, a1, a2⟩, ⟨b0, b1, b2⟩, ⟨c0, c1, c2⟩, ⟨d0, d1, d2⟩⟩ = q := ⟨_, rfl⟩
  have HQ1 := Lib.hid hq1
  have HQ2 := Lib.hid hq2
  have HQ3 := Lib.hid hq3
  have HQ4 := Lib.hid hq4
  have C1 : Hid (∀ X, Below W.heap.size W X → Calls Try.prog 38 #[.int .i64 r, .slice (some ⟨X.heap.size, 0, none⟩) 2 2] (X.alloc (.cells #[.slice ap an ac, .slice bp bn bc] 24)) fun e W' => e = .returned (.bool q1) ∧ Below X.heap.size X W') := Lib.hid fun X hX => by
    have h := hf.below (hX.alloc hX.size (.cells #[.slice ap an ac, .slice bp bn bc] 24))
    have := rightRuns_any r hr64.1 hr64.2 _ [rr, rg] _ (two_at (whole_new X [.slice ap an ac, .slice bp bn bc] 24 _ rfl) h.rr h.rg)
    refine this.mono ?_
    rintro e W' ⟨rfl, hb⟩
    exact ⟨by rw [← hq1]; simp, ((Below.refl _ X).alloc (Nat.le_refl _) _).trans (hb.mono (by simp))⟩
  have C2 : Hid (∀ X, Below W.heap.size W X → Calls Try.prog 38 #[.int .i64 k, .slice (some ⟨X.heap.size, 0, none⟩) 2 2] (X.alloc (.cells #[.slice dp dn dc, .slice ep en ec] 24)) fun e W' => e = .returned (.bool q2) ∧ Below X.heap.size X W') := Lib.hid fun X hX => by
    have h := hf.below (hX.alloc hX.size (.cells #[.slice dp dn dc, .slice ep en ec] 24))
    have := rightRuns_any k hc64.1 hc64.2 _ [cr, cg] _ (two_at (whole_new X [.slice dp dn dc, .slice ep en ec] 24 _ rfl) h.cr h.cg)
    refine this.mono ?_
    rintro e W' ⟨rfl, hb⟩
    exact ⟨by rw [← hq2]; simp, ((Below.refl _ X).alloc (Nat.le_refl _) _).trans (hb.mono (by simp))⟩
  have C3 : Hid (∀ X, Below W.heap.size W X → Calls Try.prog 39 #[.slice cp cn cc] X fun e W' => e = .returned (.bool q3) ∧ Below X.heap.size X W') := Lib.hid fun X hX => by
    rw [← hq3]; exact rightCells_any _ cs X (hf.below hX).cs
  have C4 : Hid (∀ X, Whole X W.heap.size 30 ([.int .i64 r, .int .i64 k, .slice pp pn pc, .slice cp cn cc, .slice ap an ac, .slice bp bn bc, .slice dp dn dc, .slice ep en ec] ++ Fr.cells ⟨⟨a0, a1, a2⟩, ⟨b0, b1, b2⟩, ⟨c0, c1, c2⟩, ⟨d0, d1, d2⟩⟩) → Calls Try.prog 40 #[.slice (some ⟨W.heap.size, 8, none⟩) 4 4] X fun e W' => e = .returned (.bool q4) ∧ Below X.heap.size X W') := Lib.hid fun X hX => by
    rw [← hq4]; exact rightLines_any _ (Fr.list ⟨⟨a0, a1, a2⟩, ⟨b0, b1, b2⟩, ⟨c0, c1, c2⟩, ⟨d0, d1, d2⟩⟩) X (tb_at rfl hX)
  have hI1 := hr64.1
  have hI2 := hr64.2
  have hI3 := hc64.1
  have hI4 := hc64.2
  clear hf hq1 hq2 hq3 hq4 hR hK0 hcn hpn hmu hr64 hc64
  by_cases p0 : 10000 < mu
  · have hno : Hid (¬ okF R) := Lib.hid (fun h => by rw [HRR.out] at h; exact h.few (by rw [HMU.out]; exact p0))
    have hK0 := HK0.out
    have hmu := HMU.out
    have kb := KB.out
    have kn := KN.out
    have c0 := kb.cellAt 0
    have c1 := kb.cellAt 1
    have c2 := kb.cellAt 2
    have c3 := kb.cellAt 3
    have c4 := kb.cellAt 4
    have c5 := kb.cellAt 5
    have c6 := kb.cellAt 6
    have c7 := kb.cellAt 7
    have lb := kb.lt
    have ln := kn.lt
    have f0 := kn.free 0
    have f1 := kn.free 1
    have f2 := kn.free 2
    have e0 := kn.cellAt 0
    have e1 := kn.cellAt 1
    have e2 := kn.cellAt 2
    simp only [Fr.cells, Li.cells, List.cons_append, List.nil_append, List.getElem?_cons_zero, List.getElem?_cons_succ] at c0 c1 c2 c3 c4 c5 c6 c7 e0 e1 e2
    clear kb kn
    go_enter Try.func23, Try.ntmps23
    go_wp2
    refine bodyPost_ret (results_net (g := W.heap.size + 1) (r := 0) (k := 0) (o := .slice none 0 0) (v := .bool false) rfl rfl rfl (((Whole.set KN.out 0 (.int .i64 0)).set 1 (.int .i64 0)).set 2 (.slice none 0 0))) rfl ⟨.inr ⟨hno.out, 0, 0, none, 0, 0, rfl⟩, ?_⟩
    exact ((HB.out.setCell (p := ⟨W.heap.size + 1, 0, none⟩) (by simp) _).setCell (p := ⟨W.heap.size + 1, 1, none⟩) (by simp) _).setCell (p := ⟨W.heap.size + 1, 2, none⟩) (by simp) _
  by_cases p1 : cn = pn
  · subst p1
    cases q1 with
    | false =>
      have hno : Hid (¬ okF R) := Lib.hid (fun h => by rw [HRR.out] at h; have := h.rows; dsimp only at this; rw [HQ1.out] at this; cases this)
      have hK0 := HK0.out
      have hmu := HMU.out
      have kb := KB.out
      have kn := KN.out
      have c0 := kb.cellAt 0
      have c1 := kb.cellAt 1
      have c2 := kb.cellAt 2
      have c3 := kb.cellAt 3
      have c4 := kb.cellAt 4
      have c5 := kb.cellAt 5
      have c6 := kb.cellAt 6
      have c7 := kb.cellAt 7
      have lb := kb.lt
      have ln := kn.lt
      have f0 := kn.free 0
      have f1 := kn.free 1
      have f2 := kn.free 2
      have e0 := kn.cellAt 0
      have e1 := kn.cellAt 1
      have e2 := kn.cellAt 2
      simp only [Fr.cells, Li.cells, List.cons_append, List.nil_append, List.getElem?_cons_zero, List.getElem?_cons_succ] at c0 c1 c2 c3 c4 c5 c6 c7 e0 e1 e2
      clear kb kn
      go_enter Try.func23, Try.ntmps23
      go_wp2_with fail
      try rw [hK0]
      refine (C1.out _ HB.out).mono ?_
      rintro e w9 ⟨rfl, hb9⟩
      clear hK0
      have KB9 := Lib.hid (Whole.below KB.out hb9 KB.out.lt)
      have KN9 := Lib.hid (Whole.below KN.out hb9 KN.out.lt)
      have HB9 := Lib.hid (HB.out.trans (Below.mono hb9 HB.out.size))
      clear hb9 c0 c1 c2 c3 c4 c5 c6 c7 lb ln f0 f1 f2 e0 e1 e2 KB KN HB
      have KB := KB9
      have KN := KN9
      have HB := HB9
      clear KB9 KN9 HB9
      have kb := KB.out
      have kn := KN.out
      have c0 := kb.cellAt 0
      have c1 := kb.cellAt 1
      have c2 := kb.cellAt 2
      have c3 := kb.cellAt 3
      have c4 := kb.cellAt 4
      have c5 := kb.cellAt 5
      have c6 := kb.cellAt 6
      have c7 := kb.cellAt 7
      have lb := kb.lt
      have ln := kn.lt
      have f0 := kn.free 0
      have f1 := kn.free 1
      have f2 := kn.free 2
      have e0 := kn.cellAt 0
      have e1 := kn.cellAt 1
      have e2 := kn.cellAt 2
      simp only [Fr.cells, Li.cells, List.cons_append, List.nil_append, List.getElem?_cons_zero, List.getElem?_cons_succ] at c0 c1 c2 c3 c4 c5 c6 c7 e0 e1 e2
      clear kb kn
      go_wp2
      refine bodyPost_ret (results_net (g := W.heap.size + 1) (r := 0) (k := 0) (o := .slice none 0 0) (v := .bool false) rfl rfl rfl (((Whole.set KN.out 0 (.int .i64 0)).set 1 (.int .i64 0)).set 2 (.slice none 0 0))) rfl ⟨.inr ⟨hno.out, 0, 0, none, 0, 0, rfl⟩, ?_⟩
      exact ((HB.out.setCell (p := ⟨W.heap.size + 1, 0, none⟩) (by simp) _).setCell (p := ⟨W.heap.size + 1, 1, none⟩) (by simp) _).setCell (p := ⟨W.heap.size + 1, 2, none⟩) (by simp) _
    | true =>
      cases q2 with
      | false =>
        have hno : Hid (¬ okF R) := Lib.hid (fun h => by rw [HRR.out] at h; have := h.cols; dsimp only at this; rw [HQ2.out] at this; cases this)
        have hK0 := HK0.out
        have hmu := HMU.out
        have kb := KB.out
        have kn := KN.out
        have c0 := kb.cellAt 0
        have c1 := kb.cellAt 1
        have c2 := kb.cellAt 2
        have c3 := kb.cellAt 3
        have c4 := kb.cellAt 4
        have c5 := kb.cellAt 5
        have c6 := kb.cellAt 6
        have c7 := kb.cellAt 7
        have lb := kb.lt
        have ln := kn.lt
        have f0 := kn.free 0
        have f1 := kn.free 1
        have f2 := kn.free 2
        have e0 := kn.cellAt 0
        have e1 := kn.cellAt 1
        have e2 := kn.cellAt 2
        simp only [Fr.cells, Li.cells, List.cons_append, List.nil_append, List.getElem?_cons_zero, List.getElem?_cons_succ] at c0 c1 c2 c3 c4 c5 c6 c7 e0 e1 e2
        clear kb kn
        go_enter Try.func23, Try.ntmps23
        go_wp2_with fail
        try rw [hK0]
        refine (C1.out _ HB.out).mono ?_
        rintro e w9 ⟨rfl, hb9⟩
        clear hK0
        have KB9 := Lib.hid (Whole.below KB.out hb9 KB.out.lt)
        have KN9 := Lib.hid (Whole.below KN.out hb9 KN.out.lt)
        have HB9 := Lib.hid (HB.out.trans (Below.mono hb9 HB.out.size))
        clear hb9 c0 c1 c2 c3 c4 c5 c6 c7 lb ln f0 f1 f2 e0 e1 e2 KB KN HB
        have KB := KB9
        have KN := KN9
        have HB := HB9
        clear KB9 KN9 HB9
        have kb := KB.out
        have kn := KN.out
        have c0 := kb.cellAt 0
        have c1 := kb.cellAt 1
        have c2 := kb.cellAt 2
        have c3 := kb.cellAt 3
        have c4 := kb.cellAt 4
        have c5 := kb.cellAt 5
        have c6 := kb.cellAt 6
        have c7 := kb.cellAt 7
        have lb := kb.lt
        have ln := kn.lt
        have f0 := kn.free 0
        have f1 := kn.free 1
        have f2 := kn.free 2
        have e0 := kn.cellAt 0
        have e1 := kn.cellAt 1
        have e2 := kn.cellAt 2
        simp only [Fr.cells, Li.cells, List.cons_append, List.nil_append, List.getElem?_cons_zero, List.getElem?_cons_succ] at c0 c1 c2 c3 c4 c5 c6 c7 e0 e1 e2
        clear kb kn
        go_wp2_with fail
        refine (C2.out _ HB.out).mono ?_
        rintro e w10 ⟨rfl, hb10⟩
        have KB9 := Lib.hid (Whole.below KB.out hb10 KB.out.lt)
        have KN9 := Lib.hid (Whole.below KN.out hb10 KN.out.lt)
        have HB9 := Lib.hid (HB.out.trans (Below.mono hb10 HB.out.size))
        clear hb10 c0 c1 c2 c3 c4 c5 c6 c7 lb ln f0 f1 f2 e0 e1 e2 KB KN HB
        have KB := KB9
        have KN := KN9
        have HB := HB9
        clear KB9 KN9 HB9
        have kb := KB.out
        have kn := KN.out
        have c0 := kb.cellAt 0
        have c1 := kb.cellAt 1
        have c2 := kb.cellAt 2
        have c3 := kb.cellAt 3
        have c4 := kb.cellAt 4
        have c5 := kb.cellAt 5
        have c6 := kb.cellAt 6
        have c7 := kb.cellAt 7
        have lb := kb.lt
        have ln := kn.lt
        have f0 := kn.free 0
        have f1 := kn.free 1
        have f2 := kn.free 2
        have e0 := kn.cellAt 0
        have e1 := kn.cellAt 1
        have e2 := kn.cellAt 2
        simp only [Fr.cells, Li.cells, List.cons_append, List.nil_append, List.getElem?_cons_zero, List.getElem?_cons_succ] at c0 c1 c2 c3 c4 c5 c6 c7 e0 e1 e2
        clear kb kn
        go_wp2
        refine bodyPost_ret (results_net (g := W.heap.size + 1) (r := 0) (k := 0) (o := .slice none 0 0) (v := .bool false) rfl rfl rfl (((Whole.set KN.out 0 (.int .i64 0)).set 1 (.int .i64 0)).set 2 (.slice none 0 0))) rfl ⟨.inr ⟨hno.out, 0, 0, none, 0, 0, rfl⟩, ?_⟩
        exact ((HB.out.setCell (p := ⟨W.heap.size + 1, 0, none⟩) (by simp) _).setCell (p := ⟨W.heap.size + 1, 1, none⟩) (by simp) _).setCell (p := ⟨W.heap.size + 1, 2, none⟩) (by simp) _
      | true =>
        cases q3 with
        | false =>
          have hno : Hid (¬ okF R) := Lib.hid (fun h => by rw [HRR.out] at h; have := h.cs; dsimp only at this; rw [HQ3.out] at this; cases this)
          have hK0 := HK0.out
          have hmu := HMU.out
          have kb := KB.out
          have kn := KN.out
          have c0 := kb.cellAt 0
          have c1 := kb.cellAt 1
          have c2 := kb.cellAt 2
          have c3 := kb.cellAt 3
          have c4 := kb.cellAt 4
          have c5 := kb.cellAt 5
          have c6 := kb.cellAt 6
          have c7 := kb.cellAt 7
          have lb := kb.lt
          have ln := kn.lt
          have f0 := kn.free 0
          have f1 := kn.free 1
          have f2 := kn.free 2
          have e0 := kn.cellAt 0
          have e1 := kn.cellAt 1
          have e2 := kn.cellAt 2
          simp only [Fr.cells, Li.cells, List.cons_append, List.nil_append, List.getElem?_cons_zero, List.getElem?_cons_succ] at c0 c1 c2 c3 c4 c5 c6 c7 e0 e1 e2
          clear kb kn
          go_enter Try.func23, Try.ntmps23
          go_wp2_with fail
          try rw [hK0]
          refine (C1.out _ HB.out).mono ?_
          rintro e w9 ⟨rfl, hb9⟩
          clear hK0
          have KB9 := Lib.hid (Whole.below KB.out hb9 KB.out.lt)
          have KN9 := Lib.hid (Whole.below KN.out hb9 KN.out.lt)
          have HB9 := Lib.hid (HB.out.trans (Below.mono hb9 HB.out.size))
          clear hb9 c0 c1 c2 c3 c4 c5 c6 c7 lb ln f0 f1 f2 e0 e1 e2 KB KN HB
          have KB := KB9
          have KN := KN9
          have HB := HB9
          clear KB9 KN9 HB9
          have kb := KB.out
          have kn := KN.out
          have c0 := kb.cellAt 0
          have c1 := kb.cellAt 1
          have c2 := kb.cellAt 2
          have c3 := kb.cellAt 3
          have c4 := kb.cellAt 4
          have c5 := kb.cellAt 5
          have c6 := kb.cellAt 6
          have c7 := kb.cellAt 7
          have lb := kb.lt
          have ln := kn.lt
          have f0 := kn.free 0
          have f1 := kn.free 1
          have f2 := kn.free 2
          have e0 := kn.cellAt 0
          have e1 := kn.cellAt 1
          have e2 := kn.cellAt 2
          simp only [Fr.cells, Li.cells, List.cons_append, List.nil_append, List.getElem?_cons_zero, List.getElem?_cons_succ] at c0 c1 c2 c3 c4 c5 c6 c7 e0 e1 e2
          clear kb kn
          go_wp2_with fail
          refine (C2.out _ HB.out).mono ?_
          rintro e w10 ⟨rfl, hb10⟩
          have KB9 := Lib.hid (Whole.below KB.out hb10 KB.out.lt)
          have KN9 := Lib.hid (Whole.below KN.out hb10 KN.out.lt)
          have HB9 := Lib.hid (HB.out.trans (Below.mono hb10 HB.out.size))
          clear hb10 c0 c1 c2 c3 c4 c5 c6 c7 lb ln f0 f1 f2 e0 e1 e2 KB KN HB
          have KB := KB9
          have KN := KN9
          have HB := HB9
          clear KB9 KN9 HB9
          have kb := KB.out
          have kn := KN.out
          have c0 := kb.cellAt 0
          have c1 := kb.cellAt 1
          have c2 := kb.cellAt 2
          have c3 := kb.cellAt 3
          have c4 := kb.cellAt 4
          have c5 := kb.cellAt 5
          have c6 := kb.cellAt 6
          have c7 := kb.cellAt 7
          have lb := kb.lt
          have ln := kn.lt
          have f0 := kn.free 0
          have f1 := kn.free 1
          have f2 := kn.free 2
          have e0 := kn.cellAt 0
          have e1 := kn.cellAt 1
          have e2 := kn.cellAt 2
          simp only [Fr.cells, Li.cells, List.cons_append, List.nil_append, List.getElem?_cons_zero, List.getElem?_cons_succ] at c0 c1 c2 c3 c4 c5 c6 c7 e0 e1 e2
          clear kb kn
          go_wp2_with fail
          refine (C3.out _ HB.out).mono ?_
          rintro e w11 ⟨rfl, hb11⟩
          have KB9 := Lib.hid (Whole.below KB.out hb11 KB.out.lt)
          have KN9 := Lib.hid (Whole.below KN.out hb11 KN.out.lt)
          have HB9 := Lib.hid (HB.out.trans (Below.mono hb11 HB.out.size))
          clear hb11 c0 c1 c2 c3 c4 c5 c6 c7 lb ln f0 f1 f2 e0 e1 e2 KB KN HB
          have KB := KB9
          have KN := KN9
          have HB := HB9
          clear KB9 KN9 HB9
          have kb := KB.out
          have kn := KN.out
          have c0 := kb.cellAt 0
          have c1 := kb.cellAt 1
          have c2 := kb.cellAt 2
          have c3 := kb.cellAt 3
          have c4 := kb.cellAt 4
          have c5 := kb.cellAt 5
          have c6 := kb.cellAt 6
          have c7 := kb.cellAt 7
          have lb := kb.lt
          have ln := kn.lt
          have f0 := kn.free 0
          have f1 := kn.free 1
          have f2 := kn.free 2
          have e0 := kn.cellAt 0
          have e1 := kn.cellAt 1
          have e2 := kn.cellAt 2
          simp only [Fr.cells, Li.cells, List.cons_append, List.nil_append, List.getElem?_cons_zero, List.getElem?_cons_succ] at c0 c1 c2 c3 c4 c5 c6 c7 e0 e1 e2
          clear kb kn
          go_wp2
          refine bodyPost_ret (results_net (g := W.heap.size + 1) (r := 0) (k := 0) (o := .slice none 0 0) (v := .bool false) rfl rfl rfl (((Whole.set KN.out 0 (.int .i64 0)).set 1 (.int .i64 0)).set 2 (.slice none 0 0))) rfl ⟨.inr ⟨hno.out, 0, 0, none, 0, 0, rfl⟩, ?_⟩
          exact ((HB.out.setCell (p := ⟨W.heap.size + 1, 0, none⟩) (by simp) _).setCell (p := ⟨W.heap.size + 1, 1, none⟩) (by simp) _).setCell (p := ⟨W.heap.size + 1, 2, none⟩) (by simp) _
        | true =>
          cases q4 with
          | false =>
            have hno : Hid (¬ okF R) := Lib.hid (fun h => by rw [HRR.out] at h; have := h.tb; dsimp only at this; rw [HQ4.out] at this; cases this)
            have hK0 := HK0.out
            have hmu := HMU.out
            have kb := KB.out
            have kn := KN.out
            have c0 := kb.cellAt 0
            have c1 := kb.cellAt 1
            have c2 := kb.cellAt 2
            have c3 := kb.cellAt 3
            have c4 := kb.cellAt 4
            have c5 := kb.cellAt 5
            have c6 := kb.cellAt 6
            have c7 := kb.cellAt 7
            have lb := kb.lt
            have ln := kn.lt
            have f0 := kn.free 0
            have f1 := kn.free 1
            have f2 := kn.free 2
            have e0 := kn.cellAt 0
            have e1 := kn.cellAt 1
            have e2 := kn.cellAt 2
            simp only [Fr.cells, Li.cells, List.cons_append, List.nil_append, List.getElem?_cons_zero, List.getElem?_cons_succ] at c0 c1 c2 c3 c4 c5 c6 c7 e0 e1 e2
            clear kb kn
            go_enter Try.func23, Try.ntmps23
            go_wp2_with fail
            try rw [hK0]
            refine (C1.out _ HB.out).mono ?_
            rintro e w9 ⟨rfl, hb9⟩
            clear hK0
            have KB9 := Lib.hid (Whole.below KB.out hb9 KB.out.lt)
            have KN9 := Lib.hid (Whole.below KN.out hb9 KN.out.lt)
            have HB9 := Lib.hid (HB.out.trans (Below.mono hb9 HB.out.size))
            clear hb9 c0 c1 c2 c3 c4 c5 c6 c7 lb ln f0 f1 f2 e0 e1 e2 KB KN HB
            have KB := KB9
            have KN := KN9
            have HB := HB9
            clear KB9 KN9 HB9
            have kb := KB.out
            have kn := KN.out
            have c0 := kb.cellAt 0
            have c1 := kb.cellAt 1
            have c2 := kb.cellAt 2
            have c3 := kb.cellAt 3
            have c4 := kb.cellAt 4
            have c5 := kb.cellAt 5
            have c6 := kb.cellAt 6
            have c7 := kb.cellAt 7
            have lb := kb.lt
            have ln := kn.lt
            have f0 := kn.free 0
            have f1 := kn.free 1
            have f2 := kn.free 2
            have e0 := kn.cellAt 0
            have e1 := kn.cellAt 1
            have e2 := kn.cellAt 2
            simp only [Fr.cells, Li.cells, List.cons_append, List.nil_append, List.getElem?_cons_zero, List.getElem?_cons_succ] at c0 c1 c2 c3 c4 c5 c6 c7 e0 e1 e2
            clear kb kn
            go_wp2_with fail
            refine (C2.out _ HB.out).mono ?_
            rintro e w10 ⟨rfl, hb10⟩
            have KB9 := Lib.hid (Whole.below KB.out hb10 KB.out.lt)
            have KN9 := Lib.hid (Whole.below KN.out hb10 KN.out.lt)
            have HB9 := Lib.hid (HB.out.trans (Below.mono hb10 HB.out.size))
            clear hb10 c0 c1 c2 c3 c4 c5 c6 c7 lb ln f0 f1 f2 e0 e1 e2 KB KN HB
            have KB := KB9
            have KN := KN9
            have HB := HB9
            clear KB9 KN9 HB9
            have kb := KB.out
            have kn := KN.out
            have c0 := kb.cellAt 0
            have c1 := kb.cellAt 1
            have c2 := kb.cellAt 2
            have c3 := kb.cellAt 3
            have c4 := kb.cellAt 4
            have c5 := kb.cellAt 5
            have c6 := kb.cellAt 6
            have c7 := kb.cellAt 7
            have lb := kb.lt
            have ln := kn.lt
            have f0 := kn.free 0
            have f1 := kn.free 1
            have f2 := kn.free 2
            have e0 := kn.cellAt 0
            have e1 := kn.cellAt 1
            have e2 := kn.cellAt 2
            simp only [Fr.cells, Li.cells, List.cons_append, List.nil_append, List.getElem?_cons_zero, List.getElem?_cons_succ] at c0 c1 c2 c3 c4 c5 c6 c7 e0 e1 e2
            clear kb kn
            go_wp2_with fail
            refine (C3.out _ HB.out).mono ?_
            rintro e w11 ⟨rfl, hb11⟩
            have KB9 := Lib.hid (Whole.below KB.out hb11 KB.out.lt)
            have KN9 := Lib.hid (Whole.below KN.out hb11 KN.out.lt)
            have HB9 := Lib.hid (HB.out.trans (Below.mono hb11 HB.out.size))
            clear hb11 c0 c1 c2 c3 c4 c5 c6 c7 lb ln f0 f1 f2 e0 e1 e2 KB KN HB
            have KB := KB9
            have KN := KN9
            have HB := HB9
            clear KB9 KN9 HB9
            have kb := KB.out
            have kn := KN.out
            have c0 := kb.cellAt 0
            have c1 := kb.cellAt 1
            have c2 := kb.cellAt 2
            have c3 := kb.cellAt 3
            have c4 := kb.cellAt 4
            have c5 := kb.cellAt 5
            have c6 := kb.cellAt 6
            have c7 := kb.cellAt 7
            have lb := kb.lt
            have ln := kn.lt
            have f0 := kn.free 0
            have f1 := kn.free 1
            have f2 := kn.free 2
            have e0 := kn.cellAt 0
            have e1 := kn.cellAt 1
            have e2 := kn.cellAt 2
            simp only [Fr.cells, Li.cells, List.cons_append, List.nil_append, List.getElem?_cons_zero, List.getElem?_cons_succ] at c0 c1 c2 c3 c4 c5 c6 c7 e0 e1 e2
            clear kb kn
            go_wp2_with fail
            refine (C4.out _ KB.out).mono ?_
            rintro e w12 ⟨rfl, hb12⟩
            have KB9 := Lib.hid (Whole.below KB.out hb12 KB.out.lt)
            have KN9 := Lib.hid (Whole.below KN.out hb12 KN.out.lt)
            have HB9 := Lib.hid (HB.out.trans (Below.mono hb12 HB.out.size))
            clear hb12 c0 c1 c2 c3 c4 c5 c6 c7 lb ln f0 f1 f2 e0 e1 e2 KB KN HB
            have KB := KB9
            have KN := KN9
            have HB := HB9
            clear KB9 KN9 HB9
            have kb := KB.out
            have kn := KN.out
            have c0 := kb.cellAt 0
            have c1 := kb.cellAt 1
            have c2 := kb.cellAt 2
            have c3 := kb.cellAt 3
            have c4 := kb.cellAt 4
            have c5 := kb.cellAt 5
            have c6 := kb.cellAt 6
            have c7 := kb.cellAt 7
            have lb := kb.lt
            have ln := kn.lt
            have f0 := kn.free 0
            have f1 := kn.free 1
            have f2 := kn.free 2
            have e0 := kn.cellAt 0
            have e1 := kn.cellAt 1
            have e2 := kn.cellAt 2
            simp only [Fr.cells, Li.cells, List.cons_append, List.nil_append, List.getElem?_cons_zero, List.getElem?_cons_succ] at c0 c1 c2 c3 c4 c5 c6 c7 e0 e1 e2
            clear kb kn
            go_wp2
            refine bodyPost_ret (results_net (g := W.heap.size + 1) (r := 0) (k := 0) (o := .slice none 0 0) (v := .bool false) rfl rfl rfl (((Whole.set KN.out 0 (.int .i64 0)).set 1 (.int .i64 0)).set 2 (.slice none 0 0))) rfl ⟨.inr ⟨hno.out, 0, 0, none, 0, 0, rfl⟩, ?_⟩
            exact ((HB.out.setCell (p := ⟨W.heap.size + 1, 0, none⟩) (by simp) _).setCell (p := ⟨W.heap.size + 1, 1, none⟩) (by simp) _).setCell (p := ⟨W.heap.size + 1, 2, none⟩) (by simp) _
          | true =>
            by_cases p6 : SizeQ r k ∧ OwnQ r.toNat k.toNat ps
            · have HYES : Hid (okF R) := Lib.hid (by rw [HRR.out]; exact ⟨by dsimp only; rw [HMU.out]; exact p0, by dsimp only; rw [HCN.out, HPN.out], HQ1.out, HQ2.out, HQ3.out, HQ4.out, p6.1, p6.2⟩)
              obtain ⟨rn, hrn⟩ : ∃ rn : Nat, r = (rn : Int) := ⟨r.toNat, by have := p6.1.1; omega⟩
              obtain ⟨kn, hkn⟩ : ∃ kn : Nat, k = (kn : Int) := ⟨k.toNat, by have := p6.1.2.1; omega⟩
              have HRN : Hid (rn = r.toNat) := Lib.hid (by omega)
              have HKN : Hid (kn = k.toNat) := Lib.hid (by omega)
              have C5 : Hid (∀ X, Below W.heap.size W X → Calls Try.prog 41 #[.slice pp cn pc, .int .i64 r, .int .i64 k] X fun e W' => ∃ p c, e = .returned (.tuple #[.slice p rn c, .int .i64 0]) ∧ (∀ Y : World, (∀ g, X.heap.size ≤ g → g < W'.heap.size → Y.heap[g]? = W'.heap[g]?) → RowsZ Y (.slice p rn c) (ownM ps rn kn)) ∧ Below X.heap.size X W') := Lib.hid fun X hX => by
                have h := HF.out X hX
                rw [hrn, hkn]
                exact slots7_keep HPN.out h.ps h.pok (by rw [← hrn, ← hkn]; exact p6.1) (by rw [HRN.out, HKN.out]; exact p6.2)
              clear hrn hkn
              have hK0 := HK0.out
              have hmu := HMU.out
              have kb := KB.out
              have kn := KN.out
              have c0 := kb.cellAt 0
              have c1 := kb.cellAt 1
              have c2 := kb.cellAt 2
              have c3 := kb.cellAt 3
              have c4 := kb.cellAt 4
              have c5 := kb.cellAt 5
              have c6 := kb.cellAt 6
              have c7 := kb.cellAt 7
              have lb := kb.lt
              have ln := kn.lt
              have f0 := kn.free 0
              have f1 := kn.free 1
              have f2 := kn.free 2
              have e0 := kn.cellAt 0
              have e1 := kn.cellAt 1
              have e2 := kn.cellAt 2
              simp only [Fr.cells, Li.cells, List.cons_append, List.nil_append, List.getElem?_cons_zero, List.getElem?_cons_succ] at c0 c1 c2 c3 c4 c5 c6 c7 e0 e1 e2
              clear kb kn
              go_enter Try.func23, Try.ntmps23
              go_wp2_with fail
              try rw [hK0]
              refine (C1.out _ HB.out).mono ?_
              rintro e w9 ⟨rfl, hb9⟩
              clear hK0
              have KB9 := Lib.hid (Whole.below KB.out hb9 KB.out.lt)
              have KN9 := Lib.hid (Whole.below KN.out hb9 KN.out.lt)
              have HB9 := Lib.hid (HB.out.trans (Below.mono hb9 HB.out.size))
              clear hb9 c0 c1 c2 c3 c4 c5 c6 c7 lb ln f0 f1 f2 e0 e1 e2 KB KN HB
              have KB := KB9
              have KN := KN9
              have HB := HB9
              clear KB9 KN9 HB9
              have kb := KB.out
              have kn := KN.out
              have c0 := kb.cellAt 0
              have c1 := kb.cellAt 1
              have c2 := kb.cellAt 2
              have c3 := kb.cellAt 3
              have c4 := kb.cellAt 4
              have c5 := kb.cellAt 5
              have c6 := kb.cellAt 6
              have c7 := kb.cellAt 7
              have lb := kb.lt
              have ln := kn.lt
              have f0 := kn.free 0
              have f1 := kn.free 1
              have f2 := kn.free 2
              have e0 := kn.cellAt 0
              have e1 := kn.cellAt 1
              have e2 := kn.cellAt 2
              simp only [Fr.cells, Li.cells, List.cons_append, List.nil_append, List.getElem?_cons_zero, List.getElem?_cons_succ] at c0 c1 c2 c3 c4 c5 c6 c7 e0 e1 e2
              clear kb kn
              go_wp2_with fail
              refine (C2.out _ HB.out).mono ?_
              rintro e w10 ⟨rfl, hb10⟩
              have KB9 := Lib.hid (Whole.below KB.out hb10 KB.out.lt)
              have KN9 := Lib.hid (Whole.below KN.out hb10 KN.out.lt)
              have HB9 := Lib.hid (HB.out.trans (Below.mono hb10 HB.out.size))
              clear hb10 c0 c1 c2 c3 c4 c5 c6 c7 lb ln f0 f1 f2 e0 e1 e2 KB KN HB
              have KB := KB9
              have KN := KN9
              have HB := HB9
              clear KB9 KN9 HB9
              have kb := KB.out
              have kn := KN.out
              have c0 := kb.cellAt 0
              have c1 := kb.cellAt 1
              have c2 := kb.cellAt 2
              have c3 := kb.cellAt 3
              have c4 := kb.cellAt 4
              have c5 := kb.cellAt 5
              have c6 := kb.cellAt 6
              have c7 := kb.cellAt 7
              have lb := kb.lt
              have ln := kn.lt
              have f0 := kn.free 0
              have f1 := kn.free 1
              have f2 := kn.free 2
              have e0 := kn.cellAt 0
              have e1 := kn.cellAt 1
              have e2 := kn.cellAt 2
              simp only [Fr.cells, Li.cells, List.cons_append, List.nil_append, List.getElem?_cons_zero, List.getElem?_cons_succ] at c0 c1 c2 c3 c4 c5 c6 c7 e0 e1 e2
              clear kb kn
              go_wp2_with fail
              refine (C3.out _ HB.out).mono ?_
              rintro e w11 ⟨rfl, hb11⟩
              have KB9 := Lib.hid (Whole.below KB.out hb11 KB.out.lt)
              have KN9 := Lib.hid (Whole.below KN.out hb11 KN.out.lt)
              have HB9 := Lib.hid (HB.out.trans (Below.mono hb11 HB.out.size))
              clear hb11 c0 c1 c2 c3 c4 c5 c6 c7 lb ln f0 f1 f2 e0 e1 e2 KB KN HB
              have KB := KB9
              have KN := KN9
              have HB := HB9
              clear KB9 KN9 HB9
              have kb := KB.out
              have kn := KN.out
              have c0 := kb.cellAt 0
              have c1 := kb.cellAt 1
              have c2 := kb.cellAt 2
              have c3 := kb.cellAt 3
              have c4 := kb.cellAt 4
              have c5 := kb.cellAt 5
              have c6 := kb.cellAt 6
              have c7 := kb.cellAt 7
              have lb := kb.lt
              have ln := kn.lt
              have f0 := kn.free 0
              have f1 := kn.free 1
              have f2 := kn.free 2
              have e0 := kn.cellAt 0
              have e1 := kn.cellAt 1
              have e2 := kn.cellAt 2
              simp only [Fr.cells, Li.cells, List.cons_append, List.nil_append, List.getElem?_cons_zero, List.getElem?_cons_succ] at c0 c1 c2 c3 c4 c5 c6 c7 e0 e1 e2
              clear kb kn
              go_wp2_with fail
              refine (C4.out _ KB.out).mono ?_
              rintro e w12 ⟨rfl, hb12⟩
              have KB9 := Lib.hid (Whole.below KB.out hb12 KB.out.lt)
              have KN9 := Lib.hid (Whole.below KN.out hb12 KN.out.lt)
              have HB9 := Lib.hid (HB.out.trans (Below.mono hb12 HB.out.size))
              clear hb12 c0 c1 c2 c3 c4 c5 c6 c7 lb ln f0 f1 f2 e0 e1 e2 KB KN HB
              have KB := KB9
              have KN := KN9
              have HB := HB9
              clear KB9 KN9 HB9
              have kb := KB.out
              have kn := KN.out
              have c0 := kb.cellAt 0
              have c1 := kb.cellAt 1
              have c2 := kb.cellAt 2
              have c3 := kb.cellAt 3
              have c4 := kb.cellAt 4
              have c5 := kb.cellAt 5
              have c6 := kb.cellAt 6
              have c7 := kb.cellAt 7
              have lb := kb.lt
              have ln := kn.lt
              have f0 := kn.free 0
              have f1 := kn.free 1
              have f2 := kn.free 2
              have e0 := kn.cellAt 0
              have e1 := kn.cellAt 1
              have e2 := kn.cellAt 2
              simp only [Fr.cells, Li.cells, List.cons_append, List.nil_append, List.getElem?_cons_zero, List.getElem?_cons_succ] at c0 c1 c2 c3 c4 c5 c6 c7 e0 e1 e2
              clear kb kn
              have HL12 := Lib.hid (Whole.lt KN.out)
              go_wp2_with fail
              refine (C5.out _ HB.out).mono ?_
              rintro e w13 ⟨po, co, rfl, hro, hb13⟩
              have HRO := Lib.hid hro
              clear hro
              have KB9 := Lib.hid (Whole.below KB.out hb13 KB.out.lt)
              have KN9 := Lib.hid (Whole.below KN.out hb13 KN.out.lt)
              have HB9 := Lib.hid (HB.out.trans (Below.mono hb13 HB.out.size))
              clear hb13 c0 c1 c2 c3 c4 c5 c6 c7 lb ln f0 f1 f2 e0 e1 e2 KB KN HB
              have KB := KB9
              have KN := KN9
              have HB := HB9
              clear KB9 KN9 HB9
              have kb := KB.out
              have kn := KN.out
              have c0 := kb.cellAt 0
              have c1 := kb.cellAt 1
              have c2 := kb.cellAt 2
              have c3 := kb.cellAt 3
              have c4 := kb.cellAt 4
              have c5 := kb.cellAt 5
              have c6 := kb.cellAt 6
              have c7 := kb.cellAt 7
              have lb := kb.lt
              have ln := kn.lt
              have f0 := kn.free 0
              have f1 := kn.free 1
              have f2 := kn.free 2
              have e0 := kn.cellAt 0
              have e1 := kn.cellAt 1
              have e2 := kn.cellAt 2
              simp only [Fr.cells, Li.cells, List.cons_append, List.nil_append, List.getElem?_cons_zero, List.getElem?_cons_succ] at c0 c1 c2 c3 c4 c5 c6 c7 e0 e1 e2
              clear kb kn
              go_wp2
              refine bodyPost_ret (results_net (g := W.heap.size + 1) (r := r) (k := k) (o := .slice po rn co) (v := .bool true) rfl rfl rfl (((Whole.set KN.out 0 (.int .i64 r)).set 1 (.int .i64 k)).set 2 (.slice po rn co))) rfl ⟨.inl ⟨HYES.out, po, co, by rw [HRR.out, ← HRN.out], ?_⟩, ?_⟩
              · have h := HRO.out
                rw [HRN.out, HKN.out] at h
                rw [HRN.out]
                rw [HRR.out]
                refine h _ (fun g hg1 hg2 => ?_)
                have hne : g ≠ W.heap.size + 1 := by have := HL12.out; omega
                exact (Below.heap_setCell _ _ _ g hne).trans ((Below.heap_setCell _ _ _ g hne).trans (Below.heap_setCell _ _ _ g hne))
              exact ((HB.out.setCell (p := ⟨W.heap.size + 1, 0, none⟩) (by simp) _).setCell (p := ⟨W.heap.size + 1, 1, none⟩) (by simp) _).setCell (p := ⟨W.heap.size + 1, 2, none⟩) (by simp) _
            · have hno : Hid (¬ okF R) := Lib.hid (fun h => by rw [HRR.out] at h; exact p6 ⟨h.size, h.own⟩)
              have C5 : Hid (∀ X, Below W.heap.size W X → Calls Try.prog 41 #[.slice pp cn pc, .int .i64 r, .int .i64 k] X fun e W' => e = .returned (.tuple #[.slice none 0 0, .int .i64 70]) ∧ Below X.heap.size X W') := Lib.hid fun X hX => by
                have h := HF.out X hX
                exact slots7_bad HPN.out h.ps h.pok p6
              have hK0 := HK0.out
              have hmu := HMU.out
              have kb := KB.out
              have kn := KN.out
              have c0 := kb.cellAt 0
              have c1 := kb.cellAt 1
              have c2 := kb.cellAt 2
              have c3 := kb.cellAt 3
              have c4 := kb.cellAt 4
              have c5 := kb.cellAt 5
              have c6 := kb.cellAt 6
              have c7 := kb.cellAt 7
              have lb := kb.lt
              have ln := kn.lt
              have f0 := kn.free 0
              have f1 := kn.free 1
              have f2 := kn.free 2
              have e0 := kn.cellAt 0
              have e1 := kn.cellAt 1
              have e2 := kn.cellAt 2
              simp only [Fr.cells, Li.cells, List.cons_append, List.nil_append, List.getElem?_cons_zero, List.getElem?_cons_succ] at c0 c1 c2 c3 c4 c5 c6 c7 e0 e1 e2
              clear kb kn
              go_enter Try.func23, Try.ntmps23
              go_wp2_with fail
              try rw [hK0]
              refine (C1.out _ HB.out).mono ?_
              rintro e w9 ⟨rfl, hb9⟩
              clear hK0
              have KB9 := Lib.hid (Whole.below KB.out hb9 KB.out.lt)
              have KN9 := Lib.hid (Whole.below KN.out hb9 KN.out.lt)
              have HB9 := Lib.hid (HB.out.trans (Below.mono hb9 HB.out.size))
              clear hb9 c0 c1 c2 c3 c4 c5 c6 c7 lb ln f0 f1 f2 e0 e1 e2 KB KN HB
              have KB := KB9
              have KN := KN9
              have HB := HB9
              clear KB9 KN9 HB9
              have kb := KB.out
              have kn := KN.out
              have c0 := kb.cellAt 0
              have c1 := kb.cellAt 1
              have c2 := kb.cellAt 2
              have c3 := kb.cellAt 3
              have c4 := kb.cellAt 4
              have c5 := kb.cellAt 5
              have c6 := kb.cellAt 6
              have c7 := kb.cellAt 7
              have lb := kb.lt
              have ln := kn.lt
              have f0 := kn.free 0
              have f1 := kn.free 1
              have f2 := kn.free 2
              have e0 := kn.cellAt 0
              have e1 := kn.cellAt 1
              have e2 := kn.cellAt 2
              simp only [Fr.cells, Li.cells, List.cons_append, List.nil_append, List.getElem?_cons_zero, List.getElem?_cons_succ] at c0 c1 c2 c3 c4 c5 c6 c7 e0 e1 e2
              clear kb kn
              go_wp2_with fail
              refine (C2.out _ HB.out).mono ?_
              rintro e w10 ⟨rfl, hb10⟩
              have KB9 := Lib.hid (Whole.below KB.out hb10 KB.out.lt)
              have KN9 := Lib.hid (Whole.below KN.out hb10 KN.out.lt)
              have HB9 := Lib.hid (HB.out.trans (Below.mono hb10 HB.out.size))
              clear hb10 c0 c1 c2 c3 c4 c5 c6 c7 lb ln f0 f1 f2 e0 e1 e2 KB KN HB
              have KB := KB9
              have KN := KN9
              have HB := HB9
              clear KB9 KN9 HB9
              have kb := KB.out
              have kn := KN.out
              have c0 := kb.cellAt 0
              have c1 := kb.cellAt 1
              have c2 := kb.cellAt 2
              have c3 := kb.cellAt 3
              have c4 := kb.cellAt 4
              have c5 := kb.cellAt 5
              have c6 := kb.cellAt 6
              have c7 := kb.cellAt 7
              have lb := kb.lt
              have ln := kn.lt
              have f0 := kn.free 0
              have f1 := kn.free 1
              have f2 := kn.free 2
              have e0 := kn.cellAt 0
              have e1 := kn.cellAt 1
              have e2 := kn.cellAt 2
              simp only [Fr.cells, Li.cells, List.cons_append, List.nil_append, List.getElem?_cons_zero, List.getElem?_cons_succ] at c0 c1 c2 c3 c4 c5 c6 c7 e0 e1 e2
              clear kb kn
              go_wp2_with fail
              refine (C3.out _ HB.out).mono ?_
              rintro e w11 ⟨rfl, hb11⟩
              have KB9 := Lib.hid (Whole.below KB.out hb11 KB.out.lt)
              have KN9 := Lib.hid (Whole.below KN.out hb11 KN.out.lt)
              have HB9 := Lib.hid (HB.out.trans (Below.mono hb11 HB.out.size))
              clear hb11 c0 c1 c2 c3 c4 c5 c6 c7 lb ln f0 f1 f2 e0 e1 e2 KB KN HB
              have KB := KB9
              have KN := KN9
              have HB := HB9
              clear KB9 KN9 HB9
              have kb := KB.out
              have kn := KN.out
              have c0 := kb.cellAt 0
              have c1 := kb.cellAt 1
              have c2 := kb.cellAt 2
              have c3 := kb.cellAt 3
              have c4 := kb.cellAt 4
              have c5 := kb.cellAt 5
              have c6 := kb.cellAt 6
              have c7 := kb.cellAt 7
              have lb := kb.lt
              have ln := kn.lt
              have f0 := kn.free 0
              have f1 := kn.free 1
              have f2 := kn.free 2
              have e0 := kn.cellAt 0
              have e1 := kn.cellAt 1
              have e2 := kn.cellAt 2
              simp only [Fr.cells, Li.cells, List.cons_append, List.nil_append, List.getElem?_cons_zero, List.getElem?_cons_succ] at c0 c1 c2 c3 c4 c5 c6 c7 e0 e1 e2
              clear kb kn
              go_wp2_with fail
              refine (C4.out _ KB.out).mono ?_
              rintro e w12 ⟨rfl, hb12⟩
              have KB9 := Lib.hid (Whole.below KB.out hb12 KB.out.lt)
              have KN9 := Lib.hid (Whole.below KN.out hb12 KN.out.lt)
              have HB9 := Lib.hid (HB.out.trans (Below.mono hb12 HB.out.size))
              clear hb12 c0 c1 c2 c3 c4 c5 c6 c7 lb ln f0 f1 f2 e0 e1 e2 KB KN HB
              have KB := KB9
              have KN := KN9
              have HB := HB9
              clear KB9 KN9 HB9
              have kb := KB.out
              have kn := KN.out
              have c0 := kb.cellAt 0
              have c1 := kb.cellAt 1
              have c2 := kb.cellAt 2
              have c3 := kb.cellAt 3
              have c4 := kb.cellAt 4
              have c5 := kb.cellAt 5
              have c6 := kb.cellAt 6
              have c7 := kb.cellAt 7
              have lb := kb.lt
              have ln := kn.lt
              have f0 := kn.free 0
              have f1 := kn.free 1
              have f2 := kn.free 2
              have e0 := kn.cellAt 0
              have e1 := kn.cellAt 1
              have e2 := kn.cellAt 2
              simp only [Fr.cells, Li.cells, List.cons_append, List.nil_append, List.getElem?_cons_zero, List.getElem?_cons_succ] at c0 c1 c2 c3 c4 c5 c6 c7 e0 e1 e2
              clear kb kn
              go_wp2_with fail
              refine (C5.out _ HB.out).mono ?_
              rintro e w13 ⟨rfl, hb13⟩
              have KB9 := Lib.hid (Whole.below KB.out hb13 KB.out.lt)
              have KN9 := Lib.hid (Whole.below KN.out hb13 KN.out.lt)
              have HB9 := Lib.hid (HB.out.trans (Below.mono hb13 HB.out.size))
              clear hb13 c0 c1 c2 c3 c4 c5 c6 c7 lb ln f0 f1 f2 e0 e1 e2 KB KN HB
              have KB := KB9
              have KN := KN9
              have HB := HB9
              clear KB9 KN9 HB9
              have kb := KB.out
              have kn := KN.out
              have c0 := kb.cellAt 0
              have c1 := kb.cellAt 1
              have c2 := kb.cellAt 2
              have c3 := kb.cellAt 3
              have c4 := kb.cellAt 4
              have c5 := kb.cellAt 5
              have c6 := kb.cellAt 6
              have c7 := kb.cellAt 7
              have lb := kb.lt
              have ln := kn.lt
              have f0 := kn.free 0
              have f1 := kn.free 1
              have f2 := kn.free 2
              have e0 := kn.cellAt 0
              have e1 := kn.cellAt 1
              have e2 := kn.cellAt 2
              simp only [Fr.cells, Li.cells, List.cons_append, List.nil_append, List.getElem?_cons_zero, List.getElem?_cons_succ] at c0 c1 c2 c3 c4 c5 c6 c7 e0 e1 e2
              clear kb kn
              go_wp2
              refine bodyPost_ret (results_net (g := W.heap.size + 1) (r := r) (k := k) (o := .slice none 0 0) (v := .bool false) rfl rfl rfl (((Whole.set KN.out 0 (.int .i64 r)).set 1 (.int .i64 k)).set 2 (.slice none 0 0))) rfl ⟨.inr ⟨hno.out, r, k, none, 0, 0, rfl⟩, ?_⟩
              exact ((HB.out.setCell (p := ⟨W.heap.size + 1, 0, none⟩) (by simp) _).setCell (p := ⟨W.heap.size + 1, 1, none⟩) (by simp) _).setCell (p := ⟨W.heap.size + 1, 2, none⟩) (by simp) _
  · have hno : Hid (¬ okF R) := Lib.hid (fun h => by rw [HRR.out] at h; exact p1 (by rw [← HCN.out, ← HPN.out]; exact h.len))
    have p1' : ¬ (cn : Int) = (pn : Int) := by omega
    have hK0 := HK0.out
    have hmu := HMU.out
    have kb := KB.out
    have kn := KN.out
    have c0 := kb.cellAt 0
    have c1 := kb.cellAt 1
    have c2 := kb.cellAt 2
    have c3 := kb.cellAt 3
    have c4 := kb.cellAt 4
    have c5 := kb.cellAt 5
    have c6 := kb.cellAt 6
    have c7 := kb.cellAt 7
    have lb := kb.lt
    have ln := kn.lt
    have f0 := kn.free 0
    have f1 := kn.free 1
    have f2 := kn.free 2
    have e0 := kn.cellAt 0
    have e1 := kn.cellAt 1
    have e2 := kn.cellAt 2
    simp only [Fr.cells, Li.cells, List.cons_append, List.nil_append, List.getElem?_cons_zero, List.getElem?_cons_succ] at c0 c1 c2 c3 c4 c5 c6 c7 e0 e1 e2
    clear kb kn
    go_enter Try.func23, Try.ntmps23
    go_wp2
    refine bodyPost_ret (results_net (g := W.heap.size + 1) (r := 0) (k := 0) (o := .slice none 0 0) (v := .bool false) rfl rfl rfl (((Whole.set KN.out 0 (.int .i64 0)).set 1 (.int .i64 0)).set 2 (.slice none 0 0))) rfl ⟨.inr ⟨hno.out, 0, 0, none, 0, 0, rfl⟩, ?_⟩
    exact ((HB.out.setCell (p := ⟨W.heap.size + 1, 0, none⟩) (by simp) _).setCell (p := ⟨W.heap.size + 1, 1, none⟩) (by simp) _).setCell (p := ⟨W.heap.size + 1, 2, none⟩) (by simp) _
end Go.Proofs.Ytceippgkmoijdaa
