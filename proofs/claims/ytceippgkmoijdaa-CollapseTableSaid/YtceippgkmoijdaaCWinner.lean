/- The contract of contest.Winner. -/
import Derived.Test.YtceippgkmoijdaaRSlice
namespace Go.Proofs.Ytceippgkmoijdaa
open Go.RowKit Go.Shelf Go.Sort
set_option linter.unusedVariables false
set_option linter.unusedSimpArgs false
attribute [local go_sem] Oper.semAt_some

theorem results_sideC {fn : Func} {W : World} {g : Nat} {s : Si} {v : Value} {tmps : Array Value} (hf : fn.results = #[.cell 2 54, .tmp 3]) (ht : tmps[2]? = some (.pointer (some ⟨g, 0, none⟩))) (hv : tmps[3]? = some v) (h : Whole W g 54 s.cells) :
    (results fn tmps).run Try.prog W = .ok (.tuple #[s.val, v]) W := by
  have h2 : tmps.getD 2 undef = .pointer (some ⟨g, 0, none⟩) := by simp [Array.getD_eq_getD_getElem?, ht]
  have h3 : tmps.getD 3 undef = v := by simp [Array.getD_eq_getD_getElem?, hv]
  have hl := run_loadVar_row (P := Try.prog) W g 54 54 s.cells.toArray (0, 0) _ h Try.underlying54 rfl (by rw [Try.infoSide]; rfl)
  rw [results_cell_tmp hf, h2, h3]
  simp [asAddr, hl, Si.val_eq]
/-- what Winner returns -/
def winV (zs : List Si) : Value := .tuple #[(winR zs).1.val, .int .i64 (winR zs).2]
set_option maxRecDepth 100000 in
set_option maxHeartbeats 2000000 in
theorem winner_none (a : Option Addr) (c : Nat) (w : World) : Calls Try.prog 72 #[.slice a 0 c] w fun e W' => e = .returned (.tuple #[Si.zero.val, .int .i64 110]) ∧ Below w.heap.size w W' := by
  refine (callsIn_wide (n := 3)).1 (callsIn_of_wp_marks Try.func72 rfl trivial (wpIn_wide.2 ?_) rfl)
  simp only [Try.ntmps72, List.size_toArray, List.length_cons, List.length_nil, Nat.reduceAdd, Nat.reduceSub, Array.replicate_succ, Array.replicate_zero, List.push_toArray, List.append_toArray, List.nil_append, List.cons_append]
  have KZ := whole_new w [.int .i64 0, .int .i64 0, .int .u32 0, .int .i64 0, .int .i64 0, .int .i64 0] 54 _ rfl
  have HB : Hid (Below w.heap.size w (w.alloc (.cells #[.int .i64 0, .int .i64 0, .int .u32 0, .int .i64 0, .int .i64 0, .int .i64 0] 54))) := Lib.hid ((Below.refl _ w).alloc (Nat.le_refl _) _)
  have HK := Lib.hid KZ
  clear KZ
  go_wp2
  refine wp_scope_jumps 0 (fun _ _ => False) (fun _ _ => 0) rfl ?_ (fun _ _ h => h.elim)
  go_wp2
  dsimp only [Exit.jump]
  refine leaves_marks w.heap.size [] _ (Marks.nil _ _) (fun W' hck hbk => ⟨_, results_sideC (g := w.heap.size) (s := Si.zero) rfl rfl rfl (hck _ _ HK.out rfl), rfl, HB.out.trans hbk⟩)
set_option maxRecDepth 100000 in
set_option maxHeartbeats 2000000 in
theorem winner_bad (p : Option Addr) (m c : Nat) (zs : List Si) (w : World) (hz : Sides w (.slice p m c) zs) (hm : zs.length = m) (h0 : m ≠ 0) (hb : zs.all rightS = false) : Calls Try.prog 72 #[.slice p m c] w fun e W' => e = .returned (.tuple #[Si.zero.val, .int .i64 110]) ∧ Below w.heap.size w W' := by
  have HA := Lib.hid (fun sv X hI => hb ▸ allRight_any sv zs X hI)
  have HZ := Lib.hid hz
  have h0' : ((m : Int) == 0) = false := by simp; omega
  clear hz hm hb h0
  refine (callsIn_wide (n := 3)).1 (callsIn_of_wp_marks Try.func72 rfl trivial (wpIn_wide.2 ?_) rfl)
  simp only [Try.ntmps72, List.size_toArray, List.length_cons, List.length_nil, Nat.reduceAdd, Nat.reduceSub, Array.replicate_succ, Array.replicate_zero, List.push_toArray, List.append_toArray, List.nil_append, List.cons_append]
  have HK := Lib.hid (whole_new w [.int .i64 0, .int .i64 0, .int .u32 0, .int .i64 0, .int .i64 0, .int .i64 0] 54 _ rfl)
  have HB : Hid (Below w.heap.size w (w.alloc (.cells #[.int .i64 0, .int .i64 0, .int .u32 0, .int .i64 0, .int .i64 0, .int .i64 0] 54))) := Lib.hid ((Below.refl _ w).alloc (Nat.le_refl _) _)
  go_wp2
  refine wp_scope_jumps 0 (fun _ _ => False) (fun _ _ => 0) rfl ?_ (fun _ _ h => h.elim)
  go_wp2_with fail
  refine (HA.out _ _ (HZ.out.below ((Below.refl _ _).alloc (Nat.le_refl _) _))).mono ?_
  rintro e w1 ⟨rfl, hb1⟩
  have HK1 := Lib.hid (HK.out.below hb1 HK.out.lt)
  have HB1 := Lib.hid (HB.out.trans (hb1.mono HB.out.size))
  clear hb1 HK HB
  have z0 := HK1.out.cellAt 0
  have z1 := HK1.out.cellAt 1
  have z2 := HK1.out.cellAt 2
  have z3 := HK1.out.cellAt 3
  have z4 := HK1.out.cellAt 4
  have z5 := HK1.out.cellAt 5
  have y0 := HK1.out.free 0
  have y1 := HK1.out.free 1
  have y2 := HK1.out.free 2
  have y3 := HK1.out.free 3
  have y4 := HK1.out.free 4
  have y5 := HK1.out.free 5
  have lz := HK1.out.lt
  go_wp2
  have HK2 := Lib.hid ((((((HK1.out.set 0 (.int .i64 0)).set 1 (.int .i64 0)).set 2 (.int .u32 0)).set 3 (.int .i64 0)).set 4 (.int .i64 0)).set 5 (.int .i64 0))
  have HB2 := Lib.hid ((((((HB1.out.setCell (p := ⟨w.heap.size, 0, none⟩) (Nat.le_refl _) (.int .i64 0)).setCell (p := ⟨w.heap.size, 1, none⟩) (Nat.le_refl _) (.int .i64 0)).setCell (p := ⟨w.heap.size, 2, none⟩) (Nat.le_refl _) (.int .u32 0)).setCell (p := ⟨w.heap.size, 3, none⟩) (Nat.le_refl _) (.int .i64 0)).setCell (p := ⟨w.heap.size, 4, none⟩) (Nat.le_refl _) (.int .i64 0)).setCell (p := ⟨w.heap.size, 5, none⟩) (Nat.le_refl _) (.int .i64 0))
  clear z0 z1 z2 z3 z4 z5 y0 y1 y2 y3 y4 y5
  dsimp only [Exit.jump]
  generalize (((((w1.setCell ⟨w.heap.size, 0, none⟩ (.int .i64 0)).setCell ⟨w.heap.size, 1, none⟩ (.int .i64 0)).setCell ⟨w.heap.size, 2, none⟩ (.int .u32 0)).setCell ⟨w.heap.size, 3, none⟩ (.int .i64 0)).setCell ⟨w.heap.size, 4, none⟩ (.int .i64 0)).setCell ⟨w.heap.size, 5, none⟩ (.int .i64 0) = w2 at HK2 HB2 ⊢
  refine leaves_marks w.heap.size [] _ (Marks.nil _ _) (fun W' hck hbk => ⟨_, results_sideC (g := w.heap.size) (s := Si.zero) rfl rfl rfl (hck _ _ HK2.out rfl), rfl, HB2.out.trans hbk⟩)
/-- MAIN: what lies in Winner's memory: the best so far, the rest, the box of the answer -/
structure WS (w X : World) (gb gr gz : Nat) (best : Si) (p : Option Addr) (m c : Nat) (rest : List Si) : Prop where
  kb : Whole X gb 54 best.cells
  kr : Whole X gr 132 [.slice p m c]
  kz : Whole X gz 54 Si.zero.cells
  lo : Below w.heap.size w X
  lb : w.heap.size ≤ gb
  lr : w.heap.size ≤ gr
  lz : w.heap.size ≤ gz
  nbr : gb ≠ gr
  nbz : gb ≠ gz
  nrz : gr ≠ gz
  rows : Sides w (.slice p m c) rest
  len : rest.length = m
  cap : m ≤ c
  top : c ≤ 9223372036854775807
  fb : Fit best
  fr : ∀ s ∈ rest, Fit s
theorem WS.low {N : Nat} {w X Y : World} {gb gr gz : Nat} {best : Si} {p : Option Addr} {m c : Nat} {rest : List Si} (h : WS w X gb gr gz best p m c rest) (hb : Below N X Y) (h1 : gb < N) (h2 : gr < N) (h3 : gz < N) (h4 : w.heap.size ≤ N) : WS w Y gb gr gz best p m c rest :=
  { h with kb := (hb.block _ h1).trans h.kb, kr := (hb.block _ h2).trans h.kr, kz := (hb.block _ h3).trans h.kz, lo := h.lo.trans (hb.mono h4) }
theorem WS.below {w X Y : World} {gb gr gz : Nat} {best : Si} {p : Option Addr} {m c : Nat} {rest : List Si} (h : WS w X gb gr gz best p m c rest) (hb : Below X.heap.size X Y) : WS w Y gb gr gz best p m c rest :=
  h.low hb h.kb.lt h.kr.lt h.kz.lt h.lo.size
theorem Sides.drop {W : World} {p : Option Addr} {m c : Nat} {zs : List Si} (h : Sides W (.slice p m c) zs) (hm : zs.length = m) (fr : Nat) (hf : fr ≤ m) (hc : m ≤ c) :
    Sides W (.slice (if c = fr then p else p.map (·.add (fr * 6))) (m - fr) (c - fr)) (zs.drop fr) := by
  refine ⟨by have := h.1; simp; omega, ?_⟩
  by_cases he : fr = m
  · subst he
    exact .inl ⟨_, _, by rw [Nat.sub_self], List.drop_of_length_le (by omega)⟩
  · right
    obtain ⟨hl, ⟨a, cap, e, rfl⟩ | ⟨b, off, cap, e, hlt, hcell⟩⟩ := h
    · simp at hm; omega
    · injection e with e1 e2 e3
      subst e1 e3
      rw [if_neg (by omega)]
      refine ⟨b, off + fr * 6, c - fr, by simp [add_plainC, hm], hlt, fun j hj i v hv => ?_⟩
      have hj' : fr + j < zs.length := by simp at hj; omega
      have e : (zs.drop fr)[j]! = zs[fr + j]! := by simp [List.getElem!_eq_getElem?_getD, List.getElem?_drop]
      rw [e] at hv
      have := hcell (fr + j) hj' i v hv
      rw [show off + fr * 6 + j * 6 + i = off + (fr + j) * 6 + i by omega]; exact this
theorem Fit.drop {zs : List Si} (h : ∀ s ∈ zs, Fit s) (k : Nat) : ∀ s ∈ zs.drop k, Fit s := fun s hs => h s (List.mem_of_mem_drop hs)
/-- a set of marks stays -/
theorem Marks.low {N B : Nat} {Ds : List Nat} {X Y : World} (h : Marks B Ds X) (hb : Below N X Y) (hl : ∀ D ∈ Ds, D < N) : Marks B Ds Y := ⟨h.1, fun D hD => ⟨(h.2 D hD).1, (hb.block D (hl D hD)).trans (h.2 D hD).2⟩⟩
def marksC (Ds : List Nat) : List Deferred := Ds.map fun D => ({ target := .collected D, args := #[] } : Deferred)
/-- what holds at the label -/
def JWn (w : World) (win : Si) (p0 : Option Addr) (m0 c0 : Nat) (a : Act) (X : World) : Prop :=
  ∃ (gb gr gz : Nat) (best : Si) (p : Option Addr) (m c : Nat) (rest : List Si) (Ds : List Nat) (u1 u6 u7 u8 u9 u10 u11 u12 u13 u14 u15 u16 u17 u18 u19 u20 u21 u22 u23 u24 u25 u26 u27 u28 u29 u30 u31 u32 u33 u34 u35 u36 : Value),
    a = { tmps := #[.slice p0 m0 c0, u1, .pointer (some ⟨gz, 0, none⟩), .int .i64 0, .pointer (some ⟨gb, 0, none⟩), .pointer (some ⟨gr, 0, none⟩), u6, u7, u8, u9, u10, u11, u12, u13, u14, u15, u16, u17, u18, u19, u20, u21, u22, u23, u24, u25, u26, u27, u28, u29, u30, u31, u32, u33, u34, u35, u36], defers := marksC Ds } ∧ WS w X gb gr gz best p m c rest ∧ winF best rest = win ∧ Marks w.heap.size Ds X ∧ ∀ D ∈ Ds, D < X.heap.size
def muWn (a : Act) (X : World) : Nat := match a.tmps.getD 5 undef with | .pointer (some ad) => (match X.cell? ad with | some (.slice _ m _) => m | _ => 0) | _ => 0
/-- what holds in the rounds -/
def IWn (w : World) (gb gr gz : Nat) (best : Si) (p : Option Addr) (m c : Nat) (rest : List Si) (Ds : List Nat) (pre : List (Nat × Si)) (X : World) : Prop :=
  (∀ x ∈ pre, ¬ cmpS x.2 best < 0) ∧ WS w X gb gr gz best p m c rest ∧ Marks w.heap.size Ds X
/-- what holds where the work starts again -/
def IXn (w : World) (gb gr gz : Nat) (win : Si) (m : Nat) (Ds : List Nat) (cd : Code) (pre : List (Nat × Si)) (X : World) : Prop :=
  cd = .goto 0 ∧ ∃ (best : Si) (p : Option Addr) (m' c' : Nat) (rest : List Si), WS w X gb gr gz best p m' c' rest ∧ winF best rest = win ∧ m' < m ∧ Marks w.heap.size Ds X
theorem jump_leC {l : Nat} {J J' : Act → World → Prop} {Q : Exit → Act → World → Prop} (h : ∀ a w, J a w → J' a w) : ∀ e a w, Exit.jump l J Q e a w → Exit.jump l J' Q e a w := by
  intro e a w k
  cases e <;> first | exact k | exact ⟨k.1, h _ _ k.2⟩
theorem scope_passC {P : Program} {a : Act} {w : World} {Q : Exit → Act → World → Prop} {c rest : Code} (l : Nat) (J : Act → World → Prop) (μ : Act → World → Nat) (hf : findLabel c l = some (.seq .skip rest))
    (first : (∀ a w, J a w → rest.wp P (Exit.jump l J Q) a w) → c.wp P (Exit.jump l J Q) a w)
    (pass : ∀ a w, J a w → rest.wp P (Exit.jump l (fun a' w' => J a' w' ∧ μ a' w' < μ a w) Q) a w) : (Code.scope c).wp P Q a w :=
  wp_scope_jumps l J μ hf (first fun a w h => (wpIn_wide (n := 3)).1 (wpIn_mono (wpIn_wide.2 (pass a w h)) (jump_leC fun _ _ h => h.1))) (fun a w h => wp_seq (wp_skip (pass a w h)))
theorem keeps_below {W W' : World} (h : Below W.heap.size W W') : KeepsOthers W W' := ⟨h.size, fun k o hk _ => (h.block k (Array.getElem?_eq_some_iff.1 hk).1).trans hk⟩
theorem WS.grown {w X Y : World} {gb gr gz l : Nat} {best : Si} {p : Option Addr} {m c : Nat} {rest : List Si} (h : WS w X gb gr gz best p m c rest) (hg : X.grownBy Y (some l)) (h1 : l ≠ gb) (h2 : l ≠ gr) (h3 : l ≠ gz) (h4 : w.heap.size ≤ l) : WS w Y gb gr gz best p m c rest :=
  { h with kb := (hg.block _ h.kb.lt (fun e => h1 (by injection e with e; exact e.symm))).trans h.kb, kr := (hg.block _ h.kr.lt (fun e => h2 (by injection e with e; exact e.symm))).trans h.kr, kz := (hg.block _ h.kz.lt (fun e => h3 (by injection e with e; exact e.symm))).trans h.kz, lo := h.lo.grown hg h.lo.size (fun k e => by injection e with e; omega) }
theorem Marks.grown {B l : Nat} {Ds : List Nat} {X X1 Y : World} (h : Marks B Ds X) (hb : Below X.heap.size X X1) (hg : X1.grownBy Y (some l)) (hl : ∀ D ∈ Ds, D < l) : Marks B Ds Y :=
  ⟨h.1, fun D hD => ⟨(h.2 D hD).1, by
    have h2 := (h.2 D hD).2
    have hlt := (Array.getElem?_eq_some_iff.1 h2).1
    exact (hg.block D (Nat.lt_of_lt_of_le hlt hb.size) (fun e => by injection e with e; have := hl D hD; omega)).trans ((hb.block D hlt).trans h2)⟩⟩
/-- only the boxes of the best and of the rest have changed -/
structure SRn (w8 : World) (gb gr : Nat) (w X : World) : Prop where
  lo : Below w.heap.size w8 X
  size : w8.heap.size ≤ X.heap.size
  other : ∀ j, j ≠ gb → j ≠ gr → X.heap[j]? = w8.heap[j]?
  hb : w.heap.size ≤ gb
  hr : w.heap.size ≤ gr
theorem SRn.start (w8 : World) (gb gr : Nat) (w : World) (hb : w.heap.size ≤ gb) (hr : w.heap.size ≤ gr) : SRn w8 gb gr w w8.drew := ⟨(Below.refl _ _).drew, Nat.le_refl _, fun _ _ _ => rfl, hb, hr⟩
theorem SRn.row {w8 w X : World} {gb gr : Nat} (h : SRn w8 gb gr w X) (cs : Array Value) : SRn w8 gb gr w (X.setRow gb cs) :=
  ⟨⟨h.lo.os, h.lo.tape, h.lo.output, by simp; exact h.size, fun k hk => (setRow_other X gb k cs (by have := h.hb; omega)).trans (h.lo.block k hk)⟩, by simp; exact h.size, fun j h1 h2 => (setRow_other X gb j cs h1).trans (h.other j h1 h2), h.hb, h.hr⟩
theorem SRn.set {w8 w X : World} {gb gr : Nat} (h : SRn w8 gb gr w X) (v : Value) : SRn w8 gb gr w (X.setCell ⟨gr, 0, none⟩ v) :=
  ⟨h.lo.setCell h.hr v, by simp; exact h.size, fun j h1 h2 => (Below.heap_setCell X ⟨gr, 0, none⟩ v j (by simpa using h2)).trans (h.other j h1 h2), h.hb, h.hr⟩
theorem SRn.cells {w8 w X : World} {gb gr gx t : Nat} {xs : List Value} (h : SRn w8 gb gr w X) (k : Whole w8 gx t xs) (h1 : gx ≠ gb) (h2 : gx ≠ gr) (j : Nat) : X.cell? ⟨gx, j, none⟩ = xs[j]? := Whole.cellAt ((h.other gx h1 h2).trans k) j
theorem SRn.lt {w8 w X : World} {gb gr gx t : Nat} {xs : List Value} (h : SRn w8 gb gr w X) (k : Whole w8 gx t xs) (h1 : gx ≠ gb) (h2 : gx ≠ gr) : gx < X.heap.size := Whole.lt ((h.other gx h1 h2).trans k)
def noPanC (Q : Exit → Act → World → Prop) : Exit → Act → World → Prop
  | .panic _, _, _ => False
  | e, a, w => Q e a w
theorem noPanC_le {Q : Exit → Act → World → Prop} (e : Exit) (a : Act) (w : World) (h : noPanC Q e a w) : Q e a w := by cases e <;> first | exact h | exact h.elim
theorem region_held_npC {P : Program} {ops : Array Oper} {Q : Exit → Act → World → Prop} {S : World → Prop} {id : Nat} {a : Act} {w : World} (hm : P.follows .mixedOrders = true)
    (h : ∀ w2 : World, w.drew = w2 → wpAnyH P .any ops (noPanC Q) S ops.size (Array.replicate ops.size false) a w2) : (Code.region id ops true).wp P Q a w :=
  (wpIn_wide (n := 0)).1 (wpIn_mono (wpIn_wide.2 (wp_region_held hm (h _ rfl))) noPanC_le)
set_option maxRecDepth 100000 in
set_option maxHeartbeats 8000000 in
theorem winner_main (b off m0 c0 : Nat) (s : Si) (zs : List Si) (w : World) (hz : Sides w (.slice (some ⟨b, off, none⟩) m0 c0) (s :: zs)) (hm : (s :: zs).length = m0) (hc : m0 ≤ c0) (hcx : c0 ≤ 9223372036854775807) (hb : (s :: zs).all rightS = true) (hhue : ∀ x ∈ s :: zs, x.hue) :
    Calls Try.prog 72 #[.slice (some ⟨b, off, none⟩) m0 c0] w fun e W' => e = .returned (.tuple #[(winF s zs).val, .int .i64 0]) ∧ Below w.heap.size w W' := by
  have hfit : ∀ x ∈ s :: zs, Fit x := fun x hx => ⟨List.all_eq_true.1 hb x hx, hhue x hx⟩
  have HA := Lib.hid (fun sv X hI => hb ▸ allRight_any sv (s :: zs) X hI)
  have HZ := Lib.hid hz
  have hmm : zs.length + 1 = m0 := by simpa using hm
  have hm0 : 0 < m0 := by omega
  have h0' : ((m0 : Int) == 0) = false := by simp; omega
  obtain ⟨b', off', e1, hbl, hcl⟩ := hz.at 0 s rfl
  injection e1 with e1
  injection e1 with e1 e2
  subst e1 e2
  have hbw : b < w.heap.size := hbl
  obtain ⟨cs, hcs⟩ : ∃ cs, s.cells.toArray = cs := ⟨_, rfl⟩
  have HCS := Lib.hid (show s.cells = cs.toList by rw [← hcs])
  have ICS : Hid ((Try.prog.info? 54).map (·.size) = some cs.size) := Lib.hid (by rw [← hcs]; exact Try.infoSide)
  have ZCS : Hid ((#[.int .i64 0, .int .i64 0, .int .u32 0, .int .i64 0, .int .i64 0, .int .i64 0] : Array Value).size = cs.size) := Lib.hid (by rw [← hcs]; rfl)
  have OCS : Hid (cs.all (·.oneCell') = true) := Lib.hid (by rw [← hcs]; exact s.cells_one)
  have HLC : Hid (∀ j v, cs[j]? = some v → w.cell? ((⟨b, off, none⟩ : Addr).add j) = some v) := Lib.hid fun j v hv => by
    rw [add_plainC]
    have := hcl j v (by rw [← hcs] at hv; simpa using hv)
    simpa using this
  have HFIT := Lib.hid hfit
  have HMM := Lib.hid hmm
  generalize hwin : winF s zs = win at *
  have HWN : Hid (winF s zs = win) := Lib.hid hwin
  clear hz hm hb hhue hfit hcl hbl hcs hmm hwin
  refine (callsIn_wide (n := 3)).1 (callsIn_of_wp_marks Try.func72 rfl trivial (wpIn_wide.2 ?_) rfl)
  simp only [Try.ntmps72, List.size_toArray, List.length_cons, List.length_nil, Nat.reduceAdd, Nat.reduceSub, Array.replicate_succ, Array.replicate_zero, List.push_toArray, List.append_toArray, List.nil_append, List.cons_append]
  have HK := Lib.hid (whole_new w [.int .i64 0, .int .i64 0, .int .u32 0, .int .i64 0, .int .i64 0, .int .i64 0] 54 _ rfl)
  have HB : Hid (Below w.heap.size w (w.alloc (.cells #[.int .i64 0, .int .i64 0, .int .u32 0, .int .i64 0, .int .i64 0, .int .i64 0] 54))) := Lib.hid ((Below.refl _ w).alloc (Nat.le_refl _) _)
  go_wp2
  refine scope_passC 0 (JWn w win (some ⟨b, off, none⟩) m0 c0) muWn rfl ?first ?pass
  case first =>
    intro pass
    go_wp2_with fail
    refine (HA.out _ _ (HZ.out.below ((Below.refl _ _).alloc (Nat.le_refl _) _))).mono ?_
    rintro e W1 ⟨rfl, hb1⟩
    have HK1 : Hid (Whole W1 w.heap.size 54 [.int .i64 0, .int .i64 0, .int .u32 0, .int .i64 0, .int .i64 0, .int .i64 0]) := Lib.hid (HK.out.below hb1 HK.out.lt)
    have HB1 : Hid (Below w.heap.size w W1) := Lib.hid (HB.out.trans (hb1.mono HB.out.size))
    have hs1 : w.heap.size < W1.heap.size := HK1.out.lt
    clear hb1 HK HB HA
    obtain ⟨q, hq⟩ : ∃ q : Option Addr, (if c0 = 1 then some ⟨b, off, none⟩ else (some ⟨b, off, none⟩ : Option Addr).map (·.add (1 * 6))) = q := ⟨_, rfl⟩
    have HQ := Lib.hid hq
    clear hq
    have HMK : Hid (∀ (gb gr : Nat) (q : Option Addr) (X : World), Grew W1 X → Whole X gb 54 s.cells → Whole X gr 132 [.slice q (m0 - 1) (c0 - 1)] → W1.heap.size ≤ gb → W1.heap.size ≤ gr → gb ≠ gr →
        (if c0 = 1 then some ⟨b, off, none⟩ else (some ⟨b, off, none⟩ : Option Addr).map (·.add (1 * 6))) = q → WS w X gb gr w.heap.size s q (m0 - 1) (c0 - 1) zs) := Lib.hid fun gb gr q X hX h1 h2 h3 h4 h5 h6 => by
      subst h6
      have hd := HZ.out.drop (by have := HMM.out; simp; omega) 1 (by omega) hc
      exact { kb := h1, kr := h2, kz := HK1.out.below hX.lo hs1, lo := HB1.out.trans (hX.lo.mono (by omega)), lb := by omega, lr := by omega, lz := Nat.le_refl _, nbr := h5, nbz := by omega, nrz := by omega,
              rows := hd, len := by have := HMM.out; omega, cap := by omega, top := by omega, fb := HFIT.out s (by simp), fr := fun x hx => HFIT.out x (by simp [hx]) }
    have HLD : Hid (∀ X, Grew W1 X → ∀ j v, cs[j]? = some v → X.cell? ((⟨b, off, none⟩ : Addr).add j) = some v) := Lib.hid fun X hX j v hv => by
      have h1 := HLC.out j v hv
      rw [add_plainC] at h1 ⊢
      exact (hX.lo.cell (p := ⟨b, off + j, none⟩) (by show b < W1.heap.size; omega)).trans ((HB1.out.cell (p := ⟨b, off + j, none⟩) hbw).trans h1)
    go_wp2
    refine region_held_npC (S := fun X => Hid (Grew W1 X)) (by kernel_rfl) (fun w9 hw9 => ?_)
    have SV : Hid (Grew W1 w9) := Lib.hid (by rw [← hw9]; exact (Grew.refl _).drew)
    clear hw9
    try simp only [Act.put, List.setIfInBounds_toArray, List.set_cons_succ, List.set_cons_zero]
    refine wpAnyH_takeC (i := 0) (v := .slice (some ⟨b, off, none⟩) m0 c0) (some 17) rfl rfl (by kernel_rfl) (by kernel_rfl) (by kernel_rfl) (fun _ _ _ h => h) (Or.inl ⟨by rfl, fun X hX => by go_simp⟩) SV ?_
    try simp only [Act.put, List.setIfInBounds_toArray, List.set_cons_succ, List.set_cons_zero]
    refine wpAnyH_takeC (i := 1) (v := .pointer (some ⟨b, off, none⟩)) (some 18) rfl rfl (by kernel_rfl) (by kernel_rfl) (by kernel_rfl) (fun _ _ _ h => h) (Or.inl ⟨by rfl, fun X hX => by go_simp⟩) SV ?_
    try simp only [Act.put, List.setIfInBounds_toArray, List.set_cons_succ, List.set_cons_zero]
    refine wpAnyH_takeC (i := 2) (v := .agg cs) (some 19) rfl rfl (by kernel_rfl) (by kernel_rfl) (by kernel_rfl) (fun _ _ _ h => h) (yields_loadC (by rfl) 54 (.tmp 18) rfl _ rfl cs _ (fun X hX => HLD.out X hX.out) Try.underlying54 rfl ICS.out) SV ?_
    try simp only [Act.put, List.setIfInBounds_toArray, List.set_cons_succ, List.set_cons_zero]
    refine wpAnyH_takeC (i := 3) (v := .slice (some ⟨b, off, none⟩) m0 c0) (some 20) rfl rfl (by kernel_rfl) (by kernel_rfl) (by kernel_rfl) (fun _ _ _ h => h) (Or.inl ⟨by rfl, fun X hX => by go_simp⟩) SV ?_
    try simp only [Act.put, List.setIfInBounds_toArray, List.set_cons_succ, List.set_cons_zero]
    refine wpAnyH_takeC (i := 4) (v := .slice q (m0 - 1) (c0 - 1)) (some 21) rfl rfl (by kernel_rfl) (by kernel_rfl) (by kernel_rfl) (fun _ _ _ h => h) (Or.inl ⟨by rfl, fun X hX => by rw [← HQ.out]; exact exec_sliceZ_l 6 132 _ _ rfl 54 Try.underlying132 (Try.sizeOf54 X) _ m0 c0 1 rfl rfl (by omega)⟩) SV ?_
    try simp only [Act.put, List.setIfInBounds_toArray, List.set_cons_succ, List.set_cons_zero]
    refine wpAnyH_all (rs := [5, 6]) (by kernel_rfl) (by simp) ?_
    intro ii hii
    rcases (show ii = 5 ∨ ii = 6 by simpa using hii) with rfl | rfl
    · clear hii
      refine wpOp_step rfl (fun K hK => ?_)
      go_simp
      have SX : Hid (Grew W1 (World.alloc w9 (.cells #[.int .i64 0, .int .i64 0, .int .u32 0, .int .i64 0, .int .i64 0, .int .i64 0] 54))) := Lib.hid (SV.out.alloc _)
      obtain ⟨gb, hg⟩ : ∃ gb, (World.heap w9).size = gb := ⟨_, rfl⟩
      have Lgb : Hid (W1.heap.size ≤ gb) := Lib.hid (by rw [← hg]; exact SV.out.lo.size)
      have Ggb : Hid (Whole (World.alloc w9 (.cells #[.int .i64 0, .int .i64 0, .int .u32 0, .int .i64 0, .int .i64 0, .int .i64 0] 54)) gb 54 [.int .i64 0, .int .i64 0, .int .u32 0, .int .i64 0, .int .i64 0, .int .i64 0]) := Lib.hid (whole_new _ _ _ _ hg.symm)
      refine hK _ _ ⟨SX, ?_⟩
      rw [hg]
      clear hK K SV hg
      have SV := SX
      clear SX
      generalize World.alloc w9 (.cells #[.int .i64 0, .int .i64 0, .int .u32 0, .int .i64 0, .int .i64 0, .int .i64 0] 54) = v1 at SV Ggb ⊢
      try simp only [Act.put, List.setIfInBounds_toArray, List.set_cons_succ, List.set_cons_zero]
      refine wpAnyH_all (rs := [6]) (by kernel_rfl) (by simp) ?_
      intro ii hii
      obtain rfl : ii = 6 := by simpa using hii
      clear hii
      refine wpOp_step rfl (fun K hK => ?_)
      go_simp
      have SX : Hid (Grew W1 (World.alloc v1 (.cells #[.slice none 0 0] 132))) := Lib.hid (SV.out.alloc _)
      obtain ⟨gr, hg⟩ : ∃ gr, (World.heap v1).size = gr := ⟨_, rfl⟩
      have Lgr : Hid (W1.heap.size ≤ gr) := Lib.hid (by rw [← hg]; exact SV.out.lo.size)
      have Ggr : Hid (Whole (World.alloc v1 (.cells #[.slice none 0 0] 132)) gr 132 [.slice none 0 0]) := Lib.hid (whole_new _ _ _ _ hg.symm)
      have GY := Lib.hid (Ggb.out.alloc (.cells #[.slice none 0 0] 132))
      have NE : Hid (gb ≠ gr) := Lib.hid (by have := Ggb.out.lt; omega)
      refine hK _ _ ⟨SX, ?_⟩
      rw [hg]
      clear hK K SV hg
      have SV := SX
      clear SX
      clear Ggb
      have Ggb := GY
      clear GY
      generalize World.alloc v1 (.cells #[.slice none 0 0] 132) = v2 at SV Ggr Ggb ⊢
      try simp only [Act.put, List.setIfInBounds_toArray, List.set_cons_succ, List.set_cons_zero]
      refine wpAnyH_all (rs := [7]) (by kernel_rfl) (by simp) ?_
      intro ii hii
      obtain rfl : ii = 7 := by simpa using hii
      clear hii
      refine wpOp_step rfl (fun K hK => ?_)
      refine wp_store_rowC rfl 54 (.tmp 4) (.tmp 19) rfl gb cs rfl rfl 54 #[.int .i64 0, .int .i64 0, .int .u32 0, .int .i64 0, .int .i64 0, .int .i64 0] Ggb.out ICS.out ZCS.out OCS.out ?_
      have SX := Lib.hid (SV.out.row gb cs Lgb.out)
      have GX := Lib.hid (whole_rowA Ggb.out cs)
      have GY := Lib.hid (whole_rowO Ggr.out gb cs (fun e => NE.out e.symm))
      refine hK _ _ ⟨SX, ?_⟩
      clear hK K SV Ggb Ggr
      have SV := SX
      have Ggb := GX
      have Ggr := GY
      clear SX GX GY
      try simp only [Act.put, List.setIfInBounds_toArray, List.set_cons_succ, List.set_cons_zero]
      generalize World.setRow _ gb cs = wq at SV Ggb Ggr ⊢
      refine wpAnyH_all (rs := [8]) (by kernel_rfl) (by simp) ?_
      intro ii hii
      obtain rfl : ii = 8 := by simpa using hii
      clear hii
      refine wpOp_step rfl (fun K hK => ?_)
      have y0 := Ggr.out.free 0
      have z0 := Ggr.out.cellAt 0
      have yl := Ggr.out.lt
      go_simp
      have SX := Lib.hid (SV.out.set ⟨gr, 0, none⟩ (.slice q (m0 - 1) (c0 - 1)) Lgr.out)
      have GX := Lib.hid (Ggr.out.set 0 (.slice q (m0 - 1) (c0 - 1)))
      have GY := Lib.hid (Ggb.out.other ⟨gr, 0, none⟩ (.slice q (m0 - 1) (c0 - 1)) NE.out)
      refine hK _ _ ⟨SX, ?_⟩
      clear hK K SV Ggb Ggr y0 z0 yl
      have SV := SX
      have Ggr := GX
      have Ggb := GY
      clear SX GX GY
      try simp only [Act.put, List.setIfInBounds_toArray, List.set_cons_succ, List.set_cons_zero]
      generalize World.setCell _ ⟨gr, 0, none⟩ (.slice q (m0 - 1) (c0 - 1)) = wr at SV Ggb Ggr ⊢
      refine wpAnyH_done (by kernel_rfl) ?_ _
      have HWS := Lib.hid (HMK.out gb gr q wr SV.out (by rw [HCS.out]; exact Ggb.out) Ggr.out Lgb.out Lgr.out NE.out HQ.out)
      clear SV Ggb Ggr Lgb Lgr NE
      simp only [noPanC]
      go_wp2
      refine wp_label ?_
      simp only [Exit.then]
      rename_i KK hKK
      refine hKK _ _ (pass _ _ ?_)
      exact ⟨gb, gr, w.heap.size, _, q, _, _, _, [], _, _, _, _, _, _, _, _, _, _, _, _, _, _, _, _, _, _, _, _, _, _, _, _, _, _, _, _, _, _, _, _, rfl, HWS.out, HWN.out, Marks.nil _ _, fun _ h => by cases h⟩
    · clear hii
      refine wpOp_step rfl (fun K hK => ?_)
      go_simp
      have SX : Hid (Grew W1 (World.alloc w9 (.cells #[.slice none 0 0] 132))) := Lib.hid (SV.out.alloc _)
      obtain ⟨gr, hg⟩ : ∃ gr, (World.heap w9).size = gr := ⟨_, rfl⟩
      have Lgr : Hid (W1.heap.size ≤ gr) := Lib.hid (by rw [← hg]; exact SV.out.lo.size)
      have Ggr : Hid (Whole (World.alloc w9 (.cells #[.slice none 0 0] 132)) gr 132 [.slice none 0 0]) := Lib.hid (whole_new _ _ _ _ hg.symm)
      refine hK _ _ ⟨SX, ?_⟩
      rw [hg]
      clear hK K SV hg
      have SV := SX
      clear SX
      generalize World.alloc w9 (.cells #[.slice none 0 0] 132) = v1 at SV Ggr ⊢
      try simp only [Act.put, List.setIfInBounds_toArray, List.set_cons_succ, List.set_cons_zero]
      refine wpAnyH_all (rs := [5]) (by kernel_rfl) (by simp) ?_
      intro ii hii
      obtain rfl : ii = 5 := by simpa using hii
      clear hii
      refine wpOp_step rfl (fun K hK => ?_)
      go_simp
      have SX : Hid (Grew W1 (World.alloc v1 (.cells #[.int .i64 0, .int .i64 0, .int .u32 0, .int .i64 0, .int .i64 0, .int .i64 0] 54))) := Lib.hid (SV.out.alloc _)
      obtain ⟨gb, hg⟩ : ∃ gb, (World.heap v1).size = gb := ⟨_, rfl⟩
      have Lgb : Hid (W1.heap.size ≤ gb) := Lib.hid (by rw [← hg]; exact SV.out.lo.size)
      have Ggb : Hid (Whole (World.alloc v1 (.cells #[.int .i64 0, .int .i64 0, .int .u32 0, .int .i64 0, .int .i64 0, .int .i64 0] 54)) gb 54 [.int .i64 0, .int .i64 0, .int .u32 0, .int .i64 0, .int .i64 0, .int .i64 0]) := Lib.hid (whole_new _ _ _ _ hg.symm)
      have GY := Lib.hid (Ggr.out.alloc (.cells #[.int .i64 0, .int .i64 0, .int .u32 0, .int .i64 0, .int .i64 0, .int .i64 0] 54))
      have NE : Hid (gb ≠ gr) := Lib.hid (by have := Ggr.out.lt; omega)
      refine hK _ _ ⟨SX, ?_⟩
      rw [hg]
      clear hK K SV hg
      have SV := SX
      clear SX
      clear Ggr
      have Ggr := GY
      clear GY
      generalize World.alloc v1 (.cells #[.int .i64 0, .int .i64 0, .int .u32 0, .int .i64 0, .int .i64 0, .int .i64 0] 54) = v2 at SV Ggb Ggr ⊢
      try simp only [Act.put, List.setIfInBounds_toArray, List.set_cons_succ, List.set_cons_zero]
      refine wpAnyH_all (rs := [7]) (by kernel_rfl) (by simp) ?_
      intro ii hii
      obtain rfl : ii = 7 := by simpa using hii
      clear hii
      refine wpOp_step rfl (fun K hK => ?_)
      refine wp_store_rowC rfl 54 (.tmp 4) (.tmp 19) rfl gb cs rfl rfl 54 #[.int .i64 0, .int .i64 0, .int .u32 0, .int .i64 0, .int .i64 0, .int .i64 0] Ggb.out ICS.out ZCS.out OCS.out ?_
      have SX := Lib.hid (SV.out.row gb cs Lgb.out)
      have GX := Lib.hid (whole_rowA Ggb.out cs)
      have GY := Lib.hid (whole_rowO Ggr.out gb cs (fun e => NE.out e.symm))
      refine hK _ _ ⟨SX, ?_⟩
      clear hK K SV Ggb Ggr
      have SV := SX
      have Ggb := GX
      have Ggr := GY
      clear SX GX GY
      try simp only [Act.put, List.setIfInBounds_toArray, List.set_cons_succ, List.set_cons_zero]
      generalize World.setRow _ gb cs = wq at SV Ggb Ggr ⊢
      refine wpAnyH_all (rs := [8]) (by kernel_rfl) (by simp) ?_
      intro ii hii
      obtain rfl : ii = 8 := by simpa using hii
      clear hii
      refine wpOp_step rfl (fun K hK => ?_)
      have y0 := Ggr.out.free 0
      have z0 := Ggr.out.cellAt 0
      have yl := Ggr.out.lt
      go_simp
      have SX := Lib.hid (SV.out.set ⟨gr, 0, none⟩ (.slice q (m0 - 1) (c0 - 1)) Lgr.out)
      have GX := Lib.hid (Ggr.out.set 0 (.slice q (m0 - 1) (c0 - 1)))
      have GY := Lib.hid (Ggb.out.other ⟨gr, 0, none⟩ (.slice q (m0 - 1) (c0 - 1)) NE.out)
      refine hK _ _ ⟨SX, ?_⟩
      clear hK K SV Ggb Ggr y0 z0 yl
      have SV := SX
      have Ggr := GX
      have Ggb := GY
      clear SX GX GY
      try simp only [Act.put, List.setIfInBounds_toArray, List.set_cons_succ, List.set_cons_zero]
      generalize World.setCell _ ⟨gr, 0, none⟩ (.slice q (m0 - 1) (c0 - 1)) = wr at SV Ggb Ggr ⊢
      refine wpAnyH_done (by kernel_rfl) ?_ _
      have HWS := Lib.hid (HMK.out gb gr q wr SV.out (by rw [HCS.out]; exact Ggb.out) Ggr.out Lgb.out Lgr.out NE.out HQ.out)
      clear SV Ggb Ggr Lgb Lgr NE
      simp only [noPanC]
      go_wp2
      refine wp_label ?_
      simp only [Exit.then]
      rename_i KK hKK
      refine hKK _ _ (pass _ _ ?_)
      exact ⟨gb, gr, w.heap.size, _, q, _, _, _, [], _, _, _, _, _, _, _, _, _, _, _, _, _, _, _, _, _, _, _, _, _, _, _, _, _, _, _, _, _, _, _, _, rfl, HWS.out, HWN.out, Marks.nil _ _, fun _ h => by cases h⟩
  case pass =>
    clear HLC HCS ICS ZCS OCS HZ HK HB HFIT HMM HA
    rintro a X ⟨gb, gr, gz, best, p, m, c, rest, Ds, u1, u6, u7, u8, u9, u10, u11, u12, u13, u14, u15, u16, u17, u18, u19, u20, u21, u22, u23, u24, u25, u26, u27, u28, u29, u30, u31, u32, u33, u34, u35, u36, rfl, HWSx, hwin, hmk, hml⟩
    have HWS := Lib.hid HWSx
    have kb := HWSx.kb
    have kr := HWSx.kr
    have hfb := HWSx.fb
    have b0 := kb.cellAt 0
    have b1 := kb.cellAt 1
    have b2 := kb.cellAt 2
    have b3 := kb.cellAt 3
    have b4 := kb.cellAt 4
    have b5 := kb.cellAt 5
    have lb := kb.lt
    have r0 := kr.cellAt 0
    have lr := kr.lt
    have HMU : Hid (muWn { tmps := #[.slice (some ⟨b, off, none⟩) m0 c0, u1, .pointer (some ⟨gz, 0, none⟩), .int .i64 0, .pointer (some ⟨gb, 0, none⟩), .pointer (some ⟨gr, 0, none⟩), u6, u7, u8, u9, u10, u11, u12, u13, u14, u15, u16, u17, u18, u19, u20, u21, u22, u23, u24, u25, u26, u27, u28, u29, u30, u31, u32, u33, u34, u35, u36], defers := marksC Ds } X = m) := Lib.hid (by
      show (match X.cell? ⟨gr, 0, none⟩ with | some (.slice _ m _) => m | _ => 0) = m
      rw [r0]; rfl)
    have HWI := Lib.hid hwin
    have HMK := Lib.hid hmk
    have HML := Lib.hid hml
    obtain ⟨st, wd, co, bb, ro, cl⟩ := best
    simp only [Si.cells, List.getElem?_cons_zero, List.getElem?_cons_succ] at b0 b1 b2 b3 b4 b5 r0
    have HRV := Lib.hid (fun X => rivals_any ⟨st, wd, co, bb, ro, cl⟩ p m c X)
    unfold Si.val Si.cells at HRV
    dsimp only at HRV
    obtain ⟨gof, hgof⟩ : ∃ gof, X.heap.size = gof := ⟨_, rfl⟩
    have HGO := Lib.hid hgof
    clear kb kr HWSx hwin hmk hml hgof
    go_wp2_with (go_at_call 85; refine (HRV.out _).mono ?_; rintro e w' ⟨rfl, rfl⟩; refine Hid.out ?_)
    refine Lib.hid ?_
    rw [HGO.out]
    obtain ⟨W2, hW2⟩ : ∃ W2, (X.alloc (.cells [.int .i64 st, .int .i64 wd, .int .u32 co, .int .i64 bb, .int .i64 ro, .int .i64 cl].toArray 54)).alloc (.cells #[.slice p m c] 132) = W2 := ⟨_, rfl⟩
    rw [hW2]
    have hs2 : gof + 2 ≤ W2.heap.size ∧ W2.heap.size ≤ gof + 2 := by rw [← hW2, ← HGO.out]; simp
    obtain ⟨hs3, hs4⟩ := hs2
    have KO : Whole W2 gof 54 (Si.cells ⟨st, wd, co, bb, ro, cl⟩) := by rw [← hW2, ← HGO.out]; exact (whole_new X (Si.cells ⟨st, wd, co, bb, ro, cl⟩) 54 _ rfl).alloc _
    have KL : Whole W2 (gof + 1) 132 [.slice p m c] := by rw [← hW2, ← HGO.out]; exact whole_new (X.alloc _) [.slice p m c] 132 _ (by simp)
    have BX : Below X.heap.size X W2 := by rw [← hW2]; exact ((Below.refl _ X).alloc (Nat.le_refl _) _).alloc (by simp) _
    have WS2 := HWS.out.below BX
    have MK2 := HMK.out.low BX HML.out
    have hlow : w.heap.size ≤ gof := by have := HWS.out.lo.size; rw [HGO.out] at this; exact this
    rw [HGO.out] at lb lr
    have lz : gz < gof := by have := HWS.out.kz.lt; rw [HGO.out] at this; exact this
    clear b0 b1 b2 b3 b4 b5 r0 HRV
    have hbl : W2.cell? ⟨gof + 1, 0, none⟩ = some (.slice p m c) := KL.cellAt 0
    have HN := Lib.hid (riv_next 1 (by omega) gof (gof + 1) ⟨st, wd, co, bb, ro, cl⟩ hfb p m c rest WS2.len WS2.fr W2 KO hbl (WS2.rows.below (WS2.lo)))
    clear hW2
    go_wp2
    refine (wpIn_wide (n := 3)).1 (range_keep (F := Fence.wide) rfl (by omega) (gf := 97) (lb := #[.pointer (some ⟨gof, 0, none⟩), .pointer (some ⟨gof + 1, 0, none⟩)]) rfl trivial (enters_of Try.func97 (by kernel_rfl) rfl)
      (Kp := KeepBut [W2.heap.size + 1]) (fun _ _ _ h k => h.trans k) (fun W o _ => KeepBut.put W _ o (by simp)) (riv_next _ (by omega) gof (gof + 1) ⟨st, wd, co, bb, ro, cl⟩ hfb p m c rest WS2.len WS2.fr W2 KO hbl (WS2.rows.below WS2.lo)) (fun _ => rfl)
      (IWn w gb gr gz ⟨st, wd, co, bb, ro, cl⟩ p m c rest Ds) (IXn w gb gr gz win m Ds)
      (fun s X Y h hb => ⟨h.1, h.2.1.low hb (by omega) (by omega) (by omega) (by omega), h.2.2.low hb (fun D hD => by have := HML.out D hD; have := HGO.out; omega)⟩)
      (fun cd s X Y h hb => by
        obtain ⟨e, bt, q, m', c', rs, h1, h2, h3, h4⟩ := h
        exact ⟨e, bt, q, m', c', rs, h1.low hb (by omega) (by omega) (by omega) (by omega), h2, h3, h4.low hb (fun D hD => by have := HML.out D hD; have := HGO.out; omega)⟩)
      ⟨(by intro x hx; cases hx), WS2, MK2⟩ ?round ?done ?stop)
    case round =>
      rintro l pre ⟨k, s⟩ V hl hI ⟨hs, hne, hpre⟩
      dsimp only at hs hne hpre
      have hfx : Fit s := WS2.fr s (List.mem_of_getElem? hs)
      have hkm : k < m := by have h1 := WS2.len; have h2 := (List.getElem?_eq_some_iff.1 hs).1; omega
      have HO := Lib.hid (fun X => order_any s ⟨st, wd, co, bb, ro, cl⟩ hfx hfb X)
      obtain ⟨cmp, hcmp⟩ : ∃ cmp, cmpS s ⟨st, wd, co, bb, ro, cl⟩ = cmp := ⟨_, rfl⟩
      rw [hcmp] at HO
      have HCMP := Lib.hid hcmp
      have HS := Lib.hid hs
      have HPRE := Lib.hid hpre
      have HFX := Lib.hid hfx
      clear hcmp hs hne hpre hfx KO KL BX HN
      obtain ⟨st', wd', co', bb', ro', cl'⟩ := s
      unfold Si.val at HO
      dsimp only at HO
      refine ⟨{ tmps := #[.slice (some ⟨b, off, none⟩) m0 c0, u1, .pointer (some ⟨gz, 0, none⟩), .int .i64 0, .pointer (some ⟨gb, 0, none⟩), .pointer (some ⟨gr, 0, none⟩), .int .i64 (k : Int), .pointer (some ⟨V.heap.size, 0, none⟩), u8, u9, u10, u11, u12, u13, u14, u15, u16, u17, u18, u19, u20, u21, .agg #[.int .i64 st, .int .i64 wd, .int .u32 co, .int .i64 bb, .int .i64 ro, .int .i64 cl], .slice p m c, .func (.func 97) #[] #[.pointer (some ⟨gof, 0, none⟩), .pointer (some ⟨gof + 1, 0, none⟩)], .int .i64 (k : Int), .agg #[.int .i64 st', .int .i64 wd', .int .u32 co', .int .i64 bb', .int .i64 ro', .int .i64 cl'], u27, u28, u29, u30, u31, u32, u33, u34, u35, u36], defers := [] }, V.alloc (.cells #[.int .i64 st', .int .i64 wd', .int .u32 co', .int .i64 bb', .int .i64 ro', .int .i64 cl'] 54), ?_, (KeepsOthers.alloc _ _).from _, KeepBut.of_below ((Below.refl _ _).alloc (Nat.le_refl _) _), ?_⟩
      · intro K hK
        dsimp only [encR, Si.val]
        gi_wp2
        exact hK
      · intro V₂ hgV hnc hbl2
        have hI1 := hI.1
        have WS3 := (hI.2.1.below ((Below.refl _ _).alloc (Nat.le_refl _) (.cells #[.int .i64 st', .int .i64 wd', .int .u32 co', .int .i64 bb', .int .i64 ro', .int .i64 cl'] 54))).grown hgV (by omega) (by omega) (by omega) (by omega)
        have MK3 := hI.2.2.grown ((Below.refl _ V).alloc (Nat.le_refl _) (.cells #[.int .i64 st', .int .i64 wd', .int .u32 co', .int .i64 bb', .int .i64 ro', .int .i64 cl'] 54)) hgV (fun D hD => by have := HML.out D hD; have := HGO.out; omega)
        have KX0 := whole_new V [.int .i64 st', .int .i64 wd', .int .u32 co', .int .i64 bb', .int .i64 ro', .int .i64 cl'] 54 _ rfl
        have KX := KX0.grown hgV (KX0.ne hnc)
        have HI1 := Lib.hid hI1
        have HW3 := Lib.hid WS3
        have HM3 := Lib.hid MK3
        have HKX := Lib.hid KX
        have kb := WS3.kb
        have b0 := kb.cellAt 0
        have b1 := kb.cellAt 1
        have b2 := kb.cellAt 2
        have b3 := kb.cellAt 3
        have b4 := kb.cellAt 4
        have b5 := kb.cellAt 5
        have lb3 := kb.lt
        simp only [Si.cells, List.getElem?_cons_zero, List.getElem?_cons_succ] at b0 b1 b2 b3 b4 b5
        have x0 := KX.cellAt 0
        have x1 := KX.cellAt 1
        have x2 := KX.cellAt 2
        have x3 := KX.cellAt 3
        have x4 := KX.cellAt 4
        have x5 := KX.cellAt 5
        have lx3 := KX.lt
        have hVb : gb < V.heap.size := hI.2.1.kb.lt
        have hVr : gr < V.heap.size := hI.2.1.kr.lt
        obtain ⟨gx, hgx⟩ : ∃ gx, V.heap.size = gx := ⟨_, rfl⟩
        rw [hgx] at HKX x0 x1 x2 x3 x4 x5 lx3 hVb hVr ⊢
        clear hI hI1 WS3 MK3 KX0 KX kb hgV hnc hbl2 hgx
        gi_wp2_with fail
        refine ⟨trivial, (CallsIn.inRound l (callsIn_wide.2 (HO.out _))).mono ?_⟩
        rintro e w8 ⟨rfl, hg8⟩
        have HW8 := Lib.hid (HW3.out.below hg8.lo)
        have HM8 := Lib.hid (HM3.out.low hg8.lo (fun D hD => (Array.getElem?_eq_some_iff.1 (HM3.out.2 D hD).2).1))
        have HX8 := Lib.hid (HKX.out.below hg8.lo HKX.out.lt)
        have HB8 := Lib.hid hg8.lo
        clear b0 b1 b2 b3 b4 b5 x0 x1 x2 x3 x4 x5 lb3 lx3 HW3 HM3 HKX hg8 HO
        by_cases hlt : cmp < 0
        · have HWN2 := Lib.hid (win_goto HS.out (by rw [← HPRE.out]; intro x hx; have := HI1.out x hx; omega) (by rw [HCMP.out]; exact hlt))
          have r0 := HW8.out.kr.cellAt 0
          have lr8 := HW8.out.kr.lt
          simp only [List.getElem?_cons_zero] at r0
          obtain ⟨q, hq⟩ : ∃ q : Option Addr, (if c = k + 1 then p else p.map (·.add ((k + 1) * 6))) = q := ⟨_, rfl⟩
          have HQ := Lib.hid hq
          clear hq
          have hcap := HW8.out.cap
          have htop := HW8.out.top
          have HFIN : Hid (∀ Y, SRn w8 gb gr w Y → Whole Y gb 54 (Si.cells ⟨st', wd', co', bb', ro', cl'⟩) → Whole Y gr 132 [.slice q (m - (k + 1)) (c - (k + 1))] → KeepsFrom W2.heap.size V₂ Y ∧ IXn w gb gr gz win m Ds (.goto 0) (pre ++ [(k, ⟨st', wd', co', bb', ro', cl'⟩)]) Y) := Lib.hid fun Y hY h1 h2 => by
            refine ⟨⟨by have := hY.size; have := HB8.out.size; omega, fun j o hj ho hnc => ?_⟩, rfl, ⟨st', wd', co', bb', ro', cl'⟩, q, m - (k + 1), c - (k + 1), rest.drop (k + 1), ?_, ?_, by omega, ?_⟩
            · have hjl := (Array.getElem?_eq_some_iff.1 ho).1
              exact (hY.other j (by omega) (by omega)).trans ((HB8.out.block j hjl).trans ho)
            · have hr := HW8.out.rows.drop HW8.out.len (k + 1) (by omega) hcap
              rw [HQ.out] at hr
              exact { kb := h1, kr := h2, kz := (hY.other gz (fun e => HW8.out.nbz e.symm) (fun e => HW8.out.nrz e.symm)).trans HW8.out.kz, lo := HW8.out.lo.trans hY.lo, lb := HW8.out.lb, lr := HW8.out.lr, lz := HW8.out.lz, nbr := HW8.out.nbr, nbz := HW8.out.nbz, nrz := HW8.out.nrz,
                      rows := hr, len := by have := HW8.out.len; simp; omega, cap := by omega, top := by omega, fb := HFX.out, fr := Fit.drop HW8.out.fr (k + 1) }
            · rw [← HWN2.out]; exact HWI.out
            · refine ⟨HM8.out.1, fun D hD => ⟨(HM8.out.2 D hD).1, ?_⟩⟩
              have hD2 := (HM8.out.2 D hD).2
              have n1 : D ≠ gb := fun e => by rw [e, show w8.heap[gb]? = _ from HW8.out.kb] at hD2; cases hD2
              have n2 : D ≠ gr := fun e => by rw [e, show w8.heap[gr]? = _ from HW8.out.kr] at hD2; cases hD2
              exact (hY.other D n1 n2).trans hD2
          have hwk : IntKind.i64.wrap ((k : Int) + 1) = ((k + 1 : Nat) : Int) := by simp [IntKind.wrap, IntKind.bits, IntKind.signed]; omega
          have HWK := Lib.hid hwk
          have nxb : gx ≠ gb := by omega
          have nxr : gx ≠ gr := by omega
          have nbr := HW8.out.nbr
          clear hwk
          gi_wp2
          refine wpIn_round_held (S := fun X => Hid (SRn w8 gb gr w X)) (by kernel_rfl) (by kernel_rfl) (by simp only [LetsOut, Exit.inBlock, Exit.then]; first | (rintro ⟨x, y, h⟩; exact h) | simp) ?_
          have SV : Hid (SRn w8 gb gr w w8.drew) := Lib.hid (SRn.start w8 gb gr w HW8.out.lb HW8.out.lr)
          have GB : Hid (Whole w8.drew gb 54 (Si.cells ⟨st, wd, co, bb, ro, cl⟩)) := Lib.hid HW8.out.kb
          have GR : Hid (Whole w8.drew gr 132 [.slice p m c]) := Lib.hid HW8.out.kr
          generalize w8.drew = w9 at SV GB GR ⊢
          clear r0
          refine wpAnyH_takeC (i := 0) (v := .agg #[.int .i64 st', .int .i64 wd', .int .u32 co', .int .i64 bb', .int .i64 ro', .int .i64 cl']) (some 31) rfl rfl (by kernel_rfl) (by kernel_rfl) (by kernel_rfl) (fun _ _ _ h => h) (Or.inl ⟨by rfl, fun X hX => by have o0 := (hX.out.cells HX8.out nxb nxr 0); have o1 := (hX.out.cells HX8.out nxb nxr 1); have o2 := (hX.out.cells HX8.out nxb nxr 2); have o3 := (hX.out.cells HX8.out nxb nxr 3); have o4 := (hX.out.cells HX8.out nxb nxr 4); have o5 := (hX.out.cells HX8.out nxb nxr 5); have lX := hX.out.lt HX8.out nxb nxr; simp only [List.getElem?_cons_zero, List.getElem?_cons_succ] at o0 o1 o2 o3 o4 o5; go_simp⟩) SV ?_
          try simp only [Act.put, List.setIfInBounds_toArray, List.set_cons_succ, List.set_cons_zero]
          refine wpAnyH_takeC (i := 2) (v := .int .i64 (k : Int)) (some 33) rfl rfl (by kernel_rfl) (by kernel_rfl) (by kernel_rfl) (fun _ _ _ h => h) (Or.inl ⟨by rfl, fun X hX => by go_simp⟩) SV ?_
          try simp only [Act.put, List.setIfInBounds_toArray, List.set_cons_succ, List.set_cons_zero]
          refine wpAnyH_takeC (i := 3) (v := .int .i64 ((k + 1 : Nat) : Int)) (some 34) rfl rfl (by kernel_rfl) (by kernel_rfl) (by kernel_rfl) (fun _ _ _ h => h) (Or.inl ⟨by rfl, fun X hX => by rw [← HWK.out]; go_simp⟩) SV ?_
          try simp only [Act.put, List.setIfInBounds_toArray, List.set_cons_succ, List.set_cons_zero]
          refine wpAnyH_all (rs := [1, 5]) (by kernel_rfl) (by simp) ?_
          intro ii hii
          rcases (show ii = 1 ∨ ii = 5 by simpa using hii) with rfl | rfl
          · clear hii
            refine wpOp_step rfl (fun K hK => ?_)
            have r1 := GR.out.cellAt 0
            have r2 := GR.out.lt
            simp only [List.getElem?_cons_zero] at r1
            go_simp
            refine hK _ _ ⟨SV, ?_⟩
            clear hK K r1 r2
            try simp only [Act.put, List.setIfInBounds_toArray, List.set_cons_succ, List.set_cons_zero]
            refine wpAnyH_takeC (i := 4) (v := .slice q (m - (k + 1)) (c - (k + 1))) (some 35) rfl rfl (by kernel_rfl) (by kernel_rfl) (by kernel_rfl) (fun _ _ _ h => h) (Or.inl ⟨by rfl, fun X hX => by rw [← HQ.out]; exact exec_sliceZ_l 6 132 _ _ rfl 54 Try.underlying132 (Try.sizeOf54 X) _ m c (k + 1) rfl rfl (by omega)⟩) SV ?_
            try simp only [Act.put, List.setIfInBounds_toArray, List.set_cons_succ, List.set_cons_zero]
            refine wpAnyH_all (rs := [5]) (by kernel_rfl) (by simp) ?_
            intro ii hii
            obtain rfl : ii = 5 := by simpa using hii
            clear hii
            refine wpOp_step rfl (fun K hK => ?_)
            refine wp_store_rowC rfl 54 (.tmp 4) (.tmp 31) rfl gb #[.int .i64 st', .int .i64 wd', .int .u32 co', .int .i64 bb', .int .i64 ro', .int .i64 cl'] rfl rfl 54 _ GB.out Try.infoSide rfl (Si.cells_one ⟨st', wd', co', bb', ro', cl'⟩) ?_
            have SX := Lib.hid (SV.out.row #[.int .i64 st', .int .i64 wd', .int .u32 co', .int .i64 bb', .int .i64 ro', .int .i64 cl'])
            have GX := Lib.hid (whole_rowA GB.out #[.int .i64 st', .int .i64 wd', .int .u32 co', .int .i64 bb', .int .i64 ro', .int .i64 cl'])
            have GY := Lib.hid (whole_rowO GR.out gb #[.int .i64 st', .int .i64 wd', .int .u32 co', .int .i64 bb', .int .i64 ro', .int .i64 cl'] (fun e => nbr e.symm))
            refine hK _ _ ⟨SX, ?_⟩
            clear hK K SV GB GR
            have SV := SX
            have GB := GX
            have GR := GY
            clear SX GX GY
            try simp only [Act.put, List.setIfInBounds_toArray, List.set_cons_succ, List.set_cons_zero]
            generalize World.setRow _ gb #[.int .i64 st', .int .i64 wd', .int .u32 co', .int .i64 bb', .int .i64 ro', .int .i64 cl'] = wq at SV GB GR ⊢
            refine wpAnyH_all (rs := [6]) (by kernel_rfl) (by simp) ?_
            intro ii hii
            obtain rfl : ii = 6 := by simpa using hii
            clear hii
            refine wpOp_step rfl (fun K hK => ?_)
            have y0 := GR.out.free 0
            have z0 := GR.out.cellAt 0
            have yl := GR.out.lt
            simp only [List.getElem?_cons_zero] at z0
            go_simp
            have SX := Lib.hid (SV.out.set (.slice q (m - (k + 1)) (c - (k + 1))))
            have GX := Lib.hid (GR.out.set 0 (.slice q (m - (k + 1)) (c - (k + 1))))
            have GY := Lib.hid (GB.out.other ⟨gr, 0, none⟩ (.slice q (m - (k + 1)) (c - (k + 1))) nbr)
            refine hK _ _ ⟨SX, ?_⟩
            clear hK K SV GB GR y0 z0 yl
            have SV := SX
            have GR := GX
            have GB := GY
            clear SX GX GY
            try simp only [Act.put, List.setIfInBounds_toArray, List.set_cons_succ, List.set_cons_zero]
            generalize World.setCell _ ⟨gr, 0, none⟩ (.slice q (m - (k + 1)) (c - (k + 1))) = wz at SV GB GR ⊢
            refine wpAnyH_done (by kernel_rfl) ?_ _
            have HF2 := Lib.hid (HFIN.out wz SV.out GB.out GR.out)
            clear SV GB GR
            gi_wp2
            apply wpIn_goto
            exact HF2.out
          · clear hii
            refine wpOp_step rfl (fun K hK => ?_)
            refine wp_store_rowC rfl 54 (.tmp 4) (.tmp 31) rfl gb #[.int .i64 st', .int .i64 wd', .int .u32 co', .int .i64 bb', .int .i64 ro', .int .i64 cl'] rfl rfl 54 _ GB.out Try.infoSide rfl (Si.cells_one ⟨st', wd', co', bb', ro', cl'⟩) ?_
            have SX := Lib.hid (SV.out.row #[.int .i64 st', .int .i64 wd', .int .u32 co', .int .i64 bb', .int .i64 ro', .int .i64 cl'])
            have GX := Lib.hid (whole_rowA GB.out #[.int .i64 st', .int .i64 wd', .int .u32 co', .int .i64 bb', .int .i64 ro', .int .i64 cl'])
            have GY := Lib.hid (whole_rowO GR.out gb #[.int .i64 st', .int .i64 wd', .int .u32 co', .int .i64 bb', .int .i64 ro', .int .i64 cl'] (fun e => nbr e.symm))
            refine hK _ _ ⟨SX, ?_⟩
            clear hK K SV GB GR
            have SV := SX
            have GB := GX
            have GR := GY
            clear SX GX GY
            try simp only [Act.put, List.setIfInBounds_toArray, List.set_cons_succ, List.set_cons_zero]
            generalize World.setRow _ gb #[.int .i64 st', .int .i64 wd', .int .u32 co', .int .i64 bb', .int .i64 ro', .int .i64 cl'] = wq at SV GB GR ⊢
            refine wpAnyH_all (rs := [1]) (by kernel_rfl) (by simp) ?_
            intro ii hii
            obtain rfl : ii = 1 := by simpa using hii
            clear hii
            refine wpOp_step rfl (fun K hK => ?_)
            have r1 := GR.out.cellAt 0
            have r2 := GR.out.lt
            simp only [List.getElem?_cons_zero] at r1
            go_simp
            refine hK _ _ ⟨SV, ?_⟩
            clear hK K r1 r2
            try simp only [Act.put, List.setIfInBounds_toArray, List.set_cons_succ, List.set_cons_zero]
            refine wpAnyH_takeC (i := 4) (v := .slice q (m - (k + 1)) (c - (k + 1))) (some 35) rfl rfl (by kernel_rfl) (by kernel_rfl) (by kernel_rfl) (fun _ _ _ h => h) (Or.inl ⟨by rfl, fun X hX => by rw [← HQ.out]; exact exec_sliceZ_l 6 132 _ _ rfl 54 Try.underlying132 (Try.sizeOf54 X) _ m c (k + 1) rfl rfl (by omega)⟩) SV ?_
            try simp only [Act.put, List.setIfInBounds_toArray, List.set_cons_succ, List.set_cons_zero]
            refine wpAnyH_all (rs := [6]) (by kernel_rfl) (by simp) ?_
            intro ii hii
            obtain rfl : ii = 6 := by simpa using hii
            clear hii
            refine wpOp_step rfl (fun K hK => ?_)
            have y0 := GR.out.free 0
            have z0 := GR.out.cellAt 0
            have yl := GR.out.lt
            simp only [List.getElem?_cons_zero] at z0
            go_simp
            have SX := Lib.hid (SV.out.set (.slice q (m - (k + 1)) (c - (k + 1))))
            have GX := Lib.hid (GR.out.set 0 (.slice q (m - (k + 1)) (c - (k + 1))))
            have GY := Lib.hid (GB.out.other ⟨gr, 0, none⟩ (.slice q (m - (k + 1)) (c - (k + 1))) nbr)
            refine hK _ _ ⟨SX, ?_⟩
            clear hK K SV GB GR y0 z0 yl
            have SV := SX
            have GR := GX
            have GB := GY
            clear SX GX GY
            try simp only [Act.put, List.setIfInBounds_toArray, List.set_cons_succ, List.set_cons_zero]
            generalize World.setCell _ ⟨gr, 0, none⟩ (.slice q (m - (k + 1)) (c - (k + 1))) = wz at SV GB GR ⊢
            refine wpAnyH_done (by kernel_rfl) ?_ _
            have HF2 := Lib.hid (HFIN.out wz SV.out GB.out GR.out)
            clear SV GB GR
            gi_wp2
            apply wpIn_goto
            exact HF2.out
        · gi_wp2
          refine ⟨(keeps_below HB8.out).from _, KeepBut.of_below HB8.out, ?_, HW8.out, HM8.out⟩
          intro x hx
          rcases List.mem_append.1 hx with hx | hx
          · have := HI1.out x hx; omega
          · obtain rfl : x = (k, ⟨st', wd', co', bb', ro', cl'⟩) := by simpa using hx
            rw [show cmpS (k, (⟨st', wd', co', bb', ro', cl'⟩ : Si)).2 ⟨st, wd, co, bb, ro, cl⟩ = cmp from HCMP.out]; omega
    case done =>
      rintro D xs V hD rfl hI hmk2
      have hwd := win_done hI.1
      have HWD := Lib.hid hwd
      have WS3 := hI.2.1
      have kb := WS3.kb
      have b0 := kb.cellAt 0
      have b1 := kb.cellAt 1
      have b2 := kb.cellAt 2
      have b3 := kb.cellAt 3
      have b4 := kb.cellAt 4
      have b5 := kb.cellAt 5
      simp only [Si.cells, List.getElem?_cons_zero, List.getElem?_cons_succ] at b0 b1 b2 b3 b4 b5
      have lb3 := kb.lt
      have HKZ := Lib.hid WS3.kz
      have z0 := HKZ.out.cellAt 0
      have z1 := HKZ.out.cellAt 1
      have z2 := HKZ.out.cellAt 2
      have z3 := HKZ.out.cellAt 3
      have z4 := HKZ.out.cellAt 4
      have z5 := HKZ.out.cellAt 5
      simp only [Si.cells, Si.zero, List.getElem?_cons_zero, List.getElem?_cons_succ] at z0 z1 z2 z3 z4 z5
      have y0 := HKZ.out.free 0
      have y1 := HKZ.out.free 1
      have y2 := HKZ.out.free 2
      have y3 := HKZ.out.free 3
      have y4 := HKZ.out.free 4
      have y5 := HKZ.out.free 5
      have lz3 := HKZ.out.lt
      have HWS3 := Lib.hid WS3
      have hlz := WS3.lz
      have HM3 := Lib.hid (hI.2.2.cons (D := D) (by omega) hmk2 (fun E hE => by have := HML.out E hE; have := HGO.out; omega))
      clear hwd WS3 kb hI hmk2 KO KL BX HN
      go_wp2
      have HK2 := Lib.hid ((((((HKZ.out.set 0 (.int .i64 st)).set 1 (.int .i64 wd)).set 2 (.int .u32 co)).set 3 (.int .i64 bb)).set 4 (.int .i64 ro)).set 5 (.int .i64 cl))
      have HB2 := Lib.hid ((((((HWS3.out.lo.setCell (p := ⟨gz, 0, none⟩) hlz (.int .i64 st)).setCell (p := ⟨gz, 1, none⟩) hlz (.int .i64 wd)).setCell (p := ⟨gz, 2, none⟩) hlz (.int .u32 co)).setCell (p := ⟨gz, 3, none⟩) hlz (.int .i64 bb)).setCell (p := ⟨gz, 4, none⟩) hlz (.int .i64 ro)).setCell (p := ⟨gz, 5, none⟩) hlz (.int .i64 cl))
      have HM4 : Hid (Marks w.heap.size (D :: Ds) ((((((V.setCell ⟨gz, 0, none⟩ (.int .i64 st)).setCell ⟨gz, 1, none⟩ (.int .i64 wd)).setCell ⟨gz, 2, none⟩ (.int .u32 co)).setCell ⟨gz, 3, none⟩ (.int .i64 bb)).setCell ⟨gz, 4, none⟩ (.int .i64 ro)).setCell ⟨gz, 5, none⟩ (.int .i64 cl))) := Lib.hid ⟨HM3.out.1, fun E hE => ⟨(HM3.out.2 E hE).1, by
        have hE2 := (HM3.out.2 E hE).2
        have n1 : E ≠ gz := fun e => by rw [e, show V.heap[gz]? = _ from HKZ.out] at hE2; cases hE2
        exact (Below.heap_setCell _ _ _ _ (by simpa using n1)).trans ((Below.heap_setCell _ _ _ _ (by simpa using n1)).trans ((Below.heap_setCell _ _ _ _ (by simpa using n1)).trans ((Below.heap_setCell _ _ _ _ (by simpa using n1)).trans ((Below.heap_setCell _ _ _ _ (by simpa using n1)).trans ((Below.heap_setCell _ _ _ _ (by simpa using n1)).trans hE2)))))⟩⟩
      clear z0 z1 z2 z3 z4 z5 y0 y1 y2 y3 y4 y5 b0 b1 b2 b3 b4 b5
      dsimp only [Exit.jump]
      generalize (((((V.setCell ⟨gz, 0, none⟩ (.int .i64 st)).setCell ⟨gz, 1, none⟩ (.int .i64 wd)).setCell ⟨gz, 2, none⟩ (.int .u32 co)).setCell ⟨gz, 3, none⟩ (.int .i64 bb)).setCell ⟨gz, 4, none⟩ (.int .i64 ro)).setCell ⟨gz, 5, none⟩ (.int .i64 cl) = w3 at HK2 HB2 HM4 ⊢
      refine leaves_marks w.heap.size (D :: Ds) _ HM4.out (fun W' hck hbk => ⟨_, results_sideC (g := gz) (s := ⟨st, wd, co, bb, ro, cl⟩) rfl rfl rfl (hck _ _ HK2.out rfl), by rw [← HWI.out, HWD.out] <;> rfl, HB2.out.trans hbk⟩)
    case stop =>
      rintro D cd pre V hD _ ⟨rfl, bt, q, m', c', rs, h1, h2, h3, h4⟩ hmk2
      have r1 := h1.kr.cellAt 0
      apply wpIn_goto
      simp only [Exit.inBlock, Exit.then, Exit.jump]
      refine ⟨rfl, ⟨gb, gr, gz, bt, q, m', c', rs, D :: Ds, _, _, _, _, _, _, _, _, _, _, _, _, _, _, _, _, _, _, _, _, _, _, _, _, _, _, _, _, _, _, _, _, rfl, h1, h2, h4.cons (D := D) (by omega) hmk2 (fun E hE => by have := HML.out E hE; have := HGO.out; omega), ?_⟩, ?_⟩
      · intro E hE
        rcases List.mem_cons.1 hE with rfl | hE
        · exact (Array.getElem?_eq_some_iff.1 hmk2).1
        · have := (h4.2 E hE).2; exact (Array.getElem?_eq_some_iff.1 this).1
      · rw [HMU.out]
        show (match V.cell? ⟨gr, 0, none⟩ with | some (.slice _ m _) => m | _ => 0) < m
        rw [r1]; exact h3
end Go.Proofs.Ytceippgkmoijdaa
