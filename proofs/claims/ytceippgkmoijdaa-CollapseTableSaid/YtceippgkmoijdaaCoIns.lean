/- Contract of collapse.Insets. Written by mk_CoIns.py. -/
import Derived.Test.YtceippgkmoijdaaCoEds
import Derived.Test.YtceippgkmoijdaaCoWid
namespace Go.Proofs.Ytceippgkmoijdaa
open Go.RowKit Go.Shelf Go.Sort Go.Maps
set_option linter.unusedVariables false
set_option linter.unusedSimpArgs false
attribute [local go_sem] Oper.semAt_some

/-- four lengths -/
structure I4 where
  a : Int
  b : Int
  c : Int
  d : Int
  deriving DecidableEq, Inhabited
def I4.cells (x : I4) : List Value := [.int .i64 x.a, .int .i64 x.b, .int .i64 x.c, .int .i64 x.d]
theorem I4.cells_len (x : I4) : x.cells.length = 4 := rfl
def I4.get (x : I4) (k : Nat) : Int := if k = 0 then x.a else if k = 1 then x.b else if k = 2 then x.c else x.d
def I4.put (x : I4) (k : Nat) (v : Int) : I4 := if k = 0 then { x with a := v } else if k = 1 then { x with b := v } else if k = 2 then { x with c := v } else { x with d := v }
theorem I4.cell_get (x : I4) {k : Nat} (hk : k < 4) : x.cells[k]? = some (.int .i64 (x.get k)) := by
  obtain rfl | rfl | rfl | rfl : k = 0 ∨ k = 1 ∨ k = 2 ∨ k = 3 := by omega
  all_goals rfl
theorem I4.cells_put (x : I4) {k : Nat} (hk : k < 4) (v : Int) : (x.put k v).cells = x.cells.set k (.int .i64 v) := by
  obtain rfl | rfl | rfl | rfl : k = 0 ∨ k = 1 ∨ k = 2 ∨ k = 3 := by omega
  all_goals rfl
/-- a side has room for a border's half -/
def widP (x : I4) (k : Nat) (e : Ed) (first : Bool) : I4 := x.put k (max (x.get k) (halfI e.won.wd first))
def besP (ps : List Pz) (rn kn : Nat) (e : Ed) : Int × Int := (whoL e.lies ps rn kn (IntKind.i64.wrap ((turnP e.lies e.row e.col).1 - 1)) (turnP e.lies e.row e.col).2, whoL e.lies ps rn kn (turnP e.lies e.row e.col).1 (turnP e.lies e.row e.col).2)
def ins1 (L : List I4) (o : Int) (k : Nat) (e : Ed) (first : Bool) : List I4 := if o < 0 then L else L.set o.toNat (widP (L.getD o.toNat default) k e first)
def insS (ps : List Pz) (rn kn : Nat) (L : List I4) (e : Ed) : List I4 :=
  if (besP ps rn kn e).1 = (besP ps rn kn e).2 then L else ins1 (ins1 L (besP ps rn kn e).1 (reaN e.lies) e false) (besP ps rn kn e).2 (forN e.lies) e true
def insP (ps : List Pz) (rn kn : Nat) (es : List Ed) : List I4 := es.foldl (insS ps rn kn) (List.replicate ps.length ⟨0, 0, 0, 0⟩)
theorem ins1_len (L : List I4) (o : Int) (k : Nat) (e : Ed) (first : Bool) : (ins1 L o k e first).length = L.length := by unfold ins1; split <;> simp
theorem insS_len (ps : List Pz) (rn kn : Nat) (L : List I4) (e : Ed) : (insS ps rn kn L e).length = L.length := by
  unfold insS
  split
  · rfl
  · rw [ins1_len, ins1_len]
theorem insF_len (ps : List Pz) (rn kn : Nat) (es : List Ed) (L : List I4) : (es.foldl (insS ps rn kn) L).length = L.length := by
  induction es generalizing L with
  | nil => rfl
  | cons e es ih => rw [List.foldl_cons, ih, insS_len]
theorem insP_len (ps : List Pz) (rn kn : Nat) (es : List Ed) : (insP ps rn kn es).length = ps.length := by unfold insP; rw [insF_len]; simp
theorem insP_snoc (ps : List Pz) (rn kn : Nat) (es : List Ed) (j : Nat) (e : Ed) (h : es[j]? = some e) : insP ps rn kn (es.take (j + 1)) = insS ps rn kn (insP ps rn kn (es.take j)) e := by
  unfold insP
  rw [List.take_add_one, h]
  simp [List.foldl_append]
/-- an edge whose numbers fit -/
def EdOk (e : Ed) : Prop := I64 e.row ∧ I64 e.col ∧ I64 e.won.wd
theorem Try.infoI4 : (Try.prog.info? 39).map (fun i => (i.zero, i.size, i.bytes)) = some (some (.agg #[.int .i64 0, .int .i64 0, .int .i64 0, .int .i64 0]), 4, 32) := by kernel_rfl
theorem make_i4 (m : Nat) (hm : m ≤ 1000000) (w : World) : (Instr.makeSlice 35 (.int .i64 (m : Int)) (.int .i64 (m : Int))).run Try.prog w = .ok (.slice (some ⟨w.heap.size, 0, none⟩) m m) (w.alloc (.cells ((List.replicate m (⟨0, 0, 0, 0⟩ : I4)).flatMap I4.cells).toArray 39)) := by
  cases hi : Try.prog.info? 39 with
  | none => have := Try.infoI4; rw [hi] at this; cases this
  | some i =>
    have h := Try.infoI4
    rw [hi] at h
    simp only [Option.map_some, Option.some.injEq, Prod.mk.injEq] at h
    obtain ⟨hz, h1, h2⟩ := h
    have hr := run_make (P := Try.prog) w 35 39 i _ Try.underlying35 hi hz .i64 .i64 m m (by omega) (by omega) (by rw [h2]; omega) (by omega)
    rw [hr, h1]
    simp only [Int.toNat_natCast]
    rw [← made_flatL I4.cells_len]
    rfl
theorem ins1_nat (L : List I4) (i k : Nat) (e : Ed) (first : Bool) : ins1 L (i : Int) k e first = L.set i (widP (L.getD i default) k e first) := by
  unfold ins1
  rw [if_neg (by omega), Int.toNat_natCast]
theorem ins1_m1 (L : List I4) (k : Nat) (e : Ed) (first : Bool) : ins1 L (-1) k e first = L := by
  unfold ins1
  rw [if_pos (by omega)]
def Ed.zero : Ed := ⟨0, 0, false, ⟨0, 0, 0, 0, 0, 0⟩, 0⟩
/-- one side of one place is made wider -/
theorem ls_wid {G : Nat} {L : List I4} {X Y : World} (h : LsR I4.cells 39 G L [] X) (hb : Below X.heap.size X Y) {i k : Nat} (hi : i < L.length) (hk : k < 4) (e : Ed) (first : Bool) : LsR I4.cells 39 G (L.set i (widP (L.getD i default) k e first)) [] (Y.setCell ⟨G, i * 4 + k, none⟩ (.int .i64 (max ((L.getD i default).get k) (halfI e.won.wd first)))) := by
  have hg : L[i]? = some (L.getD i default) := by simp [hi]
  exact LsR.putc I4.cells_len (LsR.below h hb (Whole.lt h)) i k _ (widP (L.getD i default) k e first) hg _ hk (I4.cells_put _ hk _)
theorem ls_cell {G : Nat} {L : List I4} {X : World} (h : LsR I4.cells 39 G L [] X) {i k : Nat} (hi : i < L.length) (hk : k < 4) : X.cell? ⟨G, i * 4 + k, none⟩ = some (.int .i64 ((L.getD i default).get k)) ∧ X.frozen? ⟨G, i * 4 + k, none⟩ = false := by
  have hg : L[i]? = some (L.getD i default) := by simp [hi]
  exact ⟨by rw [LsR.cell I4.cells_len h i _ hg k hk, I4.cell_get _ hk], Whole.free h _⟩
theorem crs_one (l : Bool) (rn kn g : Nat) : (crs l rn kn g).toArray.all (·.oneCell') = true := by cases l <;> simp [crs, colying, costanding, Value.oneCell']
theorem Ed.one' (e : Ed) : e.cells.toArray.all (·.oneCell') = true := by simp [Ed.cells, Si.cells, Value.oneCell']
set_option maxRecDepth 100000 in
set_option maxHeartbeats 8000000 in
theorem ins_ok (f : Fm) (v : FmV) (rn kn : Nat) (ep : Option Addr) (m ecp : Nat) (es : List Ed) (W : World) (hf : FmAt W f v) (hok : okF f) (hh : HueF f rn kn) (he : RowsK Ed.cells 10 W (.slice ep m ecp) es) (hm1 : m ≤ 1000000) (hE : ∀ e ∈ es, EdOk e) (hps : f.ps.length ≤ 1000) :
    Calls Try.prog 11 #[f.val v, .slice ep m ecp] W fun e X => ∃ G, e = .returned (.tuple #[.slice (some ⟨G, 0, none⟩) f.ps.length f.ps.length, .int .i64 0]) ∧ LsR I4.cells 39 G (insP f.ps rn kn es) [] X ∧ Below W.heap.size W X := by
  have hrt : f.rows.toNat = rn := by rw [hh.rows]; omega
  have hkt : f.cols.toNat = kn := by rw [hh.cols]; omega
  have hml := he.len
  have HM := Lib.hid hml
  have HAT : Hid (∀ X, Below W.heap.size W X → ∀ j c, es[j]? = some c → ∃ g o, ep = some ⟨g, o, none⟩ ∧ g < W.heap.size ∧ ∀ q v, c.cells[q]? = some v → X.cell? ⟨g, o + j * 10 + q, none⟩ = some v) := Lib.hid fun X hX j c hj => by
    obtain ⟨g, o, e, hg, hc⟩ := he.at j c hj
    exact ⟨g, o, e, hg, fun q v hv => (hX.cell (p := ⟨g, o + j * 10 + q, none⟩) hg).trans (hc q v hv)⟩
  have HEE := Lib.hid hE
  have HN := Lib.hid (fun X (hX : Below W.heap.size W X) => (fa_net (hf.below hX)).mono (R' := fun e X' => (∃ p c, e = .returned (.tuple #[.agg #[.int .i64 (rn : Int), .int .i64 (kn : Int), .slice p rn c], .bool true]) ∧ RowsZ X' (.slice p rn c) (ownM f.ps rn kn)) ∧ Below X.heap.size X X') (fun e X' h => ⟨by
    rcases h.1 with ⟨_, p, c, h1, h2⟩ | ⟨h1, _⟩
    · rw [hrt] at h1 h2
      rw [hkt] at h2
      rw [hh.rows, hh.cols] at h1
      exact ⟨p, c, h1, h2⟩
    · exact absurd hok h1, h.2⟩))
  obtain ⟨ppl, pcl, hpv⟩ := hf.ps.formE
  have HPV := Lib.hid hpv
  have M0 : Hid (EdM f v W (W.alloc (.cells (f.cells v).toArray 30))) := Lib.hid ⟨hf.below ((Below.refl _ W).alloc (Nat.le_refl _) _), whole_new W _ 30 _ rfl, (Below.refl _ W).alloc (Nat.le_refl _) _⟩
  have hl := Fm.cells_len f v
  have HF2 : Hid ((f.cells v)[2]? = some (.slice ppl f.ps.length pcl)) := Lib.hid (by rw [← hpv]; rfl)
  unfold Fm.val at HN ⊢
  obtain ⟨fl, hfl⟩ : ∃ fl, f.cells v = fl := ⟨_, rfl⟩
  rw [hfl] at HN hl HF2
  have HFL := Lib.hid hfl
  rw [hfl]
  have IFA : Hid ((Try.prog.info? 30).map (·.size) = some fl.toArray.size) := Lib.hid (by rw [List.size_toArray, hl]; kernel_rfl)
  rw [hfl] at M0
  obtain ⟨fa, hfa⟩ : ∃ fa, fl.toArray = fa := ⟨_, rfl⟩
  rw [hfa] at HN IFA M0
  rw [hfa]
  have HFA := Lib.hid hfa
  obtain ⟨n, hn⟩ : ∃ n, f.ps.length = n := ⟨_, rfl⟩
  rw [hn] at HF2 hps ⊢
  have HNN := Lib.hid hn
  have HRK := Lib.hid (show rn ≤ 100 ∧ kn ≤ 100 from ⟨hh.rl, hh.kl⟩)
  clear hfl hfa hl hrt hkt hf hok hh he hE hml hpv hn
  go_enter Try.func11, Try.ntmps11
  have LF : Hid (∀ j u, fa[j]? = some u → (W.alloc (.cells fa 30)).cell? ((⟨W.heap.size, 0, none⟩ : Addr).add j) = some u) := Lib.hid ((whole_arr (HFL.out ▸ M0.out.box) HFA.out).loads)
  go_wp2_with (first
    | (refine wpList_loadC rfl 30 (.tmp 2) rfl ⟨W.heap.size, 0, none⟩ rfl fa _ LF.out Try.underlying30 rfl IFA.out ?_)
    | (go_at_call 23; refine (HN.out _ M0.out.be).mono ?_; rintro e w1 ⟨⟨p, c, rfl, hz⟩, hb⟩; have HZ := Lib.hid hz; have M1' := Lib.hid (M0.out.below hb); have HNW := Lib.hid (whole_new w1 [.int .i64 (rn : Int), .int .i64 (kn : Int), .slice p rn c] 64 _ rfl); have BNW := Lib.hid ((Below.refl w1.heap.size w1).alloc (Nat.le_refl _) (.cells [.int .i64 (rn : Int), .int .i64 (kn : Int), .slice p rn c].toArray 64)); have q2 := (M1'.out.below BNW.out).box.cellAt 2; rw [HFL.out, HF2.out] at q2; have l2 := (M1'.out.below BNW.out).box.lt; have hmk := make_i4 n (by omega) (w1.alloc (.cells [.int .i64 (rn : Int), .int .i64 (kn : Int), .slice p rn c].toArray 64)))
    | fail)
  have N2' := Lib.hid HNW.out
  have M2' := Lib.hid (M1'.out.below BNW.out)
  have Z2' := Lib.hid (HZ.out.below BNW.out)
  obtain ⟨nb, hnb⟩ : ∃ b, w1.heap.size = b := ⟨_, rfl⟩
  obtain ⟨w2, hw2⟩ : ∃ w, w1.alloc (.cells [.int .i64 (rn : Int), .int .i64 (kn : Int), .slice p rn c].toArray 64) = w := ⟨_, rfl⟩
  rw [hw2] at N2' M2' Z2'
  rw [hnb] at N2'
  have hw2' : w1.alloc (.cells #[.int .i64 (rn : Int), .int .i64 (kn : Int), .slice p rn c] 64) = w2 := hw2
  have hs2 : w2.heap.size = nb + 1 := by rw [← hw2, ← hnb]; simp
  have N2 := N2'
  have M2 := M2'
  have Z2 := Z2'
  try rw [hnb]
  try rw [hw2']
  clear N2' M2' Z2' HNW BNW M1' HZ hnb hw2 hw2' q2 l2 hmk M0 LF HN
  obtain ⟨zc, hzc⟩ : ∃ zc, ((List.replicate n (⟨0, 0, 0, 0⟩ : I4)).flatMap I4.cells).toArray = zc := ⟨_, rfl⟩
  have K0 : Hid (LsR I4.cells 39 w2.heap.size (insP f.ps rn kn (es.take 0)) [] (w2.alloc (.cells zc 39))) := Lib.hid (by
    rw [← hzc]
    unfold insP
    rw [HNN.out]
    exact LsR.of (whole_new w2 _ 39 _ rfl))
  have B0 : Hid (Below w2.heap.size w2 (w2.alloc (.cells zc 39))) := Lib.hid ((Below.refl _ w2).alloc (Nat.le_refl _) _)
  try rw [hzc]
  obtain ⟨G, hG⟩ : ∃ G, w2.heap.size = G := ⟨_, rfl⟩
  rw [hG] at K0
  have HG := Lib.hid hG
  have hnG : nb + 1 = G := by rw [← hs2]; exact hG
  try rw [hG]
  rw [hnG]
  clear hzc hG hnG hs2
  generalize w2.alloc (.cells zc 39) = w3 at K0 B0 ⊢
  have NL : Hid (∀ X, Below w2.heap.size w2 X → ∀ j u, (#[.int .i64 (rn : Int), .int .i64 (kn : Int), .slice p rn c] : Array Value)[j]? = some u → X.cell? ((⟨nb, 0, none⟩ : Addr).add j) = some u) := Lib.hid (fun X hX => (show Whole X nb 64 (#[.int .i64 (rn : Int), .int .i64 (kn : Int), .slice p rn c] : Array Value).toList from N2.out.below hX N2.out.lt).loads)
  have INT : Hid ((Try.prog.info? 64).map (·.size) = some (#[.int .i64 (rn : Int), .int .i64 (kn : Int), .slice p rn c] : Array Value).size) := Lib.hid (by rw [Try.infoNetN]; rfl)
  go_loopw [27] (fun s27 X => ∃ j : Nat, j ≤ m ∧ s27 = .int .i64 (j : Int) ∧ Hid (LsR I4.cells 39 G (insP f.ps rn kn (es.take j)) [] X) ∧ Hid (Below w2.heap.size w2 X)) (fun s27 _ => m - (intOf s27).toNat)
  case atStart => exact ⟨0, Nat.zero_le _, rfl, K0, B0⟩
  case round =>
    clear K0 B0
    obtain ⟨j, hj, rfl, HL, HB⟩ := hrel
    by_cases hlt : j < m
    · obtain ⟨x, hx⟩ : ∃ x, es[j]? = some x := ⟨_, List.getElem?_eq_getElem (by rw [HM.out]; exact hlt)⟩
      have hBW : Below W.heap.size W wr := M2.out.be.trans (HB.out.mono M2.out.be.size)
      obtain ⟨g, o, rfl, lg0, hcx⟩ := HAT.out wr hBW j x hx
      have HSN := Lib.hid (insP_snoc f.ps rn kn es j x hx)
      have hxe := HEE.out x (List.mem_of_getElem? hx)
      have lg : g < wr.heap.size := Nat.lt_of_lt_of_le lg0 hBW.size
      obtain ⟨row, col, l, wn, an⟩ := x
      obtain ⟨ed, hed⟩ : ∃ ed : Ed, (⟨row, col, l, wn, an⟩ : Ed) = ed := ⟨_, rfl⟩
      have HED := Lib.hid hed
      have HCO := Lib.hid (fun X => courseOf_any rn kn p c ⟨row, col, l, wn, an⟩ X)
      have HWD := Lib.hid (fun g o k hk first z X hz hfz => widen_any g o k hk ⟨row, col, l, wn, an⟩ first z X hxe.2.2 hz hfz)
      unfold Ed.val at HCO HWD
      dsimp only at HCO
      rw [hed] at hcx HSN HCO HWD
      have LN : Hid (∀ j' u, ed.cells.toArray[j']? = some u → wr.cell? ((⟨g, o + j * 10, none⟩ : Addr).add j') = some u) := Lib.hid (fun j' u hj' => by rw [add_plainC]; exact hcx j' u (by simpa using hj'))
      have iN : Hid ((Try.prog.info? 56).map (·.size) = some ed.cells.toArray.size) := Lib.hid (by rw [Try.infoEdN]; simp [Ed.cells_len])
      have oN := Lib.hid (Ed.one' ed)
      have zN : Hid (Ed.zero.cells.toArray.size = ed.cells.toArray.size) := Lib.hid (by simp [Ed.cells_len])
      have HXC0 : Hid (ed.cells[0]? = some (.int .i64 row)) := Lib.hid (by rw [← hed]; rfl)
      have HXC1 : Hid (ed.cells[1]? = some (.int .i64 col)) := Lib.hid (by rw [← hed]; rfl)
      obtain ⟨xs, hxs⟩ : ∃ xs, ed.cells = xs := ⟨_, rfl⟩
      rw [hxs] at LN iN oN zN HXC0 HXC1 HCO HWD
      obtain ⟨ea, hea⟩ : ∃ ea, xs.toArray = ea := ⟨_, rfl⟩
      rw [hea] at LN iN oN zN HCO HWD
      have HCE := Lib.hid hea
      have HXE := Lib.hid hxe
      have hjm : (j : Int) < (m : Int) := by omega
      clear hea hxs hx hcx hxe hed lg0 hBW
      go_wp2_with (first
        | (refine wpList_loadC rfl 56 (.tmp 29) rfl _ rfl ea _ LN.out Try.underlying56 rfl iN.out ?_)
          | (refine wpList_store_row rfl 56 (.tmp 10) (.tmp 30) rfl _ ea rfl rfl 56 Ed.zero.cells.toArray (whole_new wr Ed.zero.cells 56 _ rfl) iN.out zN.out oN.out ?_; refine at_worldX (fun X => Whole X wr.heap.size 56 xs ∧ Below wr.heap.size wr X) ⟨by rw [← HCE.out]; exact whole_rowA (whole_new wr Ed.zero.cells 56 _ rfl) _, ((Below.refl _ wr).alloc (Nat.le_refl _) _).trans (below_setRow (Below.refl _ _) _ _ (Nat.le_refl _))⟩ (fun X hX => ?_); obtain ⟨KX, BX⟩ := hX; have KXX := Lib.hid KX; have BXX := Lib.hid BX; have BWX := Lib.hid (HB.out.trans (BX.mono HB.out.size)); have LNT := Lib.hid (NL.out X BWX.out); have LED := Lib.hid ((whole_arr KX HCE.out).loads); clear KX BX LN oN zN)
          | (refine wpList_loadC rfl 64 (.tmp 6) rfl ⟨nb, 0, none⟩ rfl _ _ LNT.out Try.underlying64 rfl INT.out ?_)
          | (refine wpList_loadC rfl 56 (.tmp 10) rfl ⟨wr.heap.size, 0, none⟩ rfl ea _ LED.out Try.underlying56 rfl iN.out ?_)
          | (go_at_call 24; refine (HCO.out X).mono ?_; rintro er w4 ⟨gb, rfl, g1, g2, g3⟩; have KNB := Lib.hid g1; have B4 := Lib.hid g3; have HGB := Lib.hid g2; obtain ⟨ca, hca⟩ : ∃ ca, (crs l rn kn gb).toArray = ca := ⟨_, rfl⟩; have HCA := Lib.hid hca; have ICA : Hid ((Try.prog.info? 70).map (·.size) = some ca.size) := Lib.hid (by rw [← hca, Try.infoCourse, List.size_toArray, crs_len]); have OCA : Hid (ca.all (·.oneCell') = true) := Lib.hid (by rw [← hca]; exact crs_one l rn kn gb); have ZCA : Hid (zeroCo.toArray.size = ca.size) := Lib.hid (by rw [← hca, List.size_toArray, List.size_toArray, crs_len]; rfl); rw [hca]; clear g1 g2 g3 hca LNT LED)
          | (refine wpList_store_row rfl 70 (.tmp 11) (.tmp 33) rfl _ ca rfl rfl 70 zeroCo.toArray (whole_new w4 zeroCo 70 _ rfl) ICA.out ZCA.out OCA.out ?_; refine at_worldX (fun Y => Whole Y w4.heap.size 70 (crs l rn kn gb) ∧ Below w4.heap.size w4 Y) ⟨by have h := whole_rowA (whole_new w4 zeroCo 70 _ rfl) ca; rw [← HCA.out] at h ⊢; exact h, ((Below.refl _ w4).alloc (Nat.le_refl _) _).trans (below_setRow (Below.refl _ _) _ _ (Nat.le_refl _))⟩ (fun Y hY => ?_); have KY := Lib.hid hY.1; have BY := Lib.hid hY.2; clear hY)
        | fail)
      have K10' := Lib.hid ((KXX.out.below B4.out KXX.out.lt).below BY.out (Nat.lt_of_lt_of_le KXX.out.lt B4.out.size))
      have BWY : Hid (Below w2.heap.size w2 Y) := Lib.hid ((BWX.out.trans (B4.out.mono BWX.out.size)).trans (BY.out.mono (Nat.le_trans BWX.out.size B4.out.size)))
      have KNY := Lib.hid (KNB.out.below BY.out KNB.out.lt)
      have NKY := Lib.hid (NK.of KNY.out (Z2.out.below BWY.out))
      have HLX := Lib.hid (LsR.below HL.out BXX.out (Whole.lt HL.out))
      have HL4 := Lib.hid (LsR.below HLX.out B4.out (Whole.lt HLX.out))
      have HLY := Lib.hid (LsR.below HL4.out BY.out (Whole.lt HL4.out))
      have hGr : G < wr.heap.size := Whole.lt HL.out
      have hXr : wr.heap.size < X.heap.size := KXX.out.lt
      have h4r : wr.heap.size < w4.heap.size := Nat.lt_of_lt_of_le hXr B4.out.size
      obtain ⟨eb, heb⟩ : ∃ b, wr.heap.size = b := ⟨_, rfl⟩
      obtain ⟨cb, hcb⟩ : ∃ b, w4.heap.size = b := ⟨_, rfl⟩
      have HNE : Hid (eb ≠ G ∧ cb ≠ G) := Lib.hid ⟨by omega, by omega⟩
      rw [heb] at K10'
      rw [hcb] at KY
      have K10 := K10'
      have K11 := KY
      try rw [heb]
      try rw [hcb]
      have HGE : Hid (w2.heap.size ≤ G) := Lib.hid (by have := HG.out; omega)
      obtain ⟨LL, hLL⟩ : ∃ L, insP f.ps rn kn (es.take j) = L := ⟨_, rfl⟩
      rw [hLL] at HLY HSN
      have hLn : LL.length = n := by rw [← hLL, insP_len, HNN.out]
      have hs : insS f.ps rn kn LL ed = if whoL l f.ps rn kn (IntKind.i64.wrap ((turnP l row col).1 - 1)) (turnP l row col).2 = whoL l f.ps rn kn (turnP l row col).1 (turnP l row col).2 then LL else ins1 (ins1 LL (whoL l f.ps rn kn (IntKind.i64.wrap ((turnP l row col).1 - 1)) (turnP l row col).2) (reaN l) ed false) (whoL l f.ps rn kn (turnP l row col).1 (turnP l row col).2) (forN l) ed true := by rw [← HED.out]; rfl
      have HT1 := Lib.hid (fun X => turn_any l row col X)
      have hI1 : I64 (turnP l row col).1 ∧ I64 (turnP l row col).2 := by
        have := HXE.out
        cases l
        · exact ⟨this.2.1, this.1⟩
        · exact ⟨this.1, this.2.1⟩
      obtain ⟨t1, ht1⟩ : ∃ z, (turnP l row col).1 = z := ⟨_, rfl⟩
      obtain ⟨t2, ht2⟩ : ∃ z, (turnP l row col).2 = z := ⟨_, rfl⟩
      rw [ht1, ht2] at HT1 hs hI1
      have HBS := Lib.hid (fun Z (hZ : Below Y.heap.size Y Z) => beside_any l f.ps rn kn gb p c Y.heap.size t1 t2 Z (NKY.out.grow hZ) hI1.1 hI1.2)
      rw [HCA.out] at HBS
      have on1 := whoL_num l f.ps rn kn (IntKind.i64.wrap (t1 - 1)) t2
      have on2 := whoL_num l f.ps rn kn t1 t2
      obtain ⟨bf, hbf⟩ : ∃ b, whoL l f.ps rn kn (IntKind.i64.wrap (t1 - 1)) t2 = b := ⟨_, rfl⟩
      obtain ⟨bh, hbh⟩ : ∃ b, whoL l f.ps rn kn t1 t2 = b := ⟨_, rfl⟩
      rw [hbf] at on1 HBS hs
      rw [hbh] at on2 HBS hs
      rw [HNN.out] at on1 on2
      have HEN := Lib.hid (turn_enter l)
      have HC5 : Hid ((crs l rn kn gb)[5]? = some (.func (.func (turnF l)) #[] #[])) := Lib.hid (by cases l <;> rfl)
      have HC4 : Hid ((crs l rn kn gb)[4]? = some (.int .i64 (reaN l : Int))) := Lib.hid (by cases l <;> rfl)
      have HC3 : Hid ((crs l rn kn gb)[3]? = some (.int .i64 (forN l : Int))) := Lib.hid (by cases l <;> rfl)
      have HKK := Lib.hid (nk4 l)
      obtain ⟨ft, hft⟩ : ∃ f, turnF l = f := ⟨_, rfl⟩
      rw [hft] at HT1 HEN HC5
      obtain ⟨rk, hrk⟩ : ∃ k, reaN l = k := ⟨_, rfl⟩
      obtain ⟨fk, hfk⟩ : ∃ k, forN l = k := ⟨_, rfl⟩
      rw [hrk] at HC4 HKK hs
      rw [hfk] at HC3 HKK hs
      obtain ⟨cx, hcx⟩ : ∃ cx, crs l rn kn gb = cx := ⟨_, rfl⟩
      rw [hcx] at K11 HC3 HC4 HC5 HCA
      rw [hs] at HSN
      have LLE := Lib.hid hLn
      have O12 := Lib.hid (And.intro on1 on2)
      clear hGr hXr h4r heb hcb K10' KY KXX BXX B4 BY BWX KNB KNY NKY HL HLX HL4 HCO OCA ZCA hLL hLn hs hI1 ht1 ht2 on1 on2 hbf hbh hft hrk hfk hcx HED HXE lg
      refine region_L (S := fun X => Hid (Below Y.heap.size Y X)) (by kernel_rfl) (fun w9 hw9 => ?_)
      have SV : Hid (Below Y.heap.size Y w9) := Lib.hid (by rw [← hw9]; exact below_dn _ _ 1)
      clear hw9
      try simp only [Act.put, List.setIfInBounds_toArray, List.set_cons_succ, List.set_cons_zero]
      refine AnyL.take (i := 0) (v := .agg ca) (some 35) rfl rfl (by kernel_rfl) (by kernel_rfl) (by kernel_rfl) (fun _ _ _ h => h) SV (yields_loadC (by rfl) 70 (.tmp 11) rfl _ rfl ca _ (fun X hX => (whole_arr (K11.out.below hX.out K11.out.lt) HCA.out).loads) Try.underlying70 rfl ICA.out) ?_
      try simp only [Act.put, List.setIfInBounds_toArray, List.set_cons_succ, List.set_cons_zero]
      refine AnyL.take (i := 1) (v := .pointer (some ⟨cb, 5, none⟩)) (some 36) rfl rfl (by kernel_rfl) (by kernel_rfl) (by kernel_rfl) (fun _ _ _ h => h) SV (Or.inl ⟨by rfl, ?_⟩) ?_
      · intro X hX; go_simp
      try simp only [Act.put, List.setIfInBounds_toArray, List.set_cons_succ, List.set_cons_zero]
      refine AnyL.take (i := 2) (v := .func (.func ft) #[] #[]) (some 37) rfl rfl (by kernel_rfl) (by kernel_rfl) (by kernel_rfl) (fun _ _ _ h => h) SV (Or.inl ⟨by rfl, ?_⟩) ?_
      · intro X hX; have q := (K11.out.below hX.out K11.out.lt).cellAt 5; rw [HC5.out] at q; have lq := (K11.out.below hX.out K11.out.lt).lt; go_simp
      try simp only [Act.put, List.setIfInBounds_toArray, List.set_cons_succ, List.set_cons_zero]
      refine AnyL.take (i := 3) (v := .pointer (some ⟨eb, 0, none⟩)) (some 38) rfl rfl (by kernel_rfl) (by kernel_rfl) (by kernel_rfl) (fun _ _ _ h => h) SV (Or.inl ⟨by rfl, ?_⟩) ?_
      · intro X hX; go_simp
      try simp only [Act.put, List.setIfInBounds_toArray, List.set_cons_succ, List.set_cons_zero]
      refine AnyL.take (i := 4) (v := .int .i64 row) (some 39) rfl rfl (by kernel_rfl) (by kernel_rfl) (by kernel_rfl) (fun _ _ _ h => h) SV (Or.inl ⟨by rfl, ?_⟩) ?_
      · intro X hX; have q := (K10.out.below hX.out K10.out.lt).cellAt 0; rw [HXC0.out] at q; have lq := (K10.out.below hX.out K10.out.lt).lt; go_simp
      try simp only [Act.put, List.setIfInBounds_toArray, List.set_cons_succ, List.set_cons_zero]
      refine AnyL.take (i := 5) (v := .pointer (some ⟨eb, 1, none⟩)) (some 40) rfl rfl (by kernel_rfl) (by kernel_rfl) (by kernel_rfl) (fun _ _ _ h => h) SV (Or.inl ⟨by rfl, ?_⟩) ?_
      · intro X hX; go_simp
      try simp only [Act.put, List.setIfInBounds_toArray, List.set_cons_succ, List.set_cons_zero]
      refine AnyL.take (i := 6) (v := .int .i64 col) (some 41) rfl rfl (by kernel_rfl) (by kernel_rfl) (by kernel_rfl) (fun _ _ _ h => h) SV (Or.inl ⟨by rfl, ?_⟩) ?_
      · intro X hX; have q := (K10.out.below hX.out K10.out.lt).cellAt 1; rw [HXC1.out] at q; have lq := (K10.out.below hX.out K10.out.lt).lt; go_simp
      try simp only [Act.put, List.setIfInBounds_toArray, List.set_cons_succ, List.set_cons_zero]
      refine AnyL.one (i := 7) rfl (by kernel_rfl) ?_
      refine wpOp_step rfl (fun K hK => ?_)
      go_simp
      rw [HEN.out, Oper.upon_enter]
      refine (HT1.out w9).mono ?_
      rintro er w10 ⟨rfl, rfl⟩
      refine hK _ _ ⟨fun _ => SV, ?_⟩
      clear hK K
      try simp only [Act.put, List.setIfInBounds_toArray, List.set_cons_succ, List.set_cons_zero]
      refine AnyL.take (i := 8) (v := .int .i64 t1) (some 43) rfl rfl (by kernel_rfl) (by kernel_rfl) (by kernel_rfl) (fun _ _ _ h => h) SV (Or.inl ⟨by rfl, ?_⟩) ?_
      · intro X hX; go_simp
      try simp only [Act.put, List.setIfInBounds_toArray, List.set_cons_succ, List.set_cons_zero]
      refine AnyL.take (i := 9) (v := .int .i64 t2) (some 44) rfl rfl (by kernel_rfl) (by kernel_rfl) (by kernel_rfl) (fun _ _ _ h => h) SV (Or.inl ⟨by rfl, ?_⟩) ?_
      · intro X hX; go_simp
      try simp only [Act.put, List.setIfInBounds_toArray, List.set_cons_succ, List.set_cons_zero]
      refine AnyL.one (i := 10) rfl (by kernel_rfl) ?_
      refine wpOp_step rfl (fun K hK => ?_)
      go_simp
      refine (HBS.out w9 SV.out).mono ?_
      rintro er w10 ⟨rfl, hb⟩
      have SX := Lib.hid (SV.out.trans (hb.mono SV.out.size))
      refine hK _ _ ⟨fun _ => SX, ?_⟩
      clear hK K hb SV
      have SV := SX
      clear SX
      try simp only [Act.put, List.setIfInBounds_toArray, List.set_cons_succ, List.set_cons_zero]
      refine AnyL.take (i := 11) (v := .tuple #[.int .i64 bf, .int .i64 bh]) (some 34) rfl rfl (by kernel_rfl) (by kernel_rfl) (by kernel_rfl) (fun _ _ _ h => h) SV (Or.inl ⟨by rfl, ?_⟩) ?_
      · intro X hX; go_simp
      try simp only [Act.put, List.setIfInBounds_toArray, List.set_cons_succ, List.set_cons_zero]
      refine AnyL.take (i := 12) (v := .int .i64 bf) (some 46) rfl rfl (by kernel_rfl) (by kernel_rfl) (by kernel_rfl) (fun _ _ _ h => h) SV (Or.inl ⟨by rfl, ?_⟩) ?_
      · intro X hX; go_simp
      try simp only [Act.put, List.setIfInBounds_toArray, List.set_cons_succ, List.set_cons_zero]
      refine AnyL.take (i := 13) (v := .int .i64 bh) (some 47) rfl rfl (by kernel_rfl) (by kernel_rfl) (by kernel_rfl) (fun _ _ _ h => h) SV (Or.inl ⟨by rfl, ?_⟩) ?_
      · intro X hX; go_simp
      try simp only [Act.put, List.setIfInBounds_toArray, List.set_cons_succ, List.set_cons_zero]
      refine AnyL.take (i := 14) (v := .int .i64 bf) (some 12) rfl rfl (by kernel_rfl) (by kernel_rfl) (by kernel_rfl) (fun _ _ _ h => h) SV (Or.inl ⟨by rfl, ?_⟩) ?_
      · intro X hX; go_simp
      try simp only [Act.put, List.setIfInBounds_toArray, List.set_cons_succ, List.set_cons_zero]
      refine AnyL.take (i := 15) (v := .int .i64 bh) (some 13) rfl rfl (by kernel_rfl) (by kernel_rfl) (by kernel_rfl) (fun _ _ _ h => h) SV (Or.inl ⟨by rfl, ?_⟩) ?_
      · intro X hX; go_simp
      try simp only [Act.put, List.setIfInBounds_toArray, List.set_cons_succ, List.set_cons_zero]
      refine AnyL.done (by kernel_rfl) ?_
      have SP : Hid (Whole w10 eb 56 xs ∧ Whole w10 cb 70 cx) := Lib.hid ⟨K10.out.below SV.out K10.out.lt, K11.out.below SV.out K11.out.lt⟩
      have LSP := Lib.hid (LsR.below HLY.out SV.out (Whole.lt HLY.out))
      have BEP : Hid (Below w2.heap.size w2 w10) := Lib.hid (BWY.out.trans (SV.out.mono BWY.out.size))
      clear K10 K11 HLY BWY SV HBS HT1 HEN HC5
      by_cases heq : bf = bh
      · subst heq
        rw [if_pos rfl] at HSN
        have LFN : Hid (LsR I4.cells 39 G (insP f.ps rn kn (es.take (j + 1))) [] w10) := Lib.hid (by rw [HSN.out]; exact LSP.out)
        have BFN := BEP
        clear HSN O12 HC3 HC4 HWD
        go_wp2
        go_roundw
        case rel => exact ⟨j + 1, by omega, by go_num, LFN, BFN⟩
        case measure => simp [intOf]; omega
      · rw [if_neg heq] at HSN
        have hne : (bf == bh) = false := by simpa using heq
        obtain ⟨rfl | ⟨i1, hi1, rfl⟩, rfl | ⟨i2, hi2, rfl⟩⟩ := O12.out
        · exact absurd rfl heq
        · rw [ins1_m1, ins1_nat] at HSN
          have hin2 : (i2 : Int) < (n : Int) := by omega
          have LLN : Hid (i2 < LL.length ∧ i2 < LL.length) := Lib.hid (by rw [LLE.out]; exact ⟨hi2, hi2⟩)
          clear heq O12
          go_wp2_with (refine region_L (S := fun X => Hid (Whole X eb 56 xs ∧ Whole X cb 70 cx)) (by kernel_rfl) (fun w9 hw9 => ?_))
          have LS : Hid (LsR I4.cells 39 G LL [] w9) := Lib.hid (by rw [← hw9]; exact LsR.below LSP.out (below_dn (w10.heap.size) _ 1) (Whole.lt LSP.out))
          have BE : Hid (Below w2.heap.size w2 w9) := Lib.hid (by rw [← hw9]; exact BEP.out.trans (below_dn _ _ 1))
          have SV : Hid (Whole w9 eb 56 xs ∧ Whole w9 cb 70 cx) := Lib.hid (by rw [← hw9]; exact ⟨SP.out.1.below (below_dn (w10.heap.size) _ 1) SP.out.1.lt, SP.out.2.below (below_dn (w10.heap.size) _ 1) SP.out.2.lt⟩)
          clear hw9 LSP BEP SP
          try simp only [Act.put, List.setIfInBounds_toArray, List.set_cons_succ, List.set_cons_zero]
          refine AnyL.take (i := 0) (v := .slice (some ⟨G, 0, none⟩) n n) (some 62) rfl rfl (by kernel_rfl) (by kernel_rfl) (by kernel_rfl) (fun _ _ _ h => h) SV (Or.inl ⟨by rfl, ?_⟩) ?_
          · intro X hX; go_simp
          try simp only [Act.put, List.setIfInBounds_toArray, List.set_cons_succ, List.set_cons_zero]
          refine AnyL.take (i := 1) (v := .int .i64 (i2 : Int)) (some 63) rfl rfl (by kernel_rfl) (by kernel_rfl) (by kernel_rfl) (fun _ _ _ h => h) SV (Or.inl ⟨by rfl, ?_⟩) ?_
          · intro X hX; go_simp
          try simp only [Act.put, List.setIfInBounds_toArray, List.set_cons_succ, List.set_cons_zero]
          refine AnyL.take (i := 2) (v := .pointer (some ⟨G, i2 * 4, none⟩)) (some 64) rfl rfl (by kernel_rfl) (by kernel_rfl) (by kernel_rfl) (fun _ _ _ h => h) SV (Or.inl ⟨by rfl, ?_⟩) ?_
          · intro X hX; go_simp
          try simp only [Act.put, List.setIfInBounds_toArray, List.set_cons_succ, List.set_cons_zero]
          refine AnyL.take (i := 3) (v := .pointer (some ⟨cb, 3, none⟩)) (some 65) rfl rfl (by kernel_rfl) (by kernel_rfl) (by kernel_rfl) (fun _ _ _ h => h) SV (Or.inl ⟨by rfl, ?_⟩) ?_
          · intro X hX; go_simp
          try simp only [Act.put, List.setIfInBounds_toArray, List.set_cons_succ, List.set_cons_zero]
          refine AnyL.take (i := 4) (v := .int .i64 (fk : Int)) (some 66) rfl rfl (by kernel_rfl) (by kernel_rfl) (by kernel_rfl) (fun _ _ _ h => h) SV (Or.inl ⟨by rfl, ?_⟩) ?_
          · intro X hX; have q := hX.out.2.cellAt 3; rw [HC3.out] at q; have lq := hX.out.2.lt; go_simp
          try simp only [Act.put, List.setIfInBounds_toArray, List.set_cons_succ, List.set_cons_zero]
          refine AnyL.take (i := 5) (v := .agg ea) (some 67) rfl rfl (by kernel_rfl) (by kernel_rfl) (by kernel_rfl) (fun _ _ _ h => h) SV (yields_loadC (by rfl) 56 (.tmp 10) rfl _ rfl ea _ (fun X hX => (whole_arr hX.out.1 HCE.out).loads) Try.underlying56 rfl iN.out) ?_
          try simp only [Act.put, List.setIfInBounds_toArray, List.set_cons_succ, List.set_cons_zero]
          refine AnyL.one (i := 6) rfl (by kernel_rfl) ?_
          refine wpOp_step rfl (fun K hK => ?_)
          go_simp
          obtain ⟨z1, z2⟩ := ls_cell LS.out (i := i2) (k := fk) (by have h := LLN.out; first | exact h.1 | exact h.2) HKK.out.2
          refine (HWD.out G (i2 * 4) fk HKK.out.2 true _ w9 z1 z2).mono ?_
          rintro er wz ⟨rfl, wy, hb, rfl⟩
          have LSP := Lib.hid (ls_wid LS.out hb (i := i2) (by have h := LLN.out; first | exact h.1 | exact h.2) HKK.out.2 ed true)
          have BEP := Lib.hid ((BE.out.trans (hb.mono BE.out.size)).setCell (p := ⟨G, i2 * 4 + fk, none⟩) HGE.out (.int .i64 (max ((LL.getD i2 default).get fk) (halfI ed.won.wd true))))
          have SP : Hid (Whole (wy.setCell ⟨G, i2 * 4 + fk, none⟩ (.int .i64 (max ((LL.getD i2 default).get fk) (halfI ed.won.wd true)))) eb 56 xs ∧ Whole (wy.setCell ⟨G, i2 * 4 + fk, none⟩ (.int .i64 (max ((LL.getD i2 default).get fk) (halfI ed.won.wd true)))) cb 70 cx) := Lib.hid ⟨(SV.out.1.below hb SV.out.1.lt).other _ _ HNE.out.1, (SV.out.2.below hb SV.out.2.lt).other _ _ HNE.out.2⟩
          generalize wy.setCell ⟨G, i2 * 4 + fk, none⟩ (.int .i64 (max ((LL.getD i2 default).get fk) (halfI ed.won.wd true))) = wd at LSP BEP SP ⊢
          refine hK _ _ ⟨fun _ => SP, ?_⟩
          clear hK K hb SV LS BE z1 z2
          refine AnyL.done (by kernel_rfl) ?_
          have LFN : Hid (LsR I4.cells 39 G (insP f.ps rn kn (es.take (j + 1))) [] wd) := Lib.hid (by rw [HSN.out]; exact LSP.out)
          have BFN := BEP
          go_wp2
          go_roundw
          case rel => exact ⟨j + 1, by omega, by go_num, LFN, BFN⟩
          case measure => simp [intOf]; omega
        · rw [ins1_m1, ins1_nat] at HSN
          have hin1 : (i1 : Int) < (n : Int) := by omega
          have LLN : Hid (i1 < LL.length ∧ i1 < LL.length) := Lib.hid (by rw [LLE.out]; exact ⟨hi1, hi1⟩)
          clear heq O12
          go_wp2_with (refine region_L (S := fun X => Hid (Whole X eb 56 xs ∧ Whole X cb 70 cx)) (by kernel_rfl) (fun w9 hw9 => ?_))
          have LS : Hid (LsR I4.cells 39 G LL [] w9) := Lib.hid (by rw [← hw9]; exact LsR.below LSP.out (below_dn (w10.heap.size) _ 1) (Whole.lt LSP.out))
          have BE : Hid (Below w2.heap.size w2 w9) := Lib.hid (by rw [← hw9]; exact BEP.out.trans (below_dn _ _ 1))
          have SV : Hid (Whole w9 eb 56 xs ∧ Whole w9 cb 70 cx) := Lib.hid (by rw [← hw9]; exact ⟨SP.out.1.below (below_dn (w10.heap.size) _ 1) SP.out.1.lt, SP.out.2.below (below_dn (w10.heap.size) _ 1) SP.out.2.lt⟩)
          clear hw9 LSP BEP SP
          try simp only [Act.put, List.setIfInBounds_toArray, List.set_cons_succ, List.set_cons_zero]
          refine AnyL.take (i := 0) (v := .slice (some ⟨G, 0, none⟩) n n) (some 53) rfl rfl (by kernel_rfl) (by kernel_rfl) (by kernel_rfl) (fun _ _ _ h => h) SV (Or.inl ⟨by rfl, ?_⟩) ?_
          · intro X hX; go_simp
          try simp only [Act.put, List.setIfInBounds_toArray, List.set_cons_succ, List.set_cons_zero]
          refine AnyL.take (i := 1) (v := .int .i64 (i1 : Int)) (some 54) rfl rfl (by kernel_rfl) (by kernel_rfl) (by kernel_rfl) (fun _ _ _ h => h) SV (Or.inl ⟨by rfl, ?_⟩) ?_
          · intro X hX; go_simp
          try simp only [Act.put, List.setIfInBounds_toArray, List.set_cons_succ, List.set_cons_zero]
          refine AnyL.take (i := 2) (v := .pointer (some ⟨G, i1 * 4, none⟩)) (some 55) rfl rfl (by kernel_rfl) (by kernel_rfl) (by kernel_rfl) (fun _ _ _ h => h) SV (Or.inl ⟨by rfl, ?_⟩) ?_
          · intro X hX; go_simp
          try simp only [Act.put, List.setIfInBounds_toArray, List.set_cons_succ, List.set_cons_zero]
          refine AnyL.take (i := 3) (v := .pointer (some ⟨cb, 4, none⟩)) (some 56) rfl rfl (by kernel_rfl) (by kernel_rfl) (by kernel_rfl) (fun _ _ _ h => h) SV (Or.inl ⟨by rfl, ?_⟩) ?_
          · intro X hX; go_simp
          try simp only [Act.put, List.setIfInBounds_toArray, List.set_cons_succ, List.set_cons_zero]
          refine AnyL.take (i := 4) (v := .int .i64 (rk : Int)) (some 57) rfl rfl (by kernel_rfl) (by kernel_rfl) (by kernel_rfl) (fun _ _ _ h => h) SV (Or.inl ⟨by rfl, ?_⟩) ?_
          · intro X hX; have q := hX.out.2.cellAt 4; rw [HC4.out] at q; have lq := hX.out.2.lt; go_simp
          try simp only [Act.put, List.setIfInBounds_toArray, List.set_cons_succ, List.set_cons_zero]
          refine AnyL.take (i := 5) (v := .agg ea) (some 58) rfl rfl (by kernel_rfl) (by kernel_rfl) (by kernel_rfl) (fun _ _ _ h => h) SV (yields_loadC (by rfl) 56 (.tmp 10) rfl _ rfl ea _ (fun X hX => (whole_arr hX.out.1 HCE.out).loads) Try.underlying56 rfl iN.out) ?_
          try simp only [Act.put, List.setIfInBounds_toArray, List.set_cons_succ, List.set_cons_zero]
          refine AnyL.one (i := 6) rfl (by kernel_rfl) ?_
          refine wpOp_step rfl (fun K hK => ?_)
          go_simp
          obtain ⟨z1, z2⟩ := ls_cell LS.out (i := i1) (k := rk) (by have h := LLN.out; first | exact h.1 | exact h.2) HKK.out.1
          refine (HWD.out G (i1 * 4) rk HKK.out.1 false _ w9 z1 z2).mono ?_
          rintro er wz ⟨rfl, wy, hb, rfl⟩
          have LSP := Lib.hid (ls_wid LS.out hb (i := i1) (by have h := LLN.out; first | exact h.1 | exact h.2) HKK.out.1 ed false)
          have BEP := Lib.hid ((BE.out.trans (hb.mono BE.out.size)).setCell (p := ⟨G, i1 * 4 + rk, none⟩) HGE.out (.int .i64 (max ((LL.getD i1 default).get rk) (halfI ed.won.wd false))))
          have SP : Hid (Whole (wy.setCell ⟨G, i1 * 4 + rk, none⟩ (.int .i64 (max ((LL.getD i1 default).get rk) (halfI ed.won.wd false)))) eb 56 xs ∧ Whole (wy.setCell ⟨G, i1 * 4 + rk, none⟩ (.int .i64 (max ((LL.getD i1 default).get rk) (halfI ed.won.wd false)))) cb 70 cx) := Lib.hid ⟨(SV.out.1.below hb SV.out.1.lt).other _ _ HNE.out.1, (SV.out.2.below hb SV.out.2.lt).other _ _ HNE.out.2⟩
          generalize wy.setCell ⟨G, i1 * 4 + rk, none⟩ (.int .i64 (max ((LL.getD i1 default).get rk) (halfI ed.won.wd false))) = wd at LSP BEP SP ⊢
          refine hK _ _ ⟨fun _ => SP, ?_⟩
          clear hK K hb SV LS BE z1 z2
          refine AnyL.done (by kernel_rfl) ?_
          have LFN : Hid (LsR I4.cells 39 G (insP f.ps rn kn (es.take (j + 1))) [] wd) := Lib.hid (by rw [HSN.out]; exact LSP.out)
          have BFN := BEP
          go_wp2
          go_roundw
          case rel => exact ⟨j + 1, by omega, by go_num, LFN, BFN⟩
          case measure => simp [intOf]; omega
        · rw [ins1_nat, ins1_nat] at HSN
          have hin1 : (i1 : Int) < (n : Int) := by omega
          have hin2 : (i2 : Int) < (n : Int) := by omega
          have LLN : Hid (i1 < LL.length ∧ i2 < LL.length) := Lib.hid (by rw [LLE.out]; exact ⟨hi1, hi2⟩)
          clear heq O12
          go_wp2_with (refine region_L (S := fun X => Hid (Whole X eb 56 xs ∧ Whole X cb 70 cx)) (by kernel_rfl) (fun w9 hw9 => ?_))
          have LS : Hid (LsR I4.cells 39 G LL [] w9) := Lib.hid (by rw [← hw9]; exact LsR.below LSP.out (below_dn (w10.heap.size) _ 1) (Whole.lt LSP.out))
          have BE : Hid (Below w2.heap.size w2 w9) := Lib.hid (by rw [← hw9]; exact BEP.out.trans (below_dn _ _ 1))
          have SV : Hid (Whole w9 eb 56 xs ∧ Whole w9 cb 70 cx) := Lib.hid (by rw [← hw9]; exact ⟨SP.out.1.below (below_dn (w10.heap.size) _ 1) SP.out.1.lt, SP.out.2.below (below_dn (w10.heap.size) _ 1) SP.out.2.lt⟩)
          clear hw9 LSP BEP SP
          try simp only [Act.put, List.setIfInBounds_toArray, List.set_cons_succ, List.set_cons_zero]
          refine AnyL.take (i := 0) (v := .slice (some ⟨G, 0, none⟩) n n) (some 53) rfl rfl (by kernel_rfl) (by kernel_rfl) (by kernel_rfl) (fun _ _ _ h => h) SV (Or.inl ⟨by rfl, ?_⟩) ?_
          · intro X hX; go_simp
          try simp only [Act.put, List.setIfInBounds_toArray, List.set_cons_succ, List.set_cons_zero]
          refine AnyL.take (i := 1) (v := .int .i64 (i1 : Int)) (some 54) rfl rfl (by kernel_rfl) (by kernel_rfl) (by kernel_rfl) (fun _ _ _ h => h) SV (Or.inl ⟨by rfl, ?_⟩) ?_
          · intro X hX; go_simp
          try simp only [Act.put, List.setIfInBounds_toArray, List.set_cons_succ, List.set_cons_zero]
          refine AnyL.take (i := 2) (v := .pointer (some ⟨G, i1 * 4, none⟩)) (some 55) rfl rfl (by kernel_rfl) (by kernel_rfl) (by kernel_rfl) (fun _ _ _ h => h) SV (Or.inl ⟨by rfl, ?_⟩) ?_
          · intro X hX; go_simp
          try simp only [Act.put, List.setIfInBounds_toArray, List.set_cons_succ, List.set_cons_zero]
          refine AnyL.take (i := 3) (v := .pointer (some ⟨cb, 4, none⟩)) (some 56) rfl rfl (by kernel_rfl) (by kernel_rfl) (by kernel_rfl) (fun _ _ _ h => h) SV (Or.inl ⟨by rfl, ?_⟩) ?_
          · intro X hX; go_simp
          try simp only [Act.put, List.setIfInBounds_toArray, List.set_cons_succ, List.set_cons_zero]
          refine AnyL.take (i := 4) (v := .int .i64 (rk : Int)) (some 57) rfl rfl (by kernel_rfl) (by kernel_rfl) (by kernel_rfl) (fun _ _ _ h => h) SV (Or.inl ⟨by rfl, ?_⟩) ?_
          · intro X hX; have q := hX.out.2.cellAt 4; rw [HC4.out] at q; have lq := hX.out.2.lt; go_simp
          try simp only [Act.put, List.setIfInBounds_toArray, List.set_cons_succ, List.set_cons_zero]
          refine AnyL.take (i := 5) (v := .agg ea) (some 58) rfl rfl (by kernel_rfl) (by kernel_rfl) (by kernel_rfl) (fun _ _ _ h => h) SV (yields_loadC (by rfl) 56 (.tmp 10) rfl _ rfl ea _ (fun X hX => (whole_arr hX.out.1 HCE.out).loads) Try.underlying56 rfl iN.out) ?_
          try simp only [Act.put, List.setIfInBounds_toArray, List.set_cons_succ, List.set_cons_zero]
          refine AnyL.one (i := 6) rfl (by kernel_rfl) ?_
          refine wpOp_step rfl (fun K hK => ?_)
          go_simp
          obtain ⟨z1, z2⟩ := ls_cell LS.out (i := i1) (k := rk) (by have h := LLN.out; first | exact h.1 | exact h.2) HKK.out.1
          refine (HWD.out G (i1 * 4) rk HKK.out.1 false _ w9 z1 z2).mono ?_
          rintro er wz ⟨rfl, wy, hb, rfl⟩
          have LSP := Lib.hid (ls_wid LS.out hb (i := i1) (by have h := LLN.out; first | exact h.1 | exact h.2) HKK.out.1 ed false)
          have BEP := Lib.hid ((BE.out.trans (hb.mono BE.out.size)).setCell (p := ⟨G, i1 * 4 + rk, none⟩) HGE.out (.int .i64 (max ((LL.getD i1 default).get rk) (halfI ed.won.wd false))))
          have SP : Hid (Whole (wy.setCell ⟨G, i1 * 4 + rk, none⟩ (.int .i64 (max ((LL.getD i1 default).get rk) (halfI ed.won.wd false)))) eb 56 xs ∧ Whole (wy.setCell ⟨G, i1 * 4 + rk, none⟩ (.int .i64 (max ((LL.getD i1 default).get rk) (halfI ed.won.wd false)))) cb 70 cx) := Lib.hid ⟨(SV.out.1.below hb SV.out.1.lt).other _ _ HNE.out.1, (SV.out.2.below hb SV.out.2.lt).other _ _ HNE.out.2⟩
          generalize wy.setCell ⟨G, i1 * 4 + rk, none⟩ (.int .i64 (max ((LL.getD i1 default).get rk) (halfI ed.won.wd false))) = wd at LSP BEP SP ⊢
          refine hK _ _ ⟨fun _ => SP, ?_⟩
          clear hK K hb SV LS BE z1 z2
          refine AnyL.done (by kernel_rfl) ?_
          obtain ⟨LM, hLM⟩ : ∃ L, LL.set i1 (widP (LL.getD i1 default) rk ed false) = L := ⟨_, rfl⟩
          rw [hLM] at LSP HSN
          have LLN2 : Hid (i1 < LM.length ∧ i2 < LM.length) := Lib.hid (by rw [← hLM, List.length_set]; exact LLN.out)
          clear LLN hLM
          have LLN := LLN2
          clear LLN2
          go_wp2_with (refine region_L (S := fun X => Hid (Whole X eb 56 xs ∧ Whole X cb 70 cx)) (by kernel_rfl) (fun w9 hw9 => ?_))
          have LS : Hid (LsR I4.cells 39 G LM [] w9) := Lib.hid (by rw [← hw9]; exact LsR.below LSP.out (below_dn (wd.heap.size) _ 1) (Whole.lt LSP.out))
          have BE : Hid (Below w2.heap.size w2 w9) := Lib.hid (by rw [← hw9]; exact BEP.out.trans (below_dn _ _ 1))
          have SV : Hid (Whole w9 eb 56 xs ∧ Whole w9 cb 70 cx) := Lib.hid (by rw [← hw9]; exact ⟨SP.out.1.below (below_dn (wd.heap.size) _ 1) SP.out.1.lt, SP.out.2.below (below_dn (wd.heap.size) _ 1) SP.out.2.lt⟩)
          clear hw9 LSP BEP SP
          try simp only [Act.put, List.setIfInBounds_toArray, List.set_cons_succ, List.set_cons_zero]
          refine AnyL.take (i := 0) (v := .slice (some ⟨G, 0, none⟩) n n) (some 62) rfl rfl (by kernel_rfl) (by kernel_rfl) (by kernel_rfl) (fun _ _ _ h => h) SV (Or.inl ⟨by rfl, ?_⟩) ?_
          · intro X hX; go_simp
          try simp only [Act.put, List.setIfInBounds_toArray, List.set_cons_succ, List.set_cons_zero]
          refine AnyL.take (i := 1) (v := .int .i64 (i2 : Int)) (some 63) rfl rfl (by kernel_rfl) (by kernel_rfl) (by kernel_rfl) (fun _ _ _ h => h) SV (Or.inl ⟨by rfl, ?_⟩) ?_
          · intro X hX; go_simp
          try simp only [Act.put, List.setIfInBounds_toArray, List.set_cons_succ, List.set_cons_zero]
          refine AnyL.take (i := 2) (v := .pointer (some ⟨G, i2 * 4, none⟩)) (some 64) rfl rfl (by kernel_rfl) (by kernel_rfl) (by kernel_rfl) (fun _ _ _ h => h) SV (Or.inl ⟨by rfl, ?_⟩) ?_
          · intro X hX; go_simp
          try simp only [Act.put, List.setIfInBounds_toArray, List.set_cons_succ, List.set_cons_zero]
          refine AnyL.take (i := 3) (v := .pointer (some ⟨cb, 3, none⟩)) (some 65) rfl rfl (by kernel_rfl) (by kernel_rfl) (by kernel_rfl) (fun _ _ _ h => h) SV (Or.inl ⟨by rfl, ?_⟩) ?_
          · intro X hX; go_simp
          try simp only [Act.put, List.setIfInBounds_toArray, List.set_cons_succ, List.set_cons_zero]
          refine AnyL.take (i := 4) (v := .int .i64 (fk : Int)) (some 66) rfl rfl (by kernel_rfl) (by kernel_rfl) (by kernel_rfl) (fun _ _ _ h => h) SV (Or.inl ⟨by rfl, ?_⟩) ?_
          · intro X hX; have q := hX.out.2.cellAt 3; rw [HC3.out] at q; have lq := hX.out.2.lt; go_simp
          try simp only [Act.put, List.setIfInBounds_toArray, List.set_cons_succ, List.set_cons_zero]
          refine AnyL.take (i := 5) (v := .agg ea) (some 67) rfl rfl (by kernel_rfl) (by kernel_rfl) (by kernel_rfl) (fun _ _ _ h => h) SV (yields_loadC (by rfl) 56 (.tmp 10) rfl _ rfl ea _ (fun X hX => (whole_arr hX.out.1 HCE.out).loads) Try.underlying56 rfl iN.out) ?_
          try simp only [Act.put, List.setIfInBounds_toArray, List.set_cons_succ, List.set_cons_zero]
          refine AnyL.one (i := 6) rfl (by kernel_rfl) ?_
          refine wpOp_step rfl (fun K hK => ?_)
          go_simp
          obtain ⟨z1, z2⟩ := ls_cell LS.out (i := i2) (k := fk) (by have h := LLN.out; first | exact h.1 | exact h.2) HKK.out.2
          refine (HWD.out G (i2 * 4) fk HKK.out.2 true _ w9 z1 z2).mono ?_
          rintro er wz ⟨rfl, wy, hb, rfl⟩
          have LSP := Lib.hid (ls_wid LS.out hb (i := i2) (by have h := LLN.out; first | exact h.1 | exact h.2) HKK.out.2 ed true)
          have BEP := Lib.hid ((BE.out.trans (hb.mono BE.out.size)).setCell (p := ⟨G, i2 * 4 + fk, none⟩) HGE.out (.int .i64 (max ((LM.getD i2 default).get fk) (halfI ed.won.wd true))))
          have SP : Hid (Whole (wy.setCell ⟨G, i2 * 4 + fk, none⟩ (.int .i64 (max ((LM.getD i2 default).get fk) (halfI ed.won.wd true)))) eb 56 xs ∧ Whole (wy.setCell ⟨G, i2 * 4 + fk, none⟩ (.int .i64 (max ((LM.getD i2 default).get fk) (halfI ed.won.wd true)))) cb 70 cx) := Lib.hid ⟨(SV.out.1.below hb SV.out.1.lt).other _ _ HNE.out.1, (SV.out.2.below hb SV.out.2.lt).other _ _ HNE.out.2⟩
          generalize wy.setCell ⟨G, i2 * 4 + fk, none⟩ (.int .i64 (max ((LM.getD i2 default).get fk) (halfI ed.won.wd true))) = we at LSP BEP SP ⊢
          refine hK _ _ ⟨fun _ => SP, ?_⟩
          clear hK K hb SV LS BE z1 z2
          refine AnyL.done (by kernel_rfl) ?_
          have LFN : Hid (LsR I4.cells 39 G (insP f.ps rn kn (es.take (j + 1))) [] we) := Lib.hid (by rw [HSN.out]; exact LSP.out)
          have BFN := BEP
          go_wp2
          go_roundw
          case rel => exact ⟨j + 1, by omega, by go_num, LFN, BFN⟩
          case measure => simp [intOf]; omega
    · obtain rfl : m = j := by omega
      have LFN : Hid (LsR I4.cells 39 G (insP f.ps rn kn es) [] wr) := Lib.hid (by have h := HL.out; rwa [List.take_of_length_le (by rw [HM.out]; exact Nat.le_refl _)] at h)
      have BFN := Lib.hid (M2.out.be.trans (HB.out.mono M2.out.be.size))
      clear HL
      go_wp2
      refine bodyPost_ret (v := .tuple #[.slice (some ⟨G, 0, none⟩) n n, .int .i64 0]) (by simp [results, Try.func11, go_sem]) rfl ⟨G, rfl, LFN.out, BFN.out⟩
end Go.Proofs.Ytceippgkmoijdaa
