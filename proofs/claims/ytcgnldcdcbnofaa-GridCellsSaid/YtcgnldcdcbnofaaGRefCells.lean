/- Contract of grid.Cells. -/
/- Contract of the document's Cells. Written by mk_GRefCells.py. -/
import Derived.Test.YtcgnldcdcbnofaaGCells
namespace Go.Proofs.Ytcgnldcdcbnofaa
open Go.RowKit Go.Shelf
set_option linter.unusedVariables false
set_option linter.unusedSimpArgs false
attribute [local go_sem] Oper.semAt_some

/-- the memory while rows of cells are listed: w is the world before, g the list's block -/
structure CB (w : World) (g n i Bi : Nat) (hs : List Value) (done : List (List Sp)) (cur : List Sp) (x : World) : Prop where
  lo : Below w.heap.size w x
  kr : Whole x g 49 hs
  dn : ∀ (j : Nat) (u : Value) (r : List Sp), j < i → hs[j]? = some u → done[j]? = some r → x.ownsRow (g + 1) 48 3 u r.length (flat3 r) ∧ ∀ b, u.ownBlock = some b → b < Bi
  cu : ∀ u, hs[i]? = some u → x.ownsRow Bi 48 3 u cur.length (flat3 cur)
  nl : ∀ j, i < j → j < n → hs[j]? = some (.slice none 0 0)
  hl : hs.length = n
  wg : w.heap.size ≤ g
  gB : g + 1 ≤ Bi
  Bx : Bi ≤ x.heap.size
theorem own_laterS {X Y : World} {base e sz n : Nat} {v : Value} {xs : List Value} (h : X.ownsRow base e sz v n xs) (hb : Below X.heap.size X Y) : Y.ownsRow base e sz v n xs := own_belowN h hb
theorem CB.below {w x y : World} {g n i Bi : Nat} {hs : List Value} {done : List (List Sp)} {cur : List Sp} (h : CB w g n i Bi hs done cur x) (hb : Below x.heap.size x y) : CB w g n i Bi hs done cur y :=
  ⟨h.lo.trans (hb.mono h.lo.size), h.kr.below hb h.kr.lt, fun j u r hj hu hr => ⟨own_laterS (h.dn j u r hj hu hr).1 hb, (h.dn j u r hj hu hr).2⟩, fun u hu => own_laterS (h.cu u hu) hb, h.nl, h.hl, h.wg, h.gB, by have := hb.size; have := h.Bx; omega⟩
theorem CB.put {w x Y : World} {g n i Bi : Nat} {hs : List Value} {done : List (List Sp)} {cur : List Sp} {u v' : Value} {s : Sp} {o : Obj} (h : CB w g n i Bi hs done cur x) (hi : i < n) (hu : hs[i]? = some u)
    (ho : Y.ownsRow Bi 48 3 v' (cur.length + 1) (flat3 cur ++ s.cells)) (hg : (x.alloc o).grownBy Y u.ownBlock) : CB w g n i Bi (hs.set i v') done (cur ++ [s]) (Y.setCell ⟨g, i, none⟩ v') := by
  have hb := h.gB
  have hc := h.cu u hu
  have hA := hc.alloc o
  have hlo : ∀ b, b < Bi → u.ownBlock ≠ some b := fun b hb => own_low hA hb
  have hwg := h.wg
  refine ⟨below_set_at (own_below (h.lo.alloc h.lo.size o) hA (by omega) hg (by have := h.lo.size; simp; omega)) _ _ _ hwg, (((h.kr.alloc o).grown hg (hlo _ (by omega))).set i v'), fun j uj r hj huj hr => ?_, fun u2 hu2 => ?_, fun j h1 h2 => ?_, by rw [List.length_set]; exact h.hl, hwg, hb, ?_⟩
  · rw [List.getElem?_set_ne (by omega)] at huj
    obtain ⟨h1, h2⟩ := h.dn j uj r hj huj hr
    have h3 : Y.ownsRow (g + 1) 48 3 uj r.length (flat3 r) := (h1.alloc o).kept hg (by
      cases hq : uj.ownBlock with
      | none => exact .inl rfl
      | some b => exact .inr fun e => hlo b (h2 b hq) e.symm)
    exact ⟨own_setCell h3 (own_low h3 (by omega)), h2⟩
  · rw [List.getElem?_set_self (by rw [h.hl]; exact hi)] at hu2
    cases hu2
    have h4 : flat3 (cur ++ [s]) = flat3 cur ++ s.cells := by unfold flat3; simp
    rw [h4, List.length_append]
    exact own_setCell ho (own_low ho (by omega))
  · rw [List.getElem?_set_ne (by omega)]; exact h.nl j h1 h2
  · have := hg.size; have := h.Bx; simp at *; omega
theorem CB.next {w x : World} {g n i Bi : Nat} {hs : List Value} {done : List (List Sp)} {cur : List Sp} (h : CB w g n i Bi hs done cur x) (hi : i < n) (hd : done.length = i) : CB w g n (i + 1) x.heap.size hs (done ++ [cur]) [] x := by
  have hb := h.gB
  refine ⟨h.lo, h.kr, fun j u r hj hu hr => ?_, fun u hu => ?_, fun j h1 h2 => h.nl j (by omega) h2, h.hl, h.wg, by have := h.Bx; omega, Nat.le_refl _⟩
  · by_cases hji : j < i
    · rw [List.getElem?_append_left (by omega)] at hr
      obtain ⟨h1, h2⟩ := h.dn j u r hji hu hr
      exact ⟨h1, fun b hb' => by have := h2 b hb'; have := h.Bx; omega⟩
    · obtain rfl : j = i := by omega
      rw [List.getElem?_append_right (by omega), hd, Nat.sub_self] at hr
      simp at hr
      subst hr
      have h1 := h.cu u hu
      exact ⟨own_kept_cells h1 (CellsKept.refl _) hb, fun b hb' => (h1.lt b hb').2⟩
  · have hn : i + 1 < n := by have := (List.getElem?_eq_some_iff.1 hu).1; rw [h.hl] at this; exact this
    rw [h.nl (i + 1) (by omega) hn] at hu
    cases hu
    exact World.ownsRow_nil _ _ _ _
theorem CB.made {w x : World} {g n Bi : Nat} {hs : List Value} {done : List (List Sp)} (h : CB w g n n Bi hs done [] x) (hd : done.length = n) (hn : n ≤ 100000) (hr : ∀ r ∈ done, r.length ≤ 100000) :
    RowsIn x.heap.size x (.slice (some ⟨g, 0, none⟩) n n) (fun i => hs[i]?.getD (.slice none 0 0)) done := by
  have := rows_whole (X := x) (B := x.heap.size) (g := g) (t := 0) (c := n) (hv := fun i => hs[i]?.getD (.slice none 0 0)) (rows := done) (fun i hi => ?_) (by omega) h.kr.lt (fun i row hrow => ?_)
  · rw [hd] at this; exact this
  · rw [h.kr.cellAt, List.getElem?_eq_getElem (by rw [h.hl]; omega)]; rfl
  · have hi := (List.getElem?_eq_some_iff.1 hrow).1
    obtain ⟨u, hu⟩ : ∃ u, hs[i]? = some u := ⟨_, List.getElem?_eq_getElem (by rw [h.hl]; omega)⟩
    obtain ⟨h1, _⟩ := h.dn i u row (by omega) hu hrow
    show RowIn x.heap.size x (hs[i]?.getD (.slice none 0 0)) row
    rw [hu]
    exact own_row h1 (by have := hr row (List.mem_iff_getElem?.2 ⟨i, hrow⟩); omega) (Nat.le_refl _)
theorem CB.start {w X : World} {g n : Nat} (hg : X.heap.size = g) (hb : Below w.heap.size w X) : CB w g n 0 (g + 1) (List.replicate n (.slice none 0 0)) [] [] (X.alloc (.cells (List.replicate n (Value.slice none 0 0)).toArray 49)) := by
  have hs := hb.size
  refine ⟨hb.alloc hs _, by rw [← hg]; exact whole_new X (List.replicate n (.slice none 0 0)) 49 _ rfl, fun j u r hj => by omega, fun u hu => ?_, fun j h1 h2 => by simp [h2], by simp, by omega, Nat.le_refl _, by simp [hg]⟩
  have hr := (List.getElem?_eq_some_iff.1 hu).1
  rw [List.length_replicate] at hr
  rw [List.getElem?_replicate, if_pos hr] at hu
  cases hu
  exact World.ownsRow_nil _ _ _ _
theorem wpAnyH_takeD {P : Program} {md : Region.Mode} {ops : Array Oper} {Q : Exit → Act → World → Prop} {S : World → Prop} {i : Nat} {oi : Oper} {v : Value} {fuel : Nat} {listed : Array Bool} {a : Act} {w : World} (dst : Option Tmp) (hi : ops[i]? = some oi) (hd : oi.dst = dst)
    (hs : Region.noSelect ops = true) (hf : Region.free md ops listed i = true) (hr : (Region.ready md ops listed).contains i = true)
    (hQ : ∀ c a w, Q (.panic c) (a.put dst v) w → Q (.panic c) a w) (hy : YieldsIf P ops S oi v a) (hS : S w)
    (h : wpAnyH P md ops Q S fuel (listed.setIfInBounds i true) (a.put dst v) w) : wpAnyH P md ops Q S (fuel + 1) listed a w := by
  subst hd
  exact wpAnyH_take hi hs hf hr hQ hy hS h
theorem wp_append_runD {P : Program} {o : Oper} {a : Act} {w X : World} {K : Act → World → Prop} {Q : Exit → Act → World → Prop} (dst : Option Tmp) (hd : o.dst = dst) (s x : Operand) (t : TypeId) (ho : o.op = .call { callee := .builtin .append, args := #[s, x], argTypes := #[t, t] })
    (v v2 r : Value) (hs : a.eval s = v) (hx : a.eval x = v2) (hr : (Builtin.append_ #[t, t] o.type #[v, v2]).run P w = .ok r X) (h : K (a.put dst r) X) : o.wp P a w K Q := by
  subst hd
  exact wp_append_run s x t ho v v2 r hs hx hr h
theorem ints_cellG {X : World} {q : Option Addr} {n c : Nat} {zs : List Int} (h : Ints X (.slice q n c) zs) (j : Nat) (z : Int) (hz : zs[j]? = some z) : ∃ b o, q = some ⟨b, o, none⟩ ∧ b < X.heap.size ∧ X.cell? ⟨b, o + j, none⟩ = some (.int .i64 z) := by
  have hj := (List.getElem?_eq_some_iff.1 hz).1
  obtain ⟨_, ⟨a, cap', e, rfl⟩ | ⟨g, off, cap', e, hc⟩⟩ := h
  · simp at hj
  · injection e with e1 e2 e3
    have h1 := hc j hj
    rw [hz] at h1
    exact ⟨g, off, e1, cell_lt h1, h1⟩
theorem at_worldQ {a : Act} {W : World} {Q : Exit → Act → World → Prop} (p : World → Prop) (h : p W) (k : ∀ X, p X → Q .normal a X) : Q .normal a W := k W h
theorem cells_not (v : Value) (p : Int) (w : World) (c : Int) (hc : c ≠ 0) (H : Hid (Calls Try.prog 17 #[v, .int .i64 p] w fun e W' => e = .returned (.tuple #[.slice none 0 0, .int .i64 c]) ∧ Below w.heap.size w W')) :
    Calls Try.prog 7 #[v, .int .i64 p] w fun e W' => e = .returned (.tuple #[.slice none 0 0, .slice none 0 0, .int .i64 c]) ∧ Below w.heap.size w W' := by
  have hc' : (c != 0) = true := by simpa using hc
  go_enter Try.func7, Try.ntmps7
  go_wp2_with (go_at_call 17; refine H.out.mono ?_; clear H; rintro e w1 ⟨rfl, hb1⟩; have HB1 := Lib.hid hb1; clear hb1)
  refine bodyPost_ret (v := .tuple #[.slice none 0 0, .slice none 0 0, .int .i64 c]) (by simp [results, Try.results7, go_sem]) rfl ?_
  exact ⟨rfl, HB1.out⟩
-- grid.Cells of a right place
set_option maxRecDepth 100000 in
set_option maxHeartbeats 4000000 in
theorem cells_at (b off cap m : Nat) (p : Int) (ns : List Nd) (w : World) (hm : ns.length = m) (h2 : m ≤ 65536) (hP : PageAt w (.slice (some ⟨b, off, none⟩) m cap) ns) (hK : ∀ n ∈ ns, n.ks.length ≤ 70000) (hlk : ∀ n ∈ ns, ∀ z ∈ n.ks, 0 ≤ z ∧ z < (m : Int))
    (E : List (Int × Int)) (hE : ∀ x ∈ E, 0 ≤ x.1 ∧ x.1 < (m : Int)) (hEl : E.length ≤ 100000)
    (H1 : Hid (Calls Try.prog 17 #[.slice (some ⟨b, off, none⟩) m cap, .int .i64 p] w fun e W' => ∃ v, e = .returned (.tuple #[v, .int .i64 0]) ∧ OwnL w.heap.size W' v E ∧ Below w.heap.size w W')) :
    Calls Try.prog 7 #[.slice (some ⟨b, off, none⟩) m cap, .int .i64 p] w fun e W' => ∃ v hv ve, e = .returned (.tuple #[v, ve, .int .i64 0]) ∧ RowsIn W'.heap.size W' v hv (cellsP ns E) ∧ Ints W' ve (endsW 0 E) ∧ Below w.heap.size w W' := by
  have HND : Hid (∀ (i : Nat) (n : Nd), ns[i]? = some n → NdAt w b (off + i * 34) n ∧ Ints w n.kv n.ks ∧ b < w.heap.size) := Lib.hid fun i n hn => by
    obtain ⟨_, h3, ⟨a, cp, e, rfl⟩ | ⟨b', o', cp, e, hc⟩⟩ := hP
    · simp at hn
    · injection e with e1 e2 e3
      injection e1 with e1
      injection e1 with e1 e4
      subst e1 e4
      have hc0 := hc i n hn
      exact ⟨hc0, (h3 n (List.mem_iff_getElem?.2 ⟨i, hn⟩)).1, cell_lt (hc0 0 _ n.c0)⟩
  have HM := Lib.hid hm
  have HKK := Lib.hid hK
  have HLK := Lib.hid hlk
  have HEE := Lib.hid hE
  obtain ⟨i0, hi0, hz0, hz1, hz2⟩ := info_parts Try.infoSp
  have HZ0 := Lib.hid hz0
  have HZ1 := Lib.hid hz1
  have HZ2 := Lib.hid hz2
  obtain ⟨nE, hnE⟩ : ∃ nE, E.length = nE := ⟨_, rfl⟩
  have HNE := Lib.hid hnE
  rw [hnE] at hEl
  have hmk := make_rows nE (by omega)
  obtain ⟨za, hza⟩ : ∃ za, (List.replicate nE (Value.slice none 0 0)).toArray = za := ⟨_, rfl⟩
  rw [hza] at hmk
  have HZA := Lib.hid hza
  have HCL : Hid ((cellsP ns E).length = nE) := Lib.hid (by unfold cellsP; rw [List.length_map]; exact hnE)
  clear hP hm hK hlk hE hz0 hz1 hz2 hnE hza
  go_enter Try.func7, Try.ntmps7
  go_wp2_with (go_at_call 17; refine H1.out.mono ?_; clear H1; rintro e w1 ⟨vr, rfl, o1, hb1⟩; have HB1 := Lib.hid hb1; obtain ⟨lq, lc, hvr⟩ := o1.lanes.form; rw [HNE.out] at hvr; have HL1 := Lib.hid o1.lanes; subst hvr; clear o1 hb1)
  clear hmk
  obtain ⟨g, hg⟩ : ∃ g, w1.heap.size = g := ⟨_, rfl⟩
  have HC0 : Hid (CB w1 g nE 0 (g + 1) (List.replicate nE (.slice none 0 0)) ((cellsP ns E).take 0) [] (w1.alloc (.cells za 49))) := Lib.hid (by rw [← HZA.out, List.take_zero]; exact CB.start hg (Below.refl _ w1))
  rw [hg]
  clear HZA
  generalize w1.alloc (.cells za 49) = W2 at HC0 ⊢
  clear hg
  go_loopw [28] (fun s28 X => ∃ (i Bi : Nat) (hs : List Value), i ≤ nE ∧ s28 = .int .i64 (i : Int) ∧ Hid (CB w1 g nE i Bi hs ((cellsP ns E).take i) [] X)) (fun s28 _ => nE - (intOf s28).toNat)
  case atStart => exact ⟨0, g + 1, _, Nat.zero_le _, rfl, HC0⟩
  case round =>
    clear HC0
    obtain ⟨i, Bi, hs, hi, rfl, HC⟩ := hrel
    by_cases hlt : i < nE
    · obtain ⟨x, hx⟩ : ∃ x, E[i]? = some x := ⟨_, List.getElem?_eq_getElem (by rw [HNE.out]; exact hlt)⟩
      obtain ⟨lb, lo, hq, l0, l1, llb⟩ := HL1.out.at i x hx
      subst hq
      have hx2 := HEE.out x (List.mem_iff_getElem?.2 ⟨i, hx⟩)
      obtain ⟨xn, xg⟩ := x
      dsimp only at l0 l1 hx2
      obtain ⟨nn, rfl⟩ := Int.eq_ofNat_of_zero_le hx2.1
      have hnn : nn < m := by omega
      obtain ⟨n, hn⟩ : ∃ n, ns[nn]? = some n := ⟨_, List.getElem?_eq_getElem (by rw [HM.out]; exact hnn)⟩
      obtain ⟨hnd, hni, hbw⟩ := HND.out nn n hn
      have hnm := List.mem_iff_getElem?.2 ⟨nn, hn⟩
      obtain ⟨kq, kc, hkv⟩ := hni.form
      obtain ⟨ks, hks⟩ : ∃ ks, n.ks = ks := ⟨_, rfl⟩
      obtain ⟨kl, hkl⟩ : ∃ kl, ks.length = kl := ⟨_, rfl⟩
      have hkl7 : kl ≤ 70000 := by rw [← hkl, ← hks]; exact HKK.out n hnm
      have HKS : Hid (∀ z ∈ ks, 0 ≤ z ∧ z < (m : Int)) := Lib.hid (by rw [← hks]; exact HLK.out n hnm)
      have HKF : Hid (kfOf ns (nn : Int) = ks) := Lib.hid (by unfold kfOf; rw [Int.toNat_natCast, hn]; exact hks)
      rw [hks] at hni hkv
      rw [hkl] at hkv
      have hk1 := hnd 1 _ n.c1
      rw [hkv] at hk1 hni
      have HNI := Lib.hid hni
      have HKL := Lib.hid hkl
      have lw1 := HC.out.lo.size
      have lbw : Below w.heap.size w wr := HB1.out.trans (HC.out.lo.mono HB1.out.size)
      have e0 := (HC.out.lo.cell (p := ⟨lb, lo + i * 2, none⟩) llb).trans l0
      have e1 := (HC.out.lo.cell (p := ⟨lb, lo + i * 2 + 1, none⟩) llb).trans l1
      have e2 := (lbw.cell (p := ⟨b, off + nn * 34 + 1, none⟩) hbw).trans hk1
      have llb1 : lb < wr.heap.size := by omega
      have lb1 : b < wr.heap.size := by have := lbw.size; omega
      have HCA : Hid (CB w1 g nE i Bi hs ((cellsP ns E).take i) (rowS9 ns (ks.take 0)) (wr.alloc (.cells #[.int .i64 (nn : Int), .int .i64 xg] 70))) := Lib.hid (by rw [List.take_zero]; exact HC.out.below ((Below.refl _ _).alloc (Nat.le_refl _) _))
      have HX := Lib.hid hx
      clear hx hx2 hn hnd hni hnm hkv hks hkl hk1 l0 l1 lbw HC
      go_wp2
      clear e0 e1 e2 llb1 lb1
      generalize wr.alloc (.cells #[.int .i64 (nn : Int), .int .i64 xg] 70) = W3 at HCA ⊢
      go_loopw [40] (fun s40 X => ∃ (k : Nat) (hs : List Value), k ≤ kl ∧ s40 = .int .i64 (k : Int) ∧ Hid (CB w1 g nE i Bi hs ((cellsP ns E).take i) (rowS9 ns (ks.take k)) X)) (fun s40 _ => kl - (intOf s40).toNat)
      case atStart => exact ⟨0, hs, Nat.zero_le _, rfl, HCA⟩
      case round =>
        clear HCA hs
        obtain ⟨k, hs, hk, rfl, HC⟩ := hrel
        by_cases hlk : k < kl
        · obtain ⟨z, hz⟩ : ∃ z, ks[k]? = some z := ⟨_, List.getElem?_eq_getElem (by rw [HKL.out]; exact hlk)⟩
          have hzr := HKS.out z (List.mem_iff_getElem?.2 ⟨k, hz⟩)
          have HSN0 := Lib.hid (rowS9_snoc ns ks k z hz)
          obtain ⟨zn, rfl⟩ := Int.eq_ofNat_of_zero_le hzr.1
          rw [Int.toNat_natCast] at HSN0
          have hznm : zn < m := by omega
          obtain ⟨c, hc⟩ : ∃ c, ns[zn]? = some c := ⟨_, List.getElem?_eq_getElem (by rw [HM.out]; exact hznm)⟩
          obtain ⟨hnc, _, hbw⟩ := HND.out zn c hc
          obtain ⟨kb, ko, hkq, lkb, kcell⟩ := ints_cellG HNI.out k (zn : Int) hz
          subst hkq
          have lbw : Below w.heap.size w wr := HB1.out.trans (HC.out.lo.mono HB1.out.size)
          have e0 := (lbw.cell (p := ⟨kb, ko + k, none⟩) lkb).trans kcell
          have e1 := (lbw.cell (p := ⟨b, off + zn * 34, none⟩) hbw).trans (hnc 0 _ c.c0)
          have lkb1 : kb < wr.heap.size := by have := lbw.size; omega
          have lb1 : b < wr.heap.size := by have := lbw.size; omega
          have hkd : kdOf ns zn = c.k := by unfold kdOf; rw [hc]; rfl
          rw [hkd] at HSN0
          have hsz : spZ ns (zn : Int) = spOf zn c.s := by unfold spZ; rw [Int.toNat_natCast, hc]
          rw [hsz] at HSN0
          obtain ⟨kd, hkd2⟩ : ∃ kd, c.k = kd := ⟨_, rfl⟩
          rw [hkd2] at HSN0 e1
          obtain ⟨⟨sn, sc, sr⟩, hsp⟩ : ∃ s, spOf zn c.s = s := ⟨_, rfl⟩
          rw [hsp] at HSN0
          have HSP : Hid (∀ X, Below w1.heap.size w1 X → Calls Try.prog 18 #[.slice (some ⟨b, off, none⟩) m cap, .int .i64 (zn : Int)] X fun e W' => e = .returned (.agg #[.int .i64 sn, .int .i64 sc, .int .i64 sr]) ∧ Below X.heap.size X W') := Lib.hid fun X hX => by
            have h := spans_any b off cap m zn c X hznm (fun j v hv => ((HB1.out.trans (hX.mono HB1.out.size)).cell (p := ⟨b, off + zn * 34 + j, none⟩) hbw).trans (hnc j v hv))
            rw [hsp] at h
            exact h
          clear hz hzr hc hnc kcell lbw hkd hsz hkd2 hsp
          by_cases h10 : kd = 10
          · have HSN : Hid (rowS9 ns (ks.take (k + 1)) = rowS9 ns (ks.take k) ++ [⟨sn, sc, sr⟩]) := Lib.hid (by rw [HSN0.out, if_pos h10])
            subst h10
            clear HSN0
            obtain ⟨u, hu⟩ : ∃ u, hs[i]? = some u := ⟨_, List.getElem?_eq_getElem (by rw [HC.out.hl]; exact hlt)⟩
            have hrl : (rowS9 ns (ks.take k)).length ≤ 70000 := by have := rowS9_len ns (ks.take k); rw [List.length_take] at this; omega
            go_wp2
            clear e0 e1 lkb1 lb1
            refine region_held_at (S := fun X => Hid (Below w1.heap.size w1 X)) (by kernel_rfl) (fun w9 hw9 => ?_)
            have HC9 := Lib.hid (HC.out.below (show Below wr.heap.size wr w9 by rw [← hw9]; exact (Below.refl _ _).drew))
            have SV := Lib.hid HC9.out.lo
            clear hw9 HC
            try simp only [Act.put, List.setIfInBounds_toArray, List.set_cons_succ, List.set_cons_zero]
            refine wpAnyH_takeD (i := 0) (v := .slice (some ⟨g, 0, none⟩) nE nE) (some 50) rfl rfl (by kernel_rfl) (by kernel_rfl) (by kernel_rfl) (fun _ _ _ h => h) (Or.inl ⟨by rfl, ?_⟩) SV ?_
            · intro X hX; go_simp
            try simp only [Act.put, List.setIfInBounds_toArray, List.set_cons_succ, List.set_cons_zero]
            refine wpAnyH_takeD (i := 1) (v := .int .i64 i) (some 51) rfl rfl (by kernel_rfl) (by kernel_rfl) (by kernel_rfl) (fun _ _ _ h => h) (Or.inl ⟨by rfl, ?_⟩) SV ?_
            · intro X hX; go_simp
            try simp only [Act.put, List.setIfInBounds_toArray, List.set_cons_succ, List.set_cons_zero]
            refine wpAnyH_takeD (i := 2) (v := .slice (some ⟨g, 0, none⟩) nE nE) (some 52) rfl rfl (by kernel_rfl) (by kernel_rfl) (by kernel_rfl) (fun _ _ _ h => h) (Or.inl ⟨by rfl, ?_⟩) SV ?_
            · intro X hX; go_simp
            try simp only [Act.put, List.setIfInBounds_toArray, List.set_cons_succ, List.set_cons_zero]
            refine wpAnyH_takeD (i := 3) (v := .int .i64 i) (some 53) rfl rfl (by kernel_rfl) (by kernel_rfl) (by kernel_rfl) (fun _ _ _ h => h) (Or.inl ⟨by rfl, ?_⟩) SV ?_
            · intro X hX; go_simp
            try simp only [Act.put, List.setIfInBounds_toArray, List.set_cons_succ, List.set_cons_zero]
            refine wpAnyH_takeD (i := 4) (v := .pointer (some ⟨g, i, none⟩)) (some 54) rfl rfl (by kernel_rfl) (by kernel_rfl) (by kernel_rfl) (fun _ _ _ h => h) (Or.inl ⟨by rfl, ?_⟩) SV ?_
            · intro X hX; go_simp
            try simp only [Act.put, List.setIfInBounds_toArray, List.set_cons_succ, List.set_cons_zero]
            refine wpAnyH_takeD (i := 6) (v := .slice (some ⟨b, off, none⟩) m cap) (some 56) rfl rfl (by kernel_rfl) (by kernel_rfl) (by kernel_rfl) (fun _ _ _ h => h) (Or.inl ⟨by rfl, ?_⟩) SV ?_
            · intro X hX; go_simp
            try simp only [Act.put, List.setIfInBounds_toArray, List.set_cons_succ, List.set_cons_zero]
            refine wpAnyH_takeD (i := 7) (v := .int .i64 zn) (some 57) rfl rfl (by kernel_rfl) (by kernel_rfl) (by kernel_rfl) (fun _ _ _ h => h) (Or.inl ⟨by rfl, ?_⟩) SV ?_
            · intro X hX; go_simp
            try simp only [Act.put, List.setIfInBounds_toArray, List.set_cons_succ, List.set_cons_zero]
            refine wpAnyH_all (rs := [5, 8]) (by kernel_rfl) (by simp) ?_
            intro ii hii
            rcases (show ii = 5 ∨ ii = 8 by simpa using hii) with rfl | rfl
            · skip
              have c0 : w9.cell? ⟨g, i, none⟩ = some u := by rw [HC9.out.kr.cellAt]; exact hu
              have lg0 := HC9.out.kr.lt
              refine wpOp_step rfl (fun K hK => ?_)
              go_simp
              refine hK _ _ ⟨SV, ?_⟩
              clear hK K hii c0 lg0
              try simp only [Act.put, List.setIfInBounds_toArray, List.set_cons_succ, List.set_cons_zero]
              refine wpAnyH_all (rs := [8]) (by kernel_rfl) (by simp) ?_
              intro ii hii; obtain rfl : ii = 8 := by simpa using hii
              refine wpOp_step rfl (fun K hK => ?_)
              go_simp
              refine (HSP.out _ SV.out).mono ?_
              rintro e Y ⟨rfl, hbY⟩
              have HCn := Lib.hid (HC9.out.below hbY)
              have SVn := Lib.hid HCn.out.lo
              refine hK _ _ ⟨SVn, ?_⟩
              clear hK K hii SV hbY HSP HC9
              have HC9 := HCn
              have SV := SVn
              clear SVn HCn
              try simp only [Act.put, List.setIfInBounds_toArray, List.set_cons_succ, List.set_cons_zero]
              refine wpAnyH_all (rs := [9]) (by kernel_rfl) (by simp) ?_
              intro ii hii; obtain rfl : ii = 9 := by simpa using hii
              have SVn : Hid (Below w1.heap.size w1 (Y.alloc (.cells #[.int .i64 sn, .int .i64 sc, .int .i64 sr] 48))) := Lib.hid (SV.out.alloc SV.out.size _)
              refine wpOp_step rfl (fun K hK => ?_)
              go_simp
              refine hK _ _ ⟨SVn, ?_⟩
              clear hK K hii SV
              have SV := SVn
              clear SVn
              try simp only [Act.put, List.setIfInBounds_toArray, List.set_cons_succ, List.set_cons_zero]
              refine wpAnyH_all (rs := [10]) (by kernel_rfl) (by simp) ?_
              intro ii hii; obtain rfl : ii = 10 := by simpa using hii
              have hBx := HC9.out.Bx
              obtain ⟨v9, w9', hr7, hown9, hgrow9, _, _⟩ := run_append_own_at (P := Try.prog) (Y.alloc (.cells #[.int .i64 sn, .int .i64 sc, .int .i64 sr] 48)) Bi 49 49 48 i0 (.agg #[.int .i64 0, .int .i64 0, .int .i64 0]) 3 24 Try.underlying49 hi0 HZ0.out HZ1.out HZ2.out rfl (by decide) u _ _ ((HC9.out.cu u hu).alloc _) ⟨Y.heap.size, 0, none⟩ 1 1 [.int .i64 sn, .int .i64 sc, .int .i64 sr] rfl (lay_newG _ [.int .i64 sn, .int .i64 sc, .int .i64 sr] 48 Y.heap.size rfl) (by simp [Value.oneCell']) (by unfold maxLen; omega) (by omega) (by simp <;> omega)
              obtain ⟨p9, n9, cc9, rfl⟩ := own_slice hown9
              have HPUT := Lib.hid (HC9.out.put (s := ⟨sn, sc, sr⟩) hlt hu hown9 hgrow9)
              have hG9 := (HC9.out.kr.alloc (.cells #[.int .i64 sn, .int .i64 sc, .int .i64 sr] 48)).grown hgrow9 (fun e => by have h1 := (((HC9.out.cu u hu).alloc (.cells #[.int .i64 sn, .int .i64 sc, .int .i64 sr] 48)).lt g e).1; have h2 := HC9.out.gB; omega)
              have SVn : Hid (Below w1.heap.size w1 w9') := Lib.hid (own_below SV.out ((HC9.out.cu u hu).alloc _) (by have := HC9.out.gB; have := HC9.out.wg; omega) hgrow9 SV.out.size)
              refine wpOp_step rfl (fun K hK => ?_)
              refine wp_append_runD (some 60) rfl _ _ _ rfl _ _ _ rfl rfl hr7 ?_
              refine hK _ _ ⟨SVn, ?_⟩
              clear hK K hii SV hr7 hBx
              have SV := SVn
              clear SVn
              try simp only [Act.put, List.setIfInBounds_toArray, List.set_cons_succ, List.set_cons_zero]
              refine wpAnyH_takeD (i := 11) (v := .pointer (some ⟨g, i, none⟩)) (some 61) rfl rfl (by kernel_rfl) (by kernel_rfl) (by kernel_rfl) (fun _ _ _ h => h) (Or.inl ⟨by rfl, ?_⟩) SV ?_
              · intro X hX; go_simp
              try simp only [Act.put, List.setIfInBounds_toArray, List.set_cons_succ, List.set_cons_zero]
              refine wpAnyH_all (rs := [12]) (by kernel_rfl) (by simp) ?_
              intro ii hii; obtain rfl : ii = 12 := by simpa using hii
              have lg9 := hG9.lt
              have fg9 := hG9.free i
              have cg9 : w9'.cell? ⟨g, i, none⟩ = some u := by rw [hG9.cellAt]; exact hu
              have SVn : Hid (Below w1.heap.size w1 (w9'.setCell ⟨g, i, none⟩ (.slice p9 n9 cc9))) := Lib.hid HPUT.out.lo
              refine wpOp_step rfl (fun K hK => ?_)
              go_simp
              refine hK _ _ ⟨SVn, ?_⟩
              clear hK K hii SV lg9 fg9 cg9 hG9 SVn hown9 hgrow9
              refine wpAnyH_done (by kernel_rfl) ?_ _
              refine at_worldQ (fun Z => CB w1 g nE i Bi (hs.set i (.slice p9 n9 cc9)) ((cellsP ns E).take i) (rowS9 ns (ks.take k) ++ [⟨sn, sc, sr⟩]) Z) HPUT.out (fun Z hZ => ?_)
              have HCZ : Hid (CB w1 g nE i Bi (hs.set i (.slice p9 n9 cc9)) ((cellsP ns E).take i) (rowS9 ns (ks.take (k + 1))) Z) := Lib.hid (by rw [HSN.out]; exact hZ)
              clear hZ HPUT HC9 HSN hu
              go_wp2
              go_roundw
              case rel => exact ⟨k + 1, _, by omega, by go_num, HCZ⟩
              case measure => simp [intOf]; omega
            · skip
              refine wpOp_step rfl (fun K hK => ?_)
              go_simp
              refine (HSP.out _ SV.out).mono ?_
              rintro e Y ⟨rfl, hbY⟩
              have HCn := Lib.hid (HC9.out.below hbY)
              have SVn := Lib.hid HCn.out.lo
              refine hK _ _ ⟨SVn, ?_⟩
              clear hK K hii SV hbY HSP HC9
              have HC9 := HCn
              have SV := SVn
              clear SVn HCn
              try simp only [Act.put, List.setIfInBounds_toArray, List.set_cons_succ, List.set_cons_zero]
              refine wpAnyH_all (rs := [5, 9]) (by kernel_rfl) (by simp) ?_
              intro ii hii
              rcases (show ii = 5 ∨ ii = 9 by simpa using hii) with rfl | rfl
              · skip
                have c0 : Y.cell? ⟨g, i, none⟩ = some u := by rw [HC9.out.kr.cellAt]; exact hu
                have lg0 := HC9.out.kr.lt
                refine wpOp_step rfl (fun K hK => ?_)
                go_simp
                refine hK _ _ ⟨SV, ?_⟩
                clear hK K hii c0 lg0
                try simp only [Act.put, List.setIfInBounds_toArray, List.set_cons_succ, List.set_cons_zero]
                refine wpAnyH_all (rs := [9]) (by kernel_rfl) (by simp) ?_
                intro ii hii; obtain rfl : ii = 9 := by simpa using hii
                have SVn : Hid (Below w1.heap.size w1 (Y.alloc (.cells #[.int .i64 sn, .int .i64 sc, .int .i64 sr] 48))) := Lib.hid (SV.out.alloc SV.out.size _)
                refine wpOp_step rfl (fun K hK => ?_)
                go_simp
                refine hK _ _ ⟨SVn, ?_⟩
                clear hK K hii SV
                have SV := SVn
                clear SVn
                try simp only [Act.put, List.setIfInBounds_toArray, List.set_cons_succ, List.set_cons_zero]
                refine wpAnyH_all (rs := [10]) (by kernel_rfl) (by simp) ?_
                intro ii hii; obtain rfl : ii = 10 := by simpa using hii
                have hBx := HC9.out.Bx
                obtain ⟨v9, w9', hr7, hown9, hgrow9, _, _⟩ := run_append_own_at (P := Try.prog) (Y.alloc (.cells #[.int .i64 sn, .int .i64 sc, .int .i64 sr] 48)) Bi 49 49 48 i0 (.agg #[.int .i64 0, .int .i64 0, .int .i64 0]) 3 24 Try.underlying49 hi0 HZ0.out HZ1.out HZ2.out rfl (by decide) u _ _ ((HC9.out.cu u hu).alloc _) ⟨Y.heap.size, 0, none⟩ 1 1 [.int .i64 sn, .int .i64 sc, .int .i64 sr] rfl (lay_newG _ [.int .i64 sn, .int .i64 sc, .int .i64 sr] 48 Y.heap.size rfl) (by simp [Value.oneCell']) (by unfold maxLen; omega) (by omega) (by simp <;> omega)
                obtain ⟨p9, n9, cc9, rfl⟩ := own_slice hown9
                have HPUT := Lib.hid (HC9.out.put (s := ⟨sn, sc, sr⟩) hlt hu hown9 hgrow9)
                have hG9 := (HC9.out.kr.alloc (.cells #[.int .i64 sn, .int .i64 sc, .int .i64 sr] 48)).grown hgrow9 (fun e => by have h1 := (((HC9.out.cu u hu).alloc (.cells #[.int .i64 sn, .int .i64 sc, .int .i64 sr] 48)).lt g e).1; have h2 := HC9.out.gB; omega)
                have SVn : Hid (Below w1.heap.size w1 w9') := Lib.hid (own_below SV.out ((HC9.out.cu u hu).alloc _) (by have := HC9.out.gB; have := HC9.out.wg; omega) hgrow9 SV.out.size)
                refine wpOp_step rfl (fun K hK => ?_)
                refine wp_append_runD (some 60) rfl _ _ _ rfl _ _ _ rfl rfl hr7 ?_
                refine hK _ _ ⟨SVn, ?_⟩
                clear hK K hii SV hr7 hBx
                have SV := SVn
                clear SVn
                try simp only [Act.put, List.setIfInBounds_toArray, List.set_cons_succ, List.set_cons_zero]
                refine wpAnyH_takeD (i := 11) (v := .pointer (some ⟨g, i, none⟩)) (some 61) rfl rfl (by kernel_rfl) (by kernel_rfl) (by kernel_rfl) (fun _ _ _ h => h) (Or.inl ⟨by rfl, ?_⟩) SV ?_
                · intro X hX; go_simp
                try simp only [Act.put, List.setIfInBounds_toArray, List.set_cons_succ, List.set_cons_zero]
                refine wpAnyH_all (rs := [12]) (by kernel_rfl) (by simp) ?_
                intro ii hii; obtain rfl : ii = 12 := by simpa using hii
                have lg9 := hG9.lt
                have fg9 := hG9.free i
                have cg9 : w9'.cell? ⟨g, i, none⟩ = some u := by rw [hG9.cellAt]; exact hu
                have SVn : Hid (Below w1.heap.size w1 (w9'.setCell ⟨g, i, none⟩ (.slice p9 n9 cc9))) := Lib.hid HPUT.out.lo
                refine wpOp_step rfl (fun K hK => ?_)
                go_simp
                refine hK _ _ ⟨SVn, ?_⟩
                clear hK K hii SV lg9 fg9 cg9 hG9 SVn hown9 hgrow9
                refine wpAnyH_done (by kernel_rfl) ?_ _
                refine at_worldQ (fun Z => CB w1 g nE i Bi (hs.set i (.slice p9 n9 cc9)) ((cellsP ns E).take i) (rowS9 ns (ks.take k) ++ [⟨sn, sc, sr⟩]) Z) HPUT.out (fun Z hZ => ?_)
                have HCZ : Hid (CB w1 g nE i Bi (hs.set i (.slice p9 n9 cc9)) ((cellsP ns E).take i) (rowS9 ns (ks.take (k + 1))) Z) := Lib.hid (by rw [HSN.out]; exact hZ)
                clear hZ HPUT HC9 HSN hu
                go_wp2
                go_roundw
                case rel => exact ⟨k + 1, _, by omega, by go_num, HCZ⟩
                case measure => simp [intOf]; omega
              · skip
                have SVn : Hid (Below w1.heap.size w1 (Y.alloc (.cells #[.int .i64 sn, .int .i64 sc, .int .i64 sr] 48))) := Lib.hid (SV.out.alloc SV.out.size _)
                refine wpOp_step rfl (fun K hK => ?_)
                go_simp
                refine hK _ _ ⟨SVn, ?_⟩
                clear hK K hii SV
                have SV := SVn
                clear SVn
                try simp only [Act.put, List.setIfInBounds_toArray, List.set_cons_succ, List.set_cons_zero]
                refine wpAnyH_all (rs := [5]) (by kernel_rfl) (by simp) ?_
                intro ii hii; obtain rfl : ii = 5 := by simpa using hii
                have c0 : (Y.alloc (.cells #[.int .i64 sn, .int .i64 sc, .int .i64 sr] 48)).cell? ⟨g, i, none⟩ = some u := by rw [(HC9.out.kr.alloc _).cellAt]; exact hu
                have lg0 := (HC9.out.kr.alloc (.cells #[.int .i64 sn, .int .i64 sc, .int .i64 sr] 48)).lt
                refine wpOp_step rfl (fun K hK => ?_)
                go_simp
                refine hK _ _ ⟨SV, ?_⟩
                clear hK K hii c0 lg0
                try simp only [Act.put, List.setIfInBounds_toArray, List.set_cons_succ, List.set_cons_zero]
                refine wpAnyH_all (rs := [10]) (by kernel_rfl) (by simp) ?_
                intro ii hii; obtain rfl : ii = 10 := by simpa using hii
                have hBx := HC9.out.Bx
                obtain ⟨v9, w9', hr7, hown9, hgrow9, _, _⟩ := run_append_own_at (P := Try.prog) (Y.alloc (.cells #[.int .i64 sn, .int .i64 sc, .int .i64 sr] 48)) Bi 49 49 48 i0 (.agg #[.int .i64 0, .int .i64 0, .int .i64 0]) 3 24 Try.underlying49 hi0 HZ0.out HZ1.out HZ2.out rfl (by decide) u _ _ ((HC9.out.cu u hu).alloc _) ⟨Y.heap.size, 0, none⟩ 1 1 [.int .i64 sn, .int .i64 sc, .int .i64 sr] rfl (lay_newG _ [.int .i64 sn, .int .i64 sc, .int .i64 sr] 48 Y.heap.size rfl) (by simp [Value.oneCell']) (by unfold maxLen; omega) (by omega) (by simp <;> omega)
                obtain ⟨p9, n9, cc9, rfl⟩ := own_slice hown9
                have HPUT := Lib.hid (HC9.out.put (s := ⟨sn, sc, sr⟩) hlt hu hown9 hgrow9)
                have hG9 := (HC9.out.kr.alloc (.cells #[.int .i64 sn, .int .i64 sc, .int .i64 sr] 48)).grown hgrow9 (fun e => by have h1 := (((HC9.out.cu u hu).alloc (.cells #[.int .i64 sn, .int .i64 sc, .int .i64 sr] 48)).lt g e).1; have h2 := HC9.out.gB; omega)
                have SVn : Hid (Below w1.heap.size w1 w9') := Lib.hid (own_below SV.out ((HC9.out.cu u hu).alloc _) (by have := HC9.out.gB; have := HC9.out.wg; omega) hgrow9 SV.out.size)
                refine wpOp_step rfl (fun K hK => ?_)
                refine wp_append_runD (some 60) rfl _ _ _ rfl _ _ _ rfl rfl hr7 ?_
                refine hK _ _ ⟨SVn, ?_⟩
                clear hK K hii SV hr7 hBx
                have SV := SVn
                clear SVn
                try simp only [Act.put, List.setIfInBounds_toArray, List.set_cons_succ, List.set_cons_zero]
                refine wpAnyH_takeD (i := 11) (v := .pointer (some ⟨g, i, none⟩)) (some 61) rfl rfl (by kernel_rfl) (by kernel_rfl) (by kernel_rfl) (fun _ _ _ h => h) (Or.inl ⟨by rfl, ?_⟩) SV ?_
                · intro X hX; go_simp
                try simp only [Act.put, List.setIfInBounds_toArray, List.set_cons_succ, List.set_cons_zero]
                refine wpAnyH_all (rs := [12]) (by kernel_rfl) (by simp) ?_
                intro ii hii; obtain rfl : ii = 12 := by simpa using hii
                have lg9 := hG9.lt
                have fg9 := hG9.free i
                have cg9 : w9'.cell? ⟨g, i, none⟩ = some u := by rw [hG9.cellAt]; exact hu
                have SVn : Hid (Below w1.heap.size w1 (w9'.setCell ⟨g, i, none⟩ (.slice p9 n9 cc9))) := Lib.hid HPUT.out.lo
                refine wpOp_step rfl (fun K hK => ?_)
                go_simp
                refine hK _ _ ⟨SVn, ?_⟩
                clear hK K hii SV lg9 fg9 cg9 hG9 SVn hown9 hgrow9
                refine wpAnyH_done (by kernel_rfl) ?_ _
                refine at_worldQ (fun Z => CB w1 g nE i Bi (hs.set i (.slice p9 n9 cc9)) ((cellsP ns E).take i) (rowS9 ns (ks.take k) ++ [⟨sn, sc, sr⟩]) Z) HPUT.out (fun Z hZ => ?_)
                have HCZ : Hid (CB w1 g nE i Bi (hs.set i (.slice p9 n9 cc9)) ((cellsP ns E).take i) (rowS9 ns (ks.take (k + 1))) Z) := Lib.hid (by rw [HSN.out]; exact hZ)
                clear hZ HPUT HC9 HSN hu
                go_wp2
                go_roundw
                case rel => exact ⟨k + 1, _, by omega, by go_num, HCZ⟩
                case measure => simp [intOf]; omega
          · have HCn : Hid (CB w1 g nE i Bi hs ((cellsP ns E).take i) (rowS9 ns (ks.take (k + 1))) wr) := Lib.hid (by rw [HSN0.out, if_neg h10, List.append_nil]; exact HC.out)
            have g10 : (kd == 10) = false := by simpa using h10
            clear HSN0 HC HSP h10
            go_wp2
            go_roundw
            case rel => exact ⟨k + 1, hs, by omega, by go_num, HCn⟩
            case measure => simp [intOf]; omega
        · have hkk : k = kl := by omega
          have HCn : Hid (CB w1 g nE (i + 1) wr.heap.size hs ((cellsP ns E).take (i + 1)) [] wr) := Lib.hid (by
            have h := HC.out
            rw [List.take_of_length_le (show ks.length ≤ k by rw [HKL.out, hkk]; exact Nat.le_refl _)] at h
            have h2 := h.next hlt (by rw [List.length_take, HCL.out]; omega)
            rw [List.take_add_one, show (cellsP ns E)[i]? = some (rowS9 ns ks) by unfold cellsP; rw [List.getElem?_map, HX.out, ← HKF.out]; rfl]
            exact h2)
          clear hkk HC
          go_wp2
          go_roundw
          case rel => exact ⟨i + 1, _, hs, by omega, by go_num, HCn⟩
          case measure => simp [intOf]; omega
    · have hie : i = nE := by omega
      have HLX := Lib.hid (HL1.out.below HC.out.lo)
      have HR : Hid (RowsIn wr.heap.size wr (.slice (some ⟨g, 0, none⟩) nE nE) (fun i => hs[i]?.getD (.slice none 0 0)) (cellsP ns E)) := Lib.hid (by
        have h := HC.out
        rw [hie, List.take_of_length_le (show (cellsP ns E).length ≤ nE by rw [HCL.out]; exact Nat.le_refl _)] at h
        exact h.made HCL.out (by omega) (fun r hr => by
          obtain ⟨x, hx, rfl⟩ := List.mem_map.1 hr
          have h1 := rowS9_len ns (kfOf ns x.1)
          have h2 : (kfOf ns x.1).length ≤ 70000 := by
            unfold kfOf
            cases hq : ns[x.1.toNat]? with
            | none => simp
            | some n => exact HKK.out n (List.mem_iff_getElem?.2 ⟨_, hq⟩)
          omega))
      have HBW := Lib.hid (HB1.out.trans (HC.out.lo.mono HB1.out.size))
      have HEN := Lib.hid (ends_at lq nE lc E wr HLX.out HNE.out (by omega))
      clear hie HC HLX
      go_wp2_with (go_at_call 19; refine HEN.out.mono ?_; clear HEN; rintro e w5 ⟨rfl, hw5, hb5⟩; have HR5 := Lib.hid ((HR.out.below hb5).mono hb5.size); have HE5 := Lib.hid hw5; have HB5 := Lib.hid (HBW.out.trans (hb5.mono HBW.out.size)); clear hw5 hb5 HR HBW)
      refine bodyPost_ret (v := .tuple #[.slice (some ⟨g, 0, none⟩) nE nE, .slice (some ⟨wr.heap.size, 0, none⟩) nE nE, .int .i64 0]) (by simp [results, Try.results7, go_sem]) rfl ?_
      exact ⟨_, _, _, rfl, HR5.out, Ints.whole HE5.out (by rw [endsW_len 0 E (Nat.zero_le _)]; exact HNE.out) (by omega), HB5.out⟩
end Go.Proofs.Ytcgnldcdcbnofaa

namespace Go.Proofs.Ytcgnldcdcbnofaa
open Go.RowKit Go.Shelf
set_option linter.unusedVariables false
set_option linter.unusedSimpArgs false
attribute [local go_sem] Oper.semAt_some

theorem own_typesC {X : World} {b b' e e' sz sz' n n' : Nat} {v v' : Value} {xs xs' : List Value} (h : X.ownsRow b e sz v n xs) (h' : X.ownsRow b' e' sz' v' n' xs') (hne : e ≠ e') : v.ownBlock = none ∨ v.ownBlock ≠ v'.ownBlock := by
  rcases h.2 with ⟨rfl, _⟩ | ⟨g, cap, cur, rfl, _, hg, _⟩
  · exact .inl rfl
  · rcases h'.2 with ⟨rfl, _⟩ | ⟨g', cap', cur', rfl, _, hg', _⟩
    · exact .inr fun e => by simp [Value.ownBlock] at e
    · refine .inr fun e => ?_
      simp [Value.ownBlock] at e
      subst e
      rw [hg] at hg'
      cases hg'
      exact hne rfl
/-- the memory while the document lists rows of cells -/
structure DB (w : World) (out : Value) (hs : List Value) (rows : List (List Sp)) (Bi : Nat) (v : Value) (cur : List Sp) (x : World) : Prop where
  lo : Below w.heap.size w x
  ot : x.ownsRow w.heap.size 49 1 out hs.length hs
  hl : hs.length = rows.length
  ro : ∀ (j : Nat) (u : Value) (r : List Sp), hs[j]? = some u → rows[j]? = some r → x.ownsRow w.heap.size 48 3 u r.length (flat3 r) ∧ ∀ b, u.ownBlock = some b → b < Bi
  cu : x.ownsRow Bi 48 3 v cur.length (flat3 cur)
  wB : w.heap.size ≤ Bi
  Bx : Bi ≤ x.heap.size
theorem DB.start (w X : World) (h : Below w.heap.size w X) : DB w (.slice none 0 0) [] [] X.heap.size (.slice none 0 0) [] X :=
  ⟨h, World.ownsRow_nil _ _ _ _, rfl, fun j u r hu => by simp at hu, World.ownsRow_nil _ _ _ _, h.size, Nat.le_refl _⟩
theorem DB.below {w x y : World} {out v : Value} {hs : List Value} {rows : List (List Sp)} {Bi : Nat} {cur : List Sp} (h : DB w out hs rows Bi v cur x) (hb : Below x.heap.size x y) : DB w out hs rows Bi v cur y :=
  ⟨h.lo.trans (hb.mono h.lo.size), own_laterS h.ot hb, h.hl, fun j u r hu hr => ⟨own_laterS (h.ro j u r hu hr).1 hb, (h.ro j u r hu hr).2⟩, own_laterS h.cu hb, h.wB, by have := hb.size; have := h.Bx; omega⟩
theorem DB.put {w x Y : World} {out v v' : Value} {hs : List Value} {rows : List (List Sp)} {Bi : Nat} {cur : List Sp} {s : Sp} {o : Obj} (h : DB w out hs rows Bi v cur x)
    (ho : Y.ownsRow Bi 48 3 v' (cur.length + 1) (flat3 cur ++ s.cells)) (hg : (x.alloc o).grownBy Y v.ownBlock) : DB w out hs rows Bi v' (cur ++ [s]) Y := by
  have hA := h.cu.alloc o
  have hlo : ∀ b, b < Bi → v.ownBlock ≠ some b := fun b hb => own_low hA hb
  have hwB := h.wB
  refine ⟨own_below (h.lo.alloc h.lo.size o) hA hwB hg (by have := h.lo.size; simp; omega), (h.ot.alloc o).kept hg (own_typesC (h.ot.alloc o) hA (by decide)), h.hl, fun j u r hu hr => ?_, ?_, hwB, ?_⟩
  · obtain ⟨h1, h2⟩ := h.ro j u r hu hr
    exact ⟨(h1.alloc o).kept hg (by
      cases hq : u.ownBlock with
      | none => exact .inl rfl
      | some b => exact .inr fun e => hlo b (h2 b hq) e.symm), h2⟩
  · have h4 : flat3 (cur ++ [s]) = flat3 cur ++ s.cells := by unfold flat3; simp
    rw [h4, List.length_append]
    exact ho
  · have := hg.size; have := h.Bx; simp at *; omega
theorem DB.push {w x Y : World} {out out' v : Value} {hs : List Value} {rows : List (List Sp)} {Bi : Nat} {cur : List Sp} {o : Obj} (h : DB w out hs rows Bi v cur x)
    (ho : Y.ownsRow w.heap.size 49 1 out' (hs.length + 1) (hs ++ [v])) (hg : (x.alloc o).grownBy Y out.ownBlock) : DB w out' (hs ++ [v]) (rows ++ [cur]) Y.heap.size (.slice none 0 0) [] Y := by
  have hA := h.ot.alloc o
  have hsz : Bi ≤ Y.heap.size := by have := hg.size; have := h.Bx; simp at *; omega
  refine ⟨own_below (h.lo.alloc h.lo.size o) hA (Nat.le_refl _) hg (by have := h.lo.size; simp; omega), by simpa using ho, by simp [h.hl], fun j u r hu hr => ?_, World.ownsRow_nil _ _ _ _, by have := h.wB; omega, Nat.le_refl _⟩
  by_cases hj : j < hs.length
  · rw [List.getElem?_append_left hj] at hu
    rw [List.getElem?_append_left (by rw [← h.hl]; exact hj)] at hr
    obtain ⟨h1, h2⟩ := h.ro j u r hu hr
    exact ⟨(h1.alloc o).kept hg (own_typesC (h1.alloc o) hA (by decide)), fun b hb => by have := h2 b hb; omega⟩
  · have hr1 : j = hs.length := by have := (List.getElem?_eq_some_iff.1 hu).1; simp at this; omega
    subst hr1
    rw [List.getElem?_append_right (Nat.le_refl _), Nat.sub_self] at hu
    rw [List.getElem?_append_right (by rw [h.hl]; exact Nat.le_refl _), h.hl, Nat.sub_self] at hr
    simp at hu hr
    subst hu hr
    have h1 := (h.cu.alloc o).kept hg (own_typesC (h.cu.alloc o) hA (by decide))
    exact ⟨own_kept_cells h1 (CellsKept.refl _) h.wB, fun b hb => (h1.lt b hb).2⟩
theorem DB.made {w x : World} {out v : Value} {hs : List Value} {rows : List (List Sp)} {Bi : Nat} {cur : List Sp} (h : DB w out hs rows Bi v cur x) (hn : rows.length ≤ 100000) (hr : ∀ r ∈ rows, r.length ≤ 100000) :
    RowsIn x.heap.size x out (fun i => hs[i]?.getD (.slice none 0 0)) rows := by
  have hlen : hs.length = rows.length := h.hl
  refine ⟨by omega, ?_⟩
  rcases h.ot.2 with ⟨e, h0⟩ | ⟨g, cap, cur', e, hb, hg, _, _, hcs, htk⟩
  · exact .inl ⟨none, 0, e, List.length_eq_zero_iff.1 (by omega)⟩
  · refine .inr ⟨g, 0, cap, by rw [e, hlen], (Array.getElem?_eq_some_iff.1 hg).1, fun i row hrow => ?_⟩
    have hi := (List.getElem?_eq_some_iff.1 hrow).1
    obtain ⟨u, hu⟩ : ∃ u, hs[i]? = some u := ⟨_, List.getElem?_eq_getElem (by omega)⟩
    obtain ⟨h1, _⟩ := h.ro i u row hu hrow
    have e2 : (fun i => hs[i]?.getD (Value.slice none 0 0)) i = u := by simp [hu]
    rw [e2]
    refine ⟨?_, own_row h1 (by have := hr row (List.mem_iff_getElem?.2 ⟨i, hrow⟩); omega) (Nat.le_refl _)⟩
    have hc := h.ot.cells (g := g) (by rw [e]; rfl) i u hu
    rwa [add_plain] at hc
theorem whole_keptC {X Y : World} {B g t e sz n : Nat} {v : Value} {xs zs : List Value} {o : Obj} (h : Whole X g t zs) (ho : X.ownsRow B e sz v n xs) (hte : t ≠ e) (hg : (X.alloc o).grownBy Y v.ownBlock) : Whole Y g t zs :=
  (h.alloc o).grown hg (whole_own (h.alloc o) (ho.alloc o) hte)
set_option maxRecDepth 100000 in
set_option maxHeartbeats 4000000 in
theorem refCells_at (b off cap m : Nat) (p : Int) (ns : List Nd) (w : World) (hm : ns.length = m) (h2 : m ≤ 65536) (hP : PageAt w (.slice (some ⟨b, off, none⟩) m cap) ns) (hK : ∀ n ∈ ns, n.ks.length ≤ 70000) (hlk : ∀ n ∈ ns, ∀ z ∈ n.ks, 0 ≤ z ∧ z < (m : Int))
    (E : List (Int × Int)) (hE : ∀ x ∈ E, 0 ≤ x.1 ∧ x.1 < (m : Int)) (hEl : E.length ≤ 100000)
    (H1 : Hid (Calls Try.prog 21 #[.slice (some ⟨b, off, none⟩) m cap, .int .i64 p] w fun e W' => ∃ v, e = .returned v ∧ OwnL w.heap.size W' v E ∧ Below w.heap.size w W')) :
    Calls Try.prog 9 #[.slice (some ⟨b, off, none⟩) m cap, .int .i64 p] w fun e W' => ∃ v hv ve, e = .returned (.tuple #[v, ve]) ∧ RowsIn W'.heap.size W' v hv (cellsP ns E) ∧ Ints W' ve (endsW 0 E) ∧ Below w.heap.size w W' := by
  have HND : Hid (∀ (i : Nat) (n : Nd), ns[i]? = some n → NdAt w b (off + i * 34) n ∧ n.ok w ∧ b < w.heap.size) := Lib.hid fun i n hn => by
    obtain ⟨_, h3, ⟨a, cp, e, rfl⟩ | ⟨b', o', cp, e, hc⟩⟩ := hP
    · simp at hn
    · injection e with e1 e2 e3
      injection e1 with e1
      injection e1 with e1 e4
      subst e1 e4
      have hc0 := hc i n hn
      exact ⟨hc0, h3 n (List.mem_iff_getElem?.2 ⟨i, hn⟩), cell_lt (hc0 0 _ n.c0)⟩
  have HM := Lib.hid hm
  have HKK := Lib.hid hK
  have HLK := Lib.hid hlk
  have HEE := Lib.hid hE
  obtain ⟨i0, hi0, hz0, hz1, hz2⟩ := info_parts Try.infoSp
  have HZ0 := Lib.hid hz0
  have HZ1 := Lib.hid hz1
  have HZ2 := Lib.hid hz2
  obtain ⟨i1, hi1, hy0, hy1, hy2⟩ := info_parts Try.infoSps
  have HY0 := Lib.hid hy0
  have HY1 := Lib.hid hy1
  have HY2 := Lib.hid hy2
  obtain ⟨nE, hnE⟩ : ∃ nE, E.length = nE := ⟨_, rfl⟩
  have HNE := Lib.hid hnE
  rw [hnE] at hEl
  have HCL : Hid ((cellsP ns E).length = nE) := Lib.hid (by unfold cellsP; rw [List.length_map]; exact hnE)
  clear hP hm hK hlk hE hz0 hz1 hz2 hy0 hy1 hy2 hnE
  go_enter Try.func9, Try.ntmps9
  go_wp2_with (go_at_call 21; refine H1.out.mono ?_; clear H1; rintro e w1 ⟨vr, rfl, o1, hb1⟩; have HB1 := Lib.hid hb1; obtain ⟨lq, lc, hvr⟩ := o1.lanes.form; rw [HNE.out] at hvr; have HL1 := Lib.hid o1.lanes; subst hvr; clear o1 hb1)
  go_loopw [8, 7] (fun s8 s7 X => ∃ (i Bi : Nat) (hs : List Value), i ≤ nE ∧ s8 = .int .i64 (i : Int) ∧ Hid (DB w1 s7 hs ((cellsP ns E).take i) Bi (.slice none 0 0) [] X)) (fun s8 _ _ => nE - (intOf s8).toNat)
  case atStart => exact ⟨0, _, [], Nat.zero_le _, rfl, Lib.hid (by rw [List.take_zero]; exact DB.start w1 w1 (Below.refl _ _))⟩
  case round =>
    obtain ⟨i, Bi, hs, hi, rfl, HD0⟩ := hrel
    by_cases hlt : i < nE
    · obtain ⟨x, hx⟩ : ∃ x, E[i]? = some x := ⟨_, List.getElem?_eq_getElem (by rw [HNE.out]; exact hlt)⟩
      obtain ⟨lb, lo, hq, l0, l1, llb⟩ := HL1.out.at i x hx
      subst hq
      have hx2 := HEE.out x (List.mem_iff_getElem?.2 ⟨i, hx⟩)
      obtain ⟨xn, xg⟩ := x
      dsimp only at l0 l1 hx2
      obtain ⟨nn, rfl⟩ := Int.eq_ofNat_of_zero_le hx2.1
      have hnn : nn < m := by omega
      obtain ⟨n, hn⟩ : ∃ n, ns[nn]? = some n := ⟨_, List.getElem?_eq_getElem (by rw [HM.out]; exact hnn)⟩
      obtain ⟨hnd, hok, hbw⟩ := HND.out nn n hn
      have hnm := List.mem_iff_getElem?.2 ⟨nn, hn⟩
      obtain ⟨kq, kc, hkv⟩ := hok.1.form
      obtain ⟨ks, hks⟩ : ∃ ks, n.ks = ks := ⟨_, rfl⟩
      obtain ⟨kl, hkl⟩ : ∃ kl, ks.length = kl := ⟨_, rfl⟩
      have hkl7 : kl ≤ 70000 := by rw [← hkl, ← hks]; exact HKK.out n hnm
      have HKS : Hid (∀ z ∈ ks, 0 ≤ z ∧ z < (m : Int)) := Lib.hid (by rw [← hks]; exact HLK.out n hnm)
      have HKF : Hid (kfOf ns (nn : Int) = ks) := Lib.hid (by unfold kfOf; rw [Int.toNat_natCast, hn]; exact hks)
      have lbw : Below w.heap.size w wr := HB1.out.trans (HD0.out.lo.mono HB1.out.size)
      have lw1 := HD0.out.lo.size
      have e0 := (HD0.out.lo.cell (p := ⟨lb, lo + i * 2, none⟩) llb).trans l0
      have llb1 : lb < wr.heap.size := by omega
      have lb1 : b < wr.heap.size := by have := lbw.size; omega
      have hndX : NdAt wr b (off + nn * 34) n := fun j v hv => (lbw.cell (p := ⟨b, off + nn * 34 + j, none⟩) hbw).trans (hnd j v hv)
      have LN := Lib.hid hndX.load
      have iN := Lib.hid (nd_info n)
      have oN := Lib.hid (nd_one n wr (hok.below lbw))
      have zN : Hid (Nd.zero.cells.toArray.size = n.cells.toArray.size) := Lib.hid (by simp [Nd.len])
      have hni := hok.1
      rw [hks] at hni hkv
      rw [hkl] at hkv
      rw [hkv] at hni
      have HNI := Lib.hid hni
      have HKL := Lib.hid hkl
      have HKV := Lib.hid hkv
      obtain ⟨cs, hcs⟩ : ∃ cs, n.cells.toArray = cs := ⟨_, rfl⟩
      rw [hcs] at LN iN oN zN
      have HCE := Lib.hid hcs
      have HX := Lib.hid hx
      obtain ⟨po, no, co, rfl⟩ := own_slice HD0.out.ot
      clear hx hx2 hn hnd hni hnm hkv hks hkl l0 l1 lbw hok hndX hcs
      go_wp2_with (first
        | (refine wpList_load_at rfl 65 (.tmp 29) rfl _ rfl cs _ LN.out Try.underlying65 rfl iN.out ?_)
        | (refine wpList_store_row rfl 65 (.tmp 10) (.tmp 30) rfl _ cs rfl rfl 65 Nd.zero.cells.toArray (whole_new wr Nd.zero.cells 65 _ rfl) iN.out zN.out oN.out ?_; refine at_world (fun Y => Whole Y wr.heap.size 65 n.cells ∧ Below wr.heap.size wr Y) ⟨by rw [← HCE.out]; exact whole_row (whole_new wr Nd.zero.cells 65 _ rfl) _, ((Below.refl _ wr).alloc (Nat.le_refl _) _).trans (below_row _ _ _ (Nat.le_refl _))⟩ (fun Y hY => ?_); obtain ⟨KY, BY⟩ := hY; have HG0 := Lib.hid KY; have HD1 := Lib.hid (HD0.out.below BY); clear KY BY LN oN zN e0 llb1 lb1 HCE iN HD0))
      generalize wr.heap.size = gn at HG0 ⊢
      go_loopw [11, 9] (fun s11 s9 X => ∃ (k : Nat), k ≤ kl ∧ s11 = .int .i64 (k : Int) ∧ Hid (DB w1 (.slice po no co) hs ((cellsP ns E).take i) Bi s9 (rowS9 ns (ks.take k)) X) ∧ Hid (Whole X gn 65 n.cells)) (fun s11 _ _ => kl - (intOf s11).toNat)
      case atStart => exact ⟨0, Nat.zero_le _, rfl, HD1, HG0⟩
      case round =>
        clear HD1 HG0
        obtain ⟨k, hk, rfl, HD, HGN⟩ := hrel
        have cn1 : wr.cell? ⟨gn, 1, none⟩ = some (.slice kq kl kc) := by rw [HGN.out.cellAt, ← HKV.out]; rfl
        have lgn := HGN.out.lt
        by_cases hlk : k < kl
        · obtain ⟨z, hz⟩ : ∃ z, ks[k]? = some z := ⟨_, List.getElem?_eq_getElem (by rw [HKL.out]; exact hlk)⟩
          have hzr := HKS.out z (List.mem_iff_getElem?.2 ⟨k, hz⟩)
          have HSN0 := Lib.hid (rowS9_snoc ns ks k z hz)
          obtain ⟨zn, rfl⟩ := Int.eq_ofNat_of_zero_le hzr.1
          rw [Int.toNat_natCast] at HSN0
          have hznm : zn < m := by omega
          obtain ⟨c, hc⟩ : ∃ c, ns[zn]? = some c := ⟨_, List.getElem?_eq_getElem (by rw [HM.out]; exact hznm)⟩
          obtain ⟨hnc, hokc, hbw⟩ := HND.out zn c hc
          obtain ⟨kb, ko, hkq, lkb0, kcell⟩ := ints_cellG HNI.out k (zn : Int) hz
          subst hkq
          have lbw : Below w.heap.size w wr := HB1.out.trans (HD.out.lo.mono HB1.out.size)
          have ckz := (lbw.cell (p := ⟨kb, ko + k, none⟩) lkb0).trans kcell
          have lkb : kb < wr.heap.size := by have := lbw.size; omega
          have lb1 : b < wr.heap.size := by have := lbw.size; omega
          have hndX : NdAt wr b (off + zn * 34) c := fun j v hv => (lbw.cell (p := ⟨b, off + zn * 34 + j, none⟩) hbw).trans (hnc j v hv)
          have LN := Lib.hid hndX.load
          have iN := Lib.hid (nd_info c)
          have oN := Lib.hid (nd_one c wr (hokc.below lbw))
          have zN : Hid (Nd.zero.cells.toArray.size = c.cells.toArray.size) := Lib.hid (by simp [Nd.len])
          have hkd : kdOf ns zn = c.k := by unfold kdOf; rw [hc]; rfl
          rw [hkd] at HSN0
          have hsz : spZ ns (zn : Int) = spOf zn c.s := by unfold spZ; rw [Int.toNat_natCast, hc]
          rw [hsz] at HSN0
          obtain ⟨kd, hkd2⟩ : ∃ kd, c.k = kd := ⟨_, rfl⟩
          obtain ⟨ccs, hccs⟩ : ∃ ccs, c.s.cs = ccs := ⟨_, rfl⟩
          obtain ⟨crs, hcrs⟩ : ∃ crs, c.s.rs = crs := ⟨_, rfl⟩
          rw [hkd2] at HSN0
          have HCC : Hid (∀ (X : World) (gc : Nat), Whole X gc 65 c.cells → X.cell? ⟨gc, 0, none⟩ = some (.int .i64 kd) ∧ X.cell? ⟨gc, 22, none⟩ = some (.int .i64 ccs) ∧ X.cell? ⟨gc, 23, none⟩ = some (.int .i64 crs)) := Lib.hid fun X gc h => ⟨by rw [h.cellAt, ← hkd2]; rfl, by rw [h.cellAt, ← hccs]; rfl, by rw [h.cellAt, ← hcrs]; rfl⟩
          have HSP : Hid ((spOf zn c.s).n = zn ∧ (spOf zn c.s).c = max ccs 1 ∧ (spOf zn c.s).r = if crs < 0 then 1 else crs) := Lib.hid (by unfold spOf; dsimp only; rw [hccs, hcrs]; exact ⟨rfl, rfl, rfl⟩)
          have hrl : (rowS9 ns (ks.take k)).length ≤ 70000 := by have := rowS9_len ns (ks.take k); rw [List.length_take] at this; omega
          obtain ⟨cs, hcs⟩ : ∃ cs, c.cells.toArray = cs := ⟨_, rfl⟩
          rw [hcs] at LN iN oN zN
          have HCE := Lib.hid hcs
          obtain ⟨pv, nv, cv, rfl⟩ := own_slice HD.out.cu
          have HDW := HD
          clear hz hzr hc hnc hokc kcell lbw hkd hsz hkd2 hccs hcrs hcs hndX
          go_wp2_with (first
            | (refine wpList_load_at rfl 65 (.tmp 44) rfl _ rfl cs _ LN.out Try.underlying65 rfl iN.out ?_)
            | (refine wpList_store_row rfl 65 (.tmp 12) (.tmp 45) rfl _ cs rfl rfl 65 Nd.zero.cells.toArray (whole_new wr Nd.zero.cells 65 _ rfl) iN.out zN.out oN.out ?_; refine at_world (fun Y => Whole Y wr.heap.size 65 c.cells ∧ Below wr.heap.size wr Y) ⟨by rw [← HCE.out]; exact whole_row (whole_new wr Nd.zero.cells 65 _ rfl) _, ((Below.refl _ wr).alloc (Nat.le_refl _) _).trans (below_row _ _ _ (Nat.le_refl _))⟩ (fun Y hY => ?_); obtain ⟨KY, BY⟩ := hY; obtain ⟨c0, c22, c23⟩ := HCC.out Y wr.heap.size KY; have lgc := KY.lt; have HDc := Lib.hid (HD.out.below BY); have HGc := Lib.hid (HGN.out.below BY lgn); have cn1' := (BY.cell (p := ⟨gn, 1, none⟩) lgn).trans cn1; have ckz' := (BY.cell (p := ⟨kb, ko + k, none⟩) lkb).trans ckz; have lgn' : gn < Y.heap.size := (by have := BY.size; omega); have lkb' : kb < Y.heap.size := (by have := BY.size; omega); clear KY BY LN oN zN HCE iN HD HGN cn1 ckz lgn lkb lb1 HCC; refine Hid.out ?_))
          refine Lib.hid ?_
          generalize wr.heap.size = gc at c0 c22 c23 lgc ⊢
          generalize Y = wr at c0 c22 c23 lgc HDc HGc cn1' ckz' lgn' lkb' ⊢
          have cn1 := cn1'
          have ckz := ckz'
          have lgn := lgn'
          have lkb := lkb'
          have HD := HDc
          have HGN := HGc
          clear cn1' ckz' lgn' lkb' HDc HGc HDW
          by_cases h10 : kd = 10
          · subst h10
            have HSN : Hid (rowS9 ns (ks.take (k + 1)) = rowS9 ns (ks.take k) ++ [⟨zn, max ccs 1, (spOf zn c.s).r⟩]) := Lib.hid (by
              rw [HSN0.out, if_pos rfl]
              congr 2
              rw [← HSP.out.2.1]
              unfold spOf; rfl)
            clear HSN0
            have HD0 := HD
            have hgnl := lgn
            go_wp2
            clear c0
            refine region_held_at (S := fun X => Hid (Below wr.heap.size wr X)) (by kernel_rfl) (fun w9 hw9 => ?_)
            have SV : Hid (Below wr.heap.size wr w9) := Lib.hid (by rw [← hw9]; exact (Below.refl _ _).drew)
            clear hw9
            try simp only [Act.put, List.setIfInBounds_toArray, List.set_cons_succ, List.set_cons_zero]
            refine wpAnyH_takeD (i := 0) (v := .pointer (some ⟨gn, 1, none⟩)) (some 49) rfl rfl (by kernel_rfl) (by kernel_rfl) (by kernel_rfl) (fun _ _ _ h => h) (Or.inl ⟨by rfl, ?_⟩) SV ?_
            · intro X hX; go_simp
            try simp only [Act.put, List.setIfInBounds_toArray, List.set_cons_succ, List.set_cons_zero]
            refine wpAnyH_takeD (i := 1) (v := .slice (some ⟨kb, ko, none⟩) kl kc) (some 50) rfl rfl (by kernel_rfl) (by kernel_rfl) (by kernel_rfl) (fun _ _ _ h => h) (Or.inl ⟨by rfl, ?_⟩) SV ?_
            · intro X hX; have o0 := (hX.out.cell (p := ⟨gn, 1, none⟩) lgn).trans cn1; have lX := hX.out.size; have lbX : gn < X.heap.size := by omega
              go_simp
            try simp only [Act.put, List.setIfInBounds_toArray, List.set_cons_succ, List.set_cons_zero]
            refine wpAnyH_takeD (i := 2) (v := .int .i64 k) (some 51) rfl rfl (by kernel_rfl) (by kernel_rfl) (by kernel_rfl) (fun _ _ _ h => h) (Or.inl ⟨by rfl, ?_⟩) SV ?_
            · intro X hX; go_simp
            try simp only [Act.put, List.setIfInBounds_toArray, List.set_cons_succ, List.set_cons_zero]
            refine wpAnyH_takeD (i := 3) (v := .pointer (some ⟨kb, ko + k, none⟩)) (some 52) rfl rfl (by kernel_rfl) (by kernel_rfl) (by kernel_rfl) (fun _ _ _ h => h) (Or.inl ⟨by rfl, ?_⟩) SV ?_
            · intro X hX; go_simp
            try simp only [Act.put, List.setIfInBounds_toArray, List.set_cons_succ, List.set_cons_zero]
            refine wpAnyH_takeD (i := 4) (v := .int .i64 zn) (some 53) rfl rfl (by kernel_rfl) (by kernel_rfl) (by kernel_rfl) (fun _ _ _ h => h) (Or.inl ⟨by rfl, ?_⟩) SV ?_
            · intro X hX; have o0 := (hX.out.cell (p := ⟨kb, ko + k, none⟩) lkb).trans ckz; have lX := hX.out.size; have lbX : kb < X.heap.size := by omega
              go_simp
            try simp only [Act.put, List.setIfInBounds_toArray, List.set_cons_succ, List.set_cons_zero]
            refine wpAnyH_takeD (i := 5) (v := .pointer (some ⟨gc, 2, none⟩)) (some 54) rfl rfl (by kernel_rfl) (by kernel_rfl) (by kernel_rfl) (fun _ _ _ h => h) (Or.inl ⟨by rfl, ?_⟩) SV ?_
            · intro X hX; go_simp
            try simp only [Act.put, List.setIfInBounds_toArray, List.set_cons_succ, List.set_cons_zero]
            refine wpAnyH_takeD (i := 6) (v := .pointer (some ⟨gc, 22, none⟩)) (some 55) rfl rfl (by kernel_rfl) (by kernel_rfl) (by kernel_rfl) (fun _ _ _ h => h) (Or.inl ⟨by rfl, ?_⟩) SV ?_
            · intro X hX; go_simp
            try simp only [Act.put, List.setIfInBounds_toArray, List.set_cons_succ, List.set_cons_zero]
            refine wpAnyH_takeD (i := 7) (v := .int .i64 ccs) (some 56) rfl rfl (by kernel_rfl) (by kernel_rfl) (by kernel_rfl) (fun _ _ _ h => h) (Or.inl ⟨by rfl, ?_⟩) SV ?_
            · intro X hX; have o0 := (hX.out.cell (p := ⟨gc, 22, none⟩) lgc).trans c22; have lX := hX.out.size; have lbX : gc < X.heap.size := by omega
              go_simp
            try simp only [Act.put, List.setIfInBounds_toArray, List.set_cons_succ, List.set_cons_zero]
            refine wpAnyH_takeD (i := 8) (v := .int .i64 (max ccs 1)) (some 57) rfl rfl (by kernel_rfl) (by kernel_rfl) (by kernel_rfl) (fun _ _ _ h => h) (Or.inl ⟨by rfl, ?_⟩) SV ?_
            · intro X hX; go_simp
            try simp only [Act.put, List.setIfInBounds_toArray, List.set_cons_succ, List.set_cons_zero]
            refine wpAnyH_takeD (i := 9) (v := .pointer (some ⟨gc, 2, none⟩)) (some 58) rfl rfl (by kernel_rfl) (by kernel_rfl) (by kernel_rfl) (fun _ _ _ h => h) (Or.inl ⟨by rfl, ?_⟩) SV ?_
            · intro X hX; go_simp
            try simp only [Act.put, List.setIfInBounds_toArray, List.set_cons_succ, List.set_cons_zero]
            refine wpAnyH_takeD (i := 10) (v := .pointer (some ⟨gc, 23, none⟩)) (some 59) rfl rfl (by kernel_rfl) (by kernel_rfl) (by kernel_rfl) (fun _ _ _ h => h) (Or.inl ⟨by rfl, ?_⟩) SV ?_
            · intro X hX; go_simp
            try simp only [Act.put, List.setIfInBounds_toArray, List.set_cons_succ, List.set_cons_zero]
            refine wpAnyH_takeD (i := 11) (v := .int .i64 crs) (some 60) rfl rfl (by kernel_rfl) (by kernel_rfl) (by kernel_rfl) (fun _ _ _ h => h) (Or.inl ⟨by rfl, ?_⟩) SV ?_
            · intro X hX; have o0 := (hX.out.cell (p := ⟨gc, 23, none⟩) lgc).trans c23; have lX := hX.out.size; have lbX : gc < X.heap.size := by omega
              go_simp
            try simp only [Act.put, List.setIfInBounds_toArray, List.set_cons_succ, List.set_cons_zero]
            refine wpAnyH_takeD (i := 12) (v := .agg #[.int .i64 zn, .int .i64 (max ccs 1), .int .i64 crs]) (some 61) rfl rfl (by kernel_rfl) (by kernel_rfl) (by kernel_rfl) (fun _ _ _ h => h) (Or.inl ⟨by rfl, ?_⟩) SV ?_
            · intro X hX; go_simp
            try simp only [Act.put, List.setIfInBounds_toArray, List.set_cons_succ, List.set_cons_zero]
            refine wpAnyH_all (rs := [13]) (by kernel_rfl) (by simp) ?_
            intro ii hii; obtain rfl : ii = 13 := by simpa using hii
            refine wpOp_step rfl (fun K hK => ?_)
            go_simp
            have hz := whole_new w9 [.int .i64 0, .int .i64 0, .int .i64 0] 48 _ rfl
            have SVn : Hid (Below wr.heap.size wr (w9.alloc (.cells #[.int .i64 0, .int .i64 0, .int .i64 0] 48))) := Lib.hid (SV.out.alloc SV.out.size _)
            have hgx : wr.heap.size ≤ w9.heap.size := SV.out.size
            refine hK _ _ ⟨SVn, ?_⟩
            clear hK K hii SV
            have SV := SVn
            clear SVn
            generalize w9.heap.size = gx at hz hgx ⊢
            generalize w9.alloc (.cells #[.int .i64 0, .int .i64 0, .int .i64 0] 48) = wx at hz SV ⊢
            try simp only [Act.put, List.setIfInBounds_toArray, List.set_cons_succ, List.set_cons_zero]
            refine wpAnyH_all (rs := [14]) (by kernel_rfl) (by simp) ?_
            intro ii hii; obtain rfl : ii = 14 := by simpa using hii
            have y0 := hz.free 0
            have y1 := hz.free 1
            have y2 := hz.free 2
            have z0 := hz.cellAt 0
            have z1 := hz.cellAt 1
            have z2 := hz.cellAt 2
            have yl := hz.lt
            refine wpOp_step rfl (fun K hK => ?_)
            go_simp
            have SX := ((SV.out.setCell (p := ⟨gx, 0, none⟩) hgx (.int .i64 zn)).setCell (p := ⟨gx, 1, none⟩) hgx (.int .i64 (max ccs 1))).setCell (p := ⟨gx, 2, none⟩) hgx (.int .i64 crs)
            have KX := ((hz.set 0 (.int .i64 zn)).set 1 (.int .i64 (max ccs 1))).set 2 (.int .i64 crs)
            clear z0 z1 z2 y0 y1 y2 yl
            refine hK _ _ ⟨Lib.hid SX, ?_⟩
            clear hK K hii
            refine wpAnyH_done (by kernel_rfl) ?_ _
            refine at_worldQ (fun Y => Below wr.heap.size wr Y ∧ Whole Y gx 48 [.int .i64 zn, .int .i64 (max ccs 1), .int .i64 crs]) ⟨SX, KX⟩ (fun Y hY => ?_)
            obtain ⟨SY, KY⟩ := hY
            clear SX KX SV hz
            have HDY := Lib.hid (HD.out.below SY)
            have HGY := Lib.hid (HGN.out.below SY HGN.out.lt)
            have HSY := Lib.hid SY
            have HKY := Lib.hid KY
            have x2 := KY.cellAt 2
            have lx := KY.lt
            have f2 := KY.free 2
            clear SY KY HD HGN cn1 ckz c22 c23 lgn lgc lkb
            by_cases hneg : crs < 0
            · have g62 : decide (crs < 0) = true := by simpa using hneg
              have HSN2 : Hid (rowS9 ns (ks.take (k + 1)) = rowS9 ns (ks.take k) ++ [⟨zn, max ccs 1, 1⟩]) := Lib.hid (by rw [HSN.out, HSP.out.2.2, if_pos hneg])
              clear HSN HSP
              have HX9 : Hid (Whole (Y.setCell ⟨gx, 2, none⟩ (.int .i64 1)) gx 48 [.int .i64 zn, .int .i64 (max ccs 1), .int .i64 1]) := Lib.hid (HKY.out.set 2 (.int .i64 1))
              have HD9 : Hid (DB w1 (.slice po no co) hs ((cellsP ns E).take i) Bi (.slice pv nv cv) (rowS9 ns (ks.take k)) (Y.setCell ⟨gx, 2, none⟩ (.int .i64 1))) := Lib.hid (by
                refine HD0.out.below (HSY.out.setCell (p := ⟨gx, 2, none⟩) hgx _))
              have HG9 : Hid (Whole (Y.setCell ⟨gx, 2, none⟩ (.int .i64 1)) gn 65 n.cells) := Lib.hid (HGY.out.other _ _ (show gn ≠ gx by have := hgnl; omega))
              clear HDY HGY HSY HKY
              obtain ⟨X9, hX9⟩ : ∃ X9, Y.setCell ⟨gx, 2, none⟩ (.int .i64 1) = X9 := ⟨_, rfl⟩
              rw [hX9] at HX9 HD9 HG9
              have x0' := HX9.out.cellAt 0
              have x1' := HX9.out.cellAt 1
              have x2' := HX9.out.cellAt 2
              have lx' := HX9.out.lt
              have HOW := Lib.hid HD9.out.cu
              have hBx := HD9.out.Bx
              have HPUT := Lib.hid (fun (Z : World) (v' : Value) ho hg => DB.put (Y := Z) (v' := v') (s := ⟨zn, max ccs 1, 1⟩) (o := .cells #[.int .i64 zn, .int .i64 (max ccs 1), .int .i64 1] 48) HD9.out ho hg)
              have HGK := Lib.hid (fun (Z : World) hg => whole_keptC (Y := Z) (o := .cells #[.int .i64 zn, .int .i64 (max ccs 1), .int .i64 1] 48) HG9.out HD9.out.cu (by decide) hg)
              have t1 : ∀ u ∈ [Value.int .i64 zn, Value.int .i64 (max ccs 1), Value.int .i64 1], u.oneCell' = true := by simp [Value.oneCell']
              have t2 : (rowS9 ns (ks.take k)).length + 1 ≤ maxLen := by unfold maxLen; omega
              have t3 : ((rowS9 ns (ks.take k)).length + 1) * 24 ≤ 140737488355328 := by omega
              have t4 : Bi ≤ (X9.alloc (.cells #[.int .i64 zn, .int .i64 (max ccs 1), .int .i64 1] 48)).heap.size := by simp <;> omega
              clear HD9 HG9 HX9 hBx
              go_wp2_with (at_builtin; refine wpList_append_own_at _ rfl _ _ 49 rfl Bi 48 i0 (.agg #[.int .i64 0, .int .i64 0, .int .i64 0]) 3 24 Try.underlying49 hi0 HZ0.out HZ1.out HZ2.out rfl (by decide) (.slice pv nv cv) _ _ rfl (HOW.out.alloc _) ⟨X9.heap.size, 0, none⟩ 1 1 [.int .i64 zn, .int .i64 (max ccs 1), .int .i64 1] rfl rfl (lay_newG _ [.int .i64 zn, .int .i64 (max ccs 1), .int .i64 1] 48 X9.heap.size rfl) t1 t2 t3 t4 ?_; intro v9 w9' hown9 hgrow9 _ _; have HDn := Lib.hid (HPUT.out w9' _ hown9 hgrow9); have HGn := Lib.hid (HGK.out w9' hgrow9); clear hown9 hgrow9 HPUT HOW HGK)
              rw [← HSN2.out] at HDn
              clear HSN2
              go_roundw
              case rel => exact ⟨k + 1, by omega, by go_num, HDn, HGn⟩
              case measure => simp [intOf]; omega
            · have g62 : decide (crs < 0) = false := by simpa using hneg
              have HSN2 : Hid (rowS9 ns (ks.take (k + 1)) = rowS9 ns (ks.take k) ++ [⟨zn, max ccs 1, crs⟩]) := Lib.hid (by rw [HSN.out, HSP.out.2.2, if_neg hneg])
              clear HSN HSP
              have HX9 := HKY
              have HD9 := HDY
              have HG9 := HGY
              clear HDY HGY HSY HKY
              generalize Y = X9 at *
              have x0' := HX9.out.cellAt 0
              have x1' := HX9.out.cellAt 1
              have x2' := HX9.out.cellAt 2
              have lx' := HX9.out.lt
              have HOW := Lib.hid HD9.out.cu
              have hBx := HD9.out.Bx
              have HPUT := Lib.hid (fun (Z : World) (v' : Value) ho hg => DB.put (Y := Z) (v' := v') (s := ⟨zn, max ccs 1, crs⟩) (o := .cells #[.int .i64 zn, .int .i64 (max ccs 1), .int .i64 crs] 48) HD9.out ho hg)
              have HGK := Lib.hid (fun (Z : World) hg => whole_keptC (Y := Z) (o := .cells #[.int .i64 zn, .int .i64 (max ccs 1), .int .i64 crs] 48) HG9.out HD9.out.cu (by decide) hg)
              have t1 : ∀ u ∈ [Value.int .i64 zn, Value.int .i64 (max ccs 1), Value.int .i64 crs], u.oneCell' = true := by simp [Value.oneCell']
              have t2 : (rowS9 ns (ks.take k)).length + 1 ≤ maxLen := by unfold maxLen; omega
              have t3 : ((rowS9 ns (ks.take k)).length + 1) * 24 ≤ 140737488355328 := by omega
              have t4 : Bi ≤ (X9.alloc (.cells #[.int .i64 zn, .int .i64 (max ccs 1), .int .i64 crs] 48)).heap.size := by simp <;> omega
              clear HD9 HG9 HX9 hBx
              go_wp2_with (at_builtin; refine wpList_append_own_at _ rfl _ _ 49 rfl Bi 48 i0 (.agg #[.int .i64 0, .int .i64 0, .int .i64 0]) 3 24 Try.underlying49 hi0 HZ0.out HZ1.out HZ2.out rfl (by decide) (.slice pv nv cv) _ _ rfl (HOW.out.alloc _) ⟨X9.heap.size, 0, none⟩ 1 1 [.int .i64 zn, .int .i64 (max ccs 1), .int .i64 crs] rfl rfl (lay_newG _ [.int .i64 zn, .int .i64 (max ccs 1), .int .i64 crs] 48 X9.heap.size rfl) t1 t2 t3 t4 ?_; intro v9 w9' hown9 hgrow9 _ _; have HDn := Lib.hid (HPUT.out w9' _ hown9 hgrow9); have HGn := Lib.hid (HGK.out w9' hgrow9); clear hown9 hgrow9 HPUT HOW HGK)
              rw [← HSN2.out] at HDn
              clear HSN2
              go_roundw
              case rel => exact ⟨k + 1, by omega, by go_num, HDn, HGn⟩
              case measure => simp [intOf]; omega
          · have HCn : Hid (DB w1 (.slice po no co) hs ((cellsP ns E).take i) Bi (.slice pv nv cv) (rowS9 ns (ks.take (k + 1))) wr) := Lib.hid (by rw [HSN0.out, if_neg h10, List.append_nil]; exact HD.out)
            have g10 : (kd != 10) = true := by simpa using h10
            clear HSN0 HD h10 HSP
            go_wp2
            go_roundw
            case rel => exact ⟨k + 1, by omega, by go_num, HCn, HGN⟩
            case measure => simp [intOf]; omega
        · have hkk : k = kl := by omega
          obtain ⟨pv, nv, cv, rfl⟩ := own_slice HD.out.cu
          have HDr : Hid (DB w1 (.slice po no co) hs ((cellsP ns E).take i) Bi (.slice pv nv cv) (rowS9 ns ks) wr) := Lib.hid (by
            have h := HD.out
            rwa [List.take_of_length_le (show ks.length ≤ k by rw [HKL.out, hkk]; exact Nat.le_refl _)] at h)
          have HTK : Hid ((cellsP ns E).take (i + 1) = (cellsP ns E).take i ++ [rowS9 ns ks]) := Lib.hid (by
            rw [List.take_add_one, show (cellsP ns E)[i]? = some (rowS9 ns ks) by unfold cellsP; rw [List.getElem?_map, HX.out, ← HKF.out]; rfl]; rfl)
          have HOW := Lib.hid HDr.out.ot
          have hhl : hs.length = i := by rw [HDr.out.hl, List.length_take, HCL.out]; omega
          have hBx := HDr.out.Bx
          have hwB := HDr.out.wB
          have HPUT := Lib.hid (fun (Z : World) (v' : Value) ho hg => DB.push (Y := Z) (out' := v') (o := .cells #[.slice pv nv cv] 49) HDr.out ho hg)
          have t1 : ∀ u ∈ [Value.slice pv nv cv], u.oneCell' = true := by simp [Value.oneCell']
          have t2 : hs.length + 1 ≤ maxLen := by unfold maxLen; omega
          have t3 : (hs.length + 1) * 24 ≤ 140737488355328 := by omega
          have t4 : w1.heap.size ≤ (wr.alloc (.cells #[.slice pv nv cv] 49)).heap.size := by simp <;> omega
          clear hkk HD hBx hwB hhl
          go_wp2_with (at_builtin; refine wpList_append_own_at _ rfl _ _ 25 rfl w1.heap.size 49 i1 (.slice none 0 0) 1 24 Try.underlying25 hi1 HY0.out HY1.out HY2.out rfl (by decide) (.slice po no co) _ _ rfl (HOW.out.alloc _) ⟨wr.heap.size, 0, none⟩ 1 1 [.slice pv nv cv] rfl rfl (lay_newG _ [.slice pv nv cv] 49 wr.heap.size rfl) t1 t2 t3 t4 ?_; intro v9 w9 hown9 hgrow9 _ _; have HDn := Lib.hid (HPUT.out w9 _ hown9 hgrow9); clear hown9 hgrow9 HPUT HOW HDr)
          rw [← HTK.out] at HDn
          clear HTK
          go_roundw
          case rel => exact ⟨i + 1, _, _, by omega, by go_num, HDn⟩
          case measure => simp [intOf]; omega
    · have hie : i = nE := by omega
      have HLX := Lib.hid (HL1.out.below HD0.out.lo)
      obtain ⟨po, no, co, rfl⟩ := own_slice HD0.out.ot
      have HR : Hid (RowsIn wr.heap.size wr (.slice po no co) (fun i => hs[i]?.getD (.slice none 0 0)) (cellsP ns E)) := Lib.hid (by
        have h := HD0.out
        rw [hie, List.take_of_length_le (show (cellsP ns E).length ≤ nE by rw [HCL.out]; exact Nat.le_refl _)] at h
        exact h.made (by rw [HCL.out]; omega) (fun r hr => by
          obtain ⟨x, hx, rfl⟩ := List.mem_map.1 hr
          have h1 := rowS9_len ns (kfOf ns x.1)
          have h2 : (kfOf ns x.1).length ≤ 70000 := by
            unfold kfOf
            cases hq : ns[x.1.toNat]? with
            | none => simp
            | some n => exact HKK.out n (List.mem_iff_getElem?.2 ⟨_, hq⟩)
          omega))
      have HBW := Lib.hid (HB1.out.trans (HD0.out.lo.mono HB1.out.size))
      have HEN := Lib.hid (refEnds_at lq nE lc E wr HLX.out HNE.out (by omega))
      clear hie HD0 HLX
      go_wp2_with (go_at_call 22; refine HEN.out.mono ?_; clear HEN; rintro e w5 ⟨rfl, hw5, hb5⟩; have HR5 := Lib.hid ((HR.out.below hb5).mono hb5.size); have HE5 := Lib.hid hw5; have HB5 := Lib.hid (HBW.out.trans (hb5.mono HBW.out.size)); clear hw5 hb5 HR HBW)
      go_ret2
      exact ⟨_, _, _, rfl, HR5.out, Ints.whole HE5.out (by rw [endsW_len 0 E (Nat.zero_le _)]; exact HNE.out) (by omega), HB5.out⟩
end Go.Proofs.Ytcgnldcdcbnofaa
