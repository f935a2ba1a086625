/- The document's Needs (layer 14). Written by mk_SpRefE.py. -/
import Derived.Test.YtmljndggblfeiaaSpRefD
import Derived.Test.YtmljndggblfeiaaSpLaw
namespace Go.Proofs.Ytmljndggblfeiaa
open Go.RowKit Go.Shelf Go.Maps
set_option linter.unusedVariables false
set_option linter.unusedSimpArgs false
attribute [local go_sem] Oper.semAt_some

/-- the needs of fewer than c columns, by their number of columns -/
def turnTo (ns : List Ne) (c : Nat) : List Ne := (List.range' 2 (c - 2)).flatMap fun (d : Nat) => ns.filter fun s => decide (s.cs = (d : Int))
def turnAt (ns : List Ne) (c i : Nat) : List Ne := turnTo ns c ++ (ns.take i).filter fun s => decide (s.cs = (c : Int))
theorem turnTo_two (ns : List Ne) : turnTo ns 2 = [] := rfl
theorem turnAt_zero (ns : List Ne) (c : Nat) : turnAt ns c 0 = turnTo ns c := by simp [turnAt]
theorem turnAt_hit (ns : List Ne) (c i : Nat) (s : Ne) (h : ns[i]? = some s) (hc : s.cs = (c : Int)) : turnAt ns c (i + 1) = turnAt ns c i ++ [s] := by
  unfold turnAt
  rw [List.take_add_one, h, List.filter_append, ← List.append_assoc]
  simp [hc]
theorem turnAt_miss (ns : List Ne) (c i : Nat) (s : Ne) (h : ns[i]? = some s) (hc : ¬ s.cs = (c : Int)) : turnAt ns c (i + 1) = turnAt ns c i := by
  unfold turnAt
  rw [List.take_add_one, h, List.filter_append]
  simp [hc]
theorem turnAt_all (ns : List Ne) (c : Nat) (hc : 2 ≤ c) : turnAt ns c ns.length = turnTo ns (c + 1) := by
  unfold turnAt turnTo
  rw [List.take_length, show c + 1 - 2 = c - 2 + 1 by omega, List.range'_1_concat, List.flatMap_append]
  simp only [List.flatMap_cons, List.flatMap_nil, List.append_nil, show 2 + (c - 2) = c by omega]
theorem turnTo_all (ns : List Ne) (m : Nat) (hm : 1 ≤ m) : turnTo ns (m + 1) = turnL m ns := by
  unfold turnTo turnL
  rw [show m + 1 - 2 = m - 1 by omega]
theorem mem_turnAt (ns : List Ne) (c i : Nat) (s : Ne) (h : s ∈ turnAt ns c i) : s ∈ ns := by
  unfold turnAt turnTo at h
  rcases List.mem_append.1 h with h | h
  · obtain ⟨d, _, hd⟩ := List.mem_flatMap.1 h
    exact (List.mem_filter.1 hd).1
  · exact List.mem_of_mem_take (List.mem_filter.1 h).1
/-- what lies in memory while the document distributes needs -/
structure NB (W : World) (G m : Nat) (sp : List Value) (bs : List Ba) (gap : Int) (pre : List Ne) (X : World) : Prop where
  lo : Below W.heap.size W X
  br : BRow X G (wdIn bs (meetsP gap (wdOf bs) pre)) sp
theorem BRow.rows {X : World} {G : Nat} {bs : List Ba} {sp : List Value} (h : BRow X G bs sp) {m : Nat} (hm : bs.length = m) (c : Nat) (h2 : m ≤ 9223372036854775807) : RowsK Ba.cells 4 X (.slice (some ⟨G, 0, none⟩) m c) bs := by
  refine ⟨by omega, .inr ⟨G, 0, c, by rw [hm], h.lt, fun j hj i v hv => ?_⟩⟩
  have hi : i < 4 := (List.getElem?_eq_some_iff.1 hv).1
  have hb : bs[j]? = some (bs[j]!) := by rw [List.getElem!_eq_getElem?_getD, List.getElem?_eq_getElem hj]; rfl
  rw [show 0 + j * 4 + i = j * 4 + i by omega, h.cell j _ hb i hi, hv]
theorem Try.infoBaS : (Try.prog.info? 39).map (fun i => (i.zero, i.size, i.bytes)) = some (some (.agg #[.int .i64 0, .int .i64 0, .int .i64 0, .int .i64 0]), 4, 32) := by kernel_rfl
/-- bands, copied by append -/
theorem append_bs (W : World) (p : Option Addr) (m c : Nat) (bs : List Ba) (hb : RowsK Ba.cells 4 W (.slice p m c) bs) (h1 : 1 ≤ m) (hm : m ≤ 100) :
    ∃ G cap sp w', (Builtin.append_ #[22, 22] 22 #[.slice none 0 0, .slice p m c]).run Try.prog W = .ok (.slice (some ⟨G, 0, none⟩) m cap) w' ∧ BRow w' G bs sp ∧ W.heap.size ≤ G ∧ m ≤ cap ∧ cap ≤ 9223372036854775807 ∧ Below W.heap.size W w' := by
  cases hi : Try.prog.info? 39 with
  | none => have := Try.infoBaS; rw [hi] at this; cases this
  | some i =>
    have h := Try.infoBaS
    rw [hi] at h
    simp only [Option.map_some, Option.some.injEq, Prod.mk.injEq] at h
    obtain ⟨hz, hs, hby⟩ := h
    have hl := hb.len
    obtain ⟨b, off, hp, lb, hc⟩ := hb.at 0 _ (List.getElem?_eq_getElem (by omega : 0 < bs.length))
    have hcell : ∀ j u, (bs.flatMap Ba.cells)[j]? = some u → W.cell? ((⟨b, off, none⟩ : Addr).add j) = some u := fun j u hu => by
      have hj : j < bs.length * 4 := by have := (List.getElem?_eq_some_iff.1 hu).1; rwa [flat_len4] at this
      have hd : j / 4 < bs.length := by omega
      have e : j = j / 4 * 4 + j % 4 := by omega
      obtain ⟨b', off', hp', _, hc'⟩ := hb.at (j / 4) _ (List.getElem?_eq_getElem hd)
      rw [hp] at hp'
      simp only [Option.some.injEq, Addr.mk.injEq] at hp'
      obtain ⟨rfl, rfl, -⟩ := hp'
      have hf := flat_at bs (j / 4) _ (List.getElem?_eq_getElem hd) (j % 4) (by omega)
      rw [← e, hu] at hf
      have := hc' (j % 4) u hf.symm
      rw [add_plainK, show off + j = off + j / 4 * 4 + j % 4 by omega]
      exact this
    obtain ⟨v', w', hr, ho, hg, -, hat⟩ := run_append_own_at (P := Try.prog) W W.heap.size 22 22 39 i _ 4 32 Try.underlying22 hi hz hs hby rfl (by decide) (.slice none 0 0) 0 [] (World.ownsRow_nil _ _ _ _) ⟨b, off, none⟩ m c (bs.flatMap Ba.cells) (by rw [flat_len4, hl]) hcell
      (fun u hu => by obtain ⟨x, _, hx⟩ := List.mem_flatMap.1 hu; simp [Ba.cells] at hx; rcases hx with rfl | rfl | rfl | rfl <;> rfl) (by unfold maxLen; omega) (by omega) (Nat.le_refl _)
    rw [hp]
    rcases ho.2 with ⟨rfl, hn⟩ | ⟨g, cap, cur, rfl, hbg, hgg, hnc, hcm, hcs, htk⟩
    · omega
    · refine ⟨g, cap, cur.toList.drop (bs.flatMap Ba.cells).length, w', by rw [hr, Nat.zero_add], ?_, hbg, by omega, hcm, (Below.refl _ _).grown hg (Nat.le_refl _) (fun j e => by cases e)⟩
      show w'.heap[g]? = _
      rw [hgg]
      have e : cur.toList = bs.flatMap Ba.cells ++ cur.toList.drop (bs.flatMap Ba.cells).length := by
        conv => lhs; rw [← List.take_append_drop (bs.flatMap Ba.cells).length cur.toList]
        rw [flat_len4, hl]
        rw [Nat.zero_add, List.nil_append] at htk
        rw [htk]
      rw [← e]
theorem wpList_appRun {ops : Array Oper} {rest : List Oper} {o : Oper} {a : Act} {w w' : World} {v' : Value} {Q : Exit → Act → World → Prop} (dst : Option Tmp) (hd : o.dst = dst) (hgd : o.guard = none) (s x : Operand) (t : TypeId) (ho : o.op = .call { callee := .builtin .append, args := #[s, x], argTypes := #[t, t] })
    (v u : Value) (hs : a.eval s = v) (hx : a.eval x = u) (hr : (Builtin.append_ #[t, t] o.type #[v, u]).run Try.prog w = .ok v' w') (h : wpList Try.prog ops Q rest (a.put dst v') w') : wpList Try.prog ops Q (o :: rest) a w := by
  subst hd
  exact wpList_plain hgd fun K hK => wp_appendI s x t ho v u v' hs hx hr (hK _ _ h)
set_option maxRecDepth 100000 in
set_option maxHeartbeats 4000000 in
theorem refNeeds_none (p q : Option Addr) (c m' c' : Nat) (ns : List Ne) (gap : Int) (W : World) (hb : RowsK Ba.cells 4 W (.slice p 0 c) []) (hn : RowsK Ne.cells 9 W (.slice q m' c') ns) (hr : rightP [] ns gap = true) :
    Calls Try.prog 9 #[.slice p 0 c, .slice q m' c', .int .i64 gap] W fun e X => e = .returned (.tuple #[.slice none 0 0, .int .i64 0]) ∧ Below W.heap.size W X := by
  have HR := Lib.hid (refRight14_any p q 0 c m' c' [] ns gap W hb hn)
  rw [hr] at HR
  have HA : Hid (∀ X, (Builtin.append_ #[22, 22] 22 #[.slice none 0 0, .slice p 0 c]).run Try.prog X = .ok (.slice none 0 0) X) := Lib.hid (fun X => by
    cases hi : Try.prog.info? 39 with
    | none => have := Try.infoBaS; rw [hi] at this; cases this
    | some i =>
      have ht := Try.underlying22
      cases p <;> simp [Builtin.append_, run_underlying ht, sizeOf, typeInfo, hi, Builtin.lenOf, Builtin.firstCells, loadCells, loadCellsFrom])
  clear hb hn hr
  go_enter Try.func9, Try.ntmps9
  go_wp2_with fail
  refine HR.out.mono ?_
  rintro e w1 ⟨rfl, hb1⟩
  have B1 := Lib.hid hb1
  clear hb1 HR
  go_wp2_with (at_builtin; refine Hid.out ?_)
  refine Lib.hid ?_
  refine wpList_appRun (some 21) rfl rfl _ _ _ rfl _ _ rfl rfl (HA.out _) ?_
  go_wp2
  go_loopw [10] (fun s10 X => s10 = .int .i64 2 ∧ Hid (Below W.heap.size W X)) (fun _ _ => 0)
  case atStart => exact ⟨rfl, B1⟩
  case round =>
    obtain ⟨rfl, HX⟩ := hrel
    go_wp2
    go_ret2
    exact ⟨rfl, HX.out⟩
set_option maxRecDepth 100000 in
set_option maxHeartbeats 8000000 in
theorem refNeeds_ok (p q : Option Addr) (m c m' c' : Nat) (bs : List Ba) (ns : List Ne) (gap : Int) (W : World) (hb : RowsK Ba.cells 4 W (.slice p m c) bs) (hn : RowsK Ne.cells 9 W (.slice q m' c') ns) (hr : rightP bs ns gap = true) (h1 : 1 ≤ m) :
    Calls Try.prog 9 #[.slice p m c, .slice q m' c', .int .i64 gap] W fun e X => ∃ G cap sp, e = .returned (.tuple #[.slice (some ⟨G, 0, none⟩) m cap, .int .i64 0]) ∧ BRow X G (spreadP bs ns gap) sp ∧ Below W.heap.size W X := by
  have HR := Lib.hid (refRight14_any p q m c m' c' bs ns gap W hb hn)
  rw [hr] at HR
  have hrr := (rightP_iff _ _ _).1 hr
  have hbl := hb.len
  have hnl := hn.len
  rw [hbl] at hrr
  have hm100 : m ≤ 100 := hrr.1
  have HND := Lib.hid (fun s (hs : s ∈ ns) => NdOk.of (gap := gap) (hrr.2.2.2.2.2 s hs) hrr.2.2.1 hrr.2.2.2.1 (by omega))
  have HD0 := Lib.hid (wdOf_ok bs hbl hrr.2.2.2.2.1)
  have HSP : Hid (spreadP bs ns gap = wdIn bs (meetsP gap (wdOf bs) (turnTo ns (m + 1)))) := Lib.hid (by unfold spreadP; rw [hbl, turnTo_all ns m h1])
  have HAP := Lib.hid (fun X (hX : Below W.heap.size W X) => append_bs X p m c bs (hb.below hX) h1 hm100)
  have HN := Lib.hid (fun X (hX : Below W.heap.size W X) => hn.below hX)
  have HM : Hid (bs.length = m ∧ ns.length = m' ∧ m' ≤ 1000) := Lib.hid (by omega)
  clear hb hn hr hrr hbl hnl
  go_enter Try.func9, Try.ntmps9
  go_wp2_with fail
  refine HR.out.mono ?_
  rintro e w1 ⟨rfl, hb1⟩
  have B1 := Lib.hid hb1
  clear hb1 HR
  go_wp2_with (at_builtin; refine Hid.out ?_)
  refine Lib.hid ?_
  obtain ⟨G, cap, sp, w2, hrun, hbr, hG, hc1, hc2, hbw⟩ := HAP.out _ B1.out
  refine wpList_appRun (some 21) rfl rfl _ _ _ rfl _ _ rfl rfl hrun ?_
  have B2 := Lib.hid (B1.out.trans (hbw.mono B1.out.size))
  have HG : Hid (W.heap.size ≤ G ∧ m ≤ cap ∧ cap ≤ 9223372036854775807) := Lib.hid (by have := B1.out.size; omega)
  have N2 : Hid (NB W G m sp bs gap (turnTo ns 2) w2) := Lib.hid ⟨B2.out, by rw [turnTo_two]; show BRow _ _ (wdIn bs (wdOf bs)) _; rw [wdIn_of]; exact hbr⟩
  clear hrun hbr hG hc1 hc2 hbw B1 B2 HAP
  go_wp2
  go_loopw [10] (fun s10 X => ∃ cN : Nat, 2 ≤ cN ∧ cN ≤ m + 1 ∧ s10 = .int .i64 (cN : Int) ∧ Hid (NB W G m sp bs gap (turnTo ns cN) X)) (fun s10 _ => m + 1 - (intOf s10).toNat)
  case atStart => exact ⟨2, Nat.le_refl _, by omega, rfl, N2⟩
  case round =>
    obtain ⟨cN, hc1, hc2, rfl, NX⟩ := hrel
    clear N2
    by_cases hlt : cN ≤ m
    · have hle : (cN : Int) ≤ (m : Int) := by omega
      have NI : Hid (NB W G m sp bs gap (turnAt ns cN 0) wr) := Lib.hid (by rw [turnAt_zero]; exact NX.out)
      clear NX
      go_wp2
      go_loopw [11] (fun s11 X => ∃ i : Nat, i ≤ m' ∧ s11 = .int .i64 (i : Int) ∧ Hid (NB W G m sp bs gap (turnAt ns cN i) X)) (fun s11 _ => m' - (intOf s11).toNat)
      case atStart => exact ⟨0, Nat.zero_le _, rfl, NI⟩
      case round =>
        obtain ⟨i, hi, rfl, NJ⟩ := hrel
        clear NI
        by_cases hit : i < m'
        · obtain ⟨s, hs⟩ : ∃ s, ns[i]? = some s := ⟨_, List.getElem?_eq_getElem (by rw [HM.out.2.1]; exact hit)⟩
          obtain ⟨b, off, rfl, lb, hc⟩ := (HN.out _ NJ.out.lo).at i s hs
          have hii : (i : Int) < (m' : Int) := by omega
          have hm'm : m' ≤ 1000 := HM.out.2.2
          by_cases hce : s.cs = (cN : Int)
          · have HST := Lib.hid (turnAt_hit ns cN i s hs hce)
            have HNDS := Lib.hid (HND.out s (List.mem_of_getElem? hs))
            have HWO := Lib.hid (meetsP_ok (turnAt ns cN i) HD0.out (fun x hx => HND.out x (mem_turnAt ns cN i x hx)))
            have HON := Lib.hid (refOne_ok G m cap bs sp (meetsP gap (wdOf bs) (turnAt ns cN i)) gap s wr NJ.out.br HM.out.1 (by omega) HG.out.2.1 HG.out.2.2 HWO.out HNDS.out)
            have HME : Hid (meetP gap (meetsP gap (wdOf bs) (turnAt ns cN i)) s = meetsP gap (wdOf bs) (turnAt ns cN (i + 1))) := Lib.hid (by rw [HST.out]; unfold meetsP; rw [List.foldl_append]; rfl)
            rw [HME.out] at HON
            obtain ⟨nd, ro, co, rs, cs, mn, mx, ⟨wk, wn⟩⟩ := s
            dsimp only at hce
            subst hce
            have q0 : wr.cell? ⟨b, off + i * 9, none⟩ = some (.int .i64 nd) := hc 0 _ rfl
            have q1 : wr.cell? ⟨b, off + i * 9 + 1, none⟩ = some (.int .i64 ro) := hc 1 _ rfl
            have q2 : wr.cell? ⟨b, off + i * 9 + 2, none⟩ = some (.int .i64 co) := hc 2 _ rfl
            have q3 : wr.cell? ⟨b, off + i * 9 + 3, none⟩ = some (.int .i64 rs) := hc 3 _ rfl
            have q4 : wr.cell? ⟨b, off + i * 9 + 4, none⟩ = some (.int .i64 (cN : Int)) := hc 4 _ rfl
            have q5 : wr.cell? ⟨b, off + i * 9 + 5, none⟩ = some (.int .i64 mn) := hc 5 _ rfl
            have q6 : wr.cell? ⟨b, off + i * 9 + 6, none⟩ = some (.int .i64 mx) := hc 6 _ rfl
            have q7 : wr.cell? ⟨b, off + i * 9 + 7, none⟩ = some (.int .i64 wk) := hc 7 _ rfl
            have q8 : wr.cell? ⟨b, off + i * 9 + 8, none⟩ = some (.int .i64 wn) := hc 8 _ rfl
            have e1 : ((cN : Int) != (cN : Int)) = false := by simp
            clear hc hs HST HNDS HWO HME HND HD0 HSP HN
            go_wp2_with fail
            refine HON.out.mono ?_
            rintro e w3 ⟨rfl, hbr3, hu3⟩
            have N3 : Hid (NB W G m sp bs gap (turnAt ns cN (i + 1)) w3) := Lib.hid ⟨NJ.out.lo.trans (hu3.below NJ.out.lo.size (by simp; exact HG.out.1)), hbr3⟩
            clear hbr3 hu3 NJ HON q0 q1 q2 q3 q4 q5 q6 q7 q8 lb
            go_wp2
            go_roundw
            case rel => exact ⟨i + 1, by omega, by go_num, N3⟩
            case measure => simp [intOf]; omega
          · have N3 : Hid (NB W G m sp bs gap (turnAt ns cN (i + 1)) wr) := Lib.hid (by rw [turnAt_miss ns cN i s hs hce]; exact NJ.out)
            obtain ⟨nd, ro, co, rs, cs, mn, mx, ⟨wk, wn⟩⟩ := s
            dsimp only at hce
            have q4 : wr.cell? ⟨b, off + i * 9 + 4, none⟩ = some (.int .i64 cs) := hc 4 _ rfl
            have e1 : (cs != (cN : Int)) = true := by simp [hce]
            have e2 : (cs == (cN : Int)) = false := by simp [hce]
            clear hc hs HND HD0 HSP HN NJ
            go_wp2
            go_roundw
            case rel => exact ⟨i + 1, by omega, by go_num, N3⟩
            case measure => simp [intOf]; omega
        · obtain rfl : m' = i := by omega
          have NE : Hid (NB W G m sp bs gap (turnTo ns (cN + 1)) wr) := Lib.hid (by have h := NJ.out; rw [← HM.out.2.1, turnAt_all ns cN hc1] at h; exact h)
          clear NJ
          go_wp2
          go_roundw
          case rel => exact ⟨cN + 1, by omega, by omega, by go_num, NE⟩
          case measure => simp [intOf]; omega
    · obtain rfl : cN = m + 1 := by omega
      have hle : ¬ (((m + 1 : Nat) : Int) ≤ (m : Int)) := by omega
      have NE : Hid (BRow wr G (spreadP bs ns gap) sp) := Lib.hid (by rw [HSP.out]; exact NX.out.br)
      have NL := Lib.hid NX.out.lo
      clear NX
      go_wp2
      go_ret2
      exact ⟨G, ⟨cap, rfl⟩, ⟨sp, NE.out⟩, NL.out⟩
set_option maxRecDepth 100000 in
set_option maxHeartbeats 1000000 in
theorem refNeeds_bad (p q : Option Addr) (m c m' c' : Nat) (bs : List Ba) (ns : List Ne) (gap : Int) (W : World) (hb : RowsK Ba.cells 4 W (.slice p m c) bs) (hn : RowsK Ne.cells 9 W (.slice q m' c') ns) (hr : rightP bs ns gap = false) :
    Calls Try.prog 9 #[.slice p m c, .slice q m' c', .int .i64 gap] W fun e X => e = .returned (.tuple #[.slice none 0 0, .int .i64 130]) ∧ Below W.heap.size W X := by
  have HR := Lib.hid (refRight14_any p q m c m' c' bs ns gap W hb hn)
  rw [hr] at HR
  clear hb hn hr
  go_enter Try.func9, Try.ntmps9
  go_wp2_with fail
  refine HR.out.mono ?_
  rintro e w1 ⟨rfl, hb1⟩
  have B1 := Lib.hid hb1
  clear hb1 HR
  go_wp2
  go_ret2
  exact ⟨rfl, B1.out⟩
/-- the document's Needs: bands over which needs have been distributed, or an error -/
theorem refNeeds_any (p q : Option Addr) (m c m' c' : Nat) (bs : List Ba) (ns : List Ne) (gap : Int) (W : World) (hb : RowsK Ba.cells 4 W (.slice p m c) bs) (hn : RowsK Ne.cells 9 W (.slice q m' c') ns) :
    Calls Try.prog 9 #[.slice p m c, .slice q m' c', .int .i64 gap] W fun e X => (rightP bs ns gap = true ∧ (∃ v, e = .returned (.tuple #[v, .int .i64 0]) ∧ RowsK Ba.cells 4 X v (spreadP bs ns gap)) ∧ Below W.heap.size W X) ∨ (rightP bs ns gap = false ∧ e = .returned (.tuple #[.slice none 0 0, .int .i64 130]) ∧ Below W.heap.size W X) := by
  cases hr : rightP bs ns gap with
  | false => exact (refNeeds_bad p q m c m' c' bs ns gap W hb hn hr).mono fun e X ⟨h1, h2⟩ => .inr ⟨rfl, h1, h2⟩
  | true =>
    have hl := hb.len
    have hrr := (rightP_iff _ _ _).1 hr
    by_cases h1 : 1 ≤ m
    · exact (refNeeds_ok p q m c m' c' bs ns gap W hb hn hr h1).mono fun e X ⟨G, cap, sp, h2, h3, h4⟩ => .inl ⟨rfl, ⟨_, h2, h3.rows (by rw [spreadP_len, hl]) cap (by omega)⟩, h4⟩
    · obtain rfl : m = 0 := by omega
      obtain rfl : bs = [] := List.eq_nil_of_length_eq_zero hl
      exact (refNeeds_none p q c m' c' ns gap W hb hn hr).mono fun e X ⟨h2, h3⟩ => .inl ⟨rfl, ⟨_, h2, ⟨by simp [spreadP, wdIn], .inl ⟨none, 0, rfl, by simp [spreadP, wdIn]⟩⟩⟩, h3⟩
end Go.Proofs.Ytmljndggblfeiaa
