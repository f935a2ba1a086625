/- Contract of grid.Slots: for each row the owners of its slots. -/
import Derived.Test.YtceippgkmoijdaaGEmpty
import Derived.Test.YtceippgkmoijdaaMarks
import Derived.StillTailTactics
import Derived.Test.YtceippgkmoijdaaRound
import Derived.Deep.MidRow
import Derived.OrdersIn
namespace Go.Proofs.Ytceippgkmoijdaa
open Go.RowKit Go.Shelf Go.Maps
set_option linter.unusedVariables false

theorem wp_append_runG {P : Program} {o : Oper} {a : Act} {w X : World} {K : Act → World → Prop} {Q : Exit → Act → World → Prop} (s x : Operand) (t : TypeId) (ho : o.op = .call { callee := .builtin .append, args := #[s, x], argTypes := #[t, t] })
    (v v2 r : Value) (hs : a.eval s = v) (hx : a.eval x = v2) (hr : (Builtin.append_ #[t, t] o.type #[v, v2]).run P w = .ok r X) (h : K (a.put o.dst r) X) : o.wp P a w K Q := by
  unfold Oper.wp execOp
  simp only [ho, resolve, invoke, builtin, Sem.run_bind, Sem.run_pure, Result.andThen_ok, List.map_toArray, List.map_cons, List.map_nil, hs, hx, hr]
  exact h
attribute [local go_sem] Oper.semAt_some

def ownA (ms : List ((Nat × Nat) × Nat)) (s : Nat × Nat) : Int := match ms.find? (fun e => e.1 == s) with
  | some e => (e.2 : Int)
  | none => -1
def rowOf (ms : List ((Nat × Nat) × Nat)) (pre : List (Nat × Nat)) (r : Nat) : List Int := (pre.filter fun s => s.1 == r).map (ownA ms)
theorem rowOf_same (ms : List ((Nat × Nat) × Nat)) (pre : List (Nat × Nat)) (s : Nat × Nat) : rowOf ms (pre ++ [s]) s.1 = rowOf ms pre s.1 ++ [ownA ms s] := by
  unfold rowOf
  rw [List.filter_append]; simp
theorem rowOf_other (ms : List ((Nat × Nat) × Nat)) (pre : List (Nat × Nat)) (s : Nat × Nat) (r : Nat) (h : s.1 ≠ r) : rowOf ms (pre ++ [s]) r = rowOf ms pre r := by
  unfold rowOf
  rw [List.filter_append]; simp [h]
def Apart (u v : Value) : Prop := u.ownBlock = none ∨ u.ownBlock ≠ v.ownBlock
/-- what lies in the call's memory -/
structure SW (w : World) (mb g : Nat) (ms : List ((Nat × Nat) × Nat)) (n : Nat) (hs : List Value) (pre : List (Nat × Nat)) (X : World) : Prop where
  lo : Below w.heap.size w X
  b8 : Whole X g 121 [.map (some mb)]
  mp : MapAt X mb ms
  rw_ : Whole X (g + 1) 95 hs
  bl : Whole X (g + 1 + 1) 62 [.slice (some ⟨g + 1, 0, none⟩) n n]
  hl : hs.length = n
  ow : ∀ (r : Nat) (u : Value), hs[r]? = some u → X.ownsRow (g + 1 + 1 + 1 + 1) 3 1 u (rowOf ms pre r).length ((rowOf ms pre r).map (Value.int .i64))
  di : ∀ (r r' : Nat) (u u' : Value), r ≠ r' → hs[r]? = some u → hs[r']? = some u' → Apart u u'
theorem SW.grown {w X Y : World} {mb g n : Nat} {ms : List ((Nat × Nat) × Nat)} {hs : List Value} {pre : List (Nat × Nat)} {row : Option Nat} (h : SW w mb g ms n hs pre X) (hg : X.grownBy Y row) (hr : NoCells X row) (hl : ∀ r, row = some r → w.heap.size ≤ r ∧ r ≠ mb) : SW w mb g ms n hs pre Y :=
  ⟨h.lo.grown hg h.lo.size (fun r e => (hl r e).1), h.b8.grown hg (h.b8.ne hr), h.mp.kept hg (fun e => (hl mb e.symm).2 rfl), h.rw_.grown hg (h.rw_.ne hr), h.bl.grown hg (h.bl.ne hr), h.hl, fun r u hu => own_grown (h.ow r u hu) hg hr, h.di⟩
theorem SW.alloc {w X : World} {mb g n : Nat} {ms : List ((Nat × Nat) × Nat)} {hs : List Value} {pre : List (Nat × Nat)} (h : SW w mb g ms n hs pre X) (o : Obj) : SW w mb g ms n hs pre (X.alloc o) :=
  h.grown (World.grownBy_alloc X o none) (fun _ e => by cases e) (fun _ e => by cases e)
theorem SW.below {w X Y : World} {mb g n : Nat} {ms : List ((Nat × Nat) × Nat)} {hs : List Value} {pre : List (Nat × Nat)} (h : SW w mb g ms n hs pre X) (hb : Below X.heap.size X Y) : SW w mb g ms n hs pre Y :=
  h.grown (grown_of_below' hb) (fun _ e => by cases e) (fun _ e => by cases e)
theorem own_size {X : World} {base e sz n : Nat} {v : Value} {xs : List Value} (h : X.ownsRow base e sz v n xs) {b : Nat} (hb : v.ownBlock = some b) : b < X.heap.size := (h.lt b hb).2
theorem SW.put {w X Y : World} {mb g n : Nat} {ms : List ((Nat × Nat) × Nat)} {hs : List Value} {pre : List (Nat × Nat)} {s : Nat × Nat} {u v' : Value} {o : Obj} (h : SW w mb g ms n hs pre X) (hm : mb < g) (hw : w.heap.size ≤ g) (hs1 : s.1 < n) (hu : hs[s.1]? = some u)
    (ho : Y.ownsRow (g + 1 + 1 + 1 + 1) 3 1 v' ((rowOf ms pre s.1).length + 1) ((rowOf ms pre s.1).map (Value.int .i64) ++ [.int .i64 (ownA ms s)])) (hg : (X.alloc o).grownBy Y u.ownBlock)
    (hf : v'.ownBlock = u.ownBlock ∨ v'.ownBlock = some (X.alloc o).heap.size) : SW w mb g ms n (hs.set s.1 v') (pre ++ [s]) (Y.setCell ⟨g + 1, s.1, none⟩ v') := by
  have hA := h.alloc o
  have hc := hA.ow s.1 u hu
  have hlo : ∀ k, k < g + 1 + 1 + 1 + 1 → u.ownBlock ≠ some k := fun k hk => own_low hc hk
  refine ⟨below_set_at (own_below hA.lo hc (by omega) hg hA.lo.size) _ _ _ (by omega), (hA.b8.grown hg (hlo _ (by omega))).oth _ _ _ (by omega), ?_, (hA.rw_.grown hg (hlo _ (by omega))).set s.1 v', (hA.bl.grown hg (hlo _ (by omega))).oth _ _ _ (by omega), by rw [List.length_set]; exact h.hl, fun r x hx => ?_, fun r r' x x' hrr hx hx' => ?_⟩
  · exact (hA.mp.kept hg (fun e => hlo mb (by omega) e.symm)).same (Below.heap_setCell Y _ _ mb (show mb ≠ g + 1 by omega))
  · by_cases hr : s.1 = r
    · subst hr
      rw [List.getElem?_set_self (by rw [h.hl]; exact hs1)] at hx
      cases hx
      rw [rowOf_same, List.length_append, List.map_append]
      exact own_setCell ho (own_low ho (by omega))
    · rw [List.getElem?_set_ne hr] at hx
      rw [rowOf_other _ _ _ _ hr]
      have h1 := hA.ow r x hx
      have h2 := h1.kept hg (hA.di r s.1 x u (fun e => hr e.symm) hx hu)
      exact own_setCell h2 (own_low h2 (by omega))
  · have key : ∀ (r : Nat) (x : Value), s.1 ≠ r → hs[r]? = some x → Apart x v' ∧ Apart v' x := fun r x hr hx => by
      have h1 := hA.di r s.1 x u (fun e => hr e.symm) hx hu
      have h2 := hA.di s.1 r u x hr hu hx
      have h3 := hA.ow r x hx
      unfold Apart at *
      rcases hf with hf | hf
      · rw [hf]; exact ⟨h1, h2⟩
      · rw [hf]
        refine ⟨?_, .inr fun e => ?_⟩
        · cases hq : x.ownBlock with
          | none => exact .inl rfl
          | some b => exact .inr fun e => by injection e with e; have := own_size h3 hq; omega
        · have := own_size h3 e.symm; omega
    by_cases hr : s.1 = r
    · subst hr
      rw [List.getElem?_set_self (by rw [h.hl]; exact hs1)] at hx
      cases hx
      rw [List.getElem?_set_ne hrr] at hx'
      exact (key r' x' hrr hx').2
    · rw [List.getElem?_set_ne hr] at hx
      by_cases hr' : s.1 = r'
      · subst hr'
        rw [List.getElem?_set_self (by rw [h.hl]; exact hs1)] at hx'
        cases hx'
        exact (key r x hr hx).1
      · rw [List.getElem?_set_ne hr'] at hx'
        exact h.di r r' x x' hrr hx hx'
def SF (w : World) (mb g : Nat) (ms : List ((Nat × Nat) × Nat)) (n : Nat) (pre : List (Nat × Nat)) (X : World) : Prop := ∃ hs, SW w mb g ms n hs pre X
theorem kept_belowS {W W' : World} (h : Below W.heap.size W W') : KeepsOthers W W' := ⟨h.size, fun k o hk ho' => (h.block k (Array.getElem?_eq_some_iff.1 hk).1).trans hk⟩
theorem Try.infoInts : (Try.prog.info? 95).map (fun i => (i.zero, i.size, i.bytes)) = some (some (.slice none 0 0), 1, 24) := by kernel_rfl
theorem made_getS (z : Array Value) (n k : Nat) (h : k < n) : (madeCells z n)[k]? = some (z[k % z.size]!) := by simp [madeCells, h]
theorem make_lists (n : Nat) (hn : n ≤ 1000000) (w : World) : (Instr.makeSlice 62 (.int .i64 n) (.int .i64 n)).run Try.prog w = .ok (.slice (some ⟨w.heap.size, 0, none⟩) n n) (w.alloc (.cells (List.replicate n (.slice none 0 0)).toArray 95)) := by
  cases hi : Try.prog.info? 95 with
  | none => have := Try.infoInts; rw [hi] at this; cases this
  | some i =>
    have h := Try.infoInts
    rw [hi] at h
    simp only [Option.map_some, Option.some.injEq, Prod.mk.injEq] at h
    obtain ⟨hz, h1, h2⟩ := h
    have hr := run_make (P := Try.prog) w 62 95 i _ Try.underlying62 hi hz .i64 .i64 n n (by omega) (Int.le_refl _) (by rw [h2]; omega) (by omega)
    rw [hr, h1]
    simp only [Int.toNat_natCast]
    rw [show (madeCells (Value.slice none 0 0).cells (n * 1)) = (List.replicate n (.slice none 0 0)).toArray from by
      apply Array.toList_inj.1
      rw [show (Value.slice none 0 0).cells = #[Value.slice none 0 0] from rfl, toList_madeCells_one]; simp]
set_option maxRecDepth 100000 in
set_option maxHeartbeats 4000000 in
theorem slots_ok (v : Value) (rows cols : Nat) (L : List Pz) (w : World) (hS : SizeQ rows cols) (hv : ∃ p n c, v = .slice p n c)
    (H : Hid (Calls Try.prog 68 #[v, .int .i64 rows, .int .i64 cols] w fun e W' => ∃ mb, e = .returned (.tuple #[.map (some mb), .int .i64 0]) ∧ MapAt W' mb (entL 0 L).reverse ∧ Below w.heap.size w W')) :
    Calls Try.prog 41 #[v, .int .i64 rows, .int .i64 cols] w fun e W' => ∃ g hs, e = .returned (.tuple #[.slice (some ⟨g + 1, 0, none⟩) rows rows, .int .i64 0]) ∧ Whole W' (g + 1) 95 hs ∧ hs.length = rows ∧ w.heap.size ≤ g ∧
      (∀ (r : Nat) (u : Value), hs[r]? = some u → W'.ownsRow w.heap.size 3 1 u (rowOf (entL 0 L).reverse (slotsL ⟨0, 0, 0, rows, cols⟩) r).length ((rowOf (entL 0 L).reverse (slotsL ⟨0, 0, 0, rows, cols⟩) r).map (Value.int .i64))) ∧ Below w.heap.size w W' := by
  obtain ⟨pp, pm, pcap, rfl⟩ := hv
  refine (callsIn_wide (n := 3)).1 (callsIn_of_wp_marks Try.func41 rfl trivial (wpIn_wide.2 ?_) rfl)
  simp only [Try.ntmps41, List.size_toArray, List.length_cons, List.length_nil, Nat.reduceAdd, Nat.reduceSub, Array.replicate_succ, Array.replicate_zero, List.push_toArray, List.append_toArray, List.nil_append, List.cons_append]
  have HS := Lib.hid hS
  have hrc : rows ≤ 65536 ∧ cols ≤ 10000 := by have := hS.1; have := hS.2.1; omega
  have HWF := Lib.hid (fun Y => gwhole_any rows cols Y)
  have hmk := make_lists rows (by omega)
  obtain ⟨za, hza⟩ : ∃ za, (List.replicate rows (Value.slice none 0 0)).toArray = za := ⟨_, rfl⟩
  rw [hza] at hmk
  have HZA := Lib.hid hza
  clear hS hza
  go_wp2_with (first
    | (go_at_call 68; refine H.out.mono ?_; clear H; rintro e w1 ⟨mb, rfl, hmp, hb1⟩; have HMP := Lib.hid hmp; have HB1 := Lib.hid hb1; clear hmp hb1)
    | (go_at_call 69; refine (HWF.out _).mono ?_; clear HWF; rintro e w5 ⟨rfl, rfl⟩))
  clear hmk
  obtain ⟨g, hg⟩ : ∃ g, w1.heap.size = g := ⟨_, rfl⟩
  obtain ⟨W5, hW5⟩ : ∃ W5, (((w1.alloc (.cells #[.map (some mb)] 121)).alloc (.cells za 95)).alloc (.cells #[.slice (some ⟨w1.heap.size + 1, 0, none⟩) rows rows] 62)).alloc (.cells #[.int .i64 0, .int .i64 0, .int .i64 0, .int .i64 (rows : Int), .int .i64 (cols : Int)] 52) = W5 := ⟨_, rfl⟩
  have hgm : mb < g := by rw [← hg]; exact HMP.out.lt
  have hwg : w.heap.size ≤ g := by rw [← hg]; exact HB1.out.size
  have h5s : W5.heap.size = g + 1 + 1 + 1 + 1 := by rw [← hW5, ← hg]; simp
  have hE0 : SF w mb g (entL 0 L).reverse rows [] W5 := by
    have hb2 : Below w1.heap.size w1 W5 := by rw [← hW5]; exact ((((Below.refl _ w1).alloc (Nat.le_refl _) _).alloc (by simp) _).alloc (by simp <;> omega) _).alloc (by simp <;> omega) _
    refine ⟨List.replicate rows (.slice none 0 0), HB1.out.trans (hb2.mono (by omega)), ?_, HMP.out.same (hb2.block mb (by omega)), ?_, ?_, by simp, fun r u hu => ?_, fun r r' u u' hne hu hu' => ?_⟩
    · rw [← hW5]; exact (((whole_new w1 [.map (some mb)] 121 g hg.symm).alloc _).alloc _).alloc _
    · rw [← hW5, ← HZA.out]; exact ((whole_new (w1.alloc (.cells #[.map (some mb)] 121)) (List.replicate rows (.slice none 0 0)) 95 (g + 1) (by simp [hg])).alloc _).alloc _
    · rw [← hW5]
      have := (whole_new ((w1.alloc (.cells #[.map (some mb)] 121)).alloc (.cells za 95)) [.slice (some ⟨w1.heap.size + 1, 0, none⟩) rows rows] 62 (g + 1 + 1) (by simp [hg])).alloc (.cells #[.int .i64 0, .int .i64 0, .int .i64 0, .int .i64 (rows : Int), .int .i64 (cols : Int)] 52)
      rw [hg] at this ⊢
      exact this
    · have hr := (List.getElem?_eq_some_iff.1 hu).1
      rw [List.length_replicate] at hr
      rw [List.getElem?_replicate, if_pos hr] at hu
      cases hu
      exact World.ownsRow_nil _ _ _ _
    · have hr := (List.getElem?_eq_some_iff.1 hu).1
      rw [List.length_replicate] at hr
      rw [List.getElem?_replicate, if_pos hr] at hu
      cases hu
      exact .inl rfl
  have kS : SlotMem (g + 1 + 1 + 1) ⟨0, 0, 0, rows, cols⟩ W5 := by
    rw [← hW5]
    exact whole_new (((w1.alloc (.cells #[.map (some mb)] 121)).alloc (.cells za 95)).alloc (.cells #[.slice (some ⟨w1.heap.size + 1, 0, none⟩) rows rows] 62)) [.int .i64 0, .int .i64 0, .int .i64 0, .int .i64 (rows : Int), .int .i64 (cols : Int)] 52 (g + 1 + 1 + 1) (by simp [hg])
  have hfew : FewS ⟨0, 0, 0, rows, cols⟩ := by unfold FewS; dsimp only; omega
  have HE0 := Lib.hid hE0
  have KS := Lib.hid kS
  have hw5 : w.heap.size ≤ W5.heap.size := by omega
  have hs10 : rows * cols ≤ 1000000 := by have h3 := HS.out.2.2; have h4 : ((rows : Int) * (cols : Int)) = ((rows * cols : Nat) : Int) := by simp
                                          omega
  have hlS : (slotsL ⟨0, 0, 0, rows, cols⟩).length = rows * cols := by
    unfold slotsL rowsS rowS
    simp [List.length_flatMap, List.map_const', List.sum_replicate_nat]
  rw [hW5, hg]
  clear hW5 HB1 HMP hE0 kS hg HS HZA
  refine (wpIn_wide (n := 3)).1 (range_next (F := Fence.wide) rfl (by omega) (gf := 94) (lb := #[.pointer (some ⟨g + 1 + 1 + 1, 0, none⟩)]) rfl trivial (enters_of Try.func94 (by kernel_rfl) rfl)
    (Kp := KeepG (SlotMem (g + 1 + 1 + 1) ⟨0, 0, 0, rows, cols⟩)) (fun _ _ _ h k => h.trans k) (fun W l o h1 h2 => ⟨by simp, fun h => h.below (below_put (B := W5.heap.size) W o h1 h2) (by omega)⟩) (gslots_next _ (by omega) (g + 1 + 1 + 1) ⟨0, 0, 0, rows, cols⟩ hfew W5 KS.out) (fun _ => rfl)
    (SF w mb g (entL 0 L).reverse rows) (fun _ _ _ => False) ?own ?ownx HE0.out ?round ?done ?stop)
  case own =>
    rintro pre X1 Y1 row ⟨hs, h⟩ hgr hr
    have hnc : NoCells X1 row := fun r e => (hr r e).2
    exact ⟨hs, h.grown hgr hnc (fun r e => by have := (hr r e).1; omega)⟩
  case ownx => exact fun c pre X1 Y1 row h _ _ => h
  case stop => exact fun D c pre W hD _ h _ => h.elim
  case done =>
    rintro D xs V hD rfl ⟨hs, hE⟩ hK
    have d_l := hE.bl.cellAt 0
    have l_l := hE.bl.lt
    have HM := Lib.hid ((Marks.nil w.heap.size V).cons (D := D) (by omega) hK (fun E hE => by cases hE))
    have HE := Lib.hid hE
    clear hE hK
    go_wp2
    refine leaves_marks w.heap.size [D] _ HM.out (fun W' hck hbk => ⟨.tuple #[.slice (some ⟨g + 1, 0, none⟩) rows rows, .int .i64 0], by simp [results, Try.results41, go_sem], g, hs, rfl, hck _ _ HE.out.rw_ rfl, HE.out.hl, hwg, fun r u hu => own_kept_cells (HE.out.ow r u hu) hck (by omega), HE.out.lo.trans hbk⟩)
  case round =>
    rintro l pre ⟨s1, s2⟩ V hl ⟨hs, hE⟩ ⟨rest, hrest⟩
    have hs12 : s1 < rows ∧ s2 < cols := by
      have := slots_mem.1 (show (s1, s2) ∈ slotsL ⟨0, 0, 0, rows, cols⟩ by rw [hrest]; simp)
      dsimp only at this; omega
    have hpl : (rowOf (entL 0 L).reverse pre s1).length ≤ 1000000 := by
      have h1 := List.length_filter_le (fun s => s.1 == s1) pre
      have h2 : pre.length ≤ (slotsL ⟨0, 0, 0, rows, cols⟩).length := by rw [hrest]; simp
      unfold rowOf
      rw [List.length_map]
      omega
    obtain ⟨kl, hkl⟩ := slot_key (s1, s2) (by dsimp only; omega) (by dsimp only; omega)
    obtain ⟨u, hu⟩ : ∃ u, hs[s1]? = some u := ⟨_, List.getElem?_eq_getElem (by rw [hE.hl]; exact hs12.1)⟩
    apply Exists.intro
    apply Exists.intro
    refine ⟨?_, ?_, ?_, ?_⟩
    · intro K hK
      dsimp only [encSl]
      gi_wp2
      exact hK
    · exact (KeepsOthers.alloc V _).from _
    · exact ⟨by simp, fun h => h.alloc _⟩
    · intro V₂ hgV hnc' hbl
      have hA := hE.alloc (.cells #[.int .i64 (s1 : Int), .int .i64 (s2 : Int)] 127)
      have hO := hA.grown hgV hnc' (fun r e => by cases e; omega)
      have hs5 : W5.heap.size ≤ V₂.heap.size := by obtain ⟨o, ho, _⟩ := hnc' l rfl; have := (Array.getElem?_eq_some_iff.1 ho).1; have := hgV.size; omega
      have kS0 := whole_new V [.int .i64 (s1 : Int), .int .i64 (s2 : Int)] 127 _ rfl
      have kS := kS0.grown hgV (kS0.ne hnc')
      have s_0 := kS.cellAt 0
      have s_1 := kS.cellAt 1
      have s_l := kS.lt
      have m_8 := hO.b8.cellAt 0
      have l_8 := hO.b8.lt
      obtain ⟨D, hown, hD, h3⟩ := hO.mp
      obtain ⟨hhas, hat⟩ := h3 (s1, s2) kl (by dsimp only; omega) (by dsimp only; omega) hkl
      have hkl2 : keyOf Try.prog 127 (.agg #[.int .i64 (s1 : Int), .int .i64 (s2 : Int)]) = some kl := hkl
      have HSV : Hid (SW w mb g (entL 0 L).reverse rows hs pre V₂) := Lib.hid hO
      have KSV := Lib.hid kS
      obtain ⟨A, hAA⟩ : ∃ A, ownA (entL 0 L).reverse (s1, s2) = A := ⟨_, rfl⟩
      obtain ⟨i1, hi1, hz0', hz1', hz2'⟩ := info_parts Try.infoIntG
      -- the region's worlds
      obtain ⟨V3, hV3⟩ : ∃ V3, V₂.drew = V3 := ⟨_, rfl⟩
      have SV : Below V₂.heap.size V₂ V3 := by rw [← hV3]; exact below_dn _ V₂ 1
      have sV3 : V3.heap.size ≤ V₂.heap.size ∧ V₂.heap.size ≤ V3.heap.size := by rw [← hV3]; exact ⟨Nat.le_refl _, Nat.le_refl _⟩
      have h3S := hO.below SV
      have k3S := kS.below SV kS.lt
      have hc3 := h3S.ow s1 u hu
      have hca := hc3.alloc (.cells #[.int .i64 A] 3)
      obtain ⟨v9, w9, hr7, hown9, hgrow9, _, hf9⟩ := run_append_own_at (P := Try.prog) (V3.alloc (.cells #[.int .i64 A] 3)) (g + 1 + 1 + 1 + 1) 95 95 3 i1 (.int .i64 0) 1 8 Try.underlying95 hi1 hz0' hz1' hz2' rfl (by decide) u (rowOf (entL 0 L).reverse pre s1).length ((rowOf (entL 0 L).reverse pre s1).map (Value.int .i64)) hca ⟨V3.heap.size, 0, none⟩ 1 1 [.int .i64 A] rfl (lay_newG _ [.int .i64 A] 3 V3.heap.size rfl) (by simp [Value.oneCell']) (by unfold maxLen; omega) (by omega) (by simp <;> omega)
      have hput := SW.put (s := (s1, s2)) (o := .cells #[.int .i64 A] 3) h3S hgm hwg hs12.1 hu (by rw [hAA]; exact hown9) hgrow9 hf9
      obtain ⟨p9, n9, cc9, rfl⟩ := own_slice hown9
      obtain ⟨pu, nu, cu, rfl⟩ := own_slice hc3
      have HEND := Lib.hid hput
      have k9r := (h3S.rw_.alloc (.cells #[.int .i64 A] 3)).grown hgrow9 (own_low hca (by omega))
      have k9b := (h3S.bl.alloc (.cells #[.int .i64 A] 3)).grown hgrow9 (own_low hca (by omega))
      have k9s := (k3S.alloc (.cells #[.int .i64 A] 3)).grown hgrow9 (whole_own (k3S.alloc _) hca (by decide))
      have hS3 : V3.cell? ⟨g + 1 + 1, 0, none⟩ = some (.slice (some ⟨g + 1, 0, none⟩) rows rows) ∧ V3.cell? ⟨V.heap.size, 0, none⟩ = some (.int .i64 (s1 : Int)) := ⟨h3S.bl.cellAt 0, k3S.cellAt 0⟩
      have hSA : (V3.alloc (.cells #[.int .i64 A] 3)).cell? ⟨g + 1 + 1, 0, none⟩ = some (.slice (some ⟨g + 1, 0, none⟩) rows rows) ∧ (V3.alloc (.cells #[.int .i64 A] 3)).cell? ⟨V.heap.size, 0, none⟩ = some (.int .i64 (s1 : Int)) := ⟨(h3S.bl.alloc _).cellAt 0, (k3S.alloc _).cellAt 0⟩
      have hS9 : w9.cell? ⟨g + 1 + 1, 0, none⟩ = some (.slice (some ⟨g + 1, 0, none⟩) rows rows) ∧ w9.cell? ⟨V.heap.size, 0, none⟩ = some (.int .i64 (s1 : Int)) := ⟨k9b.cellAt 0, k9s.cellAt 0⟩
      have hVg : V.heap.size ≠ g + 1 := by have := hE.rw_.lt; omega
      have hSE : (w9.setCell ⟨g + 1, s1, none⟩ (.slice p9 n9 cc9)).cell? ⟨g + 1 + 1, 0, none⟩ = some (.slice (some ⟨g + 1, 0, none⟩) rows rows) ∧ (w9.setCell ⟨g + 1, s1, none⟩ (.slice p9 n9 cc9)).cell? ⟨V.heap.size, 0, none⟩ = some (.int .i64 (s1 : Int)) := ⟨(k9b.oth (g + 1) s1 _ (by omega)).cellAt 0, (k9s.oth (g + 1) s1 _ hVg).cellAt 0⟩
      have c7 : V3.cell? ⟨g + 1, s1, none⟩ = some (.slice pu nu cu) := by rw [h3S.rw_.cellAt]; exact hu
      have l7 := h3S.rw_.lt
      have c7a : (V3.alloc (.cells #[.int .i64 A] 3)).cell? ⟨g + 1, s1, none⟩ = some (.slice pu nu cu) := by rw [(h3S.rw_.alloc _).cellAt]; exact hu
      have c9 : ∃ o9, w9.cell? ⟨g + 1, s1, none⟩ = some o9 := by rw [k9r.cellAt]; exact ⟨_, hu⟩
      obtain ⟨o9, c9⟩ := c9
      have f9 := k9r.free s1
      have l9 := k9r.lt
      have HKO : Hid (KeepsOthers V₂ (w9.setCell ⟨g + 1, s1, none⟩ (.slice p9 n9 cc9))) := Lib.hid ((((kept_belowS SV).trans (KeepsOthers.alloc V3 _)).trans (own_keeps hca hgrow9)).trans (KeepsOthers.setCell _ _ _))
      have HSM : Hid (SlotMem (g + 1 + 1 + 1) ⟨0, 0, 0, rows, cols⟩ V₂ → SlotMem (g + 1 + 1 + 1) ⟨0, 0, 0, rows, cols⟩ (w9.setCell ⟨g + 1, s1, none⟩ (.slice p9 n9 cc9))) := Lib.hid fun h => by
        have e1 : Whole V3 (g + 1 + 1 + 1) 52 (Pl.mk 0 0 0 rows cols).cells := Whole.below h SV h.lt
        exact ((e1.alloc _).grown hgrow9 (own_low hca (by omega))).oth _ _ _ (by omega)
      have HAA := Lib.hid hAA
      clear hA hO kS0 kS hD h3 hgV hnc' hbl hrest hkl hE hput hown9 hgrow9 hf9 k9r k9b k9s h3S k3S hc3 hca SV hz0' hz1' hz2' hAA
      cases hb : ((entL 0 L).reverse.any fun e => e.1 == (s1, s2)) with
      | true =>
        rw [hb] at hhas
        have HCV : Hid (∀ cv : Int, D.atKey kl (.lit (.int .i64 0)) = .lit (.int .i64 cv) → A = cv) := Lib.hid fun cv h => by
          rw [hat] at h
          injection h with h
          injection h with _ h
          rw [← HAA.out, ← h]
          unfold ownA
          cases hf : (entL 0 L).reverse.find? (fun e => e.1 == (s1, s2)) with
          | some e => rfl
          | none =>
            rw [List.any_eq_true] at hb
            obtain ⟨e, he, hee⟩ := hb
            have := List.find?_eq_none.1 hf e he
            exact absurd hee this
        clear hb hat
        gi_wp2_with (gi_at_lookup; refine wpListIn_lookup_own_ok_int _ rfl _ _ 121 rfl 127 3 .i64 slotKeyed Try.underlying121 Try.underlying3 (zeroInt _) mb _ D rfl hown _ _ rfl hkl2 ?_; intro cv hcv hwf; obtain rfl := HCV.out cv hcv; clear HCV hcv hwf)
        refine wpIn_round_held (S := fun X => X.cell? ⟨g + 1 + 1, 0, none⟩ = some (.slice (some ⟨g + 1, 0, none⟩) rows rows) ∧ X.cell? ⟨V.heap.size, 0, none⟩ = some (.int .i64 (s1 : Int))) (by kernel_rfl) (by kernel_rfl) ?_ ?_
        · rintro ⟨x, y, h⟩; exact h
        rw [hV3]
        clear hV3
        refine wpAnyH_take (i := 0) (v := .slice (some ⟨g + 1, 0, none⟩) rows rows) rfl (by kernel_rfl) (by kernel_rfl) (by kernel_rfl) (fun _ _ _ h => h) (Or.inl ⟨by rfl, ?_⟩) hS3 ?_
        · intro X hX; obtain ⟨g0, g1⟩ := hX; go_simp
        refine wpAnyH_take (i := 1) (v := .pointer (some ⟨V.heap.size, 0, none⟩)) rfl (by kernel_rfl) (by kernel_rfl) (by kernel_rfl) (fun _ _ _ h => h) (Or.inl ⟨by rfl, ?_⟩) hS3 ?_
        · intro X hX; go_simp
        refine wpAnyH_take (i := 2) (v := .int .i64 (s1 : Int)) rfl (by kernel_rfl) (by kernel_rfl) (by kernel_rfl) (fun _ _ _ h => h) (Or.inl ⟨by rfl, ?_⟩) hS3 ?_
        · intro X hX; obtain ⟨g0, g1⟩ := hX; go_simp
        refine wpAnyH_take (i := 3) (v := .slice (some ⟨g + 1, 0, none⟩) rows rows) rfl (by kernel_rfl) (by kernel_rfl) (by kernel_rfl) (fun _ _ _ h => h) (Or.inl ⟨by rfl, ?_⟩) hS3 ?_
        · intro X hX; obtain ⟨g0, g1⟩ := hX; go_simp
        refine wpAnyH_take (i := 4) (v := .pointer (some ⟨V.heap.size, 0, none⟩)) rfl (by kernel_rfl) (by kernel_rfl) (by kernel_rfl) (fun _ _ _ h => h) (Or.inl ⟨by rfl, ?_⟩) hS3 ?_
        · intro X hX; go_simp
        refine wpAnyH_take (i := 5) (v := .int .i64 (s1 : Int)) rfl (by kernel_rfl) (by kernel_rfl) (by kernel_rfl) (fun _ _ _ h => h) (Or.inl ⟨by rfl, ?_⟩) hS3 ?_
        · intro X hX; obtain ⟨g0, g1⟩ := hX; go_simp
        refine wpAnyH_take (i := 6) (v := .pointer (some ⟨g + 1, s1, none⟩)) rfl (by kernel_rfl) (by kernel_rfl) (by kernel_rfl) (fun _ _ _ h => h) (Or.inl ⟨by rfl, ?_⟩) hS3 ?_
        · intro X hX; go_simp
        refine wpAnyH_take (i := 8) (v := .int .i64 A) rfl (by kernel_rfl) (by kernel_rfl) (by kernel_rfl) (fun _ _ _ h => h) (Or.inl ⟨by rfl, ?_⟩) hS3 ?_
        · intro X hX; go_simp
        refine wpAnyH_all (rs := [7, 9]) (by kernel_rfl) (by simp) ?_
        intro i2 hi2
        rcases (by simpa using hi2 : i2 = 7 ∨ i2 = 9) with rfl | rfl
        · clear hi2
          refine wpOp_step rfl (fun K hK => ?_)
          go_simp
          refine hK _ _ ⟨hS3, ?_⟩
          clear hK K
          refine wpAnyH_all (rs := [9]) (by kernel_rfl) (by simp) ?_
          intro i2 hi2; obtain rfl : i2 = 9 := by simpa using hi2
          refine wpOp_step rfl (fun K hK => ?_)
          go_simp
          refine hK _ _ ⟨hSA, ?_⟩
          clear hK K hi2
          refine wpAnyH_all (rs := [10]) (by kernel_rfl) (by simp) ?_
          intro i2 hi2; obtain rfl : i2 = 10 := by simpa using hi2
          refine wpOp_step rfl (fun K hK => ?_)
          refine wp_append_runG _ _ _ rfl _ _ _ rfl rfl hr7 ?_
          refine hK _ _ ⟨hS9, ?_⟩
          clear hK K hi2
          refine wpAnyH_all (rs := [11]) (by kernel_rfl) (by simp) ?_
          intro i2 hi2; obtain rfl : i2 = 11 := by simpa using hi2
          refine wpOp_step rfl (fun K hK => ?_)
          go_simp
          refine hK _ _ ⟨hS9, ?_⟩
          clear hK K hi2
          refine wpAnyH_all (rs := [12]) (by kernel_rfl) (by simp) ?_
          intro i2 hi2; obtain rfl : i2 = 12 := by simpa using hi2
          refine wpOp_step rfl (fun K hK => ?_)
          go_simp
          refine hK _ _ ⟨hSE, ?_⟩
          clear hK K hi2
          refine wpAnyH_done (by kernel_rfl) ?_ _
          exact ⟨HKO.out.from _, ⟨HKO.out.size, HSM.out⟩, _, HEND.out⟩
        · clear hi2
          refine wpOp_step rfl (fun K hK => ?_)
          go_simp
          refine hK _ _ ⟨hSA, ?_⟩
          clear hK K
          refine wpAnyH_all (rs := [7]) (by kernel_rfl) (by simp) ?_
          intro i2 hi2; obtain rfl : i2 = 7 := by simpa using hi2
          refine wpOp_step rfl (fun K hK => ?_)
          go_simp
          refine hK _ _ ⟨hSA, ?_⟩
          clear hK K hi2
          refine wpAnyH_all (rs := [10]) (by kernel_rfl) (by simp) ?_
          intro i2 hi2; obtain rfl : i2 = 10 := by simpa using hi2
          refine wpOp_step rfl (fun K hK => ?_)
          refine wp_append_runG _ _ _ rfl _ _ _ rfl rfl hr7 ?_
          refine hK _ _ ⟨hS9, ?_⟩
          clear hK K hi2
          refine wpAnyH_all (rs := [11]) (by kernel_rfl) (by simp) ?_
          intro i2 hi2; obtain rfl : i2 = 11 := by simpa using hi2
          refine wpOp_step rfl (fun K hK => ?_)
          go_simp
          refine hK _ _ ⟨hS9, ?_⟩
          clear hK K hi2
          refine wpAnyH_all (rs := [12]) (by kernel_rfl) (by simp) ?_
          intro i2 hi2; obtain rfl : i2 = 12 := by simpa using hi2
          refine wpOp_step rfl (fun K hK => ?_)
          go_simp
          refine hK _ _ ⟨hSE, ?_⟩
          clear hK K hi2
          refine wpAnyH_done (by kernel_rfl) ?_ _
          exact ⟨HKO.out.from _, ⟨HKO.out.size, HSM.out⟩, _, HEND.out⟩
      | false =>
        rw [hb] at hhas
        have hm1 : A = -1 := by
          rw [← HAA.out]
          unfold ownA
          cases hf : (entL 0 L).reverse.find? (fun e => e.1 == (s1, s2)) with
          | none => rfl
          | some e =>
            have h1 := List.find?_some hf
            have h2 := List.mem_of_find?_eq_some hf
            have := List.any_eq_false.1 hb e h2
            exact absurd h1 this
        subst hm1
        clear hb hat
        gi_wp2_with (gi_at_lookup; refine wpListIn_lookup_own_ok_int _ rfl _ _ 121 rfl 127 3 .i64 slotKeyed Try.underlying121 Try.underlying3 (zeroInt _) mb _ D rfl hown _ _ rfl hkl2 ?_; intro cv hcv hwf; clear hcv hwf)
        refine wpIn_round_held (S := fun X => X.cell? ⟨g + 1 + 1, 0, none⟩ = some (.slice (some ⟨g + 1, 0, none⟩) rows rows) ∧ X.cell? ⟨V.heap.size, 0, none⟩ = some (.int .i64 (s1 : Int))) (by kernel_rfl) (by kernel_rfl) ?_ ?_
        · rintro ⟨x, y, h⟩; exact h
        rw [hV3]
        clear hV3
        refine wpAnyH_take (i := 0) (v := .slice (some ⟨g + 1, 0, none⟩) rows rows) rfl (by kernel_rfl) (by kernel_rfl) (by kernel_rfl) (fun _ _ _ h => h) (Or.inl ⟨by rfl, ?_⟩) hS3 ?_
        · intro X hX; obtain ⟨g0, g1⟩ := hX; go_simp
        refine wpAnyH_take (i := 1) (v := .pointer (some ⟨V.heap.size, 0, none⟩)) rfl (by kernel_rfl) (by kernel_rfl) (by kernel_rfl) (fun _ _ _ h => h) (Or.inl ⟨by rfl, ?_⟩) hS3 ?_
        · intro X hX; go_simp
        refine wpAnyH_take (i := 2) (v := .int .i64 (s1 : Int)) rfl (by kernel_rfl) (by kernel_rfl) (by kernel_rfl) (fun _ _ _ h => h) (Or.inl ⟨by rfl, ?_⟩) hS3 ?_
        · intro X hX; obtain ⟨g0, g1⟩ := hX; go_simp
        refine wpAnyH_take (i := 3) (v := .slice (some ⟨g + 1, 0, none⟩) rows rows) rfl (by kernel_rfl) (by kernel_rfl) (by kernel_rfl) (fun _ _ _ h => h) (Or.inl ⟨by rfl, ?_⟩) hS3 ?_
        · intro X hX; obtain ⟨g0, g1⟩ := hX; go_simp
        refine wpAnyH_take (i := 4) (v := .pointer (some ⟨V.heap.size, 0, none⟩)) rfl (by kernel_rfl) (by kernel_rfl) (by kernel_rfl) (fun _ _ _ h => h) (Or.inl ⟨by rfl, ?_⟩) hS3 ?_
        · intro X hX; go_simp
        refine wpAnyH_take (i := 5) (v := .int .i64 (s1 : Int)) rfl (by kernel_rfl) (by kernel_rfl) (by kernel_rfl) (fun _ _ _ h => h) (Or.inl ⟨by rfl, ?_⟩) hS3 ?_
        · intro X hX; obtain ⟨g0, g1⟩ := hX; go_simp
        refine wpAnyH_take (i := 6) (v := .pointer (some ⟨g + 1, s1, none⟩)) rfl (by kernel_rfl) (by kernel_rfl) (by kernel_rfl) (fun _ _ _ h => h) (Or.inl ⟨by rfl, ?_⟩) hS3 ?_
        · intro X hX; go_simp
        refine wpAnyH_take (i := 8) (v := .int .i64 (-1)) rfl (by kernel_rfl) (by kernel_rfl) (by kernel_rfl) (fun _ _ _ h => h) (Or.inl ⟨by rfl, ?_⟩) hS3 ?_
        · intro X hX; go_simp
        refine wpAnyH_all (rs := [7, 9]) (by kernel_rfl) (by simp) ?_
        intro i2 hi2
        rcases (by simpa using hi2 : i2 = 7 ∨ i2 = 9) with rfl | rfl
        · clear hi2
          refine wpOp_step rfl (fun K hK => ?_)
          go_simp
          refine hK _ _ ⟨hS3, ?_⟩
          clear hK K
          refine wpAnyH_all (rs := [9]) (by kernel_rfl) (by simp) ?_
          intro i2 hi2; obtain rfl : i2 = 9 := by simpa using hi2
          refine wpOp_step rfl (fun K hK => ?_)
          go_simp
          refine hK _ _ ⟨hSA, ?_⟩
          clear hK K hi2
          refine wpAnyH_all (rs := [10]) (by kernel_rfl) (by simp) ?_
          intro i2 hi2; obtain rfl : i2 = 10 := by simpa using hi2
          refine wpOp_step rfl (fun K hK => ?_)
          refine wp_append_runG _ _ _ rfl _ _ _ rfl rfl hr7 ?_
          refine hK _ _ ⟨hS9, ?_⟩
          clear hK K hi2
          refine wpAnyH_all (rs := [11]) (by kernel_rfl) (by simp) ?_
          intro i2 hi2; obtain rfl : i2 = 11 := by simpa using hi2
          refine wpOp_step rfl (fun K hK => ?_)
          go_simp
          refine hK _ _ ⟨hS9, ?_⟩
          clear hK K hi2
          refine wpAnyH_all (rs := [12]) (by kernel_rfl) (by simp) ?_
          intro i2 hi2; obtain rfl : i2 = 12 := by simpa using hi2
          refine wpOp_step rfl (fun K hK => ?_)
          go_simp
          refine hK _ _ ⟨hSE, ?_⟩
          clear hK K hi2
          refine wpAnyH_done (by kernel_rfl) ?_ _
          exact ⟨HKO.out.from _, ⟨HKO.out.size, HSM.out⟩, _, HEND.out⟩
        · clear hi2
          refine wpOp_step rfl (fun K hK => ?_)
          go_simp
          refine hK _ _ ⟨hSA, ?_⟩
          clear hK K
          refine wpAnyH_all (rs := [7]) (by kernel_rfl) (by simp) ?_
          intro i2 hi2; obtain rfl : i2 = 7 := by simpa using hi2
          refine wpOp_step rfl (fun K hK => ?_)
          go_simp
          refine hK _ _ ⟨hSA, ?_⟩
          clear hK K hi2
          refine wpAnyH_all (rs := [10]) (by kernel_rfl) (by simp) ?_
          intro i2 hi2; obtain rfl : i2 = 10 := by simpa using hi2
          refine wpOp_step rfl (fun K hK => ?_)
          refine wp_append_runG _ _ _ rfl _ _ _ rfl rfl hr7 ?_
          refine hK _ _ ⟨hS9, ?_⟩
          clear hK K hi2
          refine wpAnyH_all (rs := [11]) (by kernel_rfl) (by simp) ?_
          intro i2 hi2; obtain rfl : i2 = 11 := by simpa using hi2
          refine wpOp_step rfl (fun K hK => ?_)
          go_simp
          refine hK _ _ ⟨hS9, ?_⟩
          clear hK K hi2
          refine wpAnyH_all (rs := [12]) (by kernel_rfl) (by simp) ?_
          intro i2 hi2; obtain rfl : i2 = 12 := by simpa using hi2
          refine wpOp_step rfl (fun K hK => ?_)
          go_simp
          refine hK _ _ ⟨hSE, ?_⟩
          clear hK K hi2
          refine wpAnyH_done (by kernel_rfl) ?_ _
          exact ⟨HKO.out.from _, ⟨HKO.out.size, HSM.out⟩, _, HEND.out⟩
set_option maxRecDepth 100000 in
set_option maxHeartbeats 1000000 in
theorem slots_bad (v : Value) (rows cols : Int) (w : World) (hv : ∃ p n c, v = .slice p n c)
    (H : Hid (Calls Try.prog 68 #[v, .int .i64 rows, .int .i64 cols] w fun e W' => e = .returned (.tuple #[.map none, .int .i64 70]) ∧ Below w.heap.size w W')) :
    Calls Try.prog 41 #[v, .int .i64 rows, .int .i64 cols] w fun e W' => e = .returned (.tuple #[.slice none 0 0, .int .i64 70]) ∧ Below w.heap.size w W' := by
  obtain ⟨pp, pm, pcap, rfl⟩ := hv
  refine (callsIn_wide (n := 3)).1 (callsIn_of_wp_marks Try.func41 rfl trivial (wpIn_wide.2 ?_) rfl)
  simp only [Try.ntmps41, List.size_toArray, List.length_cons, List.length_nil, Nat.reduceAdd, Nat.reduceSub, Array.replicate_succ, Array.replicate_zero, List.push_toArray, List.append_toArray, List.nil_append, List.cons_append]
  go_wp2_with (go_at_call 68; refine H.out.mono ?_; clear H; rintro e w1 ⟨rfl, hb1⟩; have HB1 := Lib.hid hb1; clear hb1)
  refine leaves_marks w.heap.size [] _ (Marks.nil _ _) (fun W' hck hbk => ⟨.tuple #[.slice none 0 0, .int .i64 70], by simp [results, Try.results41, go_sem], rfl, ?_⟩)
  exact (HB1.out.alloc HB1.out.size _).trans hbk
end Go.Proofs.Ytceippgkmoijdaa
