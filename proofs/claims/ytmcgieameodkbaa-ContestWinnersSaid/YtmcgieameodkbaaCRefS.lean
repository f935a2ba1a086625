/- The document's own Sorted. Written by mk_CRefS.py. -/
import Derived.Test.YtmcgieameodkbaaCRefW
namespace Go.Proofs.Ytmcgieameodkbaa
open Go.RowKit Go.Shelf Go.Sort Go.Lib
set_option linter.unusedVariables false
set_option linter.unusedSimpArgs false
attribute [local go_sem] Oper.semAt_some

theorem wpList_valC {P : Program} {ops : Array Oper} {w : World} {Q : Exit → Act → World → Prop} {a : Act} {o : Oper} {rest : List Oper} (dst : Option Tmp) (hd : o.dst = dst) (hg : o.guard = none) (v : Value) (hr : (execOp a.eval o).run P w = .ok (.value v) w) (h : wpList P ops Q rest (a.put dst v) w) : wpList P ops Q (o :: rest) a w := by
  subst hd
  exact wpList_plain hg fun K hK => by
    unfold Oper.wp
    rw [hr]
    exact hK _ _ h
theorem wpList_appS {w : World} {ops : Array Oper} {rest : List Oper} {o : Oper} {a : Act} {Q : Exit → Act → World → Prop} (dst : Option Tmp) (hd : o.dst = dst) (hgd : o.guard = none) (s x : Operand) (ho : o.op = .call { callee := .builtin .append, args := #[s, x], argTypes := #[33, 33] })
    (base : Nat) (v : Value) (n : Nat) (xs : List Value) (hs : a.eval s = v) (hown : w.ownsRow base 26 6 v n xs) (A : Option Addr) (m c : Nat) (zs : List Si) (hx : a.eval x = .slice A m c) (hz : Sides w (.slice A m c) zs) (hm : zs.length = m) (hn : n + m ≤ 1000) (hbase : base ≤ w.heap.size)
    (h : ∀ v' w', w'.ownsRow base 26 6 v' (n + m) (xs ++ zs.flatMap Si.cells) → w.grownBy w' v.ownBlock → (v'.ownBlock = v.ownBlock ∨ v'.ownBlock = some w.heap.size) → wpList Try.prog ops Q rest (a.put dst v') w') : wpList Try.prog ops Q (o :: rest) a w := by
  obtain ⟨v', X', hr, h1, h2, h3⟩ := append_sides w base o.type v n xs hown A m c zs hz hm hn hbase
  exact wpList_plain hgd fun K hK => wp_append_runC dst hd s x _ ho _ _ _ hs hx hr (hK _ _ (h v' X' h1 h2 h3))
theorem Sides.takeK {W : World} {q : Option Addr} {n c k : Nat} {zs : List Si} (h : Sides W (.slice q n c) zs) (hn : zs.length = n) (hk : k ≤ n) : Sides W (.slice q k c) (zs.take k) := by
  obtain ⟨h1, ⟨a, cap, e, rfl⟩ | ⟨b, off, cap, e, hb, hc⟩⟩ := h
  · have : n = 0 := by simpa using hn.symm
    obtain rfl : k = 0 := by omega
    injection e with e1 e2 e3
    subst e1 e3
    exact ⟨by simp, .inl ⟨_, _, rfl, rfl⟩⟩
  · injection e with e1 e2 e3
    subst e1 e3
    refine ⟨by rw [List.length_take]; omega, .inr ⟨b, off, _, by rw [List.length_take, hn, Nat.min_eq_left hk], hb, fun j hj i v hv => ?_⟩⟩
    rw [List.length_take] at hj
    refine hc j (by omega) i v ?_
    rw [getElem!_pos zs j (by omega)]
    rw [getElem!_pos _ j (by rw [List.length_take]; exact hj), List.getElem_take] at hv
    exact hv
theorem Sides.dropK {W : World} {q : Option Addr} {n c k : Nat} {zs : List Si} (h : Sides W (.slice q n c) zs) (hn : zs.length = n) (hk : k ≤ n) (hnc : n ≤ c) : Sides W (.slice (if c = k then q else q.map (·.add (k * 6))) (n - k) (c - k)) (zs.drop k) := by
  by_cases hck : c = k
  · rw [if_pos hck, show n - k = 0 by omega]
    exact ⟨by rw [List.length_drop]; have := h.1; omega, .inl ⟨_, _, rfl, List.drop_eq_nil_of_le (by omega)⟩⟩
  · rw [if_neg hck]
    obtain ⟨h1, ⟨a, cap, e, rfl⟩ | ⟨b, off, cap, e, hb, hc⟩⟩ := h
    · have : n = 0 := by simpa using hn.symm
      rw [show n - k = 0 by omega]
      exact ⟨by simp, .inl ⟨_, _, rfl, by simp⟩⟩
    · injection e with e1 e2 e3
      subst e1 e3
      refine ⟨by rw [List.length_drop]; omega, .inr ⟨b, off + k * 6, c - k, by rw [List.length_drop, hn]; simp [Addr.add], hb, fun j hj i v hv => ?_⟩⟩
      rw [List.length_drop] at hj
      rw [show off + k * 6 + j * 6 + i = off + (k + j) * 6 + i by omega]
      refine hc (k + j) (by omega) i v ?_
      rw [getElem!_pos zs (k + j) (by omega)]
      rw [getElem!_pos _ j (by rw [List.length_drop]; exact hj), List.getElem_drop] at hv
      exact hv
/-- one more, put in before the first that it wins against -/
theorem IsSort.put {zs ds : List Si} {x : Si} {k : Nat} (h : IsSort zs ds) (h1 : ∀ j y, j < k → ds[j]? = some y → ¬ cmpS x y < 0) (h2 : ∀ y, ds[k]? = some y → cmpS x y < 0) : IsSort (zs ++ [x]) ((ds.take k ++ [x]) ++ ds.drop k) := by
  constructor
  · have hp : ((ds.take k ++ [x]) ++ ds.drop k).Perm (ds ++ [x]) := by
      rw [List.append_assoc]
      refine (List.Perm.append_left _ List.perm_append_comm).trans ?_
      rw [← List.append_assoc, List.take_append_drop]
    exact hp.trans (h.1.append_right _)
  · have hord := h.2
    unfold InOrder at hord ⊢
    have ht : (ds.take k).Pairwise fun a b => ¬ cmpS b a < 0 := hord.sublist (List.take_sublist _ _)
    have hd : (ds.drop k).Pairwise fun a b => ¬ cmpS b a < 0 := hord.sublist (List.drop_sublist _ _)
    have htd : ∀ a ∈ ds.take k, ∀ b ∈ ds.drop k, ¬ cmpS b a < 0 := by
      have := hord
      rw [← List.take_append_drop k ds] at this
      exact (List.pairwise_append.1 this).2.2
    have htx : ∀ a ∈ ds.take k, ¬ cmpS x a < 0 := fun a ha => by
      obtain ⟨j, hj⟩ := List.getElem?_of_mem ha
      have hjk : j < k := by have := (List.getElem?_eq_some_iff.1 hj).1; rw [List.length_take] at this; omega
      rw [List.getElem?_take_of_lt hjk] at hj
      exact h1 j a hjk hj
    have hxd : ∀ b ∈ ds.drop k, ¬ cmpS b x < 0 := fun b hb hlt => by
      obtain ⟨j, hj⟩ := List.getElem?_of_mem hb
      rw [List.getElem?_drop] at hj
      have hjl := (List.getElem?_eq_some_iff.1 hj).1
      have hk0 : ds[k]? = some ds[k] := List.getElem?_eq_getElem (by omega)
      have hx := h2 _ hk0
      have hlt2 := cmpS_trans hlt hx
      by_cases h0 : j = 0
      · subst h0
        rw [Nat.add_zero, hk0] at hj
        injection hj with hj
        rw [hj] at hlt2
        exact cmpS_irr _ hlt2
      · have hb2 := (List.getElem?_eq_some_iff.1 hj).2
        rw [← hb2] at hlt2
        exact List.pairwise_iff_getElem.1 hord k (k + j) (by omega) hjl (by omega) hlt2
    refine List.pairwise_append.2 ⟨List.pairwise_append.2 ⟨ht, List.pairwise_singleton _ _, fun a ha b hb => ?_⟩, hd, fun a ha b hb => ?_⟩
    · rw [List.mem_singleton] at hb; subst hb; exact htx a ha
    · rcases List.mem_append.1 ha with ha | ha
      · exact htd a ha b hb
      · rw [List.mem_singleton] at ha; subst ha; exact hxd b hb
theorem sides_one {W : World} {g t : Nat} {a : Si} (h : Whole W g t a.cells) : Sides W (.slice (some ⟨g, 0, none⟩) 1 1) [a] :=
  ⟨by simp, .inr ⟨g, 0, 1, rfl, h.lt, fun j hj i v hv => by
    obtain rfl : j = 0 := by simpa using hj
    have := h.cellAt i
    rw [show 0 + 0 * 6 + i = i by omega, this]; exact hv⟩⟩
/-- none of the first k is won against -/
def NoWin (outs : List Si) (x : Si) (k : Nat) : Prop := ∀ j y, j < k → outs[j]? = some y → ¬ cmpS x y < 0
/-- what Sorted answers -/
def SPost (W : World) (zs : List Si) (m : Nat) (e : Ending) (W' : World) : Prop := ((zs.all rightS = false ∧ e = .returned (.tuple #[.slice none 0 0, .int .i64 110])) ∨
      (zs.all rightS = true ∧ ∃ q c' ds, e = .returned (.tuple #[.slice q m c', .int .i64 0]) ∧ Sides W' (.slice q m c') ds ∧ IsSort zs ds)) ∧ Below W.heap.size W W'
/-- what lies in Sorted's memory at the start of a round -/
structure RS (W0 X : World) (zs : List Si) (i : Nat) (q : Option Addr) (n c : Nat) (outs : List Si) : Prop where
  lo : Below W0.heap.size W0 X
  sd : Sides X (.slice q n c) outs
  ln : outs.length = n
  cp : n ≤ c
  cx : c ≤ 9223372036854775807
  so : IsSort (zs.take i) outs
  al : (zs.take i).all rightS = true
  ni : n = i
set_option maxRecDepth 100000 in
set_option maxHeartbeats 8000000 in
theorem refSorted_any (p : Option Addr) (m c : Nat) (zs : List Si) (W : World) (hz : Sides W (.slice p m c) zs) (hm : zs.length = m) (hm60 : m ≤ 60) :
    Calls Try.prog 20 #[.slice p m c] W fun e W' => SPost W zs m e W' := by
  have HZ := Lib.hid hz
  have HM := Lib.hid hm
  have HCZ : Hid (∀ X, Below W.heap.size W X → ∀ j x, zs[j]? = some x → ∃ b off, p = some ⟨b, off, none⟩ ∧ b < W.heap.size ∧ ∀ i v, x.cells[i]? = some v → X.cell? ⟨b, off + j * 6 + i, none⟩ = some v) := Lib.hid (fun X hX j x hx => by
    obtain ⟨b, off, e, hb, hc⟩ := hz.at j x hx
    exact ⟨b, off, e, hb, fun i v hv => (hX.cell (p := ⟨b, off + j * 6 + i, none⟩) hb).trans (hc i v hv)⟩)
  clear hz hm
  go_enter Try.func20, Try.ntmps20
  go_wp2
  go_loopw [4, 5] (fun s4 s5 X => ∃ (i : Nat) (q : Option Addr) (c' : Nat) (outs : List Si), i ≤ m ∧ s5 = .int .i64 (i : Int) ∧ s4 = .slice q i c' ∧ Hid (RS W X zs i q i c' outs)) (fun _ s5 _ => m - (intOf s5).toNat)
  case atStart => exact ⟨0, none, 0, [], Nat.zero_le _, rfl, rfl, Lib.hid ⟨Below.refl _ _, ⟨by simp, .inl ⟨_, _, rfl, rfl⟩⟩, rfl, Nat.le_refl _, by omega, ⟨List.Perm.refl _, List.Pairwise.nil⟩, rfl, rfl⟩⟩
  case round =>
    obtain ⟨i, q, c', outs, hi, rfl, rfl, HR⟩ := hrel
    obtain ⟨V, hV⟩ : ∃ V, V = wr := ⟨_, rfl⟩
    subst hV
    by_cases hlt : i < m
    · have hltz : (i : Int) < (m : Int) := by omega
      obtain ⟨x, hx⟩ : ∃ x, zs[i]? = some x := ⟨_, List.getElem?_eq_getElem (by have := HM.out; omega)⟩
      obtain ⟨b, off, hp, hbl, hcx⟩ := HCZ.out V HR.out.lo i x hx
      subst hp
      have HC1 : Hid (∀ X, Below V.heap.size V X → ∀ t v, x.cells[t]? = some v → X.cell? ⟨b, off + i * 6 + t, none⟩ = some v) := Lib.hid (fun X hX t v hv => (hX.cell (p := ⟨b, off + i * 6 + t, none⟩) (by have := HR.out.lo.size; show b < V.heap.size; omega)).trans (hcx t v hv))
      have HBL : Hid (b < V.heap.size) := Lib.hid (by have := HR.out.lo.size; omega)
      have HTK := Lib.hid (take_snocC zs i x hx)
      have HXX := Lib.hid hx
      obtain ⟨qr, hq⟩ : ∃ q, rightS x = q := ⟨_, rfl⟩
      have hrr := fun X => refRight_any x X
      rw [hq] at hrr
      have HQ := Lib.hid hq
      have HWW := Lib.hid (fun y X => refWins_any x y X)
      clear hx hcx hq hbl
      obtain ⟨st, wd, co, bb, ro, cl⟩ := x
      unfold Si.val at hrr
      dsimp only at hrr
      have HRR := Lib.hid hrr
      clear hrr
      have u0 : V.cell? ⟨b, off + i * 6, none⟩ = some (.int .i64 st) := HC1.out V (Below.refl _ V) 0 _ rfl
      have u1 : V.cell? ⟨b, off + i * 6 + 1, none⟩ = some (.int .i64 wd) := HC1.out V (Below.refl _ V) 1 _ rfl
      have u2 : V.cell? ⟨b, off + i * 6 + 2, none⟩ = some (.int .u32 co) := HC1.out V (Below.refl _ V) 2 _ rfl
      have u3 : V.cell? ⟨b, off + i * 6 + 3, none⟩ = some (.int .i64 bb) := HC1.out V (Below.refl _ V) 3 _ rfl
      have u4 : V.cell? ⟨b, off + i * 6 + 4, none⟩ = some (.int .i64 ro) := HC1.out V (Below.refl _ V) 4 _ rfl
      have u5 : V.cell? ⟨b, off + i * 6 + 5, none⟩ = some (.int .i64 cl) := HC1.out V (Below.refl _ V) 5 _ rfl
      have lX : b < V.heap.size := HBL.out
      go_wp2_with fail
      refine (HRR.out _).mono ?_
      rintro e w1 ⟨rfl, hb1⟩
      have HX1 := Lib.hid hb1
      clear hb1 u0 u1 u2 u3 u4 u5 lX HRR
      cases qr with
      | false =>
        go_wp2
        refine bodyPost_ret (v := .tuple #[.slice none 0 0, .int .i64 110]) (by simp [results, Try.results20, go_sem]) rfl ⟨.inl ⟨?_, rfl⟩, HR.out.lo.trans (HX1.out.mono HR.out.lo.size)⟩
        cases hq : zs.all rightS with
        | false => rfl
        | true => have := List.all_eq_true.1 hq _ (List.mem_of_getElem? HXX.out); rw [HQ.out] at this; cases this
      | true =>
        go_wp2
        -- the place
        go_loopw [7] (fun s7 X => ∃ k : Nat, k ≤ i ∧ s7 = .int .i64 (k : Int) ∧ Hid (Below V.heap.size V X) ∧ Hid (NoWin outs ⟨st, wd, co, bb, ro, cl⟩ k)) (fun s7 _ => i - (intOf s7).toNat)
        case atStart => exact ⟨0, Nat.zero_le _, rfl, HX1, Lib.hid (fun j y hj => by omega)⟩
        case round =>
          clear HX1
          obtain ⟨k, hk, rfl, HX2, HLO⟩ := hrel
          by_cases hki : k < i
          · have hkz : (k : Int) < (i : Int) := by omega
            obtain ⟨y, hy⟩ : ∃ y, outs[k]? = some y := ⟨_, List.getElem?_eq_getElem (by have := HR.out.ln; omega)⟩
            obtain ⟨b2, off2, hq2, hb2, hc2⟩ := HR.out.sd.at k y hy
            subst hq2
            have HB2L := Lib.hid hb2
            have HC2 : Hid (∀ X, Below V.heap.size V X → ∀ t v, y.cells[t]? = some v → X.cell? ⟨b2, off2 + k * 6 + t, none⟩ = some v) := Lib.hid (fun X hX t v hv => (hX.cell (p := ⟨b2, off2 + k * 6 + t, none⟩) HB2L.out).trans (hc2 t v hv))
            have hww := fun X => HWW.out y X
            obtain ⟨d, hd⟩ : ∃ d, decide (cmpS ⟨st, wd, co, bb, ro, cl⟩ y < 0) = d := ⟨_, rfl⟩
            rw [hd] at hww
            have HD := Lib.hid hd
            have HY := Lib.hid hy
            clear hy hb2 hc2 hd
            obtain ⟨st', wd', co', bb', ro', cl'⟩ := y
            unfold Si.val at hww
            dsimp only at hww
            have HW2 := Lib.hid hww
            clear hww
            go_wp2_with fail
            refine region_held_atC (S := fun X => Hid (Below V.heap.size V X)) (by kernel_rfl) (fun w5 hw5 => ?_)
            have SV : Hid (Below V.heap.size V w5) := Lib.hid (by rw [← hw5]; exact ⟨HX2.out.os, HX2.out.tape, HX2.out.output, HX2.out.size, HX2.out.block⟩)
            clear hw5
            try simp only [Act.put, List.setIfInBounds_toArray, List.set_cons_succ, List.set_cons_zero]
            refine wpAnyH_takeC (i := 0) (v := .int .i64 (k : Int)) (some 22) rfl rfl (by kernel_rfl) (by kernel_rfl) (by kernel_rfl) (fun _ _ _ h => h) (Or.inl ⟨by rfl, fun X hX => by go_simp⟩) SV ?_
            try simp only [Act.put, List.setIfInBounds_toArray, List.set_cons_succ, List.set_cons_zero]
            refine wpAnyH_takeC (i := 1) (v := .slice (some ⟨b2, off2, none⟩) i c') (some 23) rfl rfl (by kernel_rfl) (by kernel_rfl) (by kernel_rfl) (fun _ _ _ h => h) (Or.inl ⟨by rfl, fun X hX => by go_simp⟩) SV ?_
            try simp only [Act.put, List.setIfInBounds_toArray, List.set_cons_succ, List.set_cons_zero]
            refine wpAnyH_takeC (i := 2) (v := .int .i64 (i : Int)) (some 24) rfl rfl (by kernel_rfl) (by kernel_rfl) (by kernel_rfl) (fun _ _ _ h => h) (Or.inl ⟨by rfl, fun X hX => by go_simp⟩) SV ?_
            try simp only [Act.put, List.setIfInBounds_toArray, List.set_cons_succ, List.set_cons_zero]
            refine wpAnyH_takeC (i := 3) (v := .bool true) (some 25) rfl rfl (by kernel_rfl) (by kernel_rfl) (by kernel_rfl) (fun _ _ _ h => h) (Or.inl ⟨by rfl, fun X hX => by go_simp⟩) SV ?_
            try simp only [Act.put, List.setIfInBounds_toArray, List.set_cons_succ, List.set_cons_zero]
            refine wpAnyH_takeC (i := 4) (v := .bool true) (some 26) rfl rfl (by kernel_rfl) (by kernel_rfl) (by kernel_rfl) (fun _ _ _ h => h) (Or.inl ⟨by rfl, fun X hX => by go_simp⟩) SV ?_
            try simp only [Act.put, List.setIfInBounds_toArray, List.set_cons_succ, List.set_cons_zero]
            refine wpAnyH_takeC (i := 5) (v := .slice (some ⟨b, off, none⟩) m c) (some 27) rfl rfl (by kernel_rfl) (by kernel_rfl) (by kernel_rfl) (fun _ _ _ h => h) (Or.inl ⟨by rfl, fun X hX => by go_simp⟩) SV ?_
            try simp only [Act.put, List.setIfInBounds_toArray, List.set_cons_succ, List.set_cons_zero]
            refine wpAnyH_takeC (i := 6) (v := .int .i64 (i : Int)) (some 28) rfl rfl (by kernel_rfl) (by kernel_rfl) (by kernel_rfl) (fun _ _ _ h => h) (Or.inl ⟨by rfl, fun X hX => by go_simp⟩) SV ?_
            try simp only [Act.put, List.setIfInBounds_toArray, List.set_cons_succ, List.set_cons_zero]
            refine wpAnyH_takeC (i := 7) (v := .pointer (some ⟨b, off + i * 6, none⟩)) (some 29) rfl rfl (by kernel_rfl) (by kernel_rfl) (by kernel_rfl) (fun _ _ _ h => h) (Or.inl ⟨by rfl, fun X hX => by go_simp⟩) SV ?_
            try simp only [Act.put, List.setIfInBounds_toArray, List.set_cons_succ, List.set_cons_zero]
            refine wpAnyH_takeC (i := 8) (v := .agg #[.int .i64 st, .int .i64 wd, .int .u32 co, .int .i64 bb, .int .i64 ro, .int .i64 cl]) (some 30) rfl rfl (by kernel_rfl) (by kernel_rfl) (by kernel_rfl) (fun _ _ _ h => h) (Or.inl ⟨by rfl, fun X hX => by have u0 : X.cell? ⟨b, off + i * 6, none⟩ = some (.int .i64 st) := HC1.out X hX.out 0 _ rfl; have u1 : X.cell? ⟨b, off + i * 6 + 1, none⟩ = some (.int .i64 wd) := HC1.out X hX.out 1 _ rfl; have u2 : X.cell? ⟨b, off + i * 6 + 2, none⟩ = some (.int .u32 co) := HC1.out X hX.out 2 _ rfl; have u3 : X.cell? ⟨b, off + i * 6 + 3, none⟩ = some (.int .i64 bb) := HC1.out X hX.out 3 _ rfl; have u4 : X.cell? ⟨b, off + i * 6 + 4, none⟩ = some (.int .i64 ro) := HC1.out X hX.out 4 _ rfl; have u5 : X.cell? ⟨b, off + i * 6 + 5, none⟩ = some (.int .i64 cl) := HC1.out X hX.out 5 _ rfl; have lX : b < X.heap.size := Nat.lt_of_lt_of_le HBL.out hX.out.size; go_simp⟩) SV ?_
            try simp only [Act.put, List.setIfInBounds_toArray, List.set_cons_succ, List.set_cons_zero]
            refine wpAnyH_takeC (i := 9) (v := .slice (some ⟨b2, off2, none⟩) i c') (some 31) rfl rfl (by kernel_rfl) (by kernel_rfl) (by kernel_rfl) (fun _ _ _ h => h) (Or.inl ⟨by rfl, fun X hX => by go_simp⟩) SV ?_
            try simp only [Act.put, List.setIfInBounds_toArray, List.set_cons_succ, List.set_cons_zero]
            refine wpAnyH_takeC (i := 10) (v := .int .i64 (k : Int)) (some 32) rfl rfl (by kernel_rfl) (by kernel_rfl) (by kernel_rfl) (fun _ _ _ h => h) (Or.inl ⟨by rfl, fun X hX => by go_simp⟩) SV ?_
            try simp only [Act.put, List.setIfInBounds_toArray, List.set_cons_succ, List.set_cons_zero]
            refine wpAnyH_takeC (i := 11) (v := .pointer (some ⟨b2, off2 + k * 6, none⟩)) (some 33) rfl rfl (by kernel_rfl) (by kernel_rfl) (by kernel_rfl) (fun _ _ _ h => h) (Or.inl ⟨by rfl, fun X hX => by go_simp⟩) SV ?_
            try simp only [Act.put, List.setIfInBounds_toArray, List.set_cons_succ, List.set_cons_zero]
            refine wpAnyH_takeC (i := 12) (v := .agg #[.int .i64 st', .int .i64 wd', .int .u32 co', .int .i64 bb', .int .i64 ro', .int .i64 cl']) (some 34) rfl rfl (by kernel_rfl) (by kernel_rfl) (by kernel_rfl) (fun _ _ _ h => h) (Or.inl ⟨by rfl, fun X hX => by have u0 : X.cell? ⟨b2, off2 + k * 6, none⟩ = some (.int .i64 st') := HC2.out X hX.out 0 _ rfl; have u1 : X.cell? ⟨b2, off2 + k * 6 + 1, none⟩ = some (.int .i64 wd') := HC2.out X hX.out 1 _ rfl; have u2 : X.cell? ⟨b2, off2 + k * 6 + 2, none⟩ = some (.int .u32 co') := HC2.out X hX.out 2 _ rfl; have u3 : X.cell? ⟨b2, off2 + k * 6 + 3, none⟩ = some (.int .i64 bb') := HC2.out X hX.out 3 _ rfl; have u4 : X.cell? ⟨b2, off2 + k * 6 + 4, none⟩ = some (.int .i64 ro') := HC2.out X hX.out 4 _ rfl; have u5 : X.cell? ⟨b2, off2 + k * 6 + 5, none⟩ = some (.int .i64 cl') := HC2.out X hX.out 5 _ rfl; have lX : b2 < X.heap.size := Nat.lt_of_lt_of_le HB2L.out hX.out.size; go_simp⟩) SV ?_

            refine wpAnyH_all (rs := [13]) (by kernel_rfl) (by simp) ?_
            intro ii hii; obtain rfl : ii = 13 := by simpa using hii
            clear hii
            refine wpOp_step rfl (fun K hK => ?_)
            go_simp
            refine (HW2.out _).mono ?_
            rintro e w6 ⟨rfl, hb6⟩
            have HB6 : Hid (Below V.heap.size V w6) := Lib.hid (SV.out.trans (hb6.mono SV.out.size))
            refine hK _ _ ⟨HB6, ?_⟩
            clear hK K hb6 SV
            have SV := HB6
            try simp only [Act.put, List.setIfInBounds_toArray, List.set_cons_succ, List.set_cons_zero]
            refine wpAnyH_takeC (i := 14) (v := .bool (!d)) (some 36) rfl rfl (by kernel_rfl) (by kernel_rfl) (by kernel_rfl) (fun _ _ _ h => h) (Or.inl ⟨by rfl, fun X hX => by go_simp⟩) SV ?_
            try simp only [Act.put, List.setIfInBounds_toArray, List.set_cons_succ, List.set_cons_zero]
            refine wpAnyH_takeC (i := 15) (v := .bool (!d)) (some 37) rfl rfl (by kernel_rfl) (by kernel_rfl) (by kernel_rfl) (fun _ _ _ h => h) (Or.inl ⟨by rfl, fun X hX => by go_simp⟩) SV ?_

            try simp only [Act.put, List.setIfInBounds_toArray, List.set_cons_succ, List.set_cons_zero]
            refine wpAnyH_done (by kernel_rfl) ?_ _
            clear SV
            cases d with
            | false =>
              go_wp2
              go_roundw
              case rel => exact ⟨k + 1, by omega, by go_num, HB6, Lib.hid (fun j y hj hy => by
                by_cases e : j = k
                · subst e; rw [HY.out] at hy; injection hy with hy; subst hy; exact of_decide_eq_false HD.out
                · exact HLO.out j y (by omega) hy)⟩
              case measure => simp [intOf]; omega
            | true =>
              have HHI : Hid (∀ y, outs[k]? = some y → cmpS ⟨st, wd, co, bb, ro, cl⟩ y < 0) := Lib.hid (fun y hy => by rw [HY.out] at hy; injection hy with hy; subst hy; exact of_decide_eq_true HD.out)
              clear HD HY HC2 HW2 hkz
              have hck : ¬ c' = k := by have := HR.out.cp; omega
              have HTA := Lib.hid ((HR.out.sd.takeK HR.out.ln hk).below HB6.out)
              have HDR := Lib.hid (fun X (hX : Below V.heap.size V X) => (HR.out.sd.dropK HR.out.ln hk HR.out.cp).below hX)
              have HLT := Lib.hid (show (outs.take k).length = k by rw [List.length_take, HR.out.ln, Nat.min_eq_left hk])
              have HLD := Lib.hid (show (outs.drop k).length = i - k by rw [List.length_drop, HR.out.ln])
              have HCP := Lib.hid (show k ≤ c' from Nat.le_trans hk HR.out.cp)
              have hc1 := fun t v hv => HC1.out w6 HB6.out t v hv
              have HBX := Lib.hid (show b < w6.heap.size by have := HB6.out.size; have := HBL.out; omega)
              have HSO := Lib.hid (HR.out.so.put HLO.out HHI.out)
              obtain ⟨L, hL⟩ : ∃ L, w6.heap.size = L := ⟨_, rfl⟩
              have HL := Lib.hid hL
              have HLW := Lib.hid (show V.heap.size ≤ L by rw [← hL]; exact HB6.out.size)
              clear hL
              go_wp2_with (with_reducible refine wpList_valC (some 43) rfl rfl _ (exec_sliceZ_h 6 33 _ _ rfl 26 Try.underlying33 (Try.sizeOf26 _) (some (⟨b2, off2, none⟩ : Addr)) i c' k rfl rfl HCP.out) ?_; refine Hid.out ?_)
              refine Lib.hid ?_
              go_wp2_with (at_builtin; refine Hid.out ?_)
              refine Lib.hid ?_
              refine wpList_appS (some 44) rfl rfl _ _ rfl L (.slice none 0 0) 0 [] rfl (World.ownsRow_nil _ _ _ _) (some (⟨b2, off2, none⟩ : Addr)) k c' (outs.take k) rfl HTA.out HLT.out (by omega) (by rw [HL.out]; exact Nat.le_refl _) ?_
              intro v1 X1 ho1 hg1 ha1
              have hb1 : Below V.heap.size V X1 := HB6.out.grown hg1 (by rw [HL.out]; exact HLW.out) (fun z e => by cases e)
              rw [Nat.zero_add, List.nil_append] at ho1
              obtain ⟨q1, c1, rfl, _, _⟩ := own_formC ho1
              have HO1 := Lib.hid ho1
              have hL1 : L ≤ X1.heap.size := by have := hg1.size; rw [HL.out] at this; exact this
              have HL1 := Lib.hid hL1
              have HB1 := Lib.hid hb1
              have d0 : X1.cell? ⟨b, off + i * 6, none⟩ = some (.int .i64 st) := HC1.out X1 hb1 0 _ rfl
              have d1 : X1.cell? ⟨b, off + i * 6 + 1, none⟩ = some (.int .i64 wd) := HC1.out X1 hb1 1 _ rfl
              have d2 : X1.cell? ⟨b, off + i * 6 + 2, none⟩ = some (.int .u32 co) := HC1.out X1 hb1 2 _ rfl
              have d3 : X1.cell? ⟨b, off + i * 6 + 3, none⟩ = some (.int .i64 bb) := HC1.out X1 hb1 3 _ rfl
              have d4 : X1.cell? ⟨b, off + i * 6 + 4, none⟩ = some (.int .i64 ro) := HC1.out X1 hb1 4 _ rfl
              have d5 : X1.cell? ⟨b, off + i * 6 + 5, none⟩ = some (.int .i64 cl) := HC1.out X1 hb1 5 _ rfl
              have ld : b < X1.heap.size := by have := hb1.size; have := HBL.out; omega
              clear ho1 hg1 ha1 hL1 hb1 hc1 HTA HBX
              go_wp2_with (at_builtin; refine Hid.out ?_)
              refine Lib.hid ?_
              refine wpList_appS (some 51) rfl rfl _ _ rfl L _ k _ rfl (HO1.out.alloc _) (some ⟨X1.heap.size, 0, none⟩) 1 1 [⟨st, wd, co, bb, ro, cl⟩] rfl (sides_one (t := 26) (whole_new X1 _ _ _ rfl)) rfl (by omega) (by have := HL1.out; simp; omega) ?_
              intro v2 X2 ho2 hg2 ha2
              have hal := (Below.refl X1.heap.size X1).alloc (Nat.le_refl _) (.cells #[.int .i64 st, .int .i64 wd, .int .u32 co, .int .i64 bb, .int .i64 ro, .int .i64 cl] 26)
              have hb2 : Below L X1 X2 := own_below (hal.mono HL1.out) (HO1.out.alloc _) (Nat.le_refl _) hg2 (by have := HL1.out; simp; omega)
              obtain ⟨q2, c2, rfl, _, _⟩ := own_formC ho2
              have HO2 := Lib.hid ho2
              have HB2 := Lib.hid (HB1.out.trans (hb2.mono HLW.out))
              have HL2 := Lib.hid (Nat.le_trans HL1.out hb2.size)
              have HDR2 := Lib.hid (HDR.out X2 HB2.out)
              clear ho2 hg2 ha2 hal hb2 HO1 HB1 HDR d0 d1 d2 d3 d4 d5 ld
              go_wp2_with (at_builtin; refine Hid.out ?_)
              refine Lib.hid ?_
              refine wpList_appS (some 56) rfl rfl _ _ rfl L _ (k + 1) _ rfl HO2.out _ _ _ (outs.drop k) rfl (by have h := HDR2.out; rw [if_neg hck] at h; first | exact h | (simpa only [Option.map_some, add_plainC] using h)) (by have := HLD.out; omega) (by omega) HL2.out ?_
              intro v3 X3 ho3 hg3 ha3
              have hb3 : Below L X2 X3 := own_below ((Below.refl L X2)) HO2.out (Nat.le_refl _) hg3 HL2.out
              obtain ⟨q3, c3, rfl, hc3, hc3x⟩ := own_formC ho3
              have HB3 := Lib.hid (HB2.out.trans (hb3.mono HLW.out))
              first | rw [show k + 1 + (i - k) = i + 1 by omega] at ho3 hc3 ⊢ | rw [Nat.add_zero] at ho3 hc3 ⊢
              have HOO : Hid (Sides X3 (.slice q3 (i + 1) c3) ((outs.take k ++ [⟨st, wd, co, bb, ro, cl⟩]) ++ outs.drop k)) := Lib.hid (own_sidesC (base := L) (by
                have e : ((outs.take k ++ [(⟨st, wd, co, bb, ro, cl⟩ : Si)]) ++ outs.drop k).length = i + 1 := by rw [List.length_append, List.length_append, HLT.out, HLD.out] <;> (simp <;> omega)
                rw [e]
                simpa [List.flatMap_append] using ho3) (by rw [List.length_append, List.length_append, HLT.out, HLD.out] <;> (simp <;> omega)))
              clear ho3 hg3 ha3 hb3 HO2 HB2 HDR2
              go_wp2
              go_roundw
              case rel => exact ⟨i + 1, q3, c3, _, by omega, by go_num, by first | rfl | simp, Lib.hid ⟨HR.out.lo.trans (HB3.out.mono HR.out.lo.size), HOO.out, by rw [List.length_append, List.length_append, HLT.out, HLD.out] <;> (simp <;> omega), hc3, hc3x, by rw [HTK.out]; exact HSO.out, by rw [HTK.out, List.all_append, HR.out.al]; simp [HQ.out], rfl⟩⟩
              case measure => simp [intOf]; omega
          · have hkz : ¬ (k : Int) < (i : Int) := by omega
            have HHI : Hid (∀ y, outs[k]? = some y → cmpS ⟨st, wd, co, bb, ro, cl⟩ y < 0) := Lib.hid (fun y hy => by have := (List.getElem?_eq_some_iff.1 hy).1; have := HR.out.ln; omega)
            go_wp2_with fail
            go_quiet (fail)
            have HB6 : Hid (Below V.heap.size V (wr.drewN nq)) := Lib.hid (HX2.out.trans (below_dn _ _ _))
            clear HX2
            generalize wr.drewN nq = w6 at HB6 ⊢
            have hik : k = i := by omega
            by_cases hck : c' = k
            · subst hik
              subst hck
              have HTA := Lib.hid ((HR.out.sd.takeK HR.out.ln hk).below HB6.out)
              have HDR := Lib.hid (fun X (hX : Below V.heap.size V X) => (HR.out.sd.dropK HR.out.ln hk HR.out.cp).below hX)
              have HLT := Lib.hid (show (outs.take c').length = c' by rw [List.length_take, HR.out.ln, Nat.min_eq_left hk])
              have HLD := Lib.hid (show (outs.drop c').length = c' - c' by rw [List.length_drop, HR.out.ln])
              have HCP := Lib.hid (show c' ≤ c' from Nat.le_trans hk HR.out.cp)
              have hc1 := fun t v hv => HC1.out w6 HB6.out t v hv
              have HBX := Lib.hid (show b < w6.heap.size by have := HB6.out.size; have := HBL.out; omega)
              have HSO := Lib.hid (HR.out.so.put HLO.out HHI.out)
              obtain ⟨L, hL⟩ : ∃ L, w6.heap.size = L := ⟨_, rfl⟩
              have HL := Lib.hid hL
              have HLW := Lib.hid (show V.heap.size ≤ L by rw [← hL]; exact HB6.out.size)
              clear hL
              go_wp2_with (with_reducible refine wpList_valC (some 43) rfl rfl _ (exec_sliceZ_h 6 33 _ _ rfl 26 Try.underlying33 (Try.sizeOf26 _) q c' c' c' rfl rfl HCP.out) ?_; refine Hid.out ?_)
              refine Lib.hid ?_
              go_wp2_with (at_builtin; refine Hid.out ?_)
              refine Lib.hid ?_
              refine wpList_appS (some 44) rfl rfl _ _ rfl L (.slice none 0 0) 0 [] rfl (World.ownsRow_nil _ _ _ _) q c' c' (outs.take c') rfl HTA.out HLT.out (by omega) (by rw [HL.out]; exact Nat.le_refl _) ?_
              intro v1 X1 ho1 hg1 ha1
              have hb1 : Below V.heap.size V X1 := HB6.out.grown hg1 (by rw [HL.out]; exact HLW.out) (fun z e => by cases e)
              rw [Nat.zero_add, List.nil_append] at ho1
              obtain ⟨q1, c1, rfl, _, _⟩ := own_formC ho1
              have HO1 := Lib.hid ho1
              have hL1 : L ≤ X1.heap.size := by have := hg1.size; rw [HL.out] at this; exact this
              have HL1 := Lib.hid hL1
              have HB1 := Lib.hid hb1
              have d0 : X1.cell? ⟨b, off + c' * 6, none⟩ = some (.int .i64 st) := HC1.out X1 hb1 0 _ rfl
              have d1 : X1.cell? ⟨b, off + c' * 6 + 1, none⟩ = some (.int .i64 wd) := HC1.out X1 hb1 1 _ rfl
              have d2 : X1.cell? ⟨b, off + c' * 6 + 2, none⟩ = some (.int .u32 co) := HC1.out X1 hb1 2 _ rfl
              have d3 : X1.cell? ⟨b, off + c' * 6 + 3, none⟩ = some (.int .i64 bb) := HC1.out X1 hb1 3 _ rfl
              have d4 : X1.cell? ⟨b, off + c' * 6 + 4, none⟩ = some (.int .i64 ro) := HC1.out X1 hb1 4 _ rfl
              have d5 : X1.cell? ⟨b, off + c' * 6 + 5, none⟩ = some (.int .i64 cl) := HC1.out X1 hb1 5 _ rfl
              have ld : b < X1.heap.size := by have := hb1.size; have := HBL.out; omega
              clear ho1 hg1 ha1 hL1 hb1 hc1 HTA HBX
              go_wp2_with (at_builtin; refine Hid.out ?_)
              refine Lib.hid ?_
              refine wpList_appS (some 51) rfl rfl _ _ rfl L _ c' _ rfl (HO1.out.alloc _) (some ⟨X1.heap.size, 0, none⟩) 1 1 [⟨st, wd, co, bb, ro, cl⟩] rfl (sides_one (t := 26) (whole_new X1 _ _ _ rfl)) rfl (by omega) (by have := HL1.out; simp; omega) ?_
              intro v2 X2 ho2 hg2 ha2
              have hal := (Below.refl X1.heap.size X1).alloc (Nat.le_refl _) (.cells #[.int .i64 st, .int .i64 wd, .int .u32 co, .int .i64 bb, .int .i64 ro, .int .i64 cl] 26)
              have hb2 : Below L X1 X2 := own_below (hal.mono HL1.out) (HO1.out.alloc _) (Nat.le_refl _) hg2 (by have := HL1.out; simp; omega)
              obtain ⟨q2, c2, rfl, _, _⟩ := own_formC ho2
              have HO2 := Lib.hid ho2
              have HB2 := Lib.hid (HB1.out.trans (hb2.mono HLW.out))
              have HL2 := Lib.hid (Nat.le_trans HL1.out hb2.size)
              have HDR2 := Lib.hid (HDR.out X2 HB2.out)
              clear ho2 hg2 ha2 hal hb2 HO1 HB1 HDR d0 d1 d2 d3 d4 d5 ld
              go_wp2_with (at_builtin; refine Hid.out ?_)
              refine Lib.hid ?_
              refine wpList_appS (some 56) rfl rfl _ _ rfl L _ (c' + 1) _ rfl HO2.out _ _ _ (outs.drop c') rfl (⟨by rw [HLD.out]; omega, .inl ⟨_, _, rfl, List.drop_eq_nil_of_le (by rw [HR.out.ln]; exact Nat.le_refl _)⟩⟩) (by have := HLD.out; omega) (by omega) HL2.out ?_
              intro v3 X3 ho3 hg3 ha3
              have hb3 : Below L X2 X3 := own_below ((Below.refl L X2)) HO2.out (Nat.le_refl _) hg3 HL2.out
              obtain ⟨q3, c3, rfl, hc3, hc3x⟩ := own_formC ho3
              have HB3 := Lib.hid (HB2.out.trans (hb3.mono HLW.out))
              first | rw [show c' + 1 + (c' - c') = c' + 1 by omega] at ho3 hc3 ⊢ | rw [Nat.add_zero] at ho3 hc3 ⊢
              have HOO : Hid (Sides X3 (.slice q3 (c' + 1) c3) ((outs.take c' ++ [⟨st, wd, co, bb, ro, cl⟩]) ++ outs.drop c')) := Lib.hid (own_sidesC (base := L) (by
                have e : ((outs.take c' ++ [(⟨st, wd, co, bb, ro, cl⟩ : Si)]) ++ outs.drop c').length = c' + 1 := by rw [List.length_append, List.length_append, HLT.out, HLD.out] <;> (simp <;> omega)
                rw [e]
                simpa [List.flatMap_append] using ho3) (by rw [List.length_append, List.length_append, HLT.out, HLD.out] <;> (simp <;> omega)))
              clear ho3 hg3 ha3 hb3 HO2 HB2 HDR2
              go_wp2
              go_roundw
              case rel => exact ⟨c' + 1, q3, c3, _, by omega, by go_num, by first | rfl | simp, Lib.hid ⟨HR.out.lo.trans (HB3.out.mono HR.out.lo.size), HOO.out, by rw [List.length_append, List.length_append, HLT.out, HLD.out] <;> (simp <;> omega), hc3, hc3x, by rw [HTK.out]; exact HSO.out, by rw [HTK.out, List.all_append, HR.out.al]; simp [HQ.out], rfl⟩⟩
              case measure => simp [intOf]; omega
            · clear hik
              have HTA := Lib.hid ((HR.out.sd.takeK HR.out.ln hk).below HB6.out)
              have HDR := Lib.hid (fun X (hX : Below V.heap.size V X) => (HR.out.sd.dropK HR.out.ln hk HR.out.cp).below hX)
              have HLT := Lib.hid (show (outs.take k).length = k by rw [List.length_take, HR.out.ln, Nat.min_eq_left hk])
              have HLD := Lib.hid (show (outs.drop k).length = i - k by rw [List.length_drop, HR.out.ln])
              have HCP := Lib.hid (show k ≤ c' from Nat.le_trans hk HR.out.cp)
              have hc1 := fun t v hv => HC1.out w6 HB6.out t v hv
              have HBX := Lib.hid (show b < w6.heap.size by have := HB6.out.size; have := HBL.out; omega)
              have HSO := Lib.hid (HR.out.so.put HLO.out HHI.out)
              obtain ⟨L, hL⟩ : ∃ L, w6.heap.size = L := ⟨_, rfl⟩
              have HL := Lib.hid hL
              have HLW := Lib.hid (show V.heap.size ≤ L by rw [← hL]; exact HB6.out.size)
              clear hL
              go_wp2_with (with_reducible refine wpList_valC (some 43) rfl rfl _ (exec_sliceZ_h 6 33 _ _ rfl 26 Try.underlying33 (Try.sizeOf26 _) q i c' k rfl rfl HCP.out) ?_; refine Hid.out ?_)
              refine Lib.hid ?_
              go_wp2_with (at_builtin; refine Hid.out ?_)
              refine Lib.hid ?_
              refine wpList_appS (some 44) rfl rfl _ _ rfl L (.slice none 0 0) 0 [] rfl (World.ownsRow_nil _ _ _ _) q k c' (outs.take k) rfl HTA.out HLT.out (by omega) (by rw [HL.out]; exact Nat.le_refl _) ?_
              intro v1 X1 ho1 hg1 ha1
              have hb1 : Below V.heap.size V X1 := HB6.out.grown hg1 (by rw [HL.out]; exact HLW.out) (fun z e => by cases e)
              rw [Nat.zero_add, List.nil_append] at ho1
              obtain ⟨q1, c1, rfl, _, _⟩ := own_formC ho1
              have HO1 := Lib.hid ho1
              have hL1 : L ≤ X1.heap.size := by have := hg1.size; rw [HL.out] at this; exact this
              have HL1 := Lib.hid hL1
              have HB1 := Lib.hid hb1
              have d0 : X1.cell? ⟨b, off + i * 6, none⟩ = some (.int .i64 st) := HC1.out X1 hb1 0 _ rfl
              have d1 : X1.cell? ⟨b, off + i * 6 + 1, none⟩ = some (.int .i64 wd) := HC1.out X1 hb1 1 _ rfl
              have d2 : X1.cell? ⟨b, off + i * 6 + 2, none⟩ = some (.int .u32 co) := HC1.out X1 hb1 2 _ rfl
              have d3 : X1.cell? ⟨b, off + i * 6 + 3, none⟩ = some (.int .i64 bb) := HC1.out X1 hb1 3 _ rfl
              have d4 : X1.cell? ⟨b, off + i * 6 + 4, none⟩ = some (.int .i64 ro) := HC1.out X1 hb1 4 _ rfl
              have d5 : X1.cell? ⟨b, off + i * 6 + 5, none⟩ = some (.int .i64 cl) := HC1.out X1 hb1 5 _ rfl
              have ld : b < X1.heap.size := by have := hb1.size; have := HBL.out; omega
              clear ho1 hg1 ha1 hL1 hb1 hc1 HTA HBX
              go_wp2_with (at_builtin; refine Hid.out ?_)
              refine Lib.hid ?_
              refine wpList_appS (some 51) rfl rfl _ _ rfl L _ k _ rfl (HO1.out.alloc _) (some ⟨X1.heap.size, 0, none⟩) 1 1 [⟨st, wd, co, bb, ro, cl⟩] rfl (sides_one (t := 26) (whole_new X1 _ _ _ rfl)) rfl (by omega) (by have := HL1.out; simp; omega) ?_
              intro v2 X2 ho2 hg2 ha2
              have hal := (Below.refl X1.heap.size X1).alloc (Nat.le_refl _) (.cells #[.int .i64 st, .int .i64 wd, .int .u32 co, .int .i64 bb, .int .i64 ro, .int .i64 cl] 26)
              have hb2 : Below L X1 X2 := own_below (hal.mono HL1.out) (HO1.out.alloc _) (Nat.le_refl _) hg2 (by have := HL1.out; simp; omega)
              obtain ⟨q2, c2, rfl, _, _⟩ := own_formC ho2
              have HO2 := Lib.hid ho2
              have HB2 := Lib.hid (HB1.out.trans (hb2.mono HLW.out))
              have HL2 := Lib.hid (Nat.le_trans HL1.out hb2.size)
              have HDR2 := Lib.hid (HDR.out X2 HB2.out)
              clear ho2 hg2 ha2 hal hb2 HO1 HB1 HDR d0 d1 d2 d3 d4 d5 ld
              go_wp2_with (at_builtin; refine Hid.out ?_)
              refine Lib.hid ?_
              refine wpList_appS (some 56) rfl rfl _ _ rfl L _ (k + 1) _ rfl HO2.out _ _ _ (outs.drop k) rfl (by have h := HDR2.out; rw [if_neg hck] at h; first | exact h | (simpa only [Option.map_some, add_plainC] using h)) (by have := HLD.out; omega) (by omega) HL2.out ?_
              intro v3 X3 ho3 hg3 ha3
              have hb3 : Below L X2 X3 := own_below ((Below.refl L X2)) HO2.out (Nat.le_refl _) hg3 HL2.out
              obtain ⟨q3, c3, rfl, hc3, hc3x⟩ := own_formC ho3
              have HB3 := Lib.hid (HB2.out.trans (hb3.mono HLW.out))
              first | rw [show k + 1 + (i - k) = i + 1 by omega] at ho3 hc3 ⊢ | rw [Nat.add_zero] at ho3 hc3 ⊢
              have HOO : Hid (Sides X3 (.slice q3 (i + 1) c3) ((outs.take k ++ [⟨st, wd, co, bb, ro, cl⟩]) ++ outs.drop k)) := Lib.hid (own_sidesC (base := L) (by
                have e : ((outs.take k ++ [(⟨st, wd, co, bb, ro, cl⟩ : Si)]) ++ outs.drop k).length = i + 1 := by rw [List.length_append, List.length_append, HLT.out, HLD.out] <;> (simp <;> omega)
                rw [e]
                simpa [List.flatMap_append] using ho3) (by rw [List.length_append, List.length_append, HLT.out, HLD.out] <;> (simp <;> omega)))
              clear ho3 hg3 ha3 hb3 HO2 HB2 HDR2
              go_wp2
              go_roundw
              case rel => exact ⟨i + 1, q3, c3, _, by omega, by go_num, by first | rfl | simp, Lib.hid ⟨HR.out.lo.trans (HB3.out.mono HR.out.lo.size), HOO.out, by rw [List.length_append, List.length_append, HLT.out, HLD.out] <;> (simp <;> omega), hc3, hc3x, by rw [HTK.out]; exact HSO.out, by rw [HTK.out, List.all_append, HR.out.al]; simp [HQ.out], rfl⟩⟩
              case measure => simp [intOf]; omega
    · have hltz : ¬ (i : Int) < (m : Int) := by omega
      have him : i = m := by omega
      subst him
      have hall : zs.take i = zs := List.take_of_length_le (by have := HM.out; omega)
      have hso := HR.out.so
      have hal := HR.out.al
      rw [hall] at hso hal
      have HS := Lib.hid hso
      have HA := Lib.hid hal
      clear hso hal hall
      go_wp2
      refine bodyPost_ret (v := .tuple #[.slice q i c', .int .i64 0]) (by simp [results, Try.results20, go_sem]) rfl ⟨.inr ⟨HA.out, q, c', outs, rfl, HR.out.sd, HS.out⟩, HR.out.lo⟩
end Go.Proofs.Ytmcgieameodkbaa
