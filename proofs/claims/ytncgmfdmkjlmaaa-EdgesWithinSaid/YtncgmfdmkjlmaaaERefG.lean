/- Contract of the document's Gutters. Written by mk_ERefG.py. -/
import Derived.Test.YtncgmfdmkjlmaaaESame
namespace Go.Proofs.Ytncgmfdmkjlmaaa
open Go.RowKit Go.Shelf
set_option linter.unusedVariables false
set_option linter.unusedSimpArgs false
attribute [local go_sem] Oper.semAt_some

theorem wp_append_runE {P : Program} {o : Oper} {a : Act} {w X : World} {K : Act → World → Prop} {Q : Exit → Act → World → Prop} (dst : Option Tmp) (hd : o.dst = dst) (s x : Operand) (t : TypeId) (ho : o.op = .call { callee := .builtin .append, args := #[s, x], argTypes := #[t, t] })
    (v v2 r : Value) (hs : a.eval s = v) (hx : a.eval x = v2) (hr : (Builtin.append_ #[t, t] o.type #[v, v2]).run P w = .ok r X) (h : K (a.put dst r) X) : o.wp P a w K Q := by
  subst hd
  unfold Oper.wp execOp
  simp only [ho, resolve, invoke, builtin, Sem.run_bind, Sem.run_pure, Result.andThen_ok, List.map_toArray, List.map_cons, List.map_nil, hs, hx, hr]
  exact h
theorem own_formE {X : World} {base e s n : Nat} {v : Value} {xs : List Value} (h : X.ownsRow base e s v n xs) : ∃ p l c, v = .slice p l c := by
  rcases h.2 with ⟨rfl, _⟩ | ⟨g, cap, cur, rfl, _⟩ <;> exact ⟨_, _, _, rfl⟩
theorem own_atE {X : World} {base n : Nat} {v : Value} {zs : List Int} (h : X.ownsRow base 2 1 v n (encIE zs)) (hn : n ≠ 0) : ∃ g c, v = .slice (some ⟨g, 0, none⟩) n c ∧ g < X.heap.size ∧ base ≤ g ∧ ∀ j z, zs[j]? = some z → X.cell? ⟨g, j, none⟩ = some (.int .i64 z) := by
  have h' := h
  obtain ⟨hl, ⟨rfl, hz⟩ | ⟨g, cap, cur, rfl, hb, hg, hnc, hcm, hcs, htk⟩⟩ := h
  · omega
  · refine ⟨g, cap, rfl, (Array.getElem?_eq_some_iff.1 hg).1, hb, fun j z hz => ?_⟩
    have hj := (List.getElem?_eq_some_iff.1 hz).1
    have := World.ownsRow.cellAt h' j (by simp [encIE] at hl; omega)
    rw [this]; simp [encIE, hz]
set_option maxHeartbeats 2000000 in
theorem refGut_bad (p q : Option Addr) (m c k d : Nat) (cs rs : List Int) (g0 g1 : Int) (w : World) (hL : LowI w.heap.size w (.slice p m c) cs) (hm : cs.length = m) (hR : LowI w.heap.size w (.slice q k d) rs) (hk : rs.length = k) (hb : (okB g0 cs && okB g1 rs) = false) :
    Calls Try.prog 25 #[.slice p m c, .slice q k d, .agg #[.int .i64 g0, .int .i64 g1]] w fun e W' => e = .returned (.tuple #[.slice none 0 0, .int .i64 100]) ∧ Below w.heap.size w W' := by
  obtain ⟨gn, hgn⟩ : ∃ gn, w.heap.size = gn := ⟨_, rfl⟩
  have HGN := Lib.hid hgn
  obtain ⟨W0, hW0⟩ : ∃ W0, w.alloc (.cells #[.int .i64 g0, .int .i64 g1] 38) = W0 := ⟨_, rfl⟩
  have hB0 : Below w.heap.size w W0 := by rw [← hW0]; exact (Below.refl _ w).alloc (Nat.le_refl _) _
  have hA0 : Whole W0 gn 38 [.int .i64 g0, .int .i64 g1] := by rw [← hW0]; exact whole_new w [.int .i64 g0, .int .i64 g1] 38 gn hgn.symm
  have a0 := hA0.cellAt 0
  have a1 := hA0.cellAt 1
  have la := hA0.lt
  simp only [List.getElem?_cons_zero, List.getElem?_cons_succ] at a0 a1
  have HB0 := Lib.hid hB0
  have HA0 := Lib.hid hA0
  have HRA := Lib.hid (fun X (h : Below w.heap.size w X) => refRight_any g0 p m c cs X ((hL.keep (Y := X) (fun k hk => h.block k hk)).mono h.size) hm)
  have HRB := Lib.hid (fun X (h : Below w.heap.size w X) => refRight_any g1 q k d rs X ((hR.keep (Y := X) (fun k hk => h.block k hk)).mono h.size) hk)
  clear hL hR hm hk hA0 hB0
  have hb2 : (okB g0 cs = false) ∨ (okB g0 cs = true ∧ okB g1 rs = false) := by
    cases h : okB g0 cs <;> rw [h] at hb <;> simp_all
  clear hb
  rcases hb2 with h | ⟨h, h'⟩
  · rw [h] at HRA
    clear h
    go_enter Try.func25, Try.ntmps25
    go_wp2_with fail
    try rw [hW0]
    clear hW0 hgn
    refine (HRA.out _ HB0.out).mono ?_
    rintro e w1 ⟨rfl, n1, hn1⟩
    have hd1 : Below W0.heap.size W0 w1 := hn1 ▸ below_dn _ W0 n1
    have HB1 := Lib.hid (HB0.out.trans (hd1.mono HB0.out.size))
    have HA1 := Lib.hid (HA0.out.below hd1 HA0.out.lt)
    clear hn1 hd1 HRA HA0 HB0 a0 a1 la
    have a0 := HA1.out.cellAt 0
    have a1 := HA1.out.cellAt 1
    have la := HA1.out.lt
    simp only [List.getElem?_cons_zero, List.getElem?_cons_succ] at a0 a1
    go_wp2_with fail
    refine (HRB.out _ HB1.out).mono ?_
    rintro e w2 ⟨rfl, n2, hn2⟩
    have hd2 : Below w1.heap.size w1 w2 := hn2 ▸ below_dn _ w1 n2
    have HB2 := Lib.hid (HB1.out.trans (hd2.mono HB1.out.size))
    have HA2 := Lib.hid (HA1.out.below hd2 HA1.out.lt)
    clear hn2 hd2 HRB HA1 HB1 a0 a1 la
    have a0 := HA2.out.cellAt 0
    have a1 := HA2.out.cellAt 1
    have la := HA2.out.lt
    simp only [List.getElem?_cons_zero, List.getElem?_cons_succ] at a0 a1
    go_wp2
    go_ret2
    exact ⟨rfl, HB2.out⟩
  · rw [h] at HRA
    rw [h'] at HRB
    clear h h'
    go_enter Try.func25, Try.ntmps25
    go_wp2_with fail
    try rw [hW0]
    clear hW0 hgn
    refine (HRA.out _ HB0.out).mono ?_
    rintro e w1 ⟨rfl, n1, hn1⟩
    have hd1 : Below W0.heap.size W0 w1 := hn1 ▸ below_dn _ W0 n1
    have HB1 := Lib.hid (HB0.out.trans (hd1.mono HB0.out.size))
    have HA1 := Lib.hid (HA0.out.below hd1 HA0.out.lt)
    clear hn1 hd1 HRA HA0 HB0 a0 a1 la
    have a0 := HA1.out.cellAt 0
    have a1 := HA1.out.cellAt 1
    have la := HA1.out.lt
    simp only [List.getElem?_cons_zero, List.getElem?_cons_succ] at a0 a1
    go_wp2_with fail
    refine (HRB.out _ HB1.out).mono ?_
    rintro e w2 ⟨rfl, n2, hn2⟩
    have hd2 : Below w1.heap.size w1 w2 := hn2 ▸ below_dn _ w1 n2
    have HB2 := Lib.hid (HB1.out.trans (hd2.mono HB1.out.size))
    have HA2 := Lib.hid (HA1.out.below hd2 HA1.out.lt)
    clear hn2 hd2 HRB HA1 HB1 a0 a1 la
    have a0 := HA2.out.cellAt 0
    have a1 := HA2.out.cellAt 1
    have la := HA2.out.lt
    simp only [List.getElem?_cons_zero, List.getElem?_cons_succ] at a0 a1
    go_wp2
    go_ret2
    exact ⟨rfl, HB2.out⟩
set_option maxHeartbeats 2000000 in
theorem refGut_none (p q : Option Addr) (m c k d : Nat) (cs rs : List Int) (g0 g1 : Int) (w : World) (hL : LowI w.heap.size w (.slice p m c) cs) (hm : cs.length = m) (hR : LowI w.heap.size w (.slice q k d) rs) (hk : rs.length = k) (h0 : okB g0 cs = true) (h1 : okB g1 rs = true) (hz : m = 0 ∨ k = 0 ∨ (g0 = 0 ∧ g1 = 0)) :
    Calls Try.prog 25 #[.slice p m c, .slice q k d, .agg #[.int .i64 g0, .int .i64 g1]] w fun e W' => e = .returned (.tuple #[.slice none 0 0, .int .i64 0]) ∧ Below w.heap.size w W' := by
  obtain ⟨gn, hgn⟩ : ∃ gn, w.heap.size = gn := ⟨_, rfl⟩
  have HGN := Lib.hid hgn
  obtain ⟨W0, hW0⟩ : ∃ W0, w.alloc (.cells #[.int .i64 g0, .int .i64 g1] 38) = W0 := ⟨_, rfl⟩
  have hB0 : Below w.heap.size w W0 := by rw [← hW0]; exact (Below.refl _ w).alloc (Nat.le_refl _) _
  have hA0 : Whole W0 gn 38 [.int .i64 g0, .int .i64 g1] := by rw [← hW0]; exact whole_new w [.int .i64 g0, .int .i64 g1] 38 gn hgn.symm
  have a0 := hA0.cellAt 0
  have a1 := hA0.cellAt 1
  have la := hA0.lt
  simp only [List.getElem?_cons_zero, List.getElem?_cons_succ] at a0 a1
  have HB0 := Lib.hid hB0
  have HA0 := Lib.hid hA0
  have HRA := Lib.hid (fun X (h : Below w.heap.size w X) => refRight_any g0 p m c cs X ((hL.keep (Y := X) (fun k hk => h.block k hk)).mono h.size) hm)
  have HRB := Lib.hid (fun X (h : Below w.heap.size w X) => refRight_any g1 q k d rs X ((hR.keep (Y := X) (fun k hk => h.block k hk)).mono h.size) hk)
  rw [h0] at HRA
  rw [h1] at HRB
  have hmk : m ≤ 10000 := by have := (okB_iff.1 h0).2.1; omega
  have hkk : k ≤ 10000 := by have := (okB_iff.1 h1).2.1; omega
  clear hL hR hm hk hA0 hB0 h0 h1
  go_enter Try.func25, Try.ntmps25
  go_wp2_with fail
  try rw [hW0]
  clear hW0 hgn
  refine (HRA.out _ HB0.out).mono ?_
  rintro e w1 ⟨rfl, n1, hn1⟩
  have hd1 : Below W0.heap.size W0 w1 := hn1 ▸ below_dn _ W0 n1
  have HB1 := Lib.hid (HB0.out.trans (hd1.mono HB0.out.size))
  have HA1 := Lib.hid (HA0.out.below hd1 HA0.out.lt)
  clear hn1 hd1 HRA HA0 HB0 a0 a1 la
  have a0 := HA1.out.cellAt 0
  have a1 := HA1.out.cellAt 1
  have la := HA1.out.lt
  simp only [List.getElem?_cons_zero, List.getElem?_cons_succ] at a0 a1
  go_wp2_with fail
  refine (HRB.out _ HB1.out).mono ?_
  rintro e w2 ⟨rfl, n2, hn2⟩
  have hd2 : Below w1.heap.size w1 w2 := hn2 ▸ below_dn _ w1 n2
  have HB2 := Lib.hid (HB1.out.trans (hd2.mono HB1.out.size))
  have HA2 := Lib.hid (HA1.out.below hd2 HA1.out.lt)
  clear hn2 hd2 HRB HA1 HB1 a0 a1 la
  have a0 := HA2.out.cellAt 0
  have a1 := HA2.out.cellAt 1
  have la := HA2.out.lt
  simp only [List.getElem?_cons_zero, List.getElem?_cons_succ] at a0 a1
  have hz2 : m = 0 ∨ (m ≠ 0 ∧ k = 0) ∨ (m ≠ 0 ∧ k ≠ 0 ∧ g0 = 0 ∧ g1 = 0) := by omega
  clear hz
  rcases hz2 with h | ⟨h, h'⟩ | ⟨h, h', h3, h4⟩
  · have e0 : ((m : Int) == 0) = true := by simp [h]
    clear h
    go_wp2
    go_ret2
    exact ⟨rfl, HB2.out⟩
  · have e0 : ((m : Int) == 0) = false := by simp; omega
    have e1 : ((k : Int) == 0) = true := by simp [h']
    clear h h'
    go_wp2
    go_ret2
    exact ⟨rfl, HB2.out⟩
  · have e0 : ((m : Int) == 0) = false := by simp; omega
    have e1 : ((k : Int) == 0) = false := by simp; omega
    have e2 : (g0 == 0) = true := by simp [h3]
    have e3 : (g1 == 0) = true := by simp [h4]
    clear h h' h3 h4
    go_wp2
    go_ret2
    exact ⟨rfl, HB2.out⟩
set_option maxRecDepth 100000 in
set_option maxHeartbeats 8000000 in
theorem refGut_main (p q : Option Addr) (m c k d : Nat) (cs rs : List Int) (g0 g1 : Int) (w : World) (hL : LowI w.heap.size w (.slice p m c) cs) (hm : cs.length = m) (hR : LowI w.heap.size w (.slice q k d) rs) (hk : rs.length = k) (h0 : okB g0 cs = true) (h1 : okB g1 rs = true) (hm0 : m ≠ 0) (hk0 : k ≠ 0) (hg0 : ¬ (g0 = 0 ∧ g1 = 0)) :
    Calls Try.prog 25 #[.slice p m c, .slice q k d, .agg #[.int .i64 g0, .int .i64 g1]] w fun e W' => (∃ v, e = .returned (.tuple #[v, .int .i64 0]) ∧ W'.ownsRow w.heap.size 51 4 v (m + 1 + (k + 1) * m) (flatE (stdsE g0 g1 cs rs (m + 1) ++ lyJE g0 g1 cs rs m (k + 1)))) ∧ Below w.heap.size w W' := by
  have ok0 := okB_iff.1 h0
  have ok1 := okB_iff.1 h1
  obtain ⟨gn, hgn⟩ : ∃ gn, w.heap.size = gn := ⟨_, rfl⟩
  have HGN := Lib.hid hgn
  obtain ⟨W0, hW0⟩ : ∃ W0, w.alloc (.cells #[.int .i64 g0, .int .i64 g1] 38) = W0 := ⟨_, rfl⟩
  have hB0 : Below w.heap.size w W0 := by rw [← hW0]; exact (Below.refl _ w).alloc (Nat.le_refl _) _
  have hA0 : Whole W0 gn 38 [.int .i64 g0, .int .i64 g1] := by rw [← hW0]; exact whole_new w [.int .i64 g0, .int .i64 g1] 38 gn hgn.symm
  have a0 := hA0.cellAt 0
  have a1 := hA0.cellAt 1
  have la := hA0.lt
  simp only [List.getElem?_cons_zero, List.getElem?_cons_succ] at a0 a1
  have HB0 := Lib.hid hB0
  have HA0 := Lib.hid hA0
  have HRA := Lib.hid (fun X (h : Below w.heap.size w X) => refRight_any g0 p m c cs X ((hL.keep (Y := X) (fun k hk => h.block k hk)).mono h.size) hm)
  have HRB := Lib.hid (fun X (h : Below w.heap.size w X) => refRight_any g1 q k d rs X ((hR.keep (Y := X) (fun k hk => h.block k hk)).mono h.size) hk)
  rw [h0] at HRA
  rw [h1] at HRB
  have HXS := Lib.hid (fun X (h : Below w.heap.size w X) => refBegins_any g0 p m c cs X ((hL.keep (Y := X) (fun k hk => h.block k hk)).mono h.size) hm ok0)
  have HYS := Lib.hid (fun X (h : Below w.heap.size w X) => refBegins_any g1 q k d rs X ((hR.keep (Y := X) (fun k hk => h.block k hk)).mono h.size) hk ok1)
  have HEX := Lib.hid (fun X (h : Below w.heap.size w X) => refExtent_any g1 q k d rs X ((hR.keep (Y := X) (fun k hk => h.block k hk)).mono h.size) hk ok1)
  rw [show extW g1 rs = begW g1 rs k by unfold extW; rw [if_neg (by omega), hk]] at HEX
  have hmk : m ≤ 10000 := by have := ok0.2.1; omega
  have hkk : k ≤ 10000 := by have := ok1.2.1; omega
  have e0 : ((m : Int) == 0) = false := by simp; omega
  have e1 : ((k : Int) == 0) = false := by simp; omega
  have HGG := Lib.hid hg0
  have HM := Lib.hid hm
  have HK := Lib.hid hk
  have HO0 := Lib.hid ok0
  have HO1 := Lib.hid ok1
  have HLL := Lib.hid hL
  have HRR := Lib.hid hR
  have HM0 := Lib.hid hm0
  have HK0 := Lib.hid hk0
  obtain ⟨i0, hi0, hz0, hz1, hz2⟩ := infoE Try.infoRE
  have HZ0 := Lib.hid hz0
  have HZ1 := Lib.hid hz1
  have HZ2 := Lib.hid hz2
  have HI0 := Lib.hid hi0
  clear hL hR hm hk hA0 hB0 h0 h1 ok0 ok1 hm0 hk0 hg0 hz0 hz1 hz2 hi0
  go_enter Try.func25, Try.ntmps25
  go_wp2_with fail
  try rw [hW0]
  clear hW0 hgn
  refine (HRA.out _ HB0.out).mono ?_
  rintro e w1 ⟨rfl, n1, hn1⟩
  have hd1 : Below W0.heap.size W0 w1 := hn1 ▸ below_dn _ W0 n1
  have HB1 := Lib.hid (HB0.out.trans (hd1.mono HB0.out.size))
  have HA1 := Lib.hid (HA0.out.below hd1 HA0.out.lt)
  clear hn1 hd1 HRA HA0 HB0 a0 a1 la
  have a0 := HA1.out.cellAt 0
  have a1 := HA1.out.cellAt 1
  have la := HA1.out.lt
  simp only [List.getElem?_cons_zero, List.getElem?_cons_succ] at a0 a1
  go_wp2_with fail
  refine (HRB.out _ HB1.out).mono ?_
  rintro e w2 ⟨rfl, n2, hn2⟩
  have hd2 : Below w1.heap.size w1 w2 := hn2 ▸ below_dn _ w1 n2
  have HB2 := Lib.hid (HB1.out.trans (hd2.mono HB1.out.size))
  have HA2 := Lib.hid (HA1.out.below hd2 HA1.out.lt)
  clear hn2 hd2 HRB HA1 HB1 a0 a1 la
  have a0 := HA2.out.cellAt 0
  have a1 := HA2.out.cellAt 1
  have la := HA2.out.lt
  simp only [List.getElem?_cons_zero, List.getElem?_cons_succ] at a0 a1
  have e23 : (g0 == 0) = false ∨ ((g0 == 0) = true ∧ (g1 == 0) = false) := by
    have := HGG.out
    by_cases h : g0 = 0
    · exact .inr ⟨by simp [h], by simp; omega⟩
    · exact .inl (by simp [h])
  have key : Calls Try.prog 18 #[.slice p m c, .int .i64 g0] w2 _ := HXS.out _ HB2.out
  have HXS2 := Lib.hid key
  clear key HXS
  rcases e23 with e2 | ⟨e2, e3⟩
  all_goals
    go_wp2_with fail
    refine HXS2.out.mono ?_
    rintro e w3 ⟨vx, rfl, hox, hb3⟩
    have HB3 := Lib.hid (HB2.out.trans (hb3.mono HB2.out.size))
    have HA3 := Lib.hid (HA2.out.below hb3 HA2.out.lt)
    have HOX := Lib.hid hox
    clear hb3 hox HXS2 HA2 a0 a1 la
    have a0 := HA3.out.cellAt 0
    have a1 := HA3.out.cellAt 1
    have la := HA3.out.lt
    simp only [List.getElem?_cons_zero, List.getElem?_cons_succ] at a0 a1
    go_wp2_with fail
    refine (HYS.out _ HB3.out).mono ?_
    rintro e W6 ⟨vy, rfl, hoy, hb6⟩
    have HB6 := Lib.hid (HB3.out.trans (hb6.mono HB3.out.size))
    have HA6 := Lib.hid (HA3.out.below hb6 HA3.out.lt)
    have HOX6 := Lib.hid (own_laterE HOX.out hb6)
    have HOY6 := Lib.hid hoy
    clear hb6 hoy HYS HA3 HOX HB3 a0 a1 la
    obtain ⟨gx, cx, rfl, lgx, _, hcx⟩ := own_atE HOX6.out HM0.out
    obtain ⟨gy, cy, rfl, lgy, _, hcy⟩ := own_atE HOY6.out HK0.out
    have HCX := Lib.hid hcx
    have HCY := Lib.hid hcy
    clear hcx hcy HOX6 HOY6
    have a0 := HA6.out.cellAt 0
    have a1 := HA6.out.cellAt 1
    have lgn := HA6.out.lt
    simp only [List.getElem?_cons_zero, List.getElem?_cons_succ] at a0 a1
    go_wp2_with fail
    refine (HEX.out _ HB6.out).mono ?_
    rintro e w7 ⟨rfl, hw7⟩
    obtain rfl := hw7.symm
    clear HEX
    obtain ⟨M, hM⟩ : ∃ M, (k + 1) * m = M := ⟨_, rfl⟩
    have hM1 : M ≤ 100010000 := by rw [← hM]; exact Nat.le_trans (Nat.mul_le_mul (show k + 1 ≤ 10001 by omega) hmk) (by decide)
    have HMM := Lib.hid hM
    clear hM
    have hgb0 := HO0.out.1
    have hgb1 := HO1.out.1
    go_wp2
    go_loopw [10, 14] (fun s10 s14 X => ∃ (t : Nat) (lv : Value), t ≤ m + 1 ∧ s14 = .int .i64 (t : Int) ∧ lv = s10 ∧ Hid (X.ownsRow W6.heap.size 51 4 lv t (flatE (stdsE g0 g1 cs rs t))) ∧ Hid (Below W6.heap.size W6 X)) (fun _ s14 _ => m + 1 - (intOf s14).toNat)
    case atStart => exact ⟨0, _, Nat.zero_le _, rfl, rfl, Lib.hid (by simpa [stdsE, flatE] using World.ownsRow_nil _ _ _ _), Lib.hid (Below.refl _ _)⟩
    case round =>
      obtain ⟨t, lv, ht, rfl, rfl, HO, HB⟩ := hrel
      have hsz := HB.out.size
      by_cases hlt : t ≤ m
      · have HTK := Lib.hid (stdsE_succ g0 g1 cs rs t)
        have HSV := Lib.hid (show stdE g0 g1 cs rs t = ⟨begW g0 cs t - g0, 0, g0, begW g1 rs k⟩ by unfold stdE; rw [HK.out])
        have a0' := (HB.out.cell (p := ⟨gn, 0, none⟩) lgn).trans a0
        have lgn' : gn < wr.heap.size := by omega
        by_cases ht0 : t = 0
        · have HX0 : Hid (begW g0 cs t - g0 = 0) := Lib.hid (by subst ht0; cases cs <;> simp [begW, preW])
          have hd : decide (0 < (t : Int)) = false := by simp; omega
          have hd2 : decide (0 < t) = false := by simp; omega
          generalize begW g1 rs k = vv at *
          clear ht0
          go_wp2_with (at_builtin; refine wpList_append_own_at _ rfl _ _ 39 rfl W6.heap.size 51 i0 (.agg #[.int .i64 0, .int .i64 0, .int .i64 0, .int .i64 0]) 4 32 Try.underlying39 HI0.out HZ0.out HZ1.out HZ2.out rfl (by decide) lv t (flatE (stdsE g0 g1 cs rs t)) rfl (HO.out.alloc _) ⟨wr.heap.size, 0, none⟩ 1 1 [.int .i64 0, .int .i64 0, .int .i64 g0, .int .i64 vv] rfl rfl (layE _ [.int .i64 0, .int .i64 0, .int .i64 g0, .int .i64 vv] _ _ rfl) (by simp [Value.oneCell']) (by unfold maxLen; omega) (by omega) (by simp <;> omega) ?_)
          intro v' w6' hown hgrow _ _
          have HB6' := Lib.hid (own_below (HB.out.alloc hsz _) (HO.out.alloc _) (Nat.le_refl _) hgrow (by simp <;> omega))
          have HO6 := Lib.hid hown
          clear hown hgrow HO HB
          go_wp2
          go_roundw
          case rel => exact ⟨t + 1, v', by omega, by go_num, rfl, Lib.hid (by rw [HTK.out, HSV.out, HX0.out, flatE_snoc]; exact HO6.out), HB6'⟩
          case measure => simp [intOf]; omega
        · obtain ⟨i, hi⟩ : ∃ i, t = i + 1 := ⟨t - 1, by omega⟩
          have hti : (t : Int) - 1 = (i : Int) := by omega
          have hwi : IntKind.i64.wrap ((t : Int) - 1) = (i : Int) := by rw [hti]; simp [IntKind.wrap, IntKind.bits, IntKind.signed]; omega
          have hd : decide (0 < (t : Int)) = true := by simp; omega
          have hd2 : decide (0 < t) = true := by simp; omega
          obtain ⟨z, hz⟩ : ∃ z, cs[i]? = some z := ⟨_, List.getElem?_eq_getElem (by rw [HM.out]; omega)⟩
          obtain ⟨bb, off, rfl, hbb, cci⟩ := ((HLL.out.keep (Y := wr) (fun j hj => ((HB6.out.trans (HB.out.mono HB6.out.size)).block j hj)))).at i z hz
          have hz2 := HO0.out.2.2 z (List.mem_iff_getElem?.2 ⟨i, hz⟩)
          have cxi := (HB.out.cell (p := ⟨gx, i, none⟩) lgx).trans (HCX.out i _ (begsW_get (by omega)))
          have lgx' : gx < wr.heap.size := by omega
          have lbb' : bb < wr.heap.size := by have := HB6.out.size; omega
          have HX0 : Hid (begW g0 cs t - g0 = begW g0 cs i + z) := Lib.hid (by rw [hi]; unfold begW; rw [preW_succ g0 i cs z hz]; omega)
          have hq := begW_bd HO0.out (k := i) (by have := HM.out; omega)
          have HII := Lib.hid hi
          clear ht0 hz hi
          generalize begW g0 cs i = qq at *
          generalize begW g1 rs k = vv at *
          go_wp2
          go_quiet (fail)
          obtain ⟨X2, hX2⟩ : ∃ X2, wr.drewN nq = X2 := ⟨_, rfl⟩
          have bx2 : Below wr.heap.size wr X2 := by rw [← hX2]; exact below_dn _ _ _
          have HB2' := Lib.hid (HB.out.trans (bx2.mono HB.out.size))
          have HO2 := Lib.hid (own_laterE HO.out bx2)
          have hsz2 := HB2'.out.size
          have a0'' := (HB2'.out.cell (p := ⟨gn, 0, none⟩) lgn).trans a0
          have lgn'' : gn < X2.heap.size := by omega
          rw [hX2]
          clear hX2 bx2 HO HB a0' lgn' cxi lgx' lbb' cci
          go_wp2_with (at_builtin; refine wpList_append_own_at _ rfl _ _ 39 rfl W6.heap.size 51 i0 (.agg #[.int .i64 0, .int .i64 0, .int .i64 0, .int .i64 0]) 4 32 Try.underlying39 HI0.out HZ0.out HZ1.out HZ2.out rfl (by decide) lv t (flatE (stdsE g0 g1 cs rs t)) rfl (HO2.out.alloc _) ⟨X2.heap.size, 0, none⟩ 1 1 [.int .i64 (qq + z), .int .i64 0, .int .i64 g0, .int .i64 vv] rfl rfl (layE _ [.int .i64 (qq + z), .int .i64 0, .int .i64 g0, .int .i64 vv] _ _ rfl) (by simp [Value.oneCell']) (by unfold maxLen; omega) (by omega) (by simp <;> omega) ?_)
          intro v' w6' hown hgrow _ _
          have HB6' := Lib.hid (own_below (HB2'.out.alloc hsz2 _) (HO2.out.alloc _) (Nat.le_refl _) hgrow (by simp <;> omega))
          have HO6 := Lib.hid hown
          clear hown hgrow HO2 HB2'
          go_wp2
          go_roundw
          case rel => exact ⟨t + 1, v', by omega, by go_num, rfl, Lib.hid (by rw [HTK.out, HSV.out, HX0.out, flatE_snoc]; exact HO6.out), HB6'⟩
          case measure => simp [intOf]; omega
      · have HT := Lib.hid (show t = m + 1 by omega)
        have HOT : Hid (wr.ownsRow W6.heap.size 51 4 lv (m + 1) (flatE (stdsE g0 g1 cs rs (m + 1)))) := Lib.hid (by have e := HO.out; rw [HT.out] at e; exact e)
        clear HO
        go_wp2
        go_loopw [10, 16] (fun s10 s16 X => ∃ (j n : Nat) (lv : Value), j ≤ k + 1 ∧ s16 = .int .i64 (j : Int) ∧ lv = s10 ∧ Hid (n = m + 1 + j * m) ∧ Hid (X.ownsRow W6.heap.size 51 4 lv n (flatE (stdsE g0 g1 cs rs (m + 1) ++ lyJE g0 g1 cs rs m j))) ∧ Hid (Below W6.heap.size W6 X)) (fun _ s16 _ => k + 1 - (intOf s16).toNat)
        case atStart => exact ⟨0, m + 1, _, Nat.zero_le _, rfl, rfl, Lib.hid (by omega), Lib.hid (by simpa [lyJE] using HOT.out), HB⟩
        case round =>
          obtain ⟨j, n, lv2, hj, rfl, rfl, HNN, HO2, HB2'⟩ := hrel
          clear HOT HB hsz
          by_cases hjl : j ≤ k
          · have hjm : j * m ≤ 100010000 := Nat.le_trans (Nat.mul_le_mul (show j ≤ 10001 by omega) hmk) (by decide)
            have hn1 : n ≤ 100030000 := by have := HNN.out; omega
            have HJS := Lib.hid (lyJE_succ g0 g1 cs rs m j)
            obtain ⟨yy, hyy⟩ : ∃ yy, begW g1 rs j - g1 = yy := ⟨_, rfl⟩
            have HYY := Lib.hid hyy
            have hsz := HB2'.out.size
            by_cases hj0 : j = 0
            · have hy0 : yy = 0 := by rw [← hyy]; subst hj0; cases rs <;> simp [begW, preW]
              subst hy0
              have hd : decide (0 < (j : Int)) = false := by simp; omega
              have hd2 : decide (0 < j) = false := by simp; omega
              clear hj0 hyy
              go_wp2_with fail
              go_loopw [10, 18] (fun s10 s18 X => ∃ (i : Nat) (lv : Value), i ≤ m ∧ s18 = .int .i64 (i : Int) ∧ lv = s10 ∧ Hid (X.ownsRow W6.heap.size 51 4 lv (n + i) (flatE (stdsE g0 g1 cs rs (m + 1) ++ lyJE g0 g1 cs rs m j ++ lysE g0 g1 cs rs j i))) ∧ Hid (Below W6.heap.size W6 X)) (fun _ s18 _ => m - (intOf s18).toNat)
              case atStart => exact ⟨0, _, Nat.zero_le _, rfl, rfl, Lib.hid (by simpa [lysE] using HO2.out), HB2'⟩
              case round =>
                obtain ⟨i, lv3, hi, rfl, rfl, HO3, HB3'⟩ := hrel
                clear HO2 HB2'
                by_cases hil : i < m
                · have hz7 := HB3'.out.size
                  have HTK := Lib.hid (lysE_succ g0 g1 cs rs j i)
                  obtain ⟨uu, huu⟩ : ∃ uu, cs[i]? = some uu := ⟨_, List.getElem?_eq_getElem (by rw [HM.out]; omega)⟩
                  have HSV : Hid (lyE g0 g1 cs rs j i = ⟨begW g0 cs i, 0, uu, g1⟩) := Lib.hid (by unfold lyE; rw [HYY.out, wideW_one huu])
                  obtain ⟨bb2, off2, rfl, hbb2, cci⟩ := ((HLL.out.keep (Y := W6) (fun j hj => HB6.out.block j hj))).at i uu huu
                  have lbb : bb2 < W6.heap.size := by have := HB6.out.size; omega
                  have cxi := HCX.out i _ (begsW_get hil)
                  clear huu hbb2
                  generalize begW g0 cs i = xx at *
                  obtain ⟨pv, nv, cv, rfl⟩ := own_formE HO3.out
                  go_wp2
                  refine region_held_atE (S := fun X => Hid (Below W6.heap.size W6 X)) (by kernel_rfl) (fun w9 hw9 => ?_)
                  have b9 : Below wr.heap.size wr w9 := by rw [← hw9]; exact (Below.refl _ _).drew
                  have SV : Hid (Below W6.heap.size W6 w9) := Lib.hid (HB3'.out.trans (b9.mono HB3'.out.size))
                  have HO9 := Lib.hid (own_laterE HO3.out b9)
                  clear hw9 b9 HO3 HB3'
                  have hsz := SV.out.size
                  obtain ⟨v9, X9, hr9, hown9, hgrow9, _, _⟩ := run_append_own_at (P := Try.prog) (w9.alloc (.cells #[.int .i64 xx, .int .i64 (0), .int .i64 uu, .int .i64 g1] 51)) W6.heap.size 39 39 51 i0 (.agg #[.int .i64 0, .int .i64 0, .int .i64 0, .int .i64 0]) 4 32 Try.underlying39 HI0.out HZ0.out HZ1.out HZ2.out rfl (by decide) (.slice pv nv cv) (n + i) _ (HO9.out.alloc _) ⟨w9.heap.size, 0, none⟩ 1 1 [.int .i64 xx, .int .i64 (0), .int .i64 uu, .int .i64 g1] rfl (layE _ [.int .i64 xx, .int .i64 (0), .int .i64 uu, .int .i64 g1] _ _ rfl) (by simp [Value.oneCell']) (by unfold maxLen; omega) (by omega) (by simp <;> omega)
                  have SA : Hid (Below W6.heap.size W6 (w9.alloc (.cells #[.int .i64 xx, .int .i64 (0), .int .i64 uu, .int .i64 g1] 51))) := Lib.hid (SV.out.alloc hsz _)
                  have S9 : Hid (Below W6.heap.size W6 X9) := Lib.hid (own_below SA.out (HO9.out.alloc _) (Nat.le_refl _) hgrow9 (by simp <;> omega))
                  have HX9 := Lib.hid hown9
                  clear hown9 hgrow9
                  try simp only [Act.put, List.setIfInBounds_toArray, List.set_cons_succ, List.set_cons_zero]
                  refine wpAnyH_takeD (i := 0) (v := .slice pv nv cv) (some 115) rfl rfl (by kernel_rfl) (by kernel_rfl) (by kernel_rfl) (fun _ _ _ h => h) (Or.inl ⟨by rfl, ?_⟩) SV ?_
                  · intro X hX; go_simp
                  try simp only [Act.put, List.setIfInBounds_toArray, List.set_cons_succ, List.set_cons_zero]
                  refine wpAnyH_takeD (i := 1) (v := .slice (some ⟨gx, 0, none⟩) m cx) (some 116) rfl rfl (by kernel_rfl) (by kernel_rfl) (by kernel_rfl) (fun _ _ _ h => h) (Or.inl ⟨by rfl, ?_⟩) SV ?_
                  · intro X hX; go_simp
                  try simp only [Act.put, List.setIfInBounds_toArray, List.set_cons_succ, List.set_cons_zero]
                  refine wpAnyH_takeD (i := 2) (v := .int .i64 (i : Int)) (some 117) rfl rfl (by kernel_rfl) (by kernel_rfl) (by kernel_rfl) (fun _ _ _ h => h) (Or.inl ⟨by rfl, ?_⟩) SV ?_
                  · intro X hX; go_simp
                  try simp only [Act.put, List.setIfInBounds_toArray, List.set_cons_succ, List.set_cons_zero]
                  refine wpAnyH_takeD (i := 3) (v := .pointer (some ⟨gx, i, none⟩)) (some 118) rfl rfl (by kernel_rfl) (by kernel_rfl) (by kernel_rfl) (fun _ _ _ h => h) (Or.inl ⟨by rfl, ?_⟩) SV ?_
                  · intro X hX; go_simp
                  try simp only [Act.put, List.setIfInBounds_toArray, List.set_cons_succ, List.set_cons_zero]
                  refine wpAnyH_takeD (i := 4) (v := .int .i64 xx) (some 119) rfl rfl (by kernel_rfl) (by kernel_rfl) (by kernel_rfl) (fun _ _ _ h => h) (Or.inl ⟨by rfl, ?_⟩) SV ?_
                  · intro X hX; have o0 := (hX.out.cell (p := ⟨gx, i, none⟩) lgx).trans cxi; have lX := hX.out.size; have lbX : gx < X.heap.size := (by omega); go_simp
                  try simp only [Act.put, List.setIfInBounds_toArray, List.set_cons_succ, List.set_cons_zero]
                  refine wpAnyH_takeD (i := 5) (v := .int .i64 (0)) (some 120) rfl rfl (by kernel_rfl) (by kernel_rfl) (by kernel_rfl) (fun _ _ _ h => h) (Or.inl ⟨by rfl, ?_⟩) SV ?_
                  · intro X hX; go_simp
                  try simp only [Act.put, List.setIfInBounds_toArray, List.set_cons_succ, List.set_cons_zero]
                  refine wpAnyH_takeD (i := 6) (v := .slice (some ⟨bb2, off2, none⟩) m c) (some 121) rfl rfl (by kernel_rfl) (by kernel_rfl) (by kernel_rfl) (fun _ _ _ h => h) (Or.inl ⟨by rfl, ?_⟩) SV ?_
                  · intro X hX; go_simp
                  try simp only [Act.put, List.setIfInBounds_toArray, List.set_cons_succ, List.set_cons_zero]
                  refine wpAnyH_takeD (i := 7) (v := .int .i64 (i : Int)) (some 122) rfl rfl (by kernel_rfl) (by kernel_rfl) (by kernel_rfl) (fun _ _ _ h => h) (Or.inl ⟨by rfl, ?_⟩) SV ?_
                  · intro X hX; go_simp
                  try simp only [Act.put, List.setIfInBounds_toArray, List.set_cons_succ, List.set_cons_zero]
                  refine wpAnyH_takeD (i := 8) (v := .pointer (some ⟨bb2, off2 + i, none⟩)) (some 123) rfl rfl (by kernel_rfl) (by kernel_rfl) (by kernel_rfl) (fun _ _ _ h => h) (Or.inl ⟨by rfl, ?_⟩) SV ?_
                  · intro X hX; go_simp
                  try simp only [Act.put, List.setIfInBounds_toArray, List.set_cons_succ, List.set_cons_zero]
                  refine wpAnyH_takeD (i := 9) (v := .int .i64 uu) (some 124) rfl rfl (by kernel_rfl) (by kernel_rfl) (by kernel_rfl) (fun _ _ _ h => h) (Or.inl ⟨by rfl, ?_⟩) SV ?_
                  · intro X hX; have o0 := (hX.out.cell (p := ⟨bb2, off2 + i, none⟩) lbb).trans cci; have lX := hX.out.size; have lbX : bb2 < X.heap.size := (by omega); go_simp
                  try simp only [Act.put, List.setIfInBounds_toArray, List.set_cons_succ, List.set_cons_zero]
                  refine wpAnyH_takeD (i := 10) (v := .pointer (some ⟨gn, 1, none⟩)) (some 125) rfl rfl (by kernel_rfl) (by kernel_rfl) (by kernel_rfl) (fun _ _ _ h => h) (Or.inl ⟨by rfl, ?_⟩) SV ?_
                  · intro X hX; go_simp
                  try simp only [Act.put, List.setIfInBounds_toArray, List.set_cons_succ, List.set_cons_zero]
                  refine wpAnyH_takeD (i := 11) (v := .int .i64 g1) (some 126) rfl rfl (by kernel_rfl) (by kernel_rfl) (by kernel_rfl) (fun _ _ _ h => h) (Or.inl ⟨by rfl, ?_⟩) SV ?_
                  · intro X hX; have o0 := (hX.out.cell (p := ⟨gn, 1, none⟩) lgn).trans a1; have lX := hX.out.size; have lbX : gn < X.heap.size := (by omega); go_simp
                  try simp only [Act.put, List.setIfInBounds_toArray, List.set_cons_succ, List.set_cons_zero]
                  refine wpAnyH_takeD (i := 12) (v := .agg #[.int .i64 xx, .int .i64 (0), .int .i64 uu, .int .i64 g1]) (some 127) rfl rfl (by kernel_rfl) (by kernel_rfl) (by kernel_rfl) (fun _ _ _ h => h) (Or.inl ⟨by rfl, ?_⟩) SV ?_
                  · intro X hX; go_simp
                  try simp only [Act.put, List.setIfInBounds_toArray, List.set_cons_succ, List.set_cons_zero]
                  refine wpAnyH_all (rs := [13]) (by kernel_rfl) (by simp) ?_
                  intro ii hii; obtain rfl : ii = 13 := by simpa using hii
                  clear hii
                  refine wpOp_step rfl (fun K hK => ?_)
                  go_simp
                  refine hK _ _ ⟨SA, ?_⟩
                  clear hK K
                  try simp only [Act.put, List.setIfInBounds_toArray, List.set_cons_succ, List.set_cons_zero]
                  refine wpAnyH_all (rs := [14]) (by kernel_rfl) (by simp) ?_
                  intro ii hii; obtain rfl : ii = 14 := by simpa using hii
                  clear hii
                  refine wpOp_step rfl (fun K hK => ?_)
                  refine wp_append_runE (some 129) rfl _ _ _ rfl _ _ _ rfl rfl hr9 ?_
                  refine hK _ _ ⟨S9, ?_⟩
                  clear hK K hr9 SA SV hsz
                  try simp only [Act.put, List.setIfInBounds_toArray, List.set_cons_succ, List.set_cons_zero]
                  refine wpAnyH_takeD (i := 15) (v := v9) (some 10) rfl rfl (by kernel_rfl) (by kernel_rfl) (by kernel_rfl) (fun _ _ _ h => h) (Or.inl ⟨by rfl, ?_⟩) S9 ?_
                  · intro X hX; go_simp
                  try simp only [Act.put, List.setIfInBounds_toArray, List.set_cons_succ, List.set_cons_zero]
                  refine wpAnyH_done (by kernel_rfl) ?_ _
                  go_wp2
                  go_roundw
                  case rel => exact ⟨i + 1, v9, by omega, by go_num, rfl, Lib.hid (by rw [HTK.out, HSV.out, ← List.append_assoc, flatE_snoc, ← Nat.add_assoc]; simpa only [List.append_assoc] using HX9.out), S9⟩
                  case measure => simp [intOf]; omega
                · have HIM := Lib.hid (show i = m by omega)
                  have HO4 : Hid (wr.ownsRow W6.heap.size 51 4 lv3 (n + m) (flatE (stdsE g0 g1 cs rs (m + 1) ++ lyJE g0 g1 cs rs m j ++ lysE g0 g1 cs rs j m))) := Lib.hid (by have e := HO3.out; rw [HIM.out] at e; exact e)
                  clear HO3
                  go_wp2
                  go_roundw
                  case rel => exact ⟨j + 1, n + m, _, by omega, by go_num, rfl, Lib.hid (by rw [HNN.out, Nat.succ_mul]; omega), Lib.hid (by rw [HJS.out, ← List.append_assoc]; exact HO4.out), HB3'⟩
                  case measure => simp [intOf]; omega
            · obtain ⟨i, hi⟩ : ∃ i, j = i + 1 := ⟨j - 1, by omega⟩
              have hti : (j : Int) - 1 = (i : Int) := by omega
              have hwi : IntKind.i64.wrap ((j : Int) - 1) = (i : Int) := by rw [hti]; simp [IntKind.wrap, IntKind.bits, IntKind.signed]; omega
              have hd : decide (0 < (j : Int)) = true := by simp; omega
              have hd2 : decide (0 < j) = true := by simp; omega
              obtain ⟨z, hz⟩ : ∃ z, rs[i]? = some z := ⟨_, List.getElem?_eq_getElem (by rw [HK.out]; omega)⟩
              obtain ⟨bb, off, rfl, hbb, cci⟩ := ((HRR.out.keep (Y := wr) (fun j hj => ((HB6.out.trans (HB2'.out.mono HB6.out.size)).block j hj)))).at i z hz
              have hz2 := HO1.out.2.2 z (List.mem_iff_getElem?.2 ⟨i, hz⟩)
              have cyi := (HB2'.out.cell (p := ⟨gy, i, none⟩) lgy).trans (HCY.out i _ (begsW_get (by omega)))
              have lgy' : gy < wr.heap.size := by omega
              have lbb' : bb < wr.heap.size := by have := HB6.out.size; omega
              have hX0 : yy = begW g1 rs i + z := by rw [← hyy, hi]; unfold begW; rw [preW_succ g1 i rs z hz]; omega
              have hq := begW_bd HO1.out (k := i) (by have := HK.out; omega)
              clear hj0 hz hi hyy
              generalize begW g1 rs i = qq at *
              subst hX0
              go_wp2
              go_quiet (fail)
              obtain ⟨X2, hX2⟩ : ∃ X2, wr.drewN nq = X2 := ⟨_, rfl⟩
              have bx2 : Below wr.heap.size wr X2 := by rw [← hX2]; exact below_dn _ _ _
              have HO9 := Lib.hid (own_laterE HO2.out bx2)
              have HB9 := Lib.hid (HB2'.out.trans (bx2.mono HB2'.out.size))
              rw [hX2]
              clear hX2 bx2 HO2 HB2' cyi lgy' lbb' cci hsz
              go_wp2_with fail
              go_loopw [10, 18] (fun s10 s18 X => ∃ (i : Nat) (lv : Value), i ≤ m ∧ s18 = .int .i64 (i : Int) ∧ lv = s10 ∧ Hid (X.ownsRow W6.heap.size 51 4 lv (n + i) (flatE (stdsE g0 g1 cs rs (m + 1) ++ lyJE g0 g1 cs rs m j ++ lysE g0 g1 cs rs j i))) ∧ Hid (Below W6.heap.size W6 X)) (fun _ s18 _ => m - (intOf s18).toNat)
              case atStart => exact ⟨0, _, Nat.zero_le _, rfl, rfl, Lib.hid (by simpa [lysE] using HO9.out), HB9⟩
              case round =>
                obtain ⟨i, lv3, hi, rfl, rfl, HO3, HB3'⟩ := hrel
                clear HO9 HB9
                by_cases hil : i < m
                · have hz7 := HB3'.out.size
                  have HTK := Lib.hid (lysE_succ g0 g1 cs rs j i)
                  obtain ⟨uu, huu⟩ : ∃ uu, cs[i]? = some uu := ⟨_, List.getElem?_eq_getElem (by rw [HM.out]; omega)⟩
                  have HSV : Hid (lyE g0 g1 cs rs j i = ⟨begW g0 cs i, qq + z, uu, g1⟩) := Lib.hid (by unfold lyE; rw [HYY.out, wideW_one huu])
                  obtain ⟨bb2, off2, rfl, hbb2, cci⟩ := ((HLL.out.keep (Y := W6) (fun j hj => HB6.out.block j hj))).at i uu huu
                  have lbb : bb2 < W6.heap.size := by have := HB6.out.size; omega
                  have cxi := HCX.out i _ (begsW_get hil)
                  clear huu hbb2
                  generalize begW g0 cs i = xx at *
                  obtain ⟨pv, nv, cv, rfl⟩ := own_formE HO3.out
                  go_wp2
                  refine region_held_atE (S := fun X => Hid (Below W6.heap.size W6 X)) (by kernel_rfl) (fun w9 hw9 => ?_)
                  have b9 : Below wr.heap.size wr w9 := by rw [← hw9]; exact (Below.refl _ _).drew
                  have SV : Hid (Below W6.heap.size W6 w9) := Lib.hid (HB3'.out.trans (b9.mono HB3'.out.size))
                  have HO9 := Lib.hid (own_laterE HO3.out b9)
                  clear hw9 b9 HO3 HB3'
                  have hsz := SV.out.size
                  obtain ⟨v9, X9, hr9, hown9, hgrow9, _, _⟩ := run_append_own_at (P := Try.prog) (w9.alloc (.cells #[.int .i64 xx, .int .i64 (qq + z), .int .i64 uu, .int .i64 g1] 51)) W6.heap.size 39 39 51 i0 (.agg #[.int .i64 0, .int .i64 0, .int .i64 0, .int .i64 0]) 4 32 Try.underlying39 HI0.out HZ0.out HZ1.out HZ2.out rfl (by decide) (.slice pv nv cv) (n + i) _ (HO9.out.alloc _) ⟨w9.heap.size, 0, none⟩ 1 1 [.int .i64 xx, .int .i64 (qq + z), .int .i64 uu, .int .i64 g1] rfl (layE _ [.int .i64 xx, .int .i64 (qq + z), .int .i64 uu, .int .i64 g1] _ _ rfl) (by simp [Value.oneCell']) (by unfold maxLen; omega) (by omega) (by simp <;> omega)
                  have SA : Hid (Below W6.heap.size W6 (w9.alloc (.cells #[.int .i64 xx, .int .i64 (qq + z), .int .i64 uu, .int .i64 g1] 51))) := Lib.hid (SV.out.alloc hsz _)
                  have S9 : Hid (Below W6.heap.size W6 X9) := Lib.hid (own_below SA.out (HO9.out.alloc _) (Nat.le_refl _) hgrow9 (by simp <;> omega))
                  have HX9 := Lib.hid hown9
                  clear hown9 hgrow9
                  try simp only [Act.put, List.setIfInBounds_toArray, List.set_cons_succ, List.set_cons_zero]
                  refine wpAnyH_takeD (i := 0) (v := .slice pv nv cv) (some 115) rfl rfl (by kernel_rfl) (by kernel_rfl) (by kernel_rfl) (fun _ _ _ h => h) (Or.inl ⟨by rfl, ?_⟩) SV ?_
                  · intro X hX; go_simp
                  try simp only [Act.put, List.setIfInBounds_toArray, List.set_cons_succ, List.set_cons_zero]
                  refine wpAnyH_takeD (i := 1) (v := .slice (some ⟨gx, 0, none⟩) m cx) (some 116) rfl rfl (by kernel_rfl) (by kernel_rfl) (by kernel_rfl) (fun _ _ _ h => h) (Or.inl ⟨by rfl, ?_⟩) SV ?_
                  · intro X hX; go_simp
                  try simp only [Act.put, List.setIfInBounds_toArray, List.set_cons_succ, List.set_cons_zero]
                  refine wpAnyH_takeD (i := 2) (v := .int .i64 (i : Int)) (some 117) rfl rfl (by kernel_rfl) (by kernel_rfl) (by kernel_rfl) (fun _ _ _ h => h) (Or.inl ⟨by rfl, ?_⟩) SV ?_
                  · intro X hX; go_simp
                  try simp only [Act.put, List.setIfInBounds_toArray, List.set_cons_succ, List.set_cons_zero]
                  refine wpAnyH_takeD (i := 3) (v := .pointer (some ⟨gx, i, none⟩)) (some 118) rfl rfl (by kernel_rfl) (by kernel_rfl) (by kernel_rfl) (fun _ _ _ h => h) (Or.inl ⟨by rfl, ?_⟩) SV ?_
                  · intro X hX; go_simp
                  try simp only [Act.put, List.setIfInBounds_toArray, List.set_cons_succ, List.set_cons_zero]
                  refine wpAnyH_takeD (i := 4) (v := .int .i64 xx) (some 119) rfl rfl (by kernel_rfl) (by kernel_rfl) (by kernel_rfl) (fun _ _ _ h => h) (Or.inl ⟨by rfl, ?_⟩) SV ?_
                  · intro X hX; have o0 := (hX.out.cell (p := ⟨gx, i, none⟩) lgx).trans cxi; have lX := hX.out.size; have lbX : gx < X.heap.size := (by omega); go_simp
                  try simp only [Act.put, List.setIfInBounds_toArray, List.set_cons_succ, List.set_cons_zero]
                  refine wpAnyH_takeD (i := 5) (v := .int .i64 (qq + z)) (some 120) rfl rfl (by kernel_rfl) (by kernel_rfl) (by kernel_rfl) (fun _ _ _ h => h) (Or.inl ⟨by rfl, ?_⟩) SV ?_
                  · intro X hX; go_simp
                  try simp only [Act.put, List.setIfInBounds_toArray, List.set_cons_succ, List.set_cons_zero]
                  refine wpAnyH_takeD (i := 6) (v := .slice (some ⟨bb2, off2, none⟩) m c) (some 121) rfl rfl (by kernel_rfl) (by kernel_rfl) (by kernel_rfl) (fun _ _ _ h => h) (Or.inl ⟨by rfl, ?_⟩) SV ?_
                  · intro X hX; go_simp
                  try simp only [Act.put, List.setIfInBounds_toArray, List.set_cons_succ, List.set_cons_zero]
                  refine wpAnyH_takeD (i := 7) (v := .int .i64 (i : Int)) (some 122) rfl rfl (by kernel_rfl) (by kernel_rfl) (by kernel_rfl) (fun _ _ _ h => h) (Or.inl ⟨by rfl, ?_⟩) SV ?_
                  · intro X hX; go_simp
                  try simp only [Act.put, List.setIfInBounds_toArray, List.set_cons_succ, List.set_cons_zero]
                  refine wpAnyH_takeD (i := 8) (v := .pointer (some ⟨bb2, off2 + i, none⟩)) (some 123) rfl rfl (by kernel_rfl) (by kernel_rfl) (by kernel_rfl) (fun _ _ _ h => h) (Or.inl ⟨by rfl, ?_⟩) SV ?_
                  · intro X hX; go_simp
                  try simp only [Act.put, List.setIfInBounds_toArray, List.set_cons_succ, List.set_cons_zero]
                  refine wpAnyH_takeD (i := 9) (v := .int .i64 uu) (some 124) rfl rfl (by kernel_rfl) (by kernel_rfl) (by kernel_rfl) (fun _ _ _ h => h) (Or.inl ⟨by rfl, ?_⟩) SV ?_
                  · intro X hX; have o0 := (hX.out.cell (p := ⟨bb2, off2 + i, none⟩) lbb).trans cci; have lX := hX.out.size; have lbX : bb2 < X.heap.size := (by omega); go_simp
                  try simp only [Act.put, List.setIfInBounds_toArray, List.set_cons_succ, List.set_cons_zero]
                  refine wpAnyH_takeD (i := 10) (v := .pointer (some ⟨gn, 1, none⟩)) (some 125) rfl rfl (by kernel_rfl) (by kernel_rfl) (by kernel_rfl) (fun _ _ _ h => h) (Or.inl ⟨by rfl, ?_⟩) SV ?_
                  · intro X hX; go_simp
                  try simp only [Act.put, List.setIfInBounds_toArray, List.set_cons_succ, List.set_cons_zero]
                  refine wpAnyH_takeD (i := 11) (v := .int .i64 g1) (some 126) rfl rfl (by kernel_rfl) (by kernel_rfl) (by kernel_rfl) (fun _ _ _ h => h) (Or.inl ⟨by rfl, ?_⟩) SV ?_
                  · intro X hX; have o0 := (hX.out.cell (p := ⟨gn, 1, none⟩) lgn).trans a1; have lX := hX.out.size; have lbX : gn < X.heap.size := (by omega); go_simp
                  try simp only [Act.put, List.setIfInBounds_toArray, List.set_cons_succ, List.set_cons_zero]
                  refine wpAnyH_takeD (i := 12) (v := .agg #[.int .i64 xx, .int .i64 (qq + z), .int .i64 uu, .int .i64 g1]) (some 127) rfl rfl (by kernel_rfl) (by kernel_rfl) (by kernel_rfl) (fun _ _ _ h => h) (Or.inl ⟨by rfl, ?_⟩) SV ?_
                  · intro X hX; go_simp
                  try simp only [Act.put, List.setIfInBounds_toArray, List.set_cons_succ, List.set_cons_zero]
                  refine wpAnyH_all (rs := [13]) (by kernel_rfl) (by simp) ?_
                  intro ii hii; obtain rfl : ii = 13 := by simpa using hii
                  clear hii
                  refine wpOp_step rfl (fun K hK => ?_)
                  go_simp
                  refine hK _ _ ⟨SA, ?_⟩
                  clear hK K
                  try simp only [Act.put, List.setIfInBounds_toArray, List.set_cons_succ, List.set_cons_zero]
                  refine wpAnyH_all (rs := [14]) (by kernel_rfl) (by simp) ?_
                  intro ii hii; obtain rfl : ii = 14 := by simpa using hii
                  clear hii
                  refine wpOp_step rfl (fun K hK => ?_)
                  refine wp_append_runE (some 129) rfl _ _ _ rfl _ _ _ rfl rfl hr9 ?_
                  refine hK _ _ ⟨S9, ?_⟩
                  clear hK K hr9 SA SV hsz
                  try simp only [Act.put, List.setIfInBounds_toArray, List.set_cons_succ, List.set_cons_zero]
                  refine wpAnyH_takeD (i := 15) (v := v9) (some 10) rfl rfl (by kernel_rfl) (by kernel_rfl) (by kernel_rfl) (fun _ _ _ h => h) (Or.inl ⟨by rfl, ?_⟩) S9 ?_
                  · intro X hX; go_simp
                  try simp only [Act.put, List.setIfInBounds_toArray, List.set_cons_succ, List.set_cons_zero]
                  refine wpAnyH_done (by kernel_rfl) ?_ _
                  go_wp2
                  go_roundw
                  case rel => exact ⟨i + 1, v9, by omega, by go_num, rfl, Lib.hid (by rw [HTK.out, HSV.out, ← List.append_assoc, flatE_snoc, ← Nat.add_assoc]; simpa only [List.append_assoc] using HX9.out), S9⟩
                  case measure => simp [intOf]; omega
                · have HIM := Lib.hid (show i = m by omega)
                  have HO4 : Hid (wr.ownsRow W6.heap.size 51 4 lv3 (n + m) (flatE (stdsE g0 g1 cs rs (m + 1) ++ lyJE g0 g1 cs rs m j ++ lysE g0 g1 cs rs j m))) := Lib.hid (by have e := HO3.out; rw [HIM.out] at e; exact e)
                  clear HO3
                  go_wp2
                  go_roundw
                  case rel => exact ⟨j + 1, n + m, _, by omega, by go_num, rfl, Lib.hid (by rw [HNN.out, Nat.succ_mul]; omega), Lib.hid (by rw [HJS.out, ← List.append_assoc]; exact HO4.out), HB3'⟩
                  case measure => simp [intOf]; omega
          · have HJ2 := Lib.hid (show j = k + 1 by omega)
            have HE : Hid (n = m + 1 + (k + 1) * m) := Lib.hid (by rw [← HJ2.out]; exact HNN.out)
            go_wp2
            go_ret2
            exact ⟨⟨_, rfl, by rw [← HE.out, ← HJ2.out]; exact own_mono HO2.out HB6.out.size⟩, HB6.out.trans (HB2'.out.mono HB6.out.size)⟩
theorem refGutters_any (p q : Option Addr) (m c k d : Nat) (cs rs : List Int) (g0 g1 : Int) (w : World) (hL : LowI w.heap.size w (.slice p m c) cs) (hm : cs.length = m) (hR : LowI w.heap.size w (.slice q k d) rs) (hk : rs.length = k) :
    Calls Try.prog 25 #[.slice p m c, .slice q k d, .agg #[.int .i64 g0, .int .i64 g1]] w (CellsPost (okB g0 cs && okB g1 rs) w (gutE g0 g1 cs rs)) := by
  cases hb : (okB g0 cs && okB g1 rs) with
  | false => exact (refGut_bad p q m c k d cs rs g0 g1 w hL hm hR hk hb).mono fun e W' h => ⟨h.2, .inr ⟨rfl, h.1⟩⟩
  | true =>
    rw [Bool.and_eq_true] at hb
    by_cases hz : m = 0 ∨ k = 0 ∨ (g0 = 0 ∧ g1 = 0)
    · refine (refGut_none p q m c k d cs rs g0 g1 w hL hm hR hk hb.1 hb.2 hz).mono fun e W' h => ⟨h.2, .inl ⟨rfl, _, h.1, ?_⟩⟩
      have : gutE g0 g1 cs rs = [] := by unfold gutE; rw [if_pos (by rw [hm, hk]; exact hz)]
      rw [this]; exact World.ownsRow_nil _ _ _ _
    · refine (refGut_main p q m c k d cs rs g0 g1 w hL hm hR hk hb.1 hb.2 (by omega) (by omega) (fun h => hz (.inr (.inr h)))).mono fun e W' h => ?_
      obtain ⟨⟨v, h3, h4⟩, h5⟩ := h
      refine ⟨h5, .inl ⟨rfl, v, h3, ?_⟩⟩
      have hn : ¬ (cs.length = 0 ∨ rs.length = 0 ∨ (g0 = 0 ∧ g1 = 0)) := by rw [hm, hk]; exact hz
      rw [gutE_len g0 g1 cs rs hn, hm, hk]
      unfold gutE
      rw [if_neg hn, hm, hk]
      exact h4
end Go.Proofs.Ytncgmfdmkjlmaaa
