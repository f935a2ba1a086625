/- The rows that every statement of layer 6 asks for first are known. -/
import Derived.Test.YtgeciomehldjdaaLCols0
import Derived.Test.YtgeciomehldjdaaLSame
import Derived.Test.YtgeciomehldjdaaTShown
namespace Go.Proofs.Ytgeciomehldjdaa
open Go.RowKit Go.Shelf Go.Maps
set_option linter.unusedVariables false
attribute [local go_sem] Oper.semAt_some

theorem colsF_none (lv : Value) (p k : Nat) (ns : List Nd) (w : World) (hP : PageAt w lv ns) (hK : ∀ n ∈ ns, n.ks.length ≤ 70000 ∧ n.ws.length ≤ 70000) (F : Fine ns) (hp : p < ns.length) (ht : kdOf ns p = 2) (hk : k ≤ 10000)
    (hno : ∀ z ∈ kfOf ns p, kdOf ns z.toNat ≠ 5 ∧ kdOf ns z.toNat ≠ 4) :
    Calls Try.prog 7 #[lv, .int .i64 p, .int .i64 k] w fun e W' => ∃ v, e = .returned (.tuple #[v, .int .i64 0]) ∧ OwnL w.heap.size W' v (bare k) ∧ Below w.heap.size w W' := by
  have hb : Below w.heap.size w ((w.alloc (.cells #[.slice none 0 0] 25)).alloc (.cells #[.int .i64 0] 26)) := ((Below.refl _ w).alloc (Nat.le_refl _) _).alloc (by simp) _
  have H := computed_laid lv ns _ (hP.below hb) hK F
  obtain ⟨_, _, ⟨a, cap, e, rfl⟩ | ⟨b, off, cap, rfl, _⟩⟩ := (id hP)
  · simp at hp
  · refine cols_none b off cap _ p k ns w rfl F.len2 hp hk (fun n hn => (hK n hn).1) (F.ok fun n hn => (hK n hn).1).link (Lib.hid (H.mono ?_)) (by unfold isTab; simp [hp, ht]) hno
    rintro e W' ⟨⟨L, c, ns', rfl, h1, h2, _⟩, h3⟩
    have hl := h1.len
    refine ⟨L, c, ns', by rw [hl], ?_, ?_, by rw [← hl]; exact h2.page (by rw [hl]; have := F.len2; omega), by simpa using h3⟩
    · apply List.ext_getElem?
      intro i
      rw [List.getElem?_map, List.getElem?_map]
      rcases h1.get i with ⟨e1, e2⟩ | ⟨n, n', e1, e2, e3⟩
      · rw [e1, e2]
      · rw [e1, e2]; simp [e3.k]
    · apply List.ext_getElem?
      intro i
      rw [List.getElem?_map, List.getElem?_map]
      rcases h1.get i with ⟨e1, e2⟩ | ⟨n, n', e1, e2, e3⟩
      · rw [e1, e2]
      · rw [e1, e2]; simp [e3.ks]
def ndK (k : Int) (kv : Value) (ks : List Int) : Nd := { Nd.zero with k := k, kv := kv, ks := ks }
def sh6 (A : Nat) : List Nd := [ndK 2 (.slice (some ⟨A, 0, none⟩) 3 3) [1, 2, 3], ndK 8 (.slice (some ⟨A + 1, 0, none⟩) 1 1) [4], { Nd.zero with k := 9 }, ndK 6 (.slice (some ⟨A + 2, 0, none⟩) 1 1) [5], { Nd.zero with k := 9 }, { Nd.zero with k := 9 }]
theorem sh6_check (A : Nat) : checkP (sh6 A) = (0, 0) := by rfl
theorem sh6_rows (A : Nat) : rowsP (sh6 A) (0 : Nat) = [(5, 3), (2, -1), (4, 1)] := by rfl
theorem sh6_kids (A : Nat) : ∀ n ∈ sh6 A, n.ks.length ≤ 70000 ∧ n.ws.length ≤ 70000 := fun n hn => by
  simp only [sh6, List.mem_cons, List.not_mem_nil, or_false] at hn
  rcases hn with rfl | rfl | rfl | rfl | rfl | rfl <;> simp [ndK, Nd.zero]
def sh6W (w : World) : World := (((w.alloc (.cells #[.int .i64 1, .int .i64 2, .int .i64 3] 3)).alloc (.cells #[.int .i64 4] 3)).alloc (.cells #[.int .i64 5] 3)).alloc (.cells ((sh6 w.heap.size).flatMap Nd.cells).toArray 45)
theorem page_sh6 (w : World) : PageAt (sh6W w) (.slice (some ⟨w.heap.size + 3, 0, none⟩) 6 6) (sh6 w.heap.size) := by
  have k1 : Whole (sh6W w) w.heap.size 3 [.int .i64 1, .int .i64 2, .int .i64 3] := (((whole_new w [.int .i64 1, .int .i64 2, .int .i64 3] 3 _ rfl).alloc _).alloc _).alloc _
  have k2 : Whole (sh6W w) (w.heap.size + 1) 3 [.int .i64 4] := ((whole_new (w.alloc (.cells #[.int .i64 1, .int .i64 2, .int .i64 3] 3)) [.int .i64 4] 3 _ (by simp)).alloc _).alloc _
  have k3 : Whole (sh6W w) (w.heap.size + 2) 3 [.int .i64 5] := (whole_new ((w.alloc (.cells #[.int .i64 1, .int .i64 2, .int .i64 3] 3)).alloc (.cells #[.int .i64 4] 3)) [.int .i64 5] 3 _ (by simp)).alloc _
  refine page_flat (t := 45) (whole_new (((w.alloc (.cells #[.int .i64 1, .int .i64 2, .int .i64 3] 3)).alloc (.cells #[.int .i64 4] 3)).alloc (.cells #[.int .i64 5] 3)) ((sh6 w.heap.size).flatMap Nd.cells) 45 _ (by simp)) rfl (by omega) (fun n hn => ?_)
  simp only [sh6, List.mem_cons, List.not_mem_nil, or_false] at hn
  rcases hn with rfl | rfl | rfl | rfl | rfl | rfl
  · exact ⟨Ints.whole k1 rfl (by simp), ints_nil _, capok_slice _ _ _ (by omega) (by omega), capok_slice _ _ _ (by omega) (by omega)⟩
  · exact ⟨Ints.whole k2 rfl (by simp), ints_nil _, capok_slice _ _ _ (by omega) (by omega), capok_slice _ _ _ (by omega) (by omega)⟩
  · exact nd_zero_ok _
  · exact ⟨Ints.whole k3 rfl (by simp), ints_nil _, capok_slice _ _ _ (by omega) (by omega), capok_slice _ _ _ (by omega) (by omega)⟩
  · exact nd_zero_ok _
  · exact nd_zero_ok _
theorem sh6_below (w : World) : Below w.heap.size w (sh6W w) := ((((Below.refl _ w).alloc (Nat.le_refl _) _).alloc (by simp) _).alloc (by simp; omega) _).alloc (by simp; omega) _
theorem sh6_no (A : Nat) : ∀ z ∈ kfOf (sh6 A) (0 : Nat), kdOf (sh6 A) z.toNat ≠ 5 ∧ kdOf (sh6 A) z.toNat ≠ 4 := fun z hz => by
  have : kfOf (sh6 A) (0 : Nat) = [1, 2, 3] := rfl
  rw [this] at hz
  simp only [List.mem_cons, List.not_mem_nil, or_false] at hz
  rcases hz with rfl | rfl | rfl
  · exact ⟨(by decide : (8 : Int) ≠ 5), (by decide : (8 : Int) ≠ 4)⟩
  · exact ⟨(by decide : (9 : Int) ≠ 5), (by decide : (9 : Int) ≠ 4)⟩
  · exact ⟨(by decide : (6 : Int) ≠ 5), (by decide : (6 : Int) ≠ 4)⟩
theorem wp_build_run {P : Program} {o : Oper} {a : Act} {w X : World} {K : Act → World → Prop} {Q : Exit → Act → World → Prop} (t : TypeId) (n : Nat) (parts : Array (Nat × Operand)) (ho : o.op = .buildSlice t n parts) (r : Value)
    (hr : (Instr.buildSlice t n (parts.map fun (i, x) => (i, a.eval x))).run P w = .ok r X) (h : K (a.put o.dst r) X) : o.wp P a w K Q := by
  unfold Oper.wp execOp
  simp only [ho, Sem.run_bind, Sem.run_pure, Result.andThen_ok, hr]
  exact h
theorem sh6_bad (A : Nat) : lchkP (sh6 A) 1 = 2 := by rfl
set_option maxRecDepth 100000 in
set_option maxHeartbeats 4000000 in
theorem shown6_any (w : World) : Calls Try.prog 5 #[] w fun e W' => e = .returned (.bool true) ∧ Below w.heap.size w W' := by
  have HP := Lib.hid (page_sh6 w)
  have HB := Lib.hid (sh6_below w)
  have hk1 : ∀ n ∈ sh6 w.heap.size, n.ks.length ≤ 70000 := fun n hn => (sh6_kids _ n hn).1
  have F := fine_of (ns := sh6 w.heap.size) (by rw [sh6_check])
  have H1 := Lib.hid (show Calls Try.prog 11 #[.slice (some ⟨w.heap.size + 3, 0, none⟩) 6 6, .int .i64 0] (sh6W w) fun e W' => ∃ v, e = .returned (.tuple #[v, .int .i64 0]) ∧ OwnL (sh6W w).heap.size W' v [(5, 3), (2, -1), (4, 1)] ∧ Below (sh6W w).heap.size (sh6W w) W' from by
    have := rowsF_good _ 0 _ _ HP.out hk1 F (show 0 < 6 by omega) rfl
    rw [sh6_rows] at this
    exact this)
  have H2 := Lib.hid (fun (X : World) (hX : Below (sh6W w).heap.size (sh6W w) X) => show Calls Try.prog 7 #[.slice (some ⟨w.heap.size + 3, 0, none⟩) 6 6, .int .i64 0, .int .i64 2] X fun e W' => ∃ v, e = .returned (.tuple #[v, .int .i64 0]) ∧ OwnL X.heap.size W' v (bare 2) ∧ Below X.heap.size X W' from
    colsF_none _ 0 2 _ X (HP.out.below hX) (sh6_kids _) F (show 0 < 6 by omega) rfl (by omega) (sh6_no _))
  have H3 := Lib.hid (fun (X : World) (hX : Below (sh6W w).heap.size (sh6W w) X) => show Calls Try.prog 11 #[.slice (some ⟨w.heap.size + 3, 0, none⟩) 6 6, .int .i64 1] X fun e W' => e = .returned (.tuple #[.slice none 0 0, .int .i64 2]) ∧ Below X.heap.size X W' from by
    have := rowsF_not _ 1 _ X (HP.out.below hX) hk1 (by rw [sh6_bad]; decide)
    rw [sh6_bad] at this
    exact this)
  clear hk1 F
  go_enter Try.func5, Try.ntmps5
  go_wp2_with fail
  refine wp_build_run _ _ _ rfl (.slice (some ⟨(((w.alloc (.cells #[.int .i64 1, .int .i64 2, .int .i64 3] 3)).alloc (.cells #[.int .i64 4] 3)).alloc (.cells #[.int .i64 5] 3)).heap.size, 0, none⟩) 6 6) (X := sh6W w) (by kernel_rfl) ?_
  rw [show (((w.alloc (.cells #[.int .i64 1, .int .i64 2, .int .i64 3] 3)).alloc (.cells #[.int .i64 4] 3)).alloc (.cells #[.int .i64 5] 3)).heap.size = w.heap.size + 3 by simp]
  go_wp2_with fail
  refine H1.out.mono ?_
  clear H1
  rintro e w1 ⟨v1, rfl, ho1, hb1⟩
  have HL1 := Lib.hid ho1.lanes
  have HB1 := Lib.hid hb1
  clear ho1 hb1
  go_wp2_with fail
  refine (H2.out _ HB1.out).mono ?_
  clear H2
  rintro e w2 ⟨v2, rfl, ho2, hb2⟩
  obtain ⟨q2, c2, hv2⟩ := ho2.lanes.form
  have hv2 : v2 = .slice q2 2 c2 := hv2
  subst hv2
  have HL2 := Lib.hid (HL1.out.below hb2)
  have HB2 := Lib.hid (HB1.out.trans (hb2.mono HB1.out.size))
  clear ho2 hb2 HL1 HB1
  go_wp2_with fail
  refine (H3.out _ HB2.out).mono ?_
  clear H3
  rintro e w3 ⟨rfl, hb3⟩
  have HL3 := Lib.hid (HL2.out.below hb3)
  have HB3 := Lib.hid (HB2.out.trans (hb3.mono HB2.out.size))
  clear hb3 HL2 HB2
  go_wp2_with fail
  have hb4 : Below w3.heap.size w3 (w3.alloc (.cells #[.int .i64 5, .int .i64 3, .int .i64 2, .int .i64 (-1), .int .i64 4, .int .i64 1] 49)) := (Below.refl _ w3).alloc (Nat.le_refl _) _
  have HSM : Hid (Calls Try.prog 10 #[v1, .slice (some ⟨w3.heap.size, 0, none⟩) 3 3] (w3.alloc (.cells #[.int .i64 5, .int .i64 3, .int .i64 2, .int .i64 (-1), .int .i64 4, .int .i64 1] 49)) fun e W' => e = .returned (.bool true) ∧ Below w3.heap.size w3 W') := Lib.hid (by
    refine (lsame_any v1 _ [(5, 3), (2, -1), (4, 1)] [(5, 3), (2, -1), (4, 1)] _ (HL3.out.below hb4) (lanes_lit (t := 49) (whole_new w3 [.int .i64 5, .int .i64 3, .int .i64 2, .int .i64 (-1), .int .i64 4, .int .i64 1] 49 _ rfl) (by decide))).mono ?_
    rintro e w' ⟨rfl, hb⟩
    exact ⟨rfl, hb4.trans (hb.mono hb4.size)⟩)
  refine HSM.out.mono ?_
  clear HSM hb4
  rintro e w4 ⟨rfl, hb4⟩
  have HB4 := Lib.hid (HB3.out.trans (hb4.mono HB3.out.size))
  clear hb4
  go_wp2
  go_ret
  exact ⟨rfl, HB.out.trans (HB4.out.mono HB.out.size)⟩
end Go.Proofs.Ytgeciomehldjdaa
