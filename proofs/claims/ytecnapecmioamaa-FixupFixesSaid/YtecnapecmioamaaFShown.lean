/- The missing row that every statement of layer 5 asks for first is laid. -/
import Derived.Test.YtecnapecmioamaaFFix
import Derived.Test.YtecnapecmioamaaTPure
namespace Go.Proofs.Ytecnapecmioamaa
open Go.RowKit Go.Shelf
set_option linter.unusedVariables false
attribute [local go_sem] Oper.semAt_some

def sh5 (A : Nat) : List Nd := [{ Nd.zero with k := 2, kv := .slice (some ⟨A, 0, none⟩) 1 1, ks := [1] }, { Nd.zero with k := 10 }]
theorem sh5_check (A : Nat) : checkP (sh5 A) = (0, 0) := by rfl
theorem sh5_fix (A : Nat) : (fixPg (sh5 A)).map (fun n => (n.k, n.ks)) = [(2, [2]), (10, []), (9, [1])] := by kernel_rfl
theorem sh5_kids (A : Nat) : ∀ n ∈ sh5 A, n.ks.length ≤ 70000 ∧ n.ws.length ≤ 70000 := fun n hn => by
  simp only [sh5, List.mem_cons, List.not_mem_nil, or_false] at hn
  rcases hn with rfl | rfl <;> simp [Nd.zero]
theorem page_sh5 (w : World) : PageAt ((w.alloc (.cells #[.int .i64 1] 3)).alloc (.cells ((sh5 w.heap.size).flatMap Nd.cells).toArray 47)) (.slice (some ⟨w.heap.size + 1, 0, none⟩) 2 2) (sh5 w.heap.size) := by
  have k1 : Whole ((w.alloc (.cells #[.int .i64 1] 3)).alloc (.cells ((sh5 w.heap.size).flatMap Nd.cells).toArray 47)) w.heap.size 3 [.int .i64 1] := (whole_new w [.int .i64 1] 3 _ rfl).alloc _
  refine page_flat (t := 47) (whole_new (w.alloc (.cells #[.int .i64 1] 3)) ((sh5 w.heap.size).flatMap Nd.cells) 47 _ (by simp)) rfl (by omega) (fun n hn => ?_)
  simp only [sh5, List.mem_cons, List.not_mem_nil, or_false] at hn
  rcases hn with rfl | rfl
  · exact ⟨Ints.whole k1 rfl (by simp), ints_nil _, capok_slice _ _ _ (by omega) (by omega), capok_slice _ _ _ (by omega) (by omega)⟩
  · exact nd_zero_ok _
/-- what lies at a place of a page -/
theorem page_node {W : World} {v : Value} {ns : List Nd} (h : PageAt W v ns) {i : Nat} {n : Nd} (hi : ns[i]? = some n) : ∃ b off cap, v = .slice (some ⟨b, off, none⟩) ns.length cap ∧ NdAt W b (off + i * 34) n ∧ n.ok W ∧ i < ns.length := by
  have hl := (List.getElem?_eq_some_iff.1 hi).1
  obtain ⟨_, h2, ⟨a, cap, rfl, rfl⟩ | ⟨b, off, cap, rfl, hc⟩⟩ := h
  · simp at hl
  · exact ⟨b, off, cap, rfl, hc i n hi, h2 n (List.mem_iff_getElem?.2 ⟨i, hi⟩), hl⟩
theorem bare_get {ns : List Nd} {l : List (Int × List Int)} (h : ns.map (fun n => (n.k, n.ks)) = l) {i : Nat} {x : Int × List Int} (hx : l[i]? = some x) : ∃ n, ns[i]? = some n ∧ n.k = x.1 ∧ n.ks = x.2 := by
  rw [← h, List.getElem?_map] at hx
  obtain ⟨n, hn, rfl⟩ := Option.map_eq_some_iff.1 hx
  exact ⟨n, hn, rfl, rfl⟩
theorem bare_kk {ns l : List Nd} (h : ns.map Nd.bare = l) : ns.map (fun n => (n.k, n.ks)) = l.map (fun n => (n.k, n.ks)) := by
  rw [← h, List.map_map]; rfl
set_option maxRecDepth 100000 in
set_option maxHeartbeats 4000000 in
theorem shown5_any (w : World) : Calls Try.prog 4 #[] w fun e W' => e = .returned (.bool true) ∧ Below w.heap.size w W' := by
  have HP := Lib.hid (page_sh5 w)
  have HB : Hid (Below w.heap.size w ((w.alloc (.cells #[.int .i64 1] 3)).alloc (.cells ((sh5 w.heap.size).flatMap Nd.cells).toArray 47))) := Lib.hid (((Below.refl _ w).alloc (Nat.le_refl _) _).alloc (by simp) _)
  have H1 := Lib.hid (fixF_good _ _ _ HP.out (sh5_kids _) (fine_of (by rw [sh5_check])))
  have HC : Hid (∀ X : World, Calls Try.prog 6 #[.slice none 0 0] X fun e W' => e = .returned (.tuple #[.slice none 0 0, .int .i64 43]) ∧ Below X.heap.size X W') := Lib.hid fun X => fixF_not _ [] X (nil_page X) (fun n h => by cases h) (by decide)
  go_enter Try.func4, Try.ntmps4
  go_wp2_with fail
  refine H1.out.mono ?_
  clear H1
  rintro e w1 ⟨⟨v, ns', rfl, hp, hb⟩, hb1⟩
  have hk := bare_kk hb
  rw [sh5_fix] at hk
  have hlen : ns'.length = 3 := by have := congrArg List.length hk; simpa using this
  obtain ⟨n0, hn0, _, ks0⟩ := bare_get hk (i := 0) rfl
  obtain ⟨n2, hn2, k2, ks2⟩ := bare_get hk (i := 2) rfl
  obtain ⟨b, off, cap, rfl, a0, o0, _⟩ := page_node hp hn0
  obtain ⟨b', off', cap', e, a2, o2, _⟩ := page_node hp hn2
  injection e with e1 e2 e3
  injection e1 with e1; injection e1 with e1 e4
  subst e1 e4
  rw [hlen]
  dsimp only at k2 ks0 ks2
  obtain ⟨q0, c0, hq0⟩ := o0.1.form
  obtain ⟨q2, c2, hq2⟩ := o2.1.form
  have d2 : w1.cell? ⟨b, off + 2 * 34, none⟩ = some (.int .i64 9) := by have := a2 0 _ n2.c0; rw [k2] at this; simpa using this
  have d01 : w1.cell? ⟨b, off + 0 * 34 + 1, none⟩ = some (.slice q0 1 c0) := by have := a0 1 _ n0.c1; rw [hq0, ks0] at this; exact this
  have d21 : w1.cell? ⟨b, off + 2 * 34 + 1, none⟩ = some (.slice q2 1 c2) := by have := a2 1 _ n2.c1; rw [hq2, ks2] at this; exact this
  have I0 : Hid (Ints w1 (.slice q0 1 c0) [2]) := Lib.hid (by have := o0.1; rw [hq0, ks0] at this; exact this)
  have I2 : Hid (Ints w1 (.slice q2 1 c2) [1]) := Lib.hid (by have := o2.1; rw [hq2, ks2] at this; exact this)
  have HB1 := Lib.hid (HB.out.trans (hb1.mono HB.out.size))
  have lb : b < w1.heap.size := cell_lt d2
  clear hp hb hb1 hk hlen hn0 hn2 a0 a2 o0 o2 hq0 hq2 ks0 ks2 k2 HP HB e2 e3
  go_wp2_with (go_at_call 6; refine (HC.out _).mono ?_; clear HC; rintro e w2 ⟨rfl, hb2⟩; have e2 := (hb2.cell (p := ⟨b, off + 2 * 34, none⟩) lb).trans d2; have e01 := (hb2.cell (p := ⟨b, off + 0 * 34 + 1, none⟩) lb).trans d01; have e21 := (hb2.cell (p := ⟨b, off + 2 * 34 + 1, none⟩) lb).trans d21; have HI0 := Lib.hid (I0.out.below hb2); have HI2 := Lib.hid (I2.out.below hb2); have HB2 := Lib.hid (HB1.out.trans (hb2.mono HB1.out.size)); have lb2 := Nat.lt_of_lt_of_le lb hb2.size; clear hb2 d2 d01 d21)
  have J0 : Hid (Calls Try.prog 12 #[.slice q0 1 c0, .slice (some ⟨w2.heap.size, 0, none⟩) 1 1] (w2.alloc (.cells #[.int .i64 2] 3)) fun e W' => e = .returned (.bool true) ∧ Below w2.heap.size w2 W') := Lib.hid (by
    refine (ints_any _ _ [2] [2] _ (HI0.out.below ((Below.refl _ _).alloc (Nat.le_refl _) _)) (Ints.whole (t := 3) (whole_new w2 [.int .i64 2] 3 _ rfl) rfl (by decide))).mono ?_
    rintro e w' ⟨rfl, n, rfl⟩
    exact ⟨rfl, ((Below.refl _ w2).alloc (Nat.le_refl _) _).trans (below_dn _ _ n)⟩)
  refine J0.out.mono ?_
  clear J0 HI0
  rintro e w3 ⟨rfl, hb3⟩
  have g21 := (hb3.cell (p := ⟨b, off + 2 * 34 + 1, none⟩) lb2).trans e21
  have HI3 := Lib.hid (HI2.out.below hb3)
  have HB3 := Lib.hid (HB2.out.trans (hb3.mono HB2.out.size))
  have lb3 := Nat.lt_of_lt_of_le lb2 hb3.size
  clear hb3 e2 e01 e21 HI2 HB2 HB1
  go_wp2_with fail
  have J2 : Hid (Calls Try.prog 12 #[.slice q2 1 c2, .slice (some ⟨w3.heap.size, 0, none⟩) 1 1] (w3.alloc (.cells #[.int .i64 1] 3)) fun e W' => e = .returned (.bool true) ∧ Below w3.heap.size w3 W') := Lib.hid (by
    refine (ints_any _ _ [1] [1] _ (HI3.out.below ((Below.refl _ _).alloc (Nat.le_refl _) _)) (Ints.whole (t := 3) (whole_new w3 [.int .i64 1] 3 _ rfl) rfl (by decide))).mono ?_
    rintro e w' ⟨rfl, n, rfl⟩
    exact ⟨rfl, ((Below.refl _ w3).alloc (Nat.le_refl _) _).trans (below_dn _ _ n)⟩)
  refine J2.out.mono ?_
  clear J2 HI3
  rintro e w4 ⟨rfl, hb4⟩
  have HB4 := Lib.hid (HB3.out.trans (hb4.mono HB3.out.size))
  clear hb4 HB3
  go_wp2
  go_ret
  exact ⟨rfl, HB4.out⟩
end Go.Proofs.Ytecnapecmioamaa
