/- The order that every statement of layer 4 asks for first is known. -/
import Derived.Test.YtilighhccjdceaaTOrder
import Derived.Test.YtilighhccjdceaaTInts
namespace Go.Proofs.Ytilighhccjdceaa
open Go.RowKit Go.Shelf
set_option linter.unusedVariables false
attribute [local go_sem] Oper.semAt_some

def ndKids (kv : Value) (ks : List Int) : Nd := { Nd.zero with kv := kv, ks := ks }
def shP (A B : Nat) : List Nd := [ndKids (.slice (some ⟨A, 0, none⟩) 2 2) [1, 2], Nd.zero, ndKids (.slice (some ⟨B, 0, none⟩) 1 1) [3], Nd.zero]
theorem sh_check (A B : Nat) : checkP (shP A B) = (0, 0) := by rfl
theorem sh_order (A B : Nat) : (walkL (shP A B).length (kfOf (shP A B))).map Prod.fst = [0, 1, 2, 3] := by rfl
theorem sh_depths (A B : Nat) : depthsP (shP A B) = [1, 2, 2, 3] := by rfl
theorem nil_page (W : World) : PageAt W (.slice none 0 0) [] := ⟨by simp, fun n h => by (cases h), .inl ⟨none, 0, rfl, rfl⟩⟩
theorem sh_kids (A B : Nat) : ∀ n ∈ shP A B, n.ks.length ≤ 70000 := fun n hn => by
  simp [shP, ndKids, Nd.zero] at hn
  rcases hn with rfl | rfl | rfl | rfl <;> simp
theorem capok_slice (p : Option Addr) (len cap : Nat) (h : len ≤ cap) (h2 : cap ≤ 9223372036854775807) : CapOk (.slice p len cap) := ⟨p, len, cap, rfl, h, h2⟩
theorem ints_nil (W : World) : Ints W (.slice none 0 0) [] := ⟨by simp, .inl ⟨none, 0, rfl, rfl⟩⟩
theorem nd_zero_ok (W : World) : Nd.zero.ok W := ⟨ints_nil W, ints_nil W, capok_slice _ _ _ (by omega) (by omega), capok_slice _ _ _ (by omega) (by omega)⟩
theorem nd_kids_ok {W : World} {kv : Value} {ks : List Int} (h : Ints W kv ks) (hc : CapOk kv) : (ndKids kv ks).ok W := ⟨h, ints_nil W, hc, capok_slice _ _ _ (by omega) (by omega)⟩
theorem flat_get : ∀ (ns : List Nd) (i : Nat) (n : Nd) (j : Nat) (v : Value), ns[i]? = some n → n.cells[j]? = some v → (ns.flatMap Nd.cells)[i * 34 + j]? = some v
  | [], i, n, j, v, h, _ => by simp at h
  | a :: ns, 0, n, j, v, h, hj => by
    simp at h; subst h
    have hl : j < a.cells.length := (List.getElem?_eq_some_iff.1 hj).1
    rw [List.flatMap_cons, Nat.zero_mul, Nat.zero_add, List.getElem?_append_left hl]
    exact hj
  | a :: ns, i + 1, n, j, v, h, hj => by
    rw [List.flatMap_cons, List.getElem?_append_right (by rw [a.len]; omega), a.len, show (i + 1) * 34 + j - 34 = i * 34 + j by omega]
    exact flat_get ns i n j v (by simpa using h) hj
theorem flat_at {X : World} {g t : Nat} {ns : List Nd} (h : Whole X g t (ns.flatMap Nd.cells)) : ∀ i n, ns[i]? = some n → NdAt X g (0 + i * 34) n := fun i n hn j v hj => by
  rw [Nat.zero_add, h.cellAt]; exact flat_get ns i n j v hn hj
theorem page_flat {X : World} {g t m cap : Nat} {ns : List Nd} (h : Whole X g t (ns.flatMap Nd.cells)) (hm : ns.length = m) (hm2 : m ≤ 9223372036854775807) (hok : ∀ n ∈ ns, n.ok X) : PageAt X (.slice (some ⟨g, 0, none⟩) m cap) ns := by
  subst hm
  exact ⟨hm2, hok, .inr ⟨g, 0, cap, rfl, flat_at h⟩⟩
theorem page_sh (w : World) : PageAt (((w.alloc (.cells #[.int .i64 1, .int .i64 2] 3)).alloc (.cells #[.int .i64 3] 3)).alloc (.cells ((shP w.heap.size (w.heap.size + 1)).flatMap Nd.cells).toArray 51)) (.slice (some ⟨w.heap.size + 1 + 1, 0, none⟩) 4 4) (shP w.heap.size (w.heap.size + 1)) := by
  have k1 : Whole (((w.alloc (.cells #[.int .i64 1, .int .i64 2] 3)).alloc (.cells #[.int .i64 3] 3)).alloc (.cells ((shP w.heap.size (w.heap.size + 1)).flatMap Nd.cells).toArray 51)) w.heap.size 3 [.int .i64 1, .int .i64 2] := ((whole_new w [.int .i64 1, .int .i64 2] 3 _ rfl).alloc _).alloc _
  have k2 : Whole (((w.alloc (.cells #[.int .i64 1, .int .i64 2] 3)).alloc (.cells #[.int .i64 3] 3)).alloc (.cells ((shP w.heap.size (w.heap.size + 1)).flatMap Nd.cells).toArray 51)) (w.heap.size + 1) 3 [.int .i64 3] := (whole_new (w.alloc (.cells #[.int .i64 1, .int .i64 2] 3)) [.int .i64 3] 3 _ (by simp)).alloc _
  refine page_flat (t := 51) (whole_new ((w.alloc (.cells #[.int .i64 1, .int .i64 2] 3)).alloc (.cells #[.int .i64 3] 3)) ((shP w.heap.size (w.heap.size + 1)).flatMap Nd.cells) 51 _ (by simp)) rfl (by omega) (fun n hn => ?_)
  simp only [shP, List.mem_cons, List.not_mem_nil, or_false] at hn
  rcases hn with rfl | rfl | rfl | rfl
  · exact nd_kids_ok (Ints.whole k1 rfl (by simp)) (capok_slice _ _ _ (by omega) (by omega))
  · exact nd_zero_ok _
  · exact nd_kids_ok (Ints.whole k2 rfl (by simp)) (capok_slice _ _ _ (by omega) (by omega))
  · exact nd_zero_ok _
set_option maxRecDepth 100000 in
set_option maxHeartbeats 4000000 in
theorem shown_any (w : World) : Calls Try.prog 7 #[] w fun e W' => e = .returned (.bool true) ∧ Below w.heap.size w W' := by
  have HP := Lib.hid (page_sh w)
  have HB : Hid (Below w.heap.size w (((w.alloc (.cells #[.int .i64 1, .int .i64 2] 3)).alloc (.cells #[.int .i64 3] 3)).alloc (.cells ((shP w.heap.size (w.heap.size + 1)).flatMap Nd.cells).toArray 51))) := Lib.hid ((((Below.refl _ w).alloc (Nat.le_refl _) _).alloc (by simp) _).alloc (by simp; omega) _)
  have H1 := orderF_any _ _ _ HP.out (sh_kids _ _)
  rw [sh_check, sh_order] at H1
  have H1' := Lib.hid H1
  have HC : Hid (∀ X : World, Calls Try.prog 8 #[.slice none 0 0] X fun e W' => e = .returned (.tuple #[.int .i64 0, .int .i64 43]) ∧ Below X.heap.size X W') := Lib.hid fun X => check_any _ [] X (nil_page X) (fun n h => by cases h)
  clear H1
  go_enter Try.func7, Try.ntmps7
  go_wp2_with fail
  refine H1'.out.mono ?_
  clear H1'
  rintro e w1 ⟨h1, hb1⟩
  rw [if_pos rfl] at h1
  obtain ⟨v1, rfl, hv1⟩ := h1
  have HP1 := Lib.hid (HP.out.below hb1)
  have HB1 := Lib.hid (HB.out.trans (hb1.mono HB.out.size))
  clear HP HB hb1
  have H2 := depthsF_any _ _ _ HP1.out (sh_kids _ _)
  rw [sh_check, sh_depths] at H2
  have H2' := Lib.hid H2
  have HV1 := Lib.hid hv1
  clear H2 HP1 hv1
  go_wp2_with fail
  refine H2'.out.mono ?_
  clear H2'
  rintro e w2 ⟨h2, hb2⟩
  rw [if_pos rfl] at h2
  obtain ⟨v2, rfl, hv2⟩ := h2
  have HV2 := Lib.hid (HV1.out.below hb2)
  have HB2 := Lib.hid (HB1.out.trans (hb2.mono HB1.out.size))
  have HU2 := Lib.hid hv2
  clear HV1 HB1 hb2 hv2
  go_wp2_with (go_at_call 8; refine (HC.out _).mono ?_; clear HC; rintro e w3 ⟨rfl, hb3⟩; have HV3 := Lib.hid (HV2.out.below hb3); have HU3 := Lib.hid (HU2.out.below hb3); have HB3 := Lib.hid (HB2.out.trans (hb3.mono HB2.out.size)); clear HV2 HU2 HB2 hb3)
  have I1 : Hid (Calls Try.prog 15 #[v1, .slice (some ⟨w3.heap.size, 0, none⟩) 4 4] (w3.alloc (.cells #[.int .i64 0, .int .i64 1, .int .i64 2, .int .i64 3] 3)) fun e w' => e = .returned (.bool true) ∧ Below w3.heap.size w3 w') := Lib.hid (by
    refine (ints_any v1 _ [0, 1, 2, 3] [0, 1, 2, 3] _ (HV3.out.below ((Below.refl _ _).alloc (Nat.le_refl _) _)) (Ints.whole (t := 3) (whole_new w3 [.int .i64 0, .int .i64 1, .int .i64 2, .int .i64 3] 3 _ rfl) rfl (by simp))).mono ?_
    rintro e w' ⟨rfl, n, rfl⟩
    exact ⟨rfl, ((Below.refl _ w3).alloc (Nat.le_refl _) _).trans (below_dn _ _ n)⟩)
  refine I1.out.mono ?_
  clear I1 HV3
  rintro e w4 ⟨rfl, hb4⟩
  have HB4 := Lib.hid (HB3.out.trans (hb4.mono HB3.out.size))
  have HU4 := Lib.hid (HU3.out.below hb4)
  clear hb4 HB3 HU3
  go_wp2_with fail
  have I1 : Hid (Calls Try.prog 15 #[v2, .slice (some ⟨w4.heap.size, 0, none⟩) 4 4] (w4.alloc (.cells #[.int .i64 1, .int .i64 2, .int .i64 2, .int .i64 3] 3)) fun e w' => e = .returned (.bool true) ∧ Below w4.heap.size w4 w') := Lib.hid (by
    refine (ints_any v2 _ [1, 2, 2, 3] [1, 2, 2, 3] _ (HU4.out.below ((Below.refl _ _).alloc (Nat.le_refl _) _)) (Ints.whole (t := 3) (whole_new w4 [.int .i64 1, .int .i64 2, .int .i64 2, .int .i64 3] 3 _ rfl) rfl (by simp))).mono ?_
    rintro e w' ⟨rfl, n, rfl⟩
    exact ⟨rfl, ((Below.refl _ w4).alloc (Nat.le_refl _) _).trans (below_dn _ _ n)⟩)
  refine I1.out.mono ?_
  clear I1 HU4
  rintro e w5 ⟨rfl, hb5⟩
  have HB5 := Lib.hid (HB4.out.trans (hb5.mono HB4.out.size))
  clear hb5 HB4
  go_wp2
  go_ret
  exact ⟨rfl, HB5.out⟩
end Go.Proofs.Ytilighhccjdceaa
