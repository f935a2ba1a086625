/- The order that every statement of layer 4 asks for first is known. -/
import Derived.Test.YtgaclepoipaecaaTOrder
import Derived.Test.YtgaclepoipaecaaTInts
namespace Go.Proofs.Ytgaclepoipaecaa
open Go.RowKit Go.Shelf
set_option linter.unusedVariables false
attribute [local go_sem] Oper.semAt_some

def ndKids (kv : Value) (ks : List Int) : Nd := { Nd.zero with kv := kv, ks := ks }
def shP (A B : Nat) : List Nd := [ndKids (.slice (some ⟨A, 0, none⟩) 2 2) [1, 2], Nd.zero, ndKids (.slice (some ⟨B, 0, none⟩) 1 1) [3], Nd.zero]
theorem sh_check (A B : Nat) : checkP (shP A B) = (0, 0) := by rfl
theorem sh_order (A B : Nat) : (walkL (shP A B).length (kfOf (shP A B))).map Prod.fst = [0, 1, 2, 3] := by rfl
theorem sh_depths (A B : Nat) : depthsP (shP A B) = [1, 2, 2, 3] := by rfl
theorem nil_page (W : World) : PageAt W (.slice none 0 0) [] := ⟨by simp, fun n h => by (cases h), .inl ⟨none, 0, rfl, rfl⟩⟩
theorem sh_kids (A B : Nat) : ∀ n ∈ shP A B, n.ks.length ≤ 70000 := fun n hn => by
  simp [shP, ndKids, Nd.zero] at hn
  rcases hn with rfl | rfl | rfl | rfl <;> simp
theorem capok_slice (p : Option Addr) (len cap : Nat) (h : len ≤ cap) (h2 : cap ≤ 9223372036854775807) : CapOk (.slice p len cap) := ⟨p, len, cap, rfl, h, h2⟩
theorem ints_nil (W : World) : Ints W (.slice none 0 0) [] := ⟨by simp, .inl ⟨none, 0, rfl, rfl⟩⟩
theorem nd_zero_ok (W : World) : Nd.zero.ok W := ⟨ints_nil W, ints_nil W, capok_slice _ _ _ (by omega) (by omega), capok_slice _ _ _ (by omega) (by omega)⟩
theorem nd_kids_ok {W : World} {kv : Value} {ks : List Int} (h : Ints W kv ks) (hc : CapOk kv) : (ndKids kv ks).ok W := ⟨h, ints_nil W, hc, capok_slice _ _ _ (by omega) (by omega)⟩
theorem flat_get : ∀ (ns : List Nd) (i : Nat) (n : Nd) (j : Nat) (v : Value), ns[i]? = some n → n.cells[j]? = some v → (ns.flatMap Nd.cells)[i * 34 + j]? = some v
  | [], i, n, j, v, h, _ => by simp at h
  | a :: ns, 0, n, j, v, h, hj => by
    simp at h; subst h
    have hl : j < a.cells.length := (List.getElem?_eq_some_iff.1 hj).1
    rw [List.flatMap_cons, Nat.zero_mul, Nat.zero_add, List.getElem?_append_left hl]
    exact hj
  | a :: ns, i + 1, n, j, v, h, hj => by
    rw [List.flatMap_cons, List.getElem?_append_right (by rw [a.len]; omega), a.len, show (i + 1) * 34 + j - 34 = i * 34 + j by omega]
    exact flat_get ns i n j v (by simpa using h) hj
theorem flat_at {X : World} {g t : Nat} {ns : List Nd} (h : Whole X g t (ns.flatMap Nd.cells)) : ∀ i n, ns[i]? = some n → NdAt X g (0 + i * 34) n := fun i n hn j v hj => by
  rw [Nat.zero_add, h.cellAt]; exact flat_get ns i n j v hn hj
theorem page_flat {X : World} {g t m cap : Nat} {ns : List Nd} (h : Whole X g t (ns.flatMap Nd.cells)) (hm : ns.length = m) (hm2 : m ≤ 9223372036854775807) (hok : ∀ n ∈ ns, n.ok X) : PageAt X (.slice (some ⟨g, 0, none⟩) m cap) ns := by
  subst hm
  exact ⟨hm2, hok, .inr ⟨g, 0, cap, rfl, flat_at h⟩⟩
theorem page_sh (w : World) : PageAt (((w.alloc (.cells #[.int .i64 1, .int .i64 2] 3)).alloc (.cells #[.int .i64 3] 3)).alloc (.cells ((shP w.heap.size (w.heap.size + 1)).flatMap Nd.cells).toArray 45)) (.slice (some ⟨w.heap.size + 1 + 1, 0, none⟩) 4 4) (shP w.heap.size (w.heap.size + 1)) := by
  have k1 : Whole (((w.alloc (.cells #[.int .i64 1, .int .i64 2] 3)).alloc (.cells #[.int .i64 3] 3)).alloc (.cells ((shP w.heap.size (w.heap.size + 1)).flatMap Nd.cells).toArray 45)) w.heap.size 3 [.int .i64 1, .int .i64 2] := ((whole_new w [.int .i64 1, .int .i64 2] 3 _ rfl).alloc _).alloc _
  have k2 : Whole (((w.alloc (.cells #[.int .i64 1, .int .i64 2] 3)).alloc (.cells #[.int .i64 3] 3)).alloc (.cells ((shP w.heap.size (w.heap.size + 1)).flatMap Nd.cells).toArray 45)) (w.heap.size + 1) 3 [.int .i64 3] := (whole_new (w.alloc (.cells #[.int .i64 1, .int .i64 2] 3)) [.int .i64 3] 3 _ (by simp)).alloc _
  refine page_flat (t := 45) (whole_new ((w.alloc (.cells #[.int .i64 1, .int .i64 2] 3)).alloc (.cells #[.int .i64 3] 3)) ((shP w.heap.size (w.heap.size + 1)).flatMap Nd.cells) 45 _ (by simp)) rfl (by omega) (fun n hn => ?_)
  simp only [shP, List.mem_cons, List.not_mem_nil, or_false] at hn
  rcases hn with rfl | rfl | rfl | rfl
  · exact nd_kids_ok (Ints.whole k1 rfl (by simp)) (capok_slice _ _ _ (by omega) (by omega))
  · exact nd_zero_ok _
  · exact nd_kids_ok (Ints.whole k2 rfl (by simp)) (capok_slice _ _ _ (by omega) (by omega))
  · exact nd_zero_ok _
end Go.Proofs.Ytgaclepoipaecaa
