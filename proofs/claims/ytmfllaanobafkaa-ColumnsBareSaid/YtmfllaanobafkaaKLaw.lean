/- What the laws of columns share: the answer of Bands in one contract; slices cut. -/
import Derived.Test.YtmfllaanobafkaaKOpen
namespace Go.Proofs.Ytmfllaanobafkaa
open Go.RowKit Go.Shelf
set_option linter.unusedVariables false
set_option linter.unusedSimpArgs false
attribute [local go_sem] Oper.semAt_some

/-- the bands that Bands answers -/
def ansB (zs : List Sz) (ns : List Ne) : List Ba := if rightK zs ns then bandsB zs ns else []
/-- the error that Bands answers -/
def errB (zs : List Sz) (ns : List Ne) : Int := if rightK zs ns then 0 else 130
theorem ansB_ok {zs : List Sz} {ns : List Ne} (h : rightK zs ns = true) : ansB zs ns = bandsB zs ns := by simp [ansB, h]
theorem errB_ok {zs : List Sz} {ns : List Ne} (h : rightK zs ns = true) : errB zs ns = 0 := by simp [errB, h]
theorem ansB_bad {zs : List Sz} {ns : List Ne} (h : rightK zs ns = false) : ansB zs ns = [] := by simp [ansB, h]
theorem errB_bad {zs : List Sz} {ns : List Ne} (h : rightK zs ns = false) : errB zs ns = 130 := by simp [errB, h]
theorem bandsK_any (p q : Option Addr) (m c m' c' : Nat) (zs : List Sz) (ns : List Ne) (W : World) (hz : RowsK Sz.cells 2 W (.slice p m c) zs) (hn : RowsK Ne.cells 9 W (.slice q m' c') ns) :
    Calls Try.prog 11 #[.slice p m c, .slice q m' c'] W fun e W' => ∃ a k, e = .returned (.tuple #[.slice a (ansB zs ns).length k, .int .i64 (errB zs ns)]) ∧ RowsK Ba.cells 4 W' (.slice a (ansB zs ns).length k) (ansB zs ns) ∧ Below W.heap.size W W' := by
  cases hr : rightK zs ns with
  | false =>
    rw [ansB_bad hr, errB_bad hr]
    refine (bands_bad p q m c m' c' zs ns W hz hn hr).mono ?_
    rintro e W' ⟨rfl, hb⟩
    exact ⟨none, 0, rfl, RowsK.none, hb⟩
  | true =>
    rw [ansB_ok hr, errB_ok hr]
    refine (bands_ok p q m c m' c' zs ns W hz hn hr).mono ?_
    rintro e W' ⟨G, rfl, _, hbs, hb⟩
    have hl : (bandsB zs ns).length = m := by rw [bandsB_len]; exact hz.len
    have hm : m ≤ 9223372036854775807 := by have := hz.1; rw [hz.len] at this; exact this
    exact ⟨some ⟨G, 0, none⟩, m, by rw [hl], by rw [hl]; exact hbs.rows hl m hm, hb⟩
theorem RowsK.take {α : Type} [Inhabited α] {cells : α → List Value} {n : Nat} {W : World} {p : Option Addr} {m c : Nat} {zs : List α} (h : RowsK cells n W (.slice p m c) zs) (k : Nat) (hk : k ≤ m) : RowsK cells n W (.slice p k c) (zs.take k) := by
  have hl := h.len
  have ht : (zs.take k).length = k := by rw [List.length_take]; omega
  refine ⟨by have := h.1; omega, ?_⟩
  obtain ⟨hm, ⟨a, cap, e, rfl⟩ | ⟨b, off, cap, e, hlt, hc⟩⟩ := h
  · injection e with e1 e2 e3
    subst e2
    obtain rfl : k = 0 := by omega
    exact .inl ⟨p, c, rfl, rfl⟩
  · injection e with e1 e2 e3
    subst e1 e3
    refine .inr ⟨b, off, c, by rw [ht], hlt, fun j hj i v hv => hc j (by omega) i v ?_⟩
    have e : (zs.take k)[j]! = zs[j]! := by simp [List.getElem!_eq_getElem?_getD, List.getElem?_take, (by omega : j < k)]
    rw [e] at hv; exact hv
end Go.Proofs.Ytmfllaanobafkaa
