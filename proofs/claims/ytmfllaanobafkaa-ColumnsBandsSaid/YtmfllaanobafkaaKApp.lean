/- A list of needs that grows by append. -/
import Derived.Test.YtmfllaanobafkaaKLaw
import Derived.Maps.AppendAt
import Derived.Laws.OwnMore
namespace Go.Proofs.Ytmfllaanobafkaa
open Go.RowKit Go.Shelf Go.Maps
set_option linter.unusedVariables false
set_option linter.unusedSimpArgs false

theorem Try.infoNe : (Try.prog.info? 40).map (fun i => (i.zero, i.size, i.bytes)) = some (some (.agg #[.int .i64 0, .int .i64 0, .int .i64 0, .int .i64 0, .int .i64 0, .int .i64 0, .int .i64 0, .int .i64 0, .int .i64 0]), 9, 72) := by kernel_rfl
theorem infoNe4 : ∃ i : TypeInfo, Try.prog.info? 40 = some i ∧ i.zero = some (.agg #[.int .i64 0, .int .i64 0, .int .i64 0, .int .i64 0, .int .i64 0, .int .i64 0, .int .i64 0, .int .i64 0, .int .i64 0]) ∧ i.size = 9 ∧ i.bytes = 72 := by
  cases hi : Try.prog.info? 40 with
  | none => have := Try.infoNe; rw [hi] at this; cases this
  | some i =>
    have h := Try.infoNe
    rw [hi] at h
    simp only [Option.map_some, Option.some.injEq, Prod.mk.injEq] at h
    exact ⟨i, rfl, h.1, h.2.1, h.2.2⟩
theorem own_belowK {X Y : World} {base e sz n : Nat} {v : Value} {xs : List Value} (h : X.ownsRow base e sz v n xs) (hb : Below X.heap.size X Y) : Y.ownsRow base e sz v n xs := by
  refine ⟨h.1, h.2.imp id ?_⟩
  rintro ⟨g, cap, cur, e, h1, h2, h3⟩
  exact ⟨g, cap, cur, e, h1, (hb.block g (Array.getElem?_eq_some_iff.1 h2).1).trans h2, h3⟩
theorem own_sliceK {W : World} {base e size n : Nat} {v : Value} {xs : List Value} (h : W.ownsRow base e size v n xs) : ∃ p k c, v = .slice p k c := by
  rcases h.2 with ⟨rfl, _⟩ | ⟨g, cap, cur, rfl, _⟩
  · exact ⟨none, 0, 0, rfl⟩
  · exact ⟨_, _, _, rfl⟩
theorem own_ltK {W : World} {base e size n : Nat} {v : Value} {xs : List Value} (h : W.ownsRow base e size v n xs) (g : Nat) (hg : v.ownBlock = some g) : base ≤ g := by
  rcases h.2 with ⟨rfl, _⟩ | ⟨g', cap, cur, rfl, hb, _⟩
  · cases hg
  · simp [Value.ownBlock] at hg; omega
/-- a list of needs that grows: its memory is its own -/
def GK (B : World) (v : Value) (ys : List Ne) (X : World) : Prop := X.ownsRow B.heap.size 40 9 v ys.length (ys.flatMap Ne.cells) ∧ Below B.heap.size B X
theorem GK.nil (B : World) : GK B (.slice none 0 0) [] B := ⟨⟨rfl, .inl ⟨rfl, rfl⟩⟩, Below.refl _ _⟩
theorem GK.below {B X Y : World} {v : Value} {ys : List Ne} (h : GK B v ys X) (hb : Below X.heap.size X Y) : GK B v ys Y := ⟨own_belowK h.1 hb, h.2.trans (hb.mono h.2.size)⟩
theorem GK.step {B X Y : World} {v v' : Value} {ys zs : List Ne} {o : Obj} (h : GK B v ys X) (ho : Y.ownsRow B.heap.size 40 9 v' (ys.length + zs.length) (ys.flatMap Ne.cells ++ zs.flatMap Ne.cells)) (hg : (X.alloc o).grownBy Y v.ownBlock) : GK B v' (ys ++ zs) Y :=
  ⟨by rw [List.length_append, List.flatMap_append]; exact ho, (h.2.alloc h.2.size o).grown hg (by have := h.2.size; simp; omega) (fun g e => own_ltK h.1 g e)⟩
theorem GK.rows {B X : World} {v : Value} {ys : List Ne} (h : GK B v ys X) (hm : ys.length ≤ 9223372036854775807) : RowsK Ne.cells 9 X v ys := by
  refine ⟨hm, ?_⟩
  rcases h.1.2 with ⟨rfl, h0⟩ | ⟨g, cap, cur, rfl, hb, hg, hnc, hcm, hcs, htk⟩
  · exact .inl ⟨none, 0, rfl, List.length_eq_zero_iff.1 h0⟩
  · refine .inr ⟨g, 0, cap, rfl, (Array.getElem?_eq_some_iff.1 hg).1, fun j hj i v hv => ?_⟩
    have hi : i < 9 := (List.getElem?_eq_some_iff.1 hv).1
    have hf := flat_getK Ne.cells 9 Ne.cells_len ys j i hi hj
    rw [← htk, List.getElem?_take_of_lt (by have := Nat.mul_le_mul_right 9 (show j + 1 ≤ ys.length by omega); omega)] at hf
    rw [show 0 + j * 9 + i = j * 9 + i by omega]
    simp [World.cell?, hg]
    rw [← hv, ← hf]; simp
theorem lay_newK (w : World) (xs : List Value) (t g : Nat) (hg : g = w.heap.size) : ∀ j u, xs[j]? = some u → (w.alloc (.cells xs.toArray t)).cell? ((⟨g, 0, none⟩ : Addr).add j) = some u := by
  intro j u hu
  have := (whole_new w xs t g hg).cellAt j
  rw [add_plainK, Nat.zero_add, this, hu]
end Go.Proofs.Ytmfllaanobafkaa
