/- The memory of the document's Slots: rows of numbers in a list that grows, each row its own block. -/
import Derived.Test.YtcgnldcdcbnofaaGRefS
namespace Go.Proofs.Ytcgnldcdcbnofaa
open Go.RowKit Go.Shelf
set_option linter.unusedVariables false
set_option linter.unusedSimpArgs false

theorem Apart.symm {u v : Value} (h : Apart u v) : Apart v u := by
  unfold Apart at *
  rcases h with h | h
  · cases hv : v.ownBlock with
    | none => exact .inl rfl
    | some b => exact .inr (by rw [h]; exact fun e => by cases e)
  · exact .inr fun e => h e.symm
theorem own_types {X : World} {b b' e e' sz sz' n n' : Nat} {v v' : Value} {xs xs' : List Value} (h : X.ownsRow b e sz v n xs) (h' : X.ownsRow b' e' sz' v' n' xs') (hne : e ≠ e') : Apart v v' := by
  rcases h.2 with ⟨rfl, _⟩ | ⟨g, cap, cur, rfl, _, hg, _⟩
  · exact .inl rfl
  · rcases h'.2 with ⟨rfl, _⟩ | ⟨g', cap', cur', rfl, _, hg', _⟩
    · exact .inr fun e => by simp [Value.ownBlock] at e
    · refine .inr fun e => ?_
      simp [Value.ownBlock] at e
      subst e
      rw [hg] at hg'
      cases hg'
      exact hne rfl
/-- rows of numbers in a list that grows -/
structure RM (w : World) (out : Value) (hs : List Value) (M : List (List Int)) (X : World) : Prop where
  lo : Below w.heap.size w X
  ot : X.ownsRow w.heap.size 26 1 out hs.length hs
  hl : hs.length = M.length
  ro : ∀ (r : Nat) (u : Value) (l : List Int), hs[r]? = some u → M[r]? = some l → X.ownsRow w.heap.size 3 1 u l.length (l.map (Value.int .i64))
  di : ∀ (r r' : Nat) (u u' : Value), r ≠ r' → hs[r]? = some u → hs[r']? = some u' → Apart u u'
theorem RM.nil (w X : World) (h : Below w.heap.size w X) : RM w (.slice none 0 0) [] [] X :=
  ⟨h, World.ownsRow_nil _ _ _ _, rfl, fun r u l h => by simp at h, fun r r' u u' _ h => by simp at h⟩
theorem RM.grown {w X Y : World} {out : Value} {hs : List Value} {M : List (List Int)} {row : Option Nat} (h : RM w out hs M X) (hg : X.grownBy Y row) (hr : NoCells X row) (hl : ∀ r, row = some r → w.heap.size ≤ r) : RM w out hs M Y :=
  ⟨h.lo.grown hg h.lo.size hl, own_grown h.ot hg hr, h.hl, fun r u l hu hl => own_grown (h.ro r u l hu hl) hg hr, h.di⟩
theorem RM.alloc {w X : World} {out : Value} {hs : List Value} {M : List (List Int)} (h : RM w out hs M X) (o : Obj) : RM w out hs M (X.alloc o) :=
  h.grown (World.grownBy_alloc X o none) (fun _ e => by cases e) (fun _ e => by cases e)
theorem RM.below {w X Y : World} {out : Value} {hs : List Value} {M : List (List Int)} (h : RM w out hs M X) (hb : Below X.heap.size X Y) : RM w out hs M Y :=
  h.grown (grown_of_below' hb) (fun _ e => by cases e) (fun _ e => by cases e)
/-- a row that is apart from the others grows -/
theorem RM.apart {w X Y : World} {out v : Value} {hs : List Value} {M : List (List Int)} {n : Nat} {xs : List Value} (h : RM w out hs M X) (hv : X.ownsRow w.heap.size 3 1 v n xs) (ha : ∀ (r : Nat) (u : Value), hs[r]? = some u → Apart u v) (hg : X.grownBy Y v.ownBlock) : RM w out hs M Y :=
  ⟨own_below h.lo hv (Nat.le_refl _) hg h.lo.size, h.ot.kept hg (own_types h.ot hv (by decide)), h.hl, fun r u l hu hl => (h.ro r u l hu hl).kept hg (ha r u hu), h.di⟩
/-- one more row -/
theorem RM.push {w X Y : World} {out out' v : Value} {hs : List Value} {M : List (List Int)} {l : List Int} {o : Obj} (h : RM w out hs M X) (hv : X.ownsRow w.heap.size 3 1 v l.length (l.map (Value.int .i64))) (ha : ∀ (r : Nat) (u : Value), hs[r]? = some u → Apart u v)
    (ho : Y.ownsRow w.heap.size 26 1 out' (hs.length + 1) (hs ++ [v])) (hg : (X.alloc o).grownBy Y out.ownBlock) : RM w out' (hs ++ [v]) (M ++ [l]) Y := by
  have hA := h.alloc o
  refine ⟨own_below hA.lo hA.ot (Nat.le_refl _) hg hA.lo.size, by simpa using ho, by simp [h.hl], fun r u l' hu hl' => ?_, fun r r' u u' hrr hu hu' => ?_⟩
  · by_cases hr : r < hs.length
    · rw [List.getElem?_append_left hr] at hu
      rw [List.getElem?_append_left (by rw [← h.hl]; exact hr)] at hl'
      exact (hA.ro r u l' hu hl').kept hg (own_types (hA.ro r u l' hu hl') hA.ot (by decide))
    · have hr1 : r = hs.length := by have := (List.getElem?_eq_some_iff.1 hu).1; simp at this; omega
      subst hr1
      rw [List.getElem?_append_right (Nat.le_refl _), Nat.sub_self] at hu
      rw [List.getElem?_append_right (by rw [h.hl]; exact Nat.le_refl _), h.hl, Nat.sub_self] at hl'
      simp at hu hl'
      subst hu hl'
      exact (hv.alloc o).kept hg (own_types (hv.alloc o) hA.ot (by decide))
  · have last : ∀ (k : Nat) (x : Value), (hs ++ [v])[k]? = some x → ¬ k < hs.length → k = hs.length ∧ x = v := fun k x hx hk => by
      have hk1 : k = hs.length := by have := (List.getElem?_eq_some_iff.1 hx).1; simp at this; omega
      subst hk1
      rw [List.getElem?_append_right (Nat.le_refl _), Nat.sub_self] at hx
      simp at hx
      exact ⟨rfl, hx.symm⟩
    by_cases hr : r < hs.length
    · rw [List.getElem?_append_left hr] at hu
      by_cases hr' : r' < hs.length
      · rw [List.getElem?_append_left hr'] at hu'
        exact h.di r r' u u' hrr hu hu'
      · obtain ⟨_, rfl⟩ := last r' u' hu' hr'
        exact ha r u hu
    · obtain ⟨h1, rfl⟩ := last r u hu hr
      by_cases hr' : r' < hs.length
      · rw [List.getElem?_append_left hr'] at hu'
        exact (ha r' u' hu').symm
      · obtain ⟨h2, _⟩ := last r' u' hu' hr'
        omega
/-- one number of one row is written -/
theorem RM.write {w X : World} {out : Value} {hs : List Value} {M : List (List Int)} {r b n cap c : Nat} {l : List Int} (z : Int) (h : RM w out hs M X) (hu : hs[r]? = some (.slice (some ⟨b, 0, none⟩) n cap)) (hl : M[r]? = some l) :
    RM w out hs (M.set r (l.set c z)) (X.setCell ⟨b, c, none⟩ (.int .i64 z)) := by
  have h0 := h.ro r _ l hu hl
  have hn : n = l.length := by
    rcases h0.2 with ⟨e, _⟩ | ⟨g, cap', cur, e, _⟩
    · cases e
    · injection e
  subst hn
  have hst := h0.stored c (.int .i64 z)
  have hb : Below w.heap.size w (X.setCell ⟨b, c, none⟩ (.int .i64 z)) := own_below h.lo h0 (Nat.le_refl _) hst.2 h.lo.size
  refine ⟨hb, h.ot.kept hst.2 (own_types h.ot h0 (by decide)), by rw [List.length_set]; exact h.hl, fun r' u l' hu' hl' => ?_, h.di⟩
  by_cases hr : r = r'
  · subst hr
    rw [hu] at hu'
    cases hu'
    rw [List.getElem?_set_self (List.getElem?_eq_some_iff.1 hl).1] at hl'
    cases hl'
    rw [List.length_set, List.map_set]
    exact hst.1
  · rw [List.getElem?_set_ne hr] at hl'
    exact (h.ro r' u l' hu' hl').kept hst.2 (h.di r' r u _ (fun e => hr e.symm) hu' hu)
/-- what a row's number is in memory -/
theorem RM.cell {w X : World} {out : Value} {hs : List Value} {M : List (List Int)} {r c : Nat} {l : List Int} {z : Int} (h : RM w out hs M X) (hl : M[r]? = some l) (hz : l[c]? = some z) :
    ∃ b cap ob ocap, out = .slice (some ⟨ob, 0, none⟩) hs.length ocap ∧ ob < X.heap.size ∧ X.cell? ⟨ob, r, none⟩ = some (.slice (some ⟨b, 0, none⟩) l.length cap) ∧ hs[r]? = some (.slice (some ⟨b, 0, none⟩) l.length cap) ∧ b < X.heap.size ∧ X.frozen? ⟨b, c, none⟩ = false ∧ X.cell? ⟨b, c, none⟩ = some (.int .i64 z) := by
  have hr := (List.getElem?_eq_some_iff.1 hl).1
  have hc := (List.getElem?_eq_some_iff.1 hz).1
  obtain ⟨u, hu⟩ : ∃ u, hs[r]? = some u := ⟨_, List.getElem?_eq_getElem (by rw [h.hl]; exact hr)⟩
  have h0 := h.ro r u l hu hl
  obtain ⟨b, cap, rfl, hb1, hb2⟩ := h0.form (by omega)
  have hot := h.ot
  obtain ⟨ob, ocap, rfl, ho1, ho2⟩ := hot.form (by rw [h.hl]; omega)
  refine ⟨b, cap, ob, ocap, rfl, ho2, ?_, hu, hb2, h0.frozenAt _, ?_⟩
  · rw [hot.cellAt _ (by rw [h.hl]; omega), hu]
  · rw [h0.cellAt _ (by omega), List.getElem?_map, hz]; rfl
end Go.Proofs.Ytcgnldcdcbnofaa
