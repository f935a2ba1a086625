/- The meeting and the tiling that every statement of layer 2 asks for first are known; a wrong rectangle is around nothing. -/
import Derived.Test.YtjdnhpbifblneaaRTiles
import Derived.Test.YtjdnhpbifblneaaRMeet
import Derived.Laws.StructEq
namespace Go.Proofs.Ytjdnhpbifblneaa
open Go.RowKit Go.Shelf Go.Sort Go.Lib
set_option linter.unusedVariables false
set_option linter.unusedSimpArgs false

set_option maxHeartbeats 800000 in
theorem around_bad (sv : Value) (l : List R) (W : World) (hI : Rects W sv l) (hb : l.all rightB = false) :
    Calls Try.prog 10 #[sv] W fun e W' => e = retR (⟨0, 0, 0, 0⟩, 20) ∧ Below W.heap.size W W' := by
  have HA := Lib.hid (fun X hX => hb ▸ allRight_any sv l X hX)
  have hB := (((Below.refl W.heap.size W).alloc (Nat.le_refl _) (.cells #[.int .i64 0, .int .i64 0, .int .i64 0, .int .i64 0] 23)).alloc (by simp) (.cells #[.int .i64 0, .int .i64 0, .int .i64 0, .int .i64 0] 23))
  have HI := Lib.hid (hI.below hB)
  have HB := Lib.hid hB
  clear hb hI hB
  go_enter Try.func10, Try.ntmps10
  go_wp2
  refine wp_scope_jumps 0 (fun a X => a = { tmps := #[sv, undef, .pointer (some ⟨W.heap.size, 0, none⟩), .int .i64 0, .pointer (some ⟨W.heap.size + 1, 0, none⟩), undef, sv, .bool false, .bool true, undef, undef, undef, undef, undef, undef, undef, undef, undef, undef, undef], defers := [] } ∧ Hid (Below W.heap.size W X ∧ Whole X W.heap.size 23 [.int .i64 0, .int .i64 0, .int .i64 0, .int .i64 0])) (fun _ _ => 0) rfl ?_ ?_
  · go_wp2_with fail
    refine (HA.out _ HI.out).mono ?_
    rintro e w1 ⟨rfl, hb1⟩
    have kr := Whole.below (g := W.heap.size) (t := 23) (xs := [.int .i64 0, .int .i64 0, .int .i64 0, .int .i64 0]) ((whole_new W _ _ _ rfl).alloc _) hb1 (by simp <;> omega)
    have HF := Lib.hid (⟨HB.out.trans (hb1.mono (by simp <;> omega)), kr⟩ : Below W.heap.size W w1 ∧ _)
    clear hb1 kr
    go_wp2
    apply wp_goto
    exact ⟨rfl, rfl, HF⟩
  · rintro a X ⟨rfl, H⟩
    obtain ⟨hb, kr⟩ := H.out
    have cr := kr.cellAt
    have fr := kr.free
    have HB2 := Lib.hid hb
    clear hb kr H HA HI HB
    go_wp2
    simp only [Exit.jump]
    refine bodyPost_ret (v := .tuple #[.agg #[.int .i64 0, .int .i64 0, .int .i64 0, .int .i64 0], .int .i64 20]) (by simp [results, Try.results10, go_sem, cr, fr]) rfl ⟨rfl, ?_⟩
    repeat (refine Below.setCell ?_ (by simp <;> omega) _)
    exact HB2.out
theorem msort_eq (zs ys : List Int) (hp : ys.Perm zs) (hs : ys.Pairwise (· ≤ ·)) : msort zs = ys := by
  refine List.Perm.eq_of_pairwise (le := fun x y : Int => x ≤ y) ?_ (msort_sorted zs) hs ((List.mergeSort_perm _ _).trans hp.symm)
  intro a b _ _ h1 h2; omega
theorem shown_tiles : tilesB ⟨0, 0, 2, 2⟩ [⟨0, 0, 1, 2⟩, ⟨1, 0, 1, 2⟩] = true := by
  have hx : linesX ⟨0, 0, 2, 2⟩ [⟨0, 0, 1, 2⟩, ⟨1, 0, 1, 2⟩] = [0, 0, 1, 1, 2, 2] := msort_eq _ _ (by decide) (by decide)
  have hy : linesY ⟨0, 0, 2, 2⟩ [⟨0, 0, 1, 2⟩, ⟨1, 0, 1, 2⟩] = [0, 0, 0, 2, 2, 2] := msort_eq _ _ (by decide) (by decide)
  unfold tilesB tileC
  rw [hx, hy]
  decide +kernel
set_option maxRecDepth 100000 in
set_option maxHeartbeats 1600000 in
theorem shown_any (w : World) : Calls Try.prog 5 #[] w fun e w' => e = .returned (.bool true) ∧ Below w.heap.size w w' := by
  have hm : meetR ⟨0, 0, 4, 4⟩ ⟨2, 3, 9, 9⟩ = (⟨2, 3, 2, 1⟩, 0) := by decide
  have M := Lib.hid (fun X => hm ▸ meet_any ⟨0, 0, 4, 4⟩ ⟨2, 3, 9, 9⟩ X)
  have T := Lib.hid (fun X b hI hc => shown_tiles ▸ tiles_some 0 0 2 2 (by decide) [(⟨⟨0, 0, 1, 2⟩, by decide⟩ : RR), ⟨⟨1, 0, 1, 2⟩, by decide⟩] (by decide) X 2 b 0 2 (Lib.hid rfl) hc hI)
  clear hm
  go_enter Try.func5, Try.ntmps5
  go_wp2_with fail
  refine (M.out _).mono ?_
  rintro e w1 ⟨rfl, hb1⟩
  unfold retR
  dsimp only
  have hs1 := hb1.size
  have HB1 := Lib.hid hb1
  clear hb1
  go_wp2_with fail
  have kt := whole_new (w1.alloc (.cells #[.int .i64 2, .int .i64 3, .int .i64 2, .int .i64 1] 23)) [.int .i64 0, .int .i64 0, .int .i64 1, .int .i64 2, .int .i64 1, .int .i64 0, .int .i64 1, .int .i64 2] 23 (w1.heap.size + 1) (by simp)
  have kb := (whole_new w1 [.int .i64 2, .int .i64 3, .int .i64 2, .int .i64 1] 23 w1.heap.size rfl).alloc (.cells [.int .i64 0, .int .i64 0, .int .i64 1, .int .i64 2, .int .i64 1, .int .i64 0, .int .i64 1, .int .i64 2].toArray 23)
  have hI := Rects.whole (n := 2) (zs := [⟨0, 0, 1, 2⟩, ⟨1, 0, 1, 2⟩]) kt rfl (by omega)
  have hcells : ∀ j, j < 2 → ∀ i v, (([(⟨0, 0, 1, 2⟩ : R), ⟨1, 0, 1, 2⟩])[j]!).cells[i]? = some v → w1.heap.size + 1 < ((w1.alloc (.cells [.int .i64 2, .int .i64 3, .int .i64 2, .int .i64 1].toArray 23)).alloc (.cells [.int .i64 0, .int .i64 0, .int .i64 1, .int .i64 2, .int .i64 1, .int .i64 0, .int .i64 1, .int .i64 2].toArray 23)).heap.size ∧ ((w1.alloc (.cells [.int .i64 2, .int .i64 3, .int .i64 2, .int .i64 1].toArray 23)).alloc (.cells [.int .i64 0, .int .i64 0, .int .i64 1, .int .i64 2, .int .i64 1, .int .i64 0, .int .i64 1, .int .i64 2].toArray 23)).cell? ⟨w1.heap.size + 1, 0 + j * 4 + i, none⟩ = some v := by
    intro j hj i v hv
    refine ⟨kt.lt, ?_⟩
    obtain ⟨_, ⟨a, cap, h, h0⟩ | ⟨b, off, cap, h, hlt, hc⟩⟩ := hI
    · cases h0
    · cases h; exact hc j hj i v hv
  refine (T.out _ (w1.heap.size + 1) hI hcells).mono ?_
  rintro e w2 ⟨rfl, hb2⟩
  have k1 := Lib.hid (kb.below hb2 (by simp <;> omega))
  have HB2 := Lib.hid (HB1.out.trans ((((Below.refl w1.heap.size w1).alloc (Nat.le_refl _) (.cells [.int .i64 2, .int .i64 3, .int .i64 2, .int .i64 1].toArray 23)).alloc (by simp) (.cells [.int .i64 0, .int .i64 0, .int .i64 1, .int .i64 2, .int .i64 1, .int .i64 0, .int .i64 1, .int .i64 2].toArray 23)).trans (hb2.mono (by simp <;> omega)) |>.mono hs1))
  have hs2 := HB2.out.size
  clear hb2 kt kb hI hcells HB1
  go_wp2_with fail
  refine (around_bad _ [⟨0, 0, -1, 0⟩] _ (Rects.whole (n := 1) (t := 23) (g := w2.heap.size) (whole_new w2 [.int .i64 0, .int .i64 0, .int .i64 (-1), .int .i64 0] _ _ rfl) rfl (by omega)) (by decide)).mono ?_
  rintro e w3 ⟨rfl, hb3⟩
  have k3 := (k1.out.alloc (.cells [.int .i64 0, .int .i64 0, .int .i64 (-1), .int .i64 0].toArray 23)).below hb3 (by have := k1.out.lt; simp; omega)
  have c0 : w3.cell? ⟨w1.heap.size, 0, none⟩ = some (.int .i64 2) := k3.cellAt 0
  have c1 : w3.cell? ⟨w1.heap.size, 1, none⟩ = some (.int .i64 3) := k3.cellAt 1
  have c2 : w3.cell? ⟨w1.heap.size, 2, none⟩ = some (.int .i64 2) := k3.cellAt 2
  have c3 : w3.cell? ⟨w1.heap.size, 3, none⟩ = some (.int .i64 1) := k3.cellAt 3
  have hlt : w1.heap.size < w3.heap.size := k3.lt
  have HB3 := Lib.hid ((HB2.out.alloc hs2 (.cells [.int .i64 0, .int .i64 0, .int .i64 (-1), .int .i64 0].toArray 23)).trans (hb3.mono (by simp <;> omega)))
  have hs3 := HB3.out.size
  clear hb3 k3 k1 HB2
  unfold retR
  dsimp only
  go_wp2
  go_ret
  exact ⟨by first | rfl | (simp; done), by first | exact HB3.out.alloc hs3 _ | exact (HB3.out.alloc hs3 _).alloc (by simp; omega) _⟩
end Go.Proofs.Ytjdnhpbifblneaa
