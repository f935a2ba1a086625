/- Contract of the place of a corner: the numbers of its lines. -/
import Derived.Test.YtjdnhpbifblneaaRLines
import Derived.Test.YtjdnhpbifblneaaRCorner
import Derived.Laws.Rows
namespace Go.Proofs.Ytjdnhpbifblneaa
open Go.RowKit Go.Shelf Go.Sort Go.Lib
set_option linter.unusedVariables false

/-- how many of them are less -/
def rank (zs : List Int) (x : Int) : Nat := zs.countP (· < x)
theorem rank_le (zs : List Int) (x : Int) : rank zs x ≤ zs.length := List.countP_le_length
theorem search_any (sv : Value) (zs : List Int) (x : Int) (W : World) (hI : Ints W sv zs) (h1 : 1 ≤ zs.length) (h2 : zs.length < 4611686018427387904) (hs : zs.Pairwise (· ≤ ·)) :
    Calls Try.prog 44 #[sv, .int .i64 x] W fun e W' => (∃ b, e = .returned (.tuple #[.int .i64 (rank zs x : Nat), .bool b])) ∧ ∃ q, W' = W.drewN q := by
  obtain ⟨hm, ⟨a, cap, rfl, rfl⟩ | ⟨b, off, cap, rfl, hc⟩⟩ := hI
  · simp at h1
  · have h := AnyG.slices_BinarySearch_int Try.searchI b off zs.length cap zs x W (Nat.le_refl _) h2 (fun j hj => by rw [hc j hj]; simp [hj]) (by rw [List.take_length]; exact hs)
    refine (show Calls Try.prog 44 _ _ _ from h).mono ?_
    rintro e W' ⟨rfl, q, rfl⟩
    exact ⟨⟨_, by rw [List.take_length]; rfl⟩, q, rfl⟩
set_option maxHeartbeats 400000 in
theorem place_any (sx sy : Value) (xs ys : List Int) (x y : Int) (W : World) (hX : Ints W sx xs) (hY : Ints W sy ys) (hx : xs.Pairwise (· ≤ ·)) (hy : ys.Pairwise (· ≤ ·)) (lx : 1 ≤ xs.length ∧ xs.length < 2048) (ly : 1 ≤ ys.length ∧ ys.length < 2048) :
    Calls Try.prog 33 #[.agg #[sx, sy], .int .i64 x, .int .i64 y] W fun e W' => e = .returned (.complex .f64 (FN (rank xs x)) (FN (rank ys y))) ∧ Below W.heap.size W W' := by
  obtain ⟨ax, nx, cx, rfl⟩ : ∃ a n c, sx = .slice a n c := by obtain ⟨_, ⟨a, cap, rfl, _⟩ | ⟨b, off, cap, rfl, _⟩⟩ := hX <;> exact ⟨_, _, _, rfl⟩
  obtain ⟨ay, ny, cy, rfl⟩ : ∃ a n c, sy = .slice a n c := by obtain ⟨_, ⟨a, cap, rfl, _⟩ | ⟨b, off, cap, rfl, _⟩⟩ := hY <;> exact ⟨_, _, _, rfl⟩
  have rx := rank_le xs x
  have ry := rank_le ys y
  have SX := Lib.hid (fun V hV => search_any (.slice ax nx cx) xs x V hV lx.1 (by omega) hx)
  have SY := Lib.hid (fun V hV => search_any (.slice ay ny cy) ys y V hV ly.1 (by omega) hy)
  have HX := Lib.hid hX
  have HY := Lib.hid hY
  obtain ⟨lx1, lx2⟩ := lx
  obtain ⟨ly1, ly2⟩ := ly
  have i1 : rank xs x < 2048 := by omega
  have i2 : rank ys y < 2048 := by omega
  unfold FN
  generalize rank xs x = i at *
  generalize rank ys y = j at *
  have ii : (i : Int) < 2048 := by omega
  have jj : (j : Int) < 2048 := by omega
  have hB := Lib.hid ((Below.refl W.heap.size W).alloc (Nat.le_refl _) (.cells #[.slice ax nx cx, .slice ay ny cy] 41))
  have hv1 := fun w => run_convert_int_float (P := Try.prog) w 3 62 .i64 .f64 (i : Int) (by kernel_rfl) Try.underlying62
  have hv2 := fun w => run_convert_int_float (P := Try.prog) w 3 62 .i64 .f64 (j : Int) (by kernel_rfl) Try.underlying62
  generalize floatOfInt .f64 (i : Int) = fi at *
  generalize floatOfInt .f64 (j : Int) = fj at *
  clear hX hY hx hy rx ry lx1 lx2 ly1 ly2
  go_enter Try.func33, Try.ntmps33
  go_wp2_with fail
  refine (SX.out _ (HX.out.below hB.out)).mono ?_
  rintro e w1 ⟨⟨b1, rfl⟩, q1, rfl⟩
  go_wp2_with fail
  refine (SY.out _ (HY.out.below (hB.out.trans (below_dn _ _ q1)))).mono ?_
  rintro e w2 ⟨⟨b2, rfl⟩, q2, rfl⟩
  go_wp2
  go_ret
  exact ⟨by first | rfl | (simp; done), hB.out.trans (below_dn _ _ (q1 + q2))⟩
end Go.Proofs.Ytjdnhpbifblneaa
