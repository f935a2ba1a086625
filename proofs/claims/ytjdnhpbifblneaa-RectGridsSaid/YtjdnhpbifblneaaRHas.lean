/- Contract of the document's none and has. -/
import Derived.Test.YtjdnhpbifblneaaRJoin
namespace Go.Proofs.Ytjdnhpbifblneaa
open Go.RowKit Go.Shelf Go.Lib
set_option linter.unusedVariables false
set_option linter.unusedSimpArgs false

theorem none_any (x y w h : Int) (W : World) :
    Calls Try.prog 17 #[.agg #[.int .i64 x, .int .i64 y, .int .i64 w, .int .i64 h]] W fun e W' => e = .returned (.bool (emptyB ⟨x, y, w, h⟩)) ∧ Below W.heap.size W W' := by
  by_cases hw : w = 0
  · subst hw
    go_enter Try.func17, Try.ntmps17
    go_wp2
    go_ret
    exact ⟨rfl, (Below.refl _ _).alloc (Nat.le_refl _) _⟩
  · have hw' : (w == 0) = false := by simpa using hw
    have hv : Hid (emptyB ⟨x, y, w, h⟩ = (h == 0)) := by apply Lib.hid; unfold emptyB; dsimp only; rw [hw']; rfl
    clear hw
    go_enter Try.func17, Try.ntmps17
    go_wp2
    go_ret
    exact ⟨by rw [hv.out] <;> rfl, (Below.refl _ _).alloc (Nat.le_refl _) _⟩
theorem any_hit (p : R → Bool) (zs : List R) (k : Nat) (q : R) (h : zs[k]? = some q) (hp : p q = true) : zs.any p = true := by
  rw [List.any_eq_true]; exact ⟨q, List.mem_of_getElem? h, hp⟩
theorem any_step (p : R → Bool) (zs : List R) (k : Nat) (q : R) (h : zs[k]? = some q) (hp : p q = false) (ht : (zs.take k).any p = false) : (zs.take (k + 1)).any p = false := by
  rw [List.take_add_one, h, List.any_append, ht]; simp [hp]
set_option maxHeartbeats 1600000 in
theorem has_any (sv : Value) (zs : List R) (a b : Int) (W : World) (hI : Rects W sv zs) (hls : ∀ q ∈ zs, rightB q = true) :
    Calls Try.prog 20 #[sv, .int .i64 a, .int .i64 b] W fun e W' => e = .returned (.bool (zs.any fun q => hasB q a b)) ∧ Below W.heap.size W W' := by
  obtain ⟨hm, ⟨p, cap, rfl, rfl⟩ | ⟨g, off, cap, rfl, hlt, hc⟩⟩ := hI
  · go_enter Try.func20, Try.ntmps20
    go_wp2
    refine wp_loop_rounds 1 ?_
    rw [rounds_succ]
    go_wp2
    go_ret
    exact ⟨rfl, Below.refl _ _⟩
  · have HC := Lib.hid hc
    have HS := Lib.hid hls
    clear hc hls
    go_enter Try.func20, Try.ntmps20
    go_wp2
    go_loopw [7] (fun i wr => ∃ k : Nat, k ≤ zs.length ∧ i = .int .i64 k ∧ Hid (Below W.heap.size W wr) ∧ Hid ((zs.take k).any (fun q => hasB q a b) = false)) (fun i _ => zs.length - (intOf i).toNat)
    case atStart => exact ⟨0, Nat.zero_le _, rfl, Lib.hid (Below.refl _ _), Lib.hid rfl⟩
    case round =>
      obtain ⟨k, hk, rfl, hb, ha⟩ := hrel
      by_cases hkl : k < zs.length
      · obtain ⟨q, hq⟩ : ∃ q, zs[k]? = some q := ⟨_, List.getElem?_eq_getElem hkl⟩
        have hqm : q ∈ zs := List.mem_of_getElem? hq
        have hr := HS.out q hqm
        have hcl : ∀ i v, q.cells[i]? = some v → wr.cell? ⟨g, off + k * 4 + i, none⟩ = some v := fun i v hv => by
          have := HC.out k hkl i v (by rw [show zs[k]! = q by simp [List.getElem!_eq_getElem?_getD, hq]]; exact hv)
          exact (hb.out.cell (p := ⟨g, off + k * 4 + i, none⟩) hlt).trans this
        obtain ⟨x, y, u, v⟩ := q
        have c0 : wr.cell? ⟨g, off + k * 4, none⟩ = some (.int .i64 x) := hcl 0 _ rfl
        have c1 : wr.cell? ⟨g, off + k * 4 + 1, none⟩ = some (.int .i64 y) := hcl 1 _ rfl
        have c2 : wr.cell? ⟨g, off + k * 4 + 2, none⟩ = some (.int .i64 u) := hcl 2 _ rfl
        have c3 : wr.cell? ⟨g, off + k * 4 + 3, none⟩ = some (.int .i64 v) := hcl 3 _ rfl
        have AT := Lib.hid (fun X => at_any x y u v a b X hr)
        have HQ := Lib.hid hq
        clear hcl hr hqm hq
        obtain ⟨t, ht⟩ : ∃ t, hasB ⟨x, y, u, v⟩ a b = t := ⟨_, rfl⟩
        rw [ht] at AT
        have HT := Lib.hid ht
        clear ht
        go_wp2_with fail
        refine (AT.out _).mono ?_
        rintro e w1 ⟨rfl, hb1⟩
        have HB1 := Lib.hid (hb.out.trans (hb1.mono hb.out.size))
        clear hb1 c0 c1 c2 c3
        cases t with
        | true =>
          have R1 := Lib.hid (any_hit (fun q => hasB q a b) zs k _ HQ.out HT.out)
          clear HT HQ AT
          go_wp2
          go_ret
          exact ⟨by rw [R1.out] <;> rfl, HB1.out⟩
        | false =>
          have R1 := Lib.hid (any_step (fun q => hasB q a b) zs k _ HQ.out HT.out ha.out)
          clear HT HQ AT
          go_wp2
          go_roundw
          case measure => simp [intOf]; omega
          case rel => exact ⟨k + 1, by omega, by go_num, HB1, R1⟩
      · have R := Lib.hid (show zs.any (fun q => hasB q a b) = false by have := ha.out; rwa [List.take_of_length_le (by omega)] at this)
        go_wp2
        go_ret
        exact ⟨by rw [R.out] <;> rfl, hb.out⟩
end Go.Proofs.Ytjdnhpbifblneaa
