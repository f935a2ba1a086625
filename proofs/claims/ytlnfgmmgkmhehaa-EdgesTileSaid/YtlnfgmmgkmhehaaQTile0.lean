/- What the document's Tiles needs, in the namespace RR. Written by mk_ET.py out of the rectangles' texts. -/
import Derived.Test.YtlnfgmmgkmhehaaQRRect
import Derived.Test.YtlnfgmmgkmhehaaECells
import Derived.Test.YtlnfgmmgkmhehaaROwn
import Derived.Laws.AppendOwnNone
import Derived.Laws.OwnMore
import Derived.BigQuiet
import Derived.Deep.QuietTactic
import Derived.StillTail
import Derived.StillTailTactics
import Derived.OrdersHeld
import Derived.Maps.AppendAt
namespace Go.Proofs.Ytlnfgmmgkmhehaa.RR
open Go.RowKit Go.Shelf Go.Lib
set_option linter.unusedVariables false
set_option linter.unusedSimpArgs false
attribute [local go_sem] Oper.semAt_some

theorem Try.infoI64 : (Try.prog.info? 2).map (fun i => (i.zero, i.size, i.bytes)) = some (some (.int .i64 0), 1, 8) := by kernel_rfl
def edgX (r : R) : List Int := [r.x, r.x + r.w]
def edgY (r : R) : List Int := [r.y, r.y + r.h]
theorem edges_len (f : R → List Int) (hf : ∀ r, (f r).length = 2) (rs : List R) : (rs.flatMap f).length = 2 * rs.length := by
  induction rs with
  | nil => rfl
  | cons a l ih => rw [List.flatMap_cons, List.length_append, hf, ih, List.length_cons]; omega
/-- does a point lie in a rectangle? along, down -/
def ix (q : R) (a : Int) : Int := if q.x ≤ a ∧ a < q.x + q.w then 1 else 0
def iy (q : R) (b : Int) : Int := if q.y ≤ b ∧ b < q.y + q.h then 1 else 0
/-- how many of them a point lies in -/
def cov (l : List R) (a b : Int) : Int := (l.map fun q => ix q a * iy q b).sum
theorem flat2 (a b : R) : ([a, b]).flatMap R.cells = [.int .i64 a.x, .int .i64 a.y, .int .i64 a.w, .int .i64 a.h, .int .i64 b.x, .int .i64 b.y, .int .i64 b.w, .int .i64 b.h] := rfl
/-- where two rectangles meet -/
def meetP (a b : R) : R :=
  if min (a.x + a.w) (b.x + b.w) - max a.x b.x ≤ 0 ∨ min (a.y + a.h) (b.y + b.h) - max a.y b.y ≤ 0 then ⟨0, 0, 0, 0⟩
  else ⟨max a.x b.x, max a.y b.y, min (a.x + a.w) (b.x + b.w) - max a.x b.x, min (a.y + a.h) (b.y + b.h) - max a.y b.y⟩
def meetR (a b : R) : R × Int := if rightB a && rightB b then (meetP a b, 0) else (⟨0, 0, 0, 0⟩, 20)
/-- has a rectangle no points? -/
def emptyB (q : R) : Bool := q.w == 0 || q.h == 0
/-- has it this point? -/
def hasB (q : R) (a b : Int) : Bool := decide (q.x ≤ a ∧ a < q.x + q.w ∧ q.y ≤ b ∧ b < q.y + q.h)
def docX (r : R) (l : List R) : List Int := r.x :: (l.filter fun q => !emptyB q).flatMap edgX
def docY (r : R) (l : List R) : List Int := r.y :: (l.filter fun q => !emptyB q).flatMap edgY
/-- all lie within, no two meet, and each place where some begin or end is in one -/
def TilesDoc (r : R) (l : List R) : Prop :=
  (∀ q ∈ l, emptyB q = false → meetP r q = q) ∧ l.Pairwise (fun p q => emptyB q = false → emptyB (meetP p q) = true) ∧
    ∀ x ∈ docX r l, ∀ y ∈ docY r l, hasB r x y = true → ∃ q ∈ l, hasB q x y = true
theorem pt (q : R) (a b : Int) : ix q a * iy q b = if hasB q a b = true then 1 else 0 := by
  unfold ix iy hasB
  by_cases h1 : q.x ≤ a ∧ a < q.x + q.w <;> by_cases h2 : q.y ≤ b ∧ b < q.y + q.h
  · rw [if_pos h1, if_pos h2, if_pos (by simp; omega)]; rfl
  · rw [if_pos h1, if_neg h2, if_neg (by simp; omega)]; rfl
  · rw [if_neg h1, if_pos h2, if_neg (by simp; omega)]; rfl
  · rw [if_neg h1, if_neg h2, if_neg (by simp; omega)]; rfl
theorem cov_cons (q : R) (l : List R) (a b : Int) : cov (q :: l) a b = (if hasB q a b = true then 1 else 0) + cov l a b := by
  unfold cov; rw [List.map_cons, List.sum_cons, pt]
theorem cov_nonneg (l : List R) (a b : Int) : 0 ≤ cov l a b := by
  induction l with
  | nil => exact Int.le_refl 0
  | cons q l ih => rw [cov_cons]; split <;> omega
theorem cov_pos (l : List R) (a b : Int) : 1 ≤ cov l a b ↔ ∃ q ∈ l, hasB q a b = true := by
  induction l with
  | nil => simp [cov]
  | cons q l ih =>
    have h0 := cov_nonneg l a b
    rw [cov_cons]
    by_cases h : hasB q a b = true
    · rw [if_pos h]; exact ⟨fun _ => ⟨q, List.mem_cons_self .., h⟩, fun _ => by omega⟩
    · rw [if_neg h, Int.zero_add, ih]
      constructor
      · rintro ⟨p, hp, hh⟩; exact ⟨p, List.mem_cons_of_mem _ hp, hh⟩
      · rintro ⟨p, hp, hh⟩
        rcases List.mem_cons.1 hp with rfl | hp
        · exact absurd hh h
        · exact ⟨p, hp, hh⟩
theorem cov_one (r : R) (a b : Int) : cov [r] a b = if hasB r a b = true then 1 else 0 := by
  rw [cov_cons]; simp [cov]
/-- at most one of them has a point, if no two have one of the same -/
theorem cov_le (l : List R) (a b : Int) (h : l.Pairwise fun p q => ¬(hasB p a b = true ∧ hasB q a b = true)) : cov l a b ≤ 1 := by
  induction l with
  | nil => simp [cov]
  | cons q l ih =>
    obtain ⟨h1, h2⟩ := List.pairwise_cons.1 h
    rw [cov_cons]
    by_cases hq : hasB q a b = true
    · rw [if_pos hq]
      have : ¬ 1 ≤ cov l a b := fun k => by
        obtain ⟨p, hp, hh⟩ := (cov_pos l a b).1 k
        exact h1 p hp ⟨hq, hh⟩
      omega
    · rw [if_neg hq]; have := ih h2; omega
theorem cov_apart (l : List R) (h : ∀ a b, cov l a b ≤ 1) : l.Pairwise fun p q => ∀ a b, ¬(hasB p a b = true ∧ hasB q a b = true) := by
  induction l with
  | nil => exact List.Pairwise.nil
  | cons q l ih =>
    refine List.pairwise_cons.2 ⟨fun p hp a b hh => ?_, ih fun a b => ?_⟩
    · have h1 := (cov_pos l a b).2 ⟨p, hp, hh.2⟩
      have h2 := h a b
      rw [cov_cons, if_pos hh.1] at h2; omega
    · have h2 := h a b
      rw [cov_cons] at h2
      split at h2 <;> omega
theorem emptyB_iff (q : R) : emptyB q = true ↔ q.w = 0 ∨ q.h = 0 := by simp [emptyB]
theorem emptyB_not (q : R) : emptyB q = false ↔ q.w ≠ 0 ∧ q.h ≠ 0 := by simp [emptyB]
theorem meet_empty (p q : R) : emptyB (meetP p q) = true ↔ ∀ a b, ¬(hasB p a b = true ∧ hasB q a b = true) := by
  rw [emptyB_iff]
  unfold meetP hasB
  simp only [decide_eq_true_eq]
  split
  · rename_i h
    refine ⟨fun _ a b hh => by omega, fun _ => .inl rfl⟩
  · rename_i h
    refine ⟨fun hh => by dsimp only at hh; omega, fun hh => absurd ?_ (hh (max p.x q.x) (max p.y q.y))⟩
    omega
theorem meet_within (r q : R) (hq : 0 ≤ q.w ∧ 0 ≤ q.h) (he : emptyB q = false) : meetP r q = q ↔ r.x ≤ q.x ∧ q.x + q.w ≤ r.x + r.w ∧ r.y ≤ q.y ∧ q.y + q.h ≤ r.y + r.h := by
  have hn := (emptyB_not q).1 he
  obtain ⟨x, y, w, h⟩ := q
  dsimp only at *
  unfold meetP
  dsimp only
  split
  · refine ⟨fun k => ?_, fun k => ?_⟩
    · rw [R.mk.injEq] at k; omega
    · omega
  · rw [R.mk.injEq]; omega
/-- the last of some places that is not beyond one -/
theorem last_le (l : List Int) (z a : Int) (hz : z ≤ a) : ∃ m ∈ z :: l, m ≤ a ∧ ∀ k ∈ z :: l, k ≤ a → k ≤ m := by
  induction l generalizing z with
  | nil => exact ⟨z, by simp, hz, fun k hk _ => by have : k = z := by simpa using hk
                                                   omega⟩
  | cons y l ih =>
    by_cases hy : y ≤ a
    · obtain ⟨m, hm, hma, hmx⟩ := ih (max z y) (by omega)
      refine ⟨m, ?_, hma, fun k hk hka => ?_⟩
      · rcases List.mem_cons.1 hm with rfl | hm
        · by_cases hzy : z ≤ y
          · rw [Int.max_eq_right hzy]; simp
          · rw [Int.max_eq_left (by omega)]; simp
        · simp [hm]
      · have h0 := hmx (max z y) (List.mem_cons_self ..) (by omega)
        rcases List.mem_cons.1 hk with rfl | hk
        · omega
        · rcases List.mem_cons.1 hk with rfl | hk
          · omega
          · exact hmx k (List.mem_cons_of_mem _ hk) hka
    · obtain ⟨m, hm, hma, hmx⟩ := ih z hz
      refine ⟨m, ?_, hma, fun k hk hka => ?_⟩
      · rcases List.mem_cons.1 hm with rfl | hm <;> simp [*]
      · rcases List.mem_cons.1 hk with rfl | hk
        · exact hmx k (List.mem_cons_self ..) hka
        · rcases List.mem_cons.1 hk with rfl | hk
          · omega
          · exact hmx k (List.mem_cons_of_mem _ hk) hka
set_option maxHeartbeats 3200000 in
theorem at_any (x y w h a b : Int) (W : World) (hr : rightB ⟨x, y, w, h⟩ = true) :
    Calls Try.prog 23 #[.agg #[.int .i64 x, .int .i64 y, .int .i64 w, .int .i64 h], .int .i64 a, .int .i64 b] W fun e W' => e = .returned (.bool (hasB ⟨x, y, w, h⟩ a b)) ∧ Below W.heap.size W W' := by
  have h1 := (rightB_iff _).1 hr
  dsimp only at h1
  obtain ⟨⟨a1, a2⟩, ⟨a3, a4⟩, ⟨a5, a6⟩, a7, a8⟩ := h1
  have hc : (Hid (hasB ⟨x, y, w, h⟩ a b = true) ∧ x ≤ a ∧ a < x + w ∧ y ≤ b ∧ b < y + h) ∨ (Hid (hasB ⟨x, y, w, h⟩ a b = false) ∧ (a < x ∨ (x ≤ a ∧ x + w ≤ a) ∨ (x ≤ a ∧ a < x + w ∧ b < y) ∨ (x ≤ a ∧ a < x + w ∧ y ≤ b ∧ y + h ≤ b))) := by
    unfold hasB
    by_cases k : x ≤ a ∧ a < x + w ∧ y ≤ b ∧ b < y + h
    · exact .inl ⟨Lib.hid (by simpa using k), k⟩
    · exact .inr ⟨Lib.hid (by simp; omega), by omega⟩
  clear hr
  rcases hc with ⟨HB, c1, c2, c3, c4⟩ | ⟨HB, c1 | ⟨c1, c2⟩ | ⟨c1, c2, c3⟩ | ⟨c1, c2, c3, c4⟩⟩
  all_goals
    go_enter Try.func23, Try.ntmps23
    go_wp2
    go_ret
    exact ⟨by rw [HB.out]; first | rfl | (simp; done) | (simp; omega), (Below.refl _ _).alloc (Nat.le_refl _) _⟩
theorem none_any (x y w h : Int) (W : World) :
    Calls Try.prog 21 #[.agg #[.int .i64 x, .int .i64 y, .int .i64 w, .int .i64 h]] W fun e W' => e = .returned (.bool (emptyB ⟨x, y, w, h⟩)) ∧ Below W.heap.size W W' := by
  by_cases hw : w = 0
  · subst hw
    go_enter Try.func21, Try.ntmps21
    go_wp2
    go_ret
    exact ⟨rfl, (Below.refl _ _).alloc (Nat.le_refl _) _⟩
  · have hw' : (w == 0) = false := by simpa using hw
    have hv : Hid (emptyB ⟨x, y, w, h⟩ = (h == 0)) := by apply Lib.hid; unfold emptyB; dsimp only; rw [hw']; rfl
    clear hw
    go_enter Try.func21, Try.ntmps21
    go_wp2
    go_ret
    exact ⟨by rw [hv.out] <;> rfl, (Below.refl _ _).alloc (Nat.le_refl _) _⟩
theorem any_hit (p : R → Bool) (zs : List R) (k : Nat) (q : R) (h : zs[k]? = some q) (hp : p q = true) : zs.any p = true := by
  rw [List.any_eq_true]; exact ⟨q, List.mem_of_getElem? h, hp⟩
theorem any_step (p : R → Bool) (zs : List R) (k : Nat) (q : R) (h : zs[k]? = some q) (hp : p q = false) (ht : (zs.take k).any p = false) : (zs.take (k + 1)).any p = false := by
  rw [List.take_add_one, h, List.any_append, ht]; simp [hp]
set_option maxHeartbeats 1600000 in
theorem has_any (sv : Value) (zs : List R) (a b : Int) (W : World) (hI : Rects W sv zs) (hls : ∀ q ∈ zs, rightB q = true) :
    Calls Try.prog 24 #[sv, .int .i64 a, .int .i64 b] W fun e W' => e = .returned (.bool (zs.any fun q => hasB q a b)) ∧ Below W.heap.size W W' := by
  obtain ⟨hm, ⟨p, cap, rfl, rfl⟩ | ⟨g, off, cap, rfl, hlt, hc⟩⟩ := hI
  · go_enter Try.func24, Try.ntmps24
    go_wp2
    refine wp_loop_rounds 1 ?_
    rw [rounds_succ]
    go_wp2
    go_ret
    exact ⟨rfl, Below.refl _ _⟩
  · have HC := Lib.hid hc
    have HS := Lib.hid hls
    clear hc hls
    go_enter Try.func24, Try.ntmps24
    go_wp2
    go_loopw [7] (fun i wr => ∃ k : Nat, k ≤ zs.length ∧ i = .int .i64 k ∧ Hid (Below W.heap.size W wr) ∧ Hid ((zs.take k).any (fun q => hasB q a b) = false)) (fun i _ => zs.length - (intOf i).toNat)
    case atStart => exact ⟨0, Nat.zero_le _, rfl, Lib.hid (Below.refl _ _), Lib.hid rfl⟩
    case round =>
      obtain ⟨k, hk, rfl, hb, ha⟩ := hrel
      by_cases hkl : k < zs.length
      · obtain ⟨q, hq⟩ : ∃ q, zs[k]? = some q := ⟨_, List.getElem?_eq_getElem hkl⟩
        have hqm : q ∈ zs := List.mem_of_getElem? hq
        have hr := HS.out q hqm
        have hcl : ∀ i v, q.cells[i]? = some v → wr.cell? ⟨g, off + k * 4 + i, none⟩ = some v := fun i v hv => by
          have := HC.out k hkl i v (by rw [show zs[k]! = q by simp [List.getElem!_eq_getElem?_getD, hq]]; exact hv)
          exact (hb.out.cell (p := ⟨g, off + k * 4 + i, none⟩) hlt).trans this
        obtain ⟨x, y, u, v⟩ := q
        have c0 : wr.cell? ⟨g, off + k * 4, none⟩ = some (.int .i64 x) := hcl 0 _ rfl
        have c1 : wr.cell? ⟨g, off + k * 4 + 1, none⟩ = some (.int .i64 y) := hcl 1 _ rfl
        have c2 : wr.cell? ⟨g, off + k * 4 + 2, none⟩ = some (.int .i64 u) := hcl 2 _ rfl
        have c3 : wr.cell? ⟨g, off + k * 4 + 3, none⟩ = some (.int .i64 v) := hcl 3 _ rfl
        have AT := Lib.hid (fun X => at_any x y u v a b X hr)
        have HQ := Lib.hid hq
        clear hcl hr hqm hq
        obtain ⟨t, ht⟩ : ∃ t, hasB ⟨x, y, u, v⟩ a b = t := ⟨_, rfl⟩
        rw [ht] at AT
        have HT := Lib.hid ht
        clear ht
        go_wp2_with fail
        refine (AT.out _).mono ?_
        rintro e w1 ⟨rfl, hb1⟩
        have HB1 := Lib.hid (hb.out.trans (hb1.mono hb.out.size))
        clear hb1 c0 c1 c2 c3
        cases t with
        | true =>
          have R1 := Lib.hid (any_hit (fun q => hasB q a b) zs k _ HQ.out HT.out)
          clear HT HQ AT
          go_wp2
          go_ret
          exact ⟨by rw [R1.out] <;> rfl, HB1.out⟩
        | false =>
          have R1 := Lib.hid (any_step (fun q => hasB q a b) zs k _ HQ.out HT.out ha.out)
          clear HT HQ AT
          go_wp2
          go_roundw
          case measure => simp [intOf]; omega
          case rel => exact ⟨k + 1, by omega, by go_num, HB1, R1⟩
      · have R := Lib.hid (show zs.any (fun q => hasB q a b) = false by have := ha.out; rwa [List.take_of_length_le (by omega)] at this)
        go_wp2
        go_ret
        exact ⟨by rw [R.out] <;> rfl, hb.out⟩

set_option maxRecDepth 100000 in
set_option maxHeartbeats 1600000 in
theorem refMeet_bad1 (x y w h x' y' w' h' : Int) (W : World) (ha : rightB ⟨x, y, w, h⟩ = false) (b : Bool) (hb : rightB ⟨x', y', w', h'⟩ = b) :
    Calls Try.prog 22 #[.agg #[.int .i64 x, .int .i64 y, .int .i64 w, .int .i64 h], .agg #[.int .i64 x', .int .i64 y', .int .i64 w', .int .i64 h']] W fun e W' => e = retR (meetR ⟨x, y, w, h⟩ ⟨x', y', w', h'⟩) ∧ Below W.heap.size W W' := by
  have hv : Hid (meetR ⟨x, y, w, h⟩ ⟨x', y', w', h'⟩ = (⟨0, 0, 0, 0⟩, 20)) := by apply Lib.hid; unfold meetR; rw [ha]; rfl
  have RA := Lib.hid (fun X => ha ▸ refRight_any x y w h X)
  have RB := Lib.hid (fun X => hb ▸ refRight_any x' y' w' h' X)
  clear ha hb
  go_enter Try.func22, Try.ntmps22
  go_wp2_with fail
  refine (RA.out _).mono ?_
  rintro e w1 ⟨rfl, hb1⟩
  have ka := Whole.below (g := W.heap.size) (t := 38) (xs := [.int .i64 x, .int .i64 y, .int .i64 w, .int .i64 h]) (((whole_new W _ _ _ rfl).alloc _).alloc _) hb1 (by simp <;> omega)
  have kb := Whole.below (g := W.heap.size + 1) (t := 38) (xs := [.int .i64 x', .int .i64 y', .int .i64 w', .int .i64 h']) ((whole_new (W.alloc _) _ _ _ (by simp)).alloc _) hb1 (by simp <;> omega)
  have kr := Whole.below (g := W.heap.size + 1 + 1) (t := 38) (xs := [.int .i64 0, .int .i64 0, .int .i64 0, .int .i64 0]) (whole_new ((W.alloc _).alloc _) _ _ _ (by simp)) hb1 (by simp <;> omega)
  have HB := Lib.hid ((((Below.refl W.heap.size W).alloc (Nat.le_refl _) (.cells #[.int .i64 x, .int .i64 y, .int .i64 w, .int .i64 h] 38)).alloc (by simp) (.cells #[.int .i64 x', .int .i64 y', .int .i64 w', .int .i64 h'] 38)).alloc (by simp <;> omega) (.cells #[.int .i64 0, .int .i64 0, .int .i64 0, .int .i64 0] 38) |>.trans (hb1.mono (by simp <;> omega)))
  have hs := HB.out.size
  clear hb1
  have kbc0 : w1.cell? ⟨W.heap.size + 1, 0, none⟩ = some (.int .i64 x') := kb.cellAt 0
  have kbc1 : w1.cell? ⟨W.heap.size + 1, 1, none⟩ = some (.int .i64 y') := kb.cellAt 1
  have kbc2 : w1.cell? ⟨W.heap.size + 1, 2, none⟩ = some (.int .i64 w') := kb.cellAt 2
  have kbc3 : w1.cell? ⟨W.heap.size + 1, 3, none⟩ = some (.int .i64 h') := kb.cellAt 3
  go_wp2_with fail
  refine (RB.out _).mono ?_
  rintro e w2 ⟨rfl, hb2⟩
  replace ka := ka.below hb2 ka.lt
  replace kb := kb.below hb2 kb.lt
  replace kr := kr.below hb2 kr.lt
  have HB2 := Lib.hid (HB.out.trans (hb2.mono hs))
  have cr := kr.cellAt
  have fr := kr.free
  clear hb2 HB kbc0 kbc1 kbc2 kbc3
  clear ka kb kr
  go_wp2
  refine bodyPost_ret (v := .tuple #[.agg #[.int .i64 0, .int .i64 0, .int .i64 0, .int .i64 0], .int .i64 20]) (by simp [results, Try.results22, go_sem, cr, fr]) rfl ⟨(congrArg retR hv.out).symm, ?_⟩
  repeat (refine Below.setCell ?_ (by simp <;> omega) _)
  exact HB2.out
set_option maxRecDepth 100000 in
set_option maxHeartbeats 1600000 in
theorem refMeet_bad2 (x y w h x' y' w' h' : Int) (W : World) (ha : rightB ⟨x, y, w, h⟩ = true) (hb : rightB ⟨x', y', w', h'⟩ = false) :
    Calls Try.prog 22 #[.agg #[.int .i64 x, .int .i64 y, .int .i64 w, .int .i64 h], .agg #[.int .i64 x', .int .i64 y', .int .i64 w', .int .i64 h']] W fun e W' => e = retR (meetR ⟨x, y, w, h⟩ ⟨x', y', w', h'⟩) ∧ Below W.heap.size W W' := by
  have hv : Hid (meetR ⟨x, y, w, h⟩ ⟨x', y', w', h'⟩ = (⟨0, 0, 0, 0⟩, 20)) := by apply Lib.hid; unfold meetR; rw [ha, hb]; rfl
  have RA := Lib.hid (fun X => ha ▸ refRight_any x y w h X)
  have RB := Lib.hid (fun X => hb ▸ refRight_any x' y' w' h' X)
  clear ha hb
  go_enter Try.func22, Try.ntmps22
  go_wp2_with fail
  refine (RA.out _).mono ?_
  rintro e w1 ⟨rfl, hb1⟩
  have ka := Whole.below (g := W.heap.size) (t := 38) (xs := [.int .i64 x, .int .i64 y, .int .i64 w, .int .i64 h]) (((whole_new W _ _ _ rfl).alloc _).alloc _) hb1 (by simp <;> omega)
  have kb := Whole.below (g := W.heap.size + 1) (t := 38) (xs := [.int .i64 x', .int .i64 y', .int .i64 w', .int .i64 h']) ((whole_new (W.alloc _) _ _ _ (by simp)).alloc _) hb1 (by simp <;> omega)
  have kr := Whole.below (g := W.heap.size + 1 + 1) (t := 38) (xs := [.int .i64 0, .int .i64 0, .int .i64 0, .int .i64 0]) (whole_new ((W.alloc _).alloc _) _ _ _ (by simp)) hb1 (by simp <;> omega)
  have HB := Lib.hid ((((Below.refl W.heap.size W).alloc (Nat.le_refl _) (.cells #[.int .i64 x, .int .i64 y, .int .i64 w, .int .i64 h] 38)).alloc (by simp) (.cells #[.int .i64 x', .int .i64 y', .int .i64 w', .int .i64 h'] 38)).alloc (by simp <;> omega) (.cells #[.int .i64 0, .int .i64 0, .int .i64 0, .int .i64 0] 38) |>.trans (hb1.mono (by simp <;> omega)))
  have hs := HB.out.size
  clear hb1
  have kbc0 : w1.cell? ⟨W.heap.size + 1, 0, none⟩ = some (.int .i64 x') := kb.cellAt 0
  have kbc1 : w1.cell? ⟨W.heap.size + 1, 1, none⟩ = some (.int .i64 y') := kb.cellAt 1
  have kbc2 : w1.cell? ⟨W.heap.size + 1, 2, none⟩ = some (.int .i64 w') := kb.cellAt 2
  have kbc3 : w1.cell? ⟨W.heap.size + 1, 3, none⟩ = some (.int .i64 h') := kb.cellAt 3
  go_wp2_with fail
  refine (RB.out _).mono ?_
  rintro e w2 ⟨rfl, hb2⟩
  replace ka := ka.below hb2 ka.lt
  replace kb := kb.below hb2 kb.lt
  replace kr := kr.below hb2 kr.lt
  have HB2 := Lib.hid (HB.out.trans (hb2.mono hs))
  have cr := kr.cellAt
  have fr := kr.free
  clear hb2 HB kbc0 kbc1 kbc2 kbc3
  clear ka kb kr
  go_wp2
  refine bodyPost_ret (v := .tuple #[.agg #[.int .i64 0, .int .i64 0, .int .i64 0, .int .i64 0], .int .i64 20]) (by simp [results, Try.results22, go_sem, cr, fr]) rfl ⟨(congrArg retR hv.out).symm, ?_⟩
  repeat (refine Below.setCell ?_ (by simp <;> omega) _)
  exact HB2.out
set_option maxRecDepth 100000 in
set_option maxHeartbeats 1600000 in
theorem refMeet_good (x y w h x' y' w' h' : Int) (W : World) (ha : rightB ⟨x, y, w, h⟩ = true) (hb : rightB ⟨x', y', w', h'⟩ = true) :
    Calls Try.prog 22 #[.agg #[.int .i64 x, .int .i64 y, .int .i64 w, .int .i64 h], .agg #[.int .i64 x', .int .i64 y', .int .i64 w', .int .i64 h']] W fun e W' => e = retR (meetR ⟨x, y, w, h⟩ ⟨x', y', w', h'⟩) ∧ Below W.heap.size W W' := by
  have hv : Hid (meetR ⟨x, y, w, h⟩ ⟨x', y', w', h'⟩ = (meetP ⟨x, y, w, h⟩ ⟨x', y', w', h'⟩, 0)) := by apply Lib.hid; unfold meetR; rw [ha, hb]; rfl
  have RA := Lib.hid (fun X => ha ▸ refRight_any x y w h X)
  have RB := Lib.hid (fun X => hb ▸ refRight_any x' y' w' h' X)
  have h1 := (rightB_iff _).1 ha
  have h2 := (rightB_iff _).1 hb
  dsimp only at h1 h2
  obtain ⟨⟨a1, a2⟩, ⟨a3, a4⟩, ⟨a5, a6⟩, a7, a8⟩ := h1
  obtain ⟨⟨b1, b2⟩, ⟨b3, b4⟩, ⟨b5, b6⟩, b7, b8⟩ := h2
  clear ha hb
  go_enter Try.func22, Try.ntmps22
  go_wp2_with fail
  refine (RA.out _).mono ?_
  rintro e w1 ⟨rfl, hb1⟩
  have ka := Whole.below (g := W.heap.size) (t := 38) (xs := [.int .i64 x, .int .i64 y, .int .i64 w, .int .i64 h]) (((whole_new W _ _ _ rfl).alloc _).alloc _) hb1 (by simp <;> omega)
  have kb := Whole.below (g := W.heap.size + 1) (t := 38) (xs := [.int .i64 x', .int .i64 y', .int .i64 w', .int .i64 h']) ((whole_new (W.alloc _) _ _ _ (by simp)).alloc _) hb1 (by simp <;> omega)
  have kr := Whole.below (g := W.heap.size + 1 + 1) (t := 38) (xs := [.int .i64 0, .int .i64 0, .int .i64 0, .int .i64 0]) (whole_new ((W.alloc _).alloc _) _ _ _ (by simp)) hb1 (by simp <;> omega)
  have HB := Lib.hid ((((Below.refl W.heap.size W).alloc (Nat.le_refl _) (.cells #[.int .i64 x, .int .i64 y, .int .i64 w, .int .i64 h] 38)).alloc (by simp) (.cells #[.int .i64 x', .int .i64 y', .int .i64 w', .int .i64 h'] 38)).alloc (by simp <;> omega) (.cells #[.int .i64 0, .int .i64 0, .int .i64 0, .int .i64 0] 38) |>.trans (hb1.mono (by simp <;> omega)))
  have hs := HB.out.size
  clear hb1
  have kbc0 : w1.cell? ⟨W.heap.size + 1, 0, none⟩ = some (.int .i64 x') := kb.cellAt 0
  have kbc1 : w1.cell? ⟨W.heap.size + 1, 1, none⟩ = some (.int .i64 y') := kb.cellAt 1
  have kbc2 : w1.cell? ⟨W.heap.size + 1, 2, none⟩ = some (.int .i64 w') := kb.cellAt 2
  have kbc3 : w1.cell? ⟨W.heap.size + 1, 3, none⟩ = some (.int .i64 h') := kb.cellAt 3
  go_wp2_with fail
  refine (RB.out _).mono ?_
  rintro e w2 ⟨rfl, hb2⟩
  replace ka := ka.below hb2 ka.lt
  replace kb := kb.below hb2 kb.lt
  replace kr := kr.below hb2 kr.lt
  have HB2 := Lib.hid (HB.out.trans (hb2.mono hs))
  have cr := kr.cellAt
  have fr := kr.free
  clear hb2 HB kbc0 kbc1 kbc2 kbc3
  have p0 : w2.cell? ⟨W.heap.size, 0, none⟩ = some (.int .i64 x) := ka.cellAt 0
  have p1 : w2.cell? ⟨W.heap.size, 1, none⟩ = some (.int .i64 y) := ka.cellAt 1
  have p2 : w2.cell? ⟨W.heap.size, 2, none⟩ = some (.int .i64 w) := ka.cellAt 2
  have p3 : w2.cell? ⟨W.heap.size, 3, none⟩ = some (.int .i64 h) := ka.cellAt 3
  have q0 : w2.cell? ⟨W.heap.size + 1, 0, none⟩ = some (.int .i64 x') := kb.cellAt 0
  have q1 : w2.cell? ⟨W.heap.size + 1, 1, none⟩ = some (.int .i64 y') := kb.cellAt 1
  have q2 : w2.cell? ⟨W.heap.size + 1, 2, none⟩ = some (.int .i64 w') := kb.cellAt 2
  have q3 : w2.cell? ⟨W.heap.size + 1, 3, none⟩ = some (.int .i64 h') := kb.cellAt 3
  have hm : Hid (meetP ⟨x, y, w, h⟩ ⟨x', y', w', h'⟩ = if min (x + w) (x' + w') - max x x' ≤ 0 ∨ min (y + h) (y' + h') - max y y' ≤ 0 then ⟨0, 0, 0, 0⟩ else ⟨max x x', max y y', min (x + w) (x' + w') - max x x', min (y + h) (y' + h') - max y y'⟩) := Lib.hid rfl
  clear ka kb kr
  have e1 : (if x < x' then x' else x) = max x x' := by split <;> omega
  have e2 : (if y < y' then y' else y) = max y y' := by split <;> omega
  have e3 : (if x' + w' < x + w then x' + w' else x + w) = min (x + w) (x' + w') := by split <;> omega
  have e4 : (if y' + h' < y + h then y' + h' else y + h) = min (y + h) (y' + h') := by split <;> omega
  by_cases hw : min (x + w) (x' + w') - max x x' ≤ 0
  · have hv' : Hid (meetR ⟨x, y, w, h⟩ ⟨x', y', w', h'⟩ = (⟨0, 0, 0, 0⟩, 0)) := by apply Lib.hid; rw [hv.out, hm.out, if_pos (.inl hw)]
    clear hv hm
    go_wp2
    refine bodyPost_ret (v := .tuple #[.agg #[.int .i64 0, .int .i64 0, .int .i64 0, .int .i64 0], .int .i64 0]) (by simp [results, Try.results22, go_sem, cr, fr]) rfl ⟨(congrArg retR hv'.out).symm, ?_⟩
    repeat (refine Below.setCell ?_ (by simp <;> omega) _)
    exact HB2.out
  · by_cases hh : min (y + h) (y' + h') - max y y' ≤ 0
    · have hv' : Hid (meetR ⟨x, y, w, h⟩ ⟨x', y', w', h'⟩ = (⟨0, 0, 0, 0⟩, 0)) := by apply Lib.hid; rw [hv.out, hm.out, if_pos (.inr hh)]
      clear hv hm
      go_wp2
      refine bodyPost_ret (v := .tuple #[.agg #[.int .i64 0, .int .i64 0, .int .i64 0, .int .i64 0], .int .i64 0]) (by simp [results, Try.results22, go_sem, cr, fr]) rfl ⟨(congrArg retR hv'.out).symm, ?_⟩
      repeat (refine Below.setCell ?_ (by simp <;> omega) _)
      exact HB2.out
    · have hv' : Hid (meetR ⟨x, y, w, h⟩ ⟨x', y', w', h'⟩ = (⟨max x x', max y y', min (x + w) (x' + w') - max x x', min (y + h) (y' + h') - max y y'⟩, 0)) := by apply Lib.hid; rw [hv.out, hm.out, if_neg (by omega)]
      clear hv hm
      go_wp2
      refine bodyPost_ret (v := .tuple #[.agg #[.int .i64 (max x x'), .int .i64 (max y y'), .int .i64 (min (x + w) (x' + w') - max x x'), .int .i64 (min (y + h) (y' + h') - max y y')], .int .i64 0]) (by simp [results, Try.results22, go_sem, cr, fr]) rfl ⟨(congrArg retR hv'.out).symm, ?_⟩
      repeat (refine Below.setCell ?_ (by simp <;> omega) _)
      exact HB2.out
theorem refMeet_any (a b : R) (W : World) : Calls Try.prog 22 #[a.val, b.val] W fun e W' => e = retR (meetR a b) ∧ Below W.heap.size W W' := by
  obtain ⟨x, y, w, h⟩ := a
  obtain ⟨x', y', w', h'⟩ := b
  cases ha : rightB ⟨x, y, w, h⟩ with
  | false => exact refMeet_bad1 x y w h x' y' w' h' W ha _ rfl
  | true =>
    cases hb : rightB ⟨x', y', w', h'⟩ with
    | false => exact refMeet_bad2 x y w h x' y' w' h' W ha hb
    | true => exact refMeet_good x y w h x' y' w' h' W ha hb
theorem Try.infoRect : (Try.prog.info? 38).map (fun i => (i.zero, i.size, i.bytes)) = some (some (.agg #[.int .i64 0, .int .i64 0, .int .i64 0, .int .i64 0]), 4, 32) := by kernel_rfl
theorem region_held_at {P : Program} {ops : Array Oper} {Q : Exit → Act → World → Prop} {S : World → Prop} {id : Nat} {a : Act} {w : World} (hm : P.follows .mixedOrders = true)
    (h : ∀ w2 : World, w.drew = w2 → wpAnyH P .any ops Q S ops.size (Array.replicate ops.size false) a w2) : (Code.region id ops true).wp P Q a w := wp_region_held hm (h _ rfl)
theorem own_later {W W' : World} {base e size n : Nat} {v : Value} {xs : List Value} (h : W.ownsRow base e size v n xs) (hb : Below W.heap.size W W') : W'.ownsRow base e size v n xs :=
  h.kept (row := none) ⟨hb.os, hb.tape, hb.output, hb.size, fun k hk _ => hb.block k hk⟩ (by cases hv : v.ownBlock <;> simp)
theorem own_rects {W : World} {base n : Nat} {v : Value} {zs : List R} (h : W.ownsRow base 38 4 v n (zs.flatMap R.cells)) : Rects W v zs := by
  have hfl : ∀ l : List R, (l.flatMap R.cells).length = l.length * 4 := by
    intro l; induction l with
    | nil => rfl
    | cons a l ih => rw [List.flatMap_cons, List.length_append, ih]; simp [R.cells]; omega
  obtain ⟨hl, ⟨rfl, hn⟩ | ⟨g, cap, cur, rfl, hb, hg, hnc, hcm, hcs, htk⟩⟩ := h
  · rw [hfl] at hl
    exact ⟨by omega, .inl ⟨none, 0, rfl, List.length_eq_zero_iff.1 (by omega)⟩⟩
  · rw [hfl] at hl
    have hn : n = zs.length := by omega
    unfold maxLen at hcm
    refine ⟨by omega, .inr ⟨g, 0, cap, by rw [hn], (Array.getElem?_eq_some_iff.1 hg).1, fun j hj i v hv => ?_⟩⟩
    have hi : i < 4 := by have := (List.getElem?_eq_some_iff.1 hv).1; simpa [R.cells] using this
    have key : ∀ (l : List R) (j : Nat), j < l.length → (l.flatMap R.cells)[j * 4 + i]? = (l[j]!).cells[i]? := by
      intro l
      induction l with
      | nil => intro j hj; simp at hj
      | cons a l ih =>
        intro j hj
        cases j with
        | zero => rw [List.flatMap_cons, List.getElem?_append_left (by simp [R.cells]; omega)]; simp
        | succ j =>
          rw [List.flatMap_cons, List.getElem?_append_right (by simp [R.cells]; omega)]
          rw [show (j + 1) * 4 + i - a.cells.length = j * 4 + i by simp [R.cells]; omega, ih j (by simpa using hj)]; simp
    have h1 : (cur.toList.take (n * 4))[j * 4 + i]? = some v := by rw [htk, key zs j hj]; exact hv
    rw [List.getElem?_take_of_lt (by omega), Array.getElem?_toList] at h1
    rw [show 0 + j * 4 + i = j * 4 + i by omega]
    simp only [World.cell?, hg]
    simp only [Option.isSome_none, Bool.false_eq_true, if_false]
    exact h1
theorem cells_len : ∀ l : List R, (l.flatMap R.cells).length = l.length * 4 := by
  intro l; induction l with
  | nil => rfl
  | cons a l ih => rw [List.flatMap_cons, List.length_append, ih]; simp [R.cells]; omega
/-- as a Bool -/
noncomputable def tilesB (r : R) (l : List R) : Bool := @decide (TilesDoc r l) (Classical.propDecidable _)
theorem tiles_doc (r : R) (l : List R) (hl : l.length ≤ 400) (hr : rightB r = true) (hls : ∀ q ∈ l, rightB q = true) : tilesB r l = true ↔ TilesDoc r l := by unfold tilesB; exact @decide_eq_true_iff _ (Classical.propDecidable _)

end Go.Proofs.Ytlnfgmmgkmhehaa.RR
