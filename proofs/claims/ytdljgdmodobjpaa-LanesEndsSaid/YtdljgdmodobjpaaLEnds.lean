/- Contracts of lanes.Ends and of the document's own: where runs of rows end; lanes as an argument, opened. Written by program (mk_LEnds.py). -/
import Derived.Test.YtdljgdmodobjpaaLSame
import Derived.Test.YtdljgdmodobjpaaSOpen
import Derived.Test.YtdljgdmodobjpaaLLaw
import Derived.Deep.SlicePairs
namespace Go.Proofs.Ytdljgdmodobjpaa
open Go.ChangeShapes Go.WideShapes Go.ChangeAt Go.RowKit Go.Joins Go.Shelf Go.Maps
set_option linter.unusedVariables false
set_option linter.unusedSimpArgs false
attribute [local go_sem] Oper.semAt_some

section
variable {H : Type} {enc : TypeId × Value → H} {w : World} {base : Nat} {spare : Nat → Bool} {held : Bool}
theorem open_lanes {a : Option Addr} {len cap fuel : Nat} {y : DataW H × List MemPlace} (h : DataW.trod enc Try.prog w base spare held fuel 25 [.slice a len cap] = some y) : ∃ E, LanesAt w (.slice a len cap) E ∧ E.length = len ∧ len ≤ cap ∧ cap ≤ maxLen := by
  rcases Go.Deep.open_slice_pairs Try.underlying25 Try.underlying43 (by kernel_rfl) rfl rfl (by kernel_rfl) (by kernel_rfl) h with ⟨hcs, _⟩ | ⟨x, l, c, m, n, V0, V1, D0, D1, P0, P1, hcs, _, hl, hm, hmm, _, hx⟩
  · simp at hcs
    obtain ⟨rfl, rfl, rfl⟩ := hcs
    exact ⟨[], ⟨by simp, .inl ⟨none, 0, rfl, rfl⟩⟩, rfl, by omega, by unfold maxLen; omega⟩
  · simp at hcs
    obtain ⟨rfl, rfl, rfl⟩ := hcs
    have hm' := hm
    unfold maxLen at hm
    have hlm : len ≤ m := by rw [hmm]; split <;> omega
    have each : ∀ i, i < len → ∃ q : Int × Int, w.cell? (x.add (i * 2)) = some (.int .i64 q.1) ∧ w.cell? (x.add (i * 2 + 1)) = some (.int .i64 q.2) := by
      intro i hi
      obtain ⟨c0, c1, h0, h1⟩ := hx i (by omega)
      obtain ⟨a0, e0, _, _⟩ := DataW.trod_int Try.underlying3 h0
      obtain ⟨a1, e1, _, _⟩ := DataW.trod_int Try.underlying3 h1
      simp at e0 e1
      exact ⟨(a0, a1), by rw [c0, e0], by rw [c1, e1]⟩
    obtain ⟨q, hq⟩ := Go.Deep.choose_lt each
    refine ⟨(List.range len).map q, ⟨by simp; omega, ?_⟩, by simp, hl, hm'⟩
    obtain ⟨g, off, sp⟩ := x
    by_cases h0 : len = 0
    · subst h0; exact .inl ⟨_, cap, rfl, rfl⟩
    · right
      have c0 := (hq 0 (by omega)).1
      have hs : sp = none := by simpa [Addr.add] using World.cell?_spot c0
      subst hs
      refine ⟨g, off, cap, by simp, fun i p hp => ?_⟩
      have hi : i < len := by have := (List.getElem?_eq_some_iff.1 hp).1; simpa using this
      have e : p = q i := by simp [hi] at hp; exact hp.symm
      subst e
      obtain ⟨c1, c2⟩ := hq i hi
      rw [add_plain] at c1 c2
      exact ⟨c1, by rw [Nat.add_assoc]; exact c2⟩
end
/-- where runs end, from a row on -/
def endsF : Nat → List Int → List Int
  | _, [] => []
  | k, [_] => [(k : Int) + 1]
  | k, g :: g' :: r => (if g' = g then ((endsF (k + 1) (g' :: r)).headD 0) else (k : Int) + 1) :: endsF (k + 1) (g' :: r)
theorem endsF_len : ∀ (k : Nat) (l : List Int), (endsF k l).length = l.length
  | _, [] => rfl
  | _, [_] => rfl
  | k, g :: g' :: r => by simp [endsF, endsF_len (k + 1) (g' :: r)]
theorem endsF_le : ∀ (k : Nat) (l : List Int), ∀ z ∈ endsF k l, 0 ≤ z ∧ z ≤ (k : Int) + l.length
  | _, [], z, h => by simp [endsF] at h
  | k, [_], z, h => by simp [endsF] at h; simp; omega
  | k, g :: g' :: r, z, h => by
    have ih := endsF_le (k + 1) (g' :: r)
    simp only [endsF, List.mem_cons] at h
    rcases h with h | h
    · by_cases e : g' = g
      · rw [if_pos e] at h
        have hl := endsF_len (k + 1) (g' :: r)
        cases hq : endsF (k + 1) (g' :: r) with
        | nil => rw [hq] at hl; simp at hl
        | cons y t =>
          have := ih y (by rw [hq]; simp)
          rw [hq] at h
          simp at h this ⊢
          omega
      · rw [if_neg e] at h
        simp; omega
    · have := ih z h
      simp at this ⊢
      omega
/-- the row of ends under way: t rows are still to come -/
def endsW (t : Nat) (E : List (Int × Int)) : List Int := List.replicate t 0 ++ endsF t ((E.map Prod.snd).drop t)
theorem endsW_len (t : Nat) (E : List (Int × Int)) (h : t ≤ E.length) : (endsW t E).length = E.length := by
  unfold endsW
  rw [List.length_append, endsF_len, List.length_replicate, List.length_drop, List.length_map]
  omega
theorem endsW_last (E : List (Int × Int)) : endsW E.length E = List.replicate E.length 0 := by
  unfold endsW
  rw [List.drop_of_length_le (by rw [List.length_map]; exact Nat.le_refl _)]
  simp [endsF]
theorem drop_snd (E : List (Int × Int)) (t : Nat) (x : Int × Int) (hx : E[t]? = some x) : (E.map Prod.snd).drop t = x.2 :: (E.map Prod.snd).drop (t + 1) := by
  have hl : t < (E.map Prod.snd).length := by rw [List.length_map]; exact (List.getElem?_eq_some_iff.1 hx).1
  rw [List.drop_eq_getElem_cons hl]
  congr 1
  have := (List.getElem?_eq_some_iff.1 hx).2
  simp [this]
theorem set_at (t : Nat) (l : List Int) (v : Int) : (List.replicate (t + 1) 0 ++ l).set t v = List.replicate t 0 ++ v :: l := by
  rw [List.replicate_succ', List.append_assoc, List.set_append_right _ _ (by simp), List.length_replicate, Nat.sub_self]
  rfl
/-- the last row of all -/
theorem endsW_one (E : List (Int × Int)) (t : Nat) (x : Int × Int) (hx : E[t]? = some x) (hn : E[t + 1]? = none) : (endsW (t + 1) E).set t ((t : Int) + 1) = endsW t E := by
  unfold endsW
  rw [drop_snd E t x hx, set_at]
  have : (E.map Prod.snd).drop (t + 1) = [] := List.drop_of_length_le (by rw [List.length_map]; exact List.getElem?_eq_none_iff.1 hn)
  rw [this]
  simp [endsF]
theorem endsW_else (E : List (Int × Int)) (t : Nat) (x y : Int × Int) (hx : E[t]? = some x) (hy : E[t + 1]? = some y) (hne : y.2 ≠ x.2) : (endsW (t + 1) E).set t ((t : Int) + 1) = endsW t E := by
  unfold endsW
  rw [drop_snd E t x hx, drop_snd E (t + 1) y hy, set_at]
  simp [endsF, hne]
theorem endsW_head (E : List (Int × Int)) (t : Nat) (y : Int × Int) (hy : E[t + 1]? = some y) : ∃ z, (endsW (t + 1) E)[t + 1]? = some z ∧ 0 ≤ z ∧ z ≤ (E.length : Int) ∧ z = (endsF (t + 1) ((E.map Prod.snd).drop (t + 1))).headD 0 := by
  have hl := (List.getElem?_eq_some_iff.1 hy).1
  unfold endsW
  rw [List.getElem?_append_right (by simp), List.length_replicate, Nat.sub_self]
  have h2 := endsF_len (t + 1) ((E.map Prod.snd).drop (t + 1))
  have h3 := endsF_le (t + 1) ((E.map Prod.snd).drop (t + 1))
  rw [List.length_drop, List.length_map] at h2 h3
  cases hq : endsF (t + 1) ((E.map Prod.snd).drop (t + 1)) with
  | nil => rw [hq] at h2; simp at h2; omega
  | cons z r =>
    have := h3 z (by rw [hq]; simp)
    exact ⟨z, rfl, this.1, by omega, rfl⟩
theorem endsW_same (E : List (Int × Int)) (t : Nat) (x y : Int × Int) (hx : E[t]? = some x) (hy : E[t + 1]? = some y) (he : y.2 = x.2) (z v : Int) (hz : z = (endsF (t + 1) ((E.map Prod.snd).drop (t + 1))).headD 0) : ((endsW (t + 1) E).set t v).set t z = endsW t E := by
  unfold endsW
  rw [set_at, drop_snd E t x hx, drop_snd E (t + 1) y hy, List.set_append_right _ _ (by simp), List.length_replicate, Nat.sub_self, hz, drop_snd E (t + 1) y hy]
  simp [endsF, he]

set_option maxRecDepth 100000 in
set_option maxHeartbeats 2000000 in
theorem ends_at (q : Option Addr) (m cap : Nat) (E : List (Int × Int)) (w : World) (hE : LanesAt w (.slice q m cap) E) (hm : E.length = m) (hm2 : m ≤ 100000) :
    Calls Try.prog 21 #[.slice q m cap] w fun e W' => e = .returned (.slice (some ⟨w.heap.size, 0, none⟩) m m) ∧ Whole W' w.heap.size 3 ((endsW 0 E).map (Value.int .i64)) ∧ Below w.heap.size w W' := by
  have HE := Lib.hid hE
  have HM := Lib.hid hm
  have hmk := make_ints m (by omega)
  clear hE hm
  go_enter Try.func21, Try.ntmps21
  go_wp2
  obtain ⟨W4, hW4⟩ : ∃ W4, w.alloc (.cells (Array.replicate m (.int .i64 0)) 3) = W4 := ⟨_, rfl⟩
  have k4 : Whole W4 w.heap.size 3 ((endsW m E).map (Value.int .i64)) := by
    rw [← hW4, ← HM.out, endsW_last, show Array.replicate E.length (Value.int .i64 0) = ((List.replicate E.length (0 : Int)).map (Value.int .i64)).toArray by simp]
    exact whole_new w _ 3 _ rfl
  have b4 : Below w.heap.size w W4 := by rw [← hW4]; exact (Below.refl _ w).alloc (Nat.le_refl _) _
  have HI : Hid (Whole W4 w.heap.size 3 ((endsW m E).map (Value.int .i64)) ∧ Below w.heap.size w W4) := Lib.hid ⟨k4, b4⟩
  rw [hW4]
  clear hW4 k4 b4 hmk
  go_loopw [4] (fun s4 X => ∃ t : Nat, t ≤ m ∧ s4 = .int .i64 ((t : Int) - 1) ∧ Hid (Whole X w.heap.size 3 ((endsW t E).map (Value.int .i64)) ∧ Below w.heap.size w X)) (fun s4 _ => (intOf s4 + 1).toNat)
  case atStart => exact ⟨m, Nat.le_refl _, congrArg (Value.int .i64) (by first | omega | (unfold wrap64; omega)), HI⟩
  case round =>
    obtain ⟨t, ht, rfl, HX⟩ := hrel
    obtain ⟨X1, X2⟩ := HX.out
    have lg := X1.lt
    cases t with
    | zero =>
      have HX1 := Lib.hid X1
      have HX2 := Lib.hid X2
      clear X1 X2
      go_wp2
      go_ret
      exact ⟨rfl, HX1.out, HX2.out⟩
    | succ t =>
      have et : ((t + 1 : Nat) : Int) - 1 = (t : Int) := by omega
      rw [et]
      clear et
      have dge : decide ((t : Int) ≥ 0) = true := by simp
      obtain ⟨x, hx⟩ : ∃ x, E[t]? = some x := ⟨_, List.getElem?_eq_getElem (by rw [HM.out]; omega)⟩
      obtain ⟨rb, ro, rfl, _, cx, lr⟩ := HE.out.at t x hx
      have cx2 := (X2.cell (p := ⟨rb, ro + t * 2 + 1, none⟩) lr).trans cx
      have lr2 : rb < wr.heap.size := by have := X2.size; omega
      have hwl : (endsW (t + 1) E).length = m := by rw [endsW_len _ _ (by rw [HM.out]; exact ht), HM.out]
      have hrg : rb ≠ w.heap.size := by omega
      have cg : ∃ v, wr.cell? ⟨w.heap.size, t, none⟩ = some v := by
        rw [X1.cellAt, List.getElem?_map]
        exact ⟨_, by rw [List.getElem?_eq_getElem (by rw [hwl]; omega)]; rfl⟩
      obtain ⟨v0, cg⟩ := cg
      have fg := X1.free t
      by_cases hlast : t + 1 < m
      · obtain ⟨y, hy⟩ : ∃ y, E[t + 1]? = some y := ⟨_, List.getElem?_eq_getElem (by rw [HM.out]; omega)⟩
        obtain ⟨rb', ro', e, _, cy, _⟩ := HE.out.at (t + 1) y hy
        injection e with e; injection e with e1 e2
        subst e1 e2
        have cy2 := (X2.cell (p := ⟨rb, ro + (t + 1) * 2 + 1, none⟩) lr).trans cy
        obtain ⟨z, hz, hz0, hz1, hzh⟩ := endsW_head E t y hy
        rw [HM.out] at hz1
        have S1 : Hid (Whole (wr.setCell ⟨w.heap.size, t, none⟩ (.int .i64 ((t : Int) + 1))) w.heap.size 3 (((endsW (t + 1) E).set t ((t : Int) + 1)).map (Value.int .i64)) ∧ Below w.heap.size w (wr.setCell ⟨w.heap.size, t, none⟩ (.int .i64 ((t : Int) + 1)))) := Lib.hid ⟨by
          have := X1.set t (.int .i64 ((t : Int) + 1))
          rw [List.map_set]; exact this, X2.setCell (p := ⟨w.heap.size, t, none⟩) (Nat.le_refl _) _⟩
        have dl1 : decide ((t : Int) + 1 < (m : Int)) = true := by simp; omega
        by_cases hq : y.2 = x.2
        · have S2 := S1
          have czz : (wr.setCell ⟨w.heap.size, t, none⟩ (.int .i64 ((t : Int) + 1))).cell? ⟨w.heap.size, t + 1, none⟩ = some (.int .i64 z) := by
            rw [S1.out.1.cellAt, List.getElem?_map, List.getElem?_set_ne (by omega), hz]; rfl
          have cww : (wr.setCell ⟨w.heap.size, t, none⟩ (.int .i64 ((t : Int) + 1))).cell? ⟨w.heap.size, t, none⟩ = some (.int .i64 ((t : Int) + 1)) := by
            rw [S1.out.1.cellAt, List.getElem?_map, List.getElem?_set_self (by rw [hwl]; omega)]; rfl
          have S3 : ∀ nq, Hid (Whole (((wr.setCell ⟨w.heap.size, t, none⟩ (.int .i64 ((t : Int) + 1))).drewN nq).setCell ⟨w.heap.size, t, none⟩ (.int .i64 z)) w.heap.size 3 ((endsW t E).map (Value.int .i64)) ∧ Below w.heap.size w (((wr.setCell ⟨w.heap.size, t, none⟩ (.int .i64 ((t : Int) + 1))).drewN nq).setCell ⟨w.heap.size, t, none⟩ (.int .i64 z))) := fun nq => by
            have bn := below_dn (w.heap.size + 1) (wr.setCell ⟨w.heap.size, t, none⟩ (.int .i64 ((t : Int) + 1))) nq
            refine Lib.hid ⟨?_, (S1.out.2.trans (bn.mono (by omega))).setCell (p := ⟨w.heap.size, t, none⟩) (Nat.le_refl _) _⟩
            have h1 := (S1.out.1.below bn (by omega)).set t (.int .i64 z)
            rw [← List.map_set, endsW_same E t x y hx hy hq z _ hzh] at h1
            exact h1
          have dq : (y.2 == x.2) = true := by simpa using hq
          obtain ⟨y1, y2⟩ := y
          obtain ⟨x1, x2⟩ := x
          dsimp only at dq cx2 cy2
          clear X1 X2 HX HI hx hy cx cy hz hzh hq
          go_wp2
          go_quiet (fail)
          go_wp2

          go_roundw
          case rel => exact ⟨t, by omega, by go_num, S3 _⟩
          case measure => (simp [intOf]; try omega)
        · have S2 : Hid (Whole (wr.setCell ⟨w.heap.size, t, none⟩ (.int .i64 ((t : Int) + 1))) w.heap.size 3 ((endsW t E).map (Value.int .i64)) ∧ Below w.heap.size w (wr.setCell ⟨w.heap.size, t, none⟩ (.int .i64 ((t : Int) + 1)))) := by
            have := S1.out; rw [endsW_else E t x y hx hy hq] at this; exact Lib.hid this
          have S3 : ∀ nq, Hid (Whole ((wr.setCell ⟨w.heap.size, t, none⟩ (.int .i64 ((t : Int) + 1))).drewN nq) w.heap.size 3 ((endsW t E).map (Value.int .i64)) ∧ Below w.heap.size w ((wr.setCell ⟨w.heap.size, t, none⟩ (.int .i64 ((t : Int) + 1))).drewN nq)) := fun nq => by
            have bn := below_dn (w.heap.size + 1) (wr.setCell ⟨w.heap.size, t, none⟩ (.int .i64 ((t : Int) + 1))) nq
            exact Lib.hid ⟨S2.out.1.below bn (by omega), S2.out.2.trans (bn.mono (by omega))⟩
          have dq : (y.2 == x.2) = false := by simpa using hq
          have S0 := S1
          obtain ⟨y1, y2⟩ := y
          obtain ⟨x1, x2⟩ := x
          dsimp only at dq cx2 cy2
          clear X1 X2 HX HI hx hy cx cy hz hzh hq S1
          go_wp2
          go_quiet (fail)
          go_wp2
          go_roundw
          case rel => exact ⟨t, by omega, by go_num, S3 _⟩
          case measure => (simp [intOf]; try omega)
      · have S2 : Hid (Whole (wr.setCell ⟨w.heap.size, t, none⟩ (.int .i64 ((t : Int) + 1))) w.heap.size 3 ((endsW t E).map (Value.int .i64)) ∧ Below w.heap.size w (wr.setCell ⟨w.heap.size, t, none⟩ (.int .i64 ((t : Int) + 1)))) := Lib.hid ⟨by
          have h1 := X1.set t (.int .i64 ((t : Int) + 1))
          rw [← List.map_set, endsW_one E t x hx (List.getElem?_eq_none_iff.2 (by rw [HM.out]; omega))] at h1
          exact h1, X2.setCell (p := ⟨w.heap.size, t, none⟩) (Nat.le_refl _) _⟩
        have S3 : ∀ nq, Hid (Whole ((wr.setCell ⟨w.heap.size, t, none⟩ (.int .i64 ((t : Int) + 1))).drewN nq) w.heap.size 3 ((endsW t E).map (Value.int .i64)) ∧ Below w.heap.size w ((wr.setCell ⟨w.heap.size, t, none⟩ (.int .i64 ((t : Int) + 1))).drewN nq)) := fun nq => by
          have bn := below_dn (w.heap.size + 1) (wr.setCell ⟨w.heap.size, t, none⟩ (.int .i64 ((t : Int) + 1))) nq
          exact Lib.hid ⟨S2.out.1.below bn (by omega), S2.out.2.trans (bn.mono (by omega))⟩
        have dl1 : decide ((t : Int) + 1 < (m : Int)) = false := by simp; omega
        clear X1 X2 HX HI hx cx
        go_wp2
        go_quiet (fail)
        go_wp2
        go_roundw
        case rel => exact ⟨t, by omega, by go_num, S3 _⟩
        case measure => (simp [intOf]; try omega)

set_option maxRecDepth 100000 in
set_option maxHeartbeats 2000000 in
theorem refEnds_at (q : Option Addr) (m cap : Nat) (E : List (Int × Int)) (w : World) (hE : LanesAt w (.slice q m cap) E) (hm : E.length = m) (hm2 : m ≤ 100000) :
    Calls Try.prog 22 #[.slice q m cap] w fun e W' => e = .returned (.slice (some ⟨w.heap.size, 0, none⟩) m m) ∧ Whole W' w.heap.size 3 ((endsW 0 E).map (Value.int .i64)) ∧ Below w.heap.size w W' := by
  have HE := Lib.hid hE
  have HM := Lib.hid hm
  have hmk := make_ints m (by omega)
  clear hE hm
  go_enter Try.func22, Try.ntmps22
  go_wp2
  obtain ⟨W4, hW4⟩ : ∃ W4, w.alloc (.cells (Array.replicate m (.int .i64 0)) 3) = W4 := ⟨_, rfl⟩
  have k4 : Whole W4 w.heap.size 3 ((endsW m E).map (Value.int .i64)) := by
    rw [← hW4, ← HM.out, endsW_last, show Array.replicate E.length (Value.int .i64 0) = ((List.replicate E.length (0 : Int)).map (Value.int .i64)).toArray by simp]
    exact whole_new w _ 3 _ rfl
  have b4 : Below w.heap.size w W4 := by rw [← hW4]; exact (Below.refl _ w).alloc (Nat.le_refl _) _
  have HI : Hid (Whole W4 w.heap.size 3 ((endsW m E).map (Value.int .i64)) ∧ Below w.heap.size w W4) := Lib.hid ⟨k4, b4⟩
  rw [hW4]
  clear hW4 k4 b4 hmk
  go_loopw [4] (fun s4 X => ∃ t : Nat, t ≤ m ∧ s4 = .int .i64 ((t : Int) - 1) ∧ Hid (Whole X w.heap.size 3 ((endsW t E).map (Value.int .i64)) ∧ Below w.heap.size w X)) (fun s4 _ => (intOf s4 + 1).toNat)
  case atStart => exact ⟨m, Nat.le_refl _, congrArg (Value.int .i64) (by first | omega | (unfold wrap64; omega)), HI⟩
  case round =>
    obtain ⟨t, ht, rfl, HX⟩ := hrel
    obtain ⟨X1, X2⟩ := HX.out
    have lg := X1.lt
    cases t with
    | zero =>
      have HX1 := Lib.hid X1
      have HX2 := Lib.hid X2
      clear X1 X2
      go_wp2
      go_ret
      exact ⟨rfl, HX1.out, HX2.out⟩
    | succ t =>
      have et : ((t + 1 : Nat) : Int) - 1 = (t : Int) := by omega
      rw [et]
      clear et
      have dge : decide ((t : Int) ≥ 0) = true := by simp
      obtain ⟨x, hx⟩ : ∃ x, E[t]? = some x := ⟨_, List.getElem?_eq_getElem (by rw [HM.out]; omega)⟩
      obtain ⟨rb, ro, rfl, _, cx, lr⟩ := HE.out.at t x hx
      have cx2 := (X2.cell (p := ⟨rb, ro + t * 2 + 1, none⟩) lr).trans cx
      have lr2 : rb < wr.heap.size := by have := X2.size; omega
      have hwl : (endsW (t + 1) E).length = m := by rw [endsW_len _ _ (by rw [HM.out]; exact ht), HM.out]
      have hrg : rb ≠ w.heap.size := by omega
      have cg : ∃ v, wr.cell? ⟨w.heap.size, t, none⟩ = some v := by
        rw [X1.cellAt, List.getElem?_map]
        exact ⟨_, by rw [List.getElem?_eq_getElem (by rw [hwl]; omega)]; rfl⟩
      obtain ⟨v0, cg⟩ := cg
      have fg := X1.free t
      by_cases hlast : t + 1 < m
      · obtain ⟨y, hy⟩ : ∃ y, E[t + 1]? = some y := ⟨_, List.getElem?_eq_getElem (by rw [HM.out]; omega)⟩
        obtain ⟨rb', ro', e, _, cy, _⟩ := HE.out.at (t + 1) y hy
        injection e with e; injection e with e1 e2
        subst e1 e2
        have cy2 := (X2.cell (p := ⟨rb, ro + (t + 1) * 2 + 1, none⟩) lr).trans cy
        obtain ⟨z, hz, hz0, hz1, hzh⟩ := endsW_head E t y hy
        rw [HM.out] at hz1
        have S1 : Hid (Whole (wr.setCell ⟨w.heap.size, t, none⟩ (.int .i64 ((t : Int) + 1))) w.heap.size 3 (((endsW (t + 1) E).set t ((t : Int) + 1)).map (Value.int .i64)) ∧ Below w.heap.size w (wr.setCell ⟨w.heap.size, t, none⟩ (.int .i64 ((t : Int) + 1)))) := Lib.hid ⟨by
          have := X1.set t (.int .i64 ((t : Int) + 1))
          rw [List.map_set]; exact this, X2.setCell (p := ⟨w.heap.size, t, none⟩) (Nat.le_refl _) _⟩
        have dl1 : decide ((t : Int) + 1 < (m : Int)) = true := by simp; omega
        by_cases hq : y.2 = x.2
        · have S2 := S1
          have czz : (wr.setCell ⟨w.heap.size, t, none⟩ (.int .i64 ((t : Int) + 1))).cell? ⟨w.heap.size, t + 1, none⟩ = some (.int .i64 z) := by
            rw [S1.out.1.cellAt, List.getElem?_map, List.getElem?_set_ne (by omega), hz]; rfl
          have cww : (wr.setCell ⟨w.heap.size, t, none⟩ (.int .i64 ((t : Int) + 1))).cell? ⟨w.heap.size, t, none⟩ = some (.int .i64 ((t : Int) + 1)) := by
            rw [S1.out.1.cellAt, List.getElem?_map, List.getElem?_set_self (by rw [hwl]; omega)]; rfl
          have S3 : ∀ nq, Hid (Whole (((wr.setCell ⟨w.heap.size, t, none⟩ (.int .i64 ((t : Int) + 1))).drewN nq).setCell ⟨w.heap.size, t, none⟩ (.int .i64 z)) w.heap.size 3 ((endsW t E).map (Value.int .i64)) ∧ Below w.heap.size w (((wr.setCell ⟨w.heap.size, t, none⟩ (.int .i64 ((t : Int) + 1))).drewN nq).setCell ⟨w.heap.size, t, none⟩ (.int .i64 z))) := fun nq => by
            have bn := below_dn (w.heap.size + 1) (wr.setCell ⟨w.heap.size, t, none⟩ (.int .i64 ((t : Int) + 1))) nq
            refine Lib.hid ⟨?_, (S1.out.2.trans (bn.mono (by omega))).setCell (p := ⟨w.heap.size, t, none⟩) (Nat.le_refl _) _⟩
            have h1 := (S1.out.1.below bn (by omega)).set t (.int .i64 z)
            rw [← List.map_set, endsW_same E t x y hx hy hq z _ hzh] at h1
            exact h1
          have dq : (y.2 == x.2) = true := by simpa using hq
          obtain ⟨y1, y2⟩ := y
          obtain ⟨x1, x2⟩ := x
          dsimp only at dq cx2 cy2
          clear X1 X2 HX HI hx hy cx cy hz hzh hq
          go_wp2
          go_quiet (fail)
          go_wp2

          go_roundw
          case rel => exact ⟨t, by omega, by go_num, S3 _⟩
          case measure => (simp [intOf]; try omega)
        · have S2 : Hid (Whole (wr.setCell ⟨w.heap.size, t, none⟩ (.int .i64 ((t : Int) + 1))) w.heap.size 3 ((endsW t E).map (Value.int .i64)) ∧ Below w.heap.size w (wr.setCell ⟨w.heap.size, t, none⟩ (.int .i64 ((t : Int) + 1)))) := by
            have := S1.out; rw [endsW_else E t x y hx hy hq] at this; exact Lib.hid this
          have S3 : ∀ nq, Hid (Whole ((wr.setCell ⟨w.heap.size, t, none⟩ (.int .i64 ((t : Int) + 1))).drewN nq) w.heap.size 3 ((endsW t E).map (Value.int .i64)) ∧ Below w.heap.size w ((wr.setCell ⟨w.heap.size, t, none⟩ (.int .i64 ((t : Int) + 1))).drewN nq)) := fun nq => by
            have bn := below_dn (w.heap.size + 1) (wr.setCell ⟨w.heap.size, t, none⟩ (.int .i64 ((t : Int) + 1))) nq
            exact Lib.hid ⟨S2.out.1.below bn (by omega), S2.out.2.trans (bn.mono (by omega))⟩
          have dq : (y.2 == x.2) = false := by simpa using hq
          have S0 := S1
          obtain ⟨y1, y2⟩ := y
          obtain ⟨x1, x2⟩ := x
          dsimp only at dq cx2 cy2
          clear X1 X2 HX HI hx hy cx cy hz hzh hq S1
          go_wp2
          go_quiet (fail)
          go_wp2
          go_roundw
          case rel => exact ⟨t, by omega, by go_num, S3 _⟩
          case measure => (simp [intOf]; try omega)
      · have S2 : Hid (Whole (wr.setCell ⟨w.heap.size, t, none⟩ (.int .i64 ((t : Int) + 1))) w.heap.size 3 ((endsW t E).map (Value.int .i64)) ∧ Below w.heap.size w (wr.setCell ⟨w.heap.size, t, none⟩ (.int .i64 ((t : Int) + 1)))) := Lib.hid ⟨by
          have h1 := X1.set t (.int .i64 ((t : Int) + 1))
          rw [← List.map_set, endsW_one E t x hx (List.getElem?_eq_none_iff.2 (by rw [HM.out]; omega))] at h1
          exact h1, X2.setCell (p := ⟨w.heap.size, t, none⟩) (Nat.le_refl _) _⟩
        have S3 : ∀ nq, Hid (Whole ((wr.setCell ⟨w.heap.size, t, none⟩ (.int .i64 ((t : Int) + 1))).drewN nq) w.heap.size 3 ((endsW t E).map (Value.int .i64)) ∧ Below w.heap.size w ((wr.setCell ⟨w.heap.size, t, none⟩ (.int .i64 ((t : Int) + 1))).drewN nq)) := fun nq => by
          have bn := below_dn (w.heap.size + 1) (wr.setCell ⟨w.heap.size, t, none⟩ (.int .i64 ((t : Int) + 1))) nq
          exact Lib.hid ⟨S2.out.1.below bn (by omega), S2.out.2.trans (bn.mono (by omega))⟩
        have dl1 : decide ((t : Int) + 1 < (m : Int)) = false := by simp; omega
        clear X1 X2 HX HI hx cx
        go_wp2
        go_quiet (fail)
        go_wp2
        go_roundw
        case rel => exact ⟨t, by omega, by go_num, S3 _⟩
        case measure => (simp [intOf]; try omega)
end Go.Proofs.Ytdljgdmodobjpaa
