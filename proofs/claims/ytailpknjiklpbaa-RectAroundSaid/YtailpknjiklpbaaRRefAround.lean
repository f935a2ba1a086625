/- Contract of the document's Around. -/
import Derived.Test.YtailpknjiklpbaaRHas
namespace Go.Proofs.Ytailpknjiklpbaa
open Go.RowKit Go.Shelf Go.Lib
set_option linter.unusedVariables false
set_option linter.unusedSimpArgs false

/-- what is around some that have points, so far: is there one; its sides -/
def hstep (s : Bool × Int × Int × Int × Int) (q : R) : Bool × Int × Int × Int × Int :=
  if emptyB q = true then s else if s.1 = true then (true, min s.2.1 q.x, min s.2.2.1 q.y, max s.2.2.2.1 (q.x + q.w), max s.2.2.2.2 (q.y + q.h)) else (true, q.x, q.y, q.x + q.w, q.y + q.h)
def hullS (zs : List R) : Bool × Int × Int × Int × Int := zs.foldl hstep (false, 0, 0, 0, 0)
def hullR (zs : List R) : R := ⟨(hullS zs).2.1, (hullS zs).2.2.1, (hullS zs).2.2.2.1 - (hullS zs).2.1, (hullS zs).2.2.2.2 - (hullS zs).2.2.1⟩
def aroundR (zs : List R) : R × Int := if zs.all rightB = true then rightR (hullR zs) else (⟨0, 0, 0, 0⟩, 20)
theorem hull_take (zs : List R) (k : Nat) (q : R) (h : zs[k]? = some q) : hullS (zs.take (k + 1)) = hstep (hullS (zs.take k)) q := by
  unfold hullS; rw [List.take_add_one, h, List.foldl_append]; rfl
theorem all_not (zs : List R) (k : Nat) (q : R) (h : zs[k]? = some q) (hq : rightB q = false) : zs.all rightB = false := by
  rw [← Bool.not_eq_true, List.all_eq_true]
  intro hh
  rw [hh q (List.mem_of_getElem? h)] at hq; cases hq
theorem all_step (zs : List R) (k : Nat) (q : R) (h : zs[k]? = some q) (hq : rightB q = true) (ht : (zs.take k).all rightB = true) : (zs.take (k + 1)).all rightB = true := by
  rw [List.take_add_one, h, List.all_append, ht]; simp [hq]
/-- no side is farther than it may be -/
def HB4 (x y u v : Int) : Prop := (-1152921504606846976 ≤ x ∧ x ≤ 1152921504606846975) ∧ (-1152921504606846976 ≤ y ∧ y ≤ 1152921504606846975) ∧ (-1152921504606846976 ≤ u ∧ u ≤ 2305843009213693951) ∧ (-1152921504606846976 ≤ v ∧ v ≤ 2305843009213693951)
def RAInv (zs : List R) (W : World) (s x y u v i : Value) (wr : World) : Prop :=
  ∃ (k : Nat) (sb : Bool) (sx sy su sv : Int), k ≤ zs.length ∧ i = .int .i64 k ∧ s = .bool sb ∧ x = .int .i64 sx ∧ y = .int .i64 sy ∧ u = .int .i64 su ∧ v = .int .i64 sv ∧ Hid (hullS (zs.take k) = (sb, sx, sy, su, sv)) ∧ Hid (HB4 sx sy su sv) ∧
    Hid (Below W.heap.size W wr) ∧ Hid (Whole wr W.heap.size 25 [.int .i64 0, .int .i64 0, .int .i64 0, .int .i64 0]) ∧ Hid ((zs.take k).all rightB = true)
set_option maxRecDepth 100000 in
set_option maxHeartbeats 3200000 in
theorem refAround_some (g off cap : Nat) (zs : List R) (W : World) (hm : zs.length ≤ 9223372036854775807) (hlt : g < W.heap.size) (hc : ∀ j, j < zs.length → ∀ i v, (zs[j]!).cells[i]? = some v → W.cell? ⟨g, off + j * 4 + i, none⟩ = some v) :
    Calls Try.prog 8 #[.slice (some ⟨g, off, none⟩) zs.length cap] W fun e W' => e = retR (aroundR zs) ∧ Below W.heap.size W W' := by
  have HC := Lib.hid hc
  clear hc
  go_enter Try.func8, Try.ntmps8
  go_wp2
  go_loopw [4, 5, 6, 7, 8, 9] (fun s x y u v i wr => RAInv zs W s x y u v i wr) (fun _ _ _ _ _ i _ => zs.length - (intOf i).toNat)
  case atStart => exact ⟨0, false, 0, 0, 0, 0, Nat.zero_le _, rfl, rfl, rfl, rfl, rfl, rfl, Lib.hid rfl, Lib.hid (by unfold HB4; omega), Lib.hid ((Below.refl _ _).alloc (Nat.le_refl _) _), Lib.hid (whole_new W _ _ _ rfl), Lib.hid rfl⟩
  case round =>
    obtain ⟨k, sb, sx, sy, su, sv, hk, rfl, rfl, rfl, rfl, rfl, rfl, hh, hbd, hb, hw, ha⟩ := hrel
    by_cases hkl : k < zs.length
    · obtain ⟨q, hq⟩ : ∃ q, zs[k]? = some q := ⟨_, List.getElem?_eq_getElem hkl⟩
      have hcl : ∀ i v, q.cells[i]? = some v → wr.cell? ⟨g, off + k * 4 + i, none⟩ = some v := fun i v hv => by
        have := HC.out k hkl i v (by rw [show zs[k]! = q by simp [List.getElem!_eq_getElem?_getD, hq]]; exact hv)
        exact (hb.out.cell (p := ⟨g, off + k * 4 + i, none⟩) hlt).trans this
      obtain ⟨x, y, u, v⟩ := q
      have c0 : wr.cell? ⟨g, off + k * 4, none⟩ = some (.int .i64 x) := hcl 0 _ rfl
      have c1 : wr.cell? ⟨g, off + k * 4 + 1, none⟩ = some (.int .i64 y) := hcl 1 _ rfl
      have c2 : wr.cell? ⟨g, off + k * 4 + 2, none⟩ = some (.int .i64 u) := hcl 2 _ rfl
      have c3 : wr.cell? ⟨g, off + k * 4 + 3, none⟩ = some (.int .i64 v) := hcl 3 _ rfl
      have HQ := Lib.hid hq
      clear hcl hq
      have hsz := hb.out.size
      cases hr : rightB ⟨x, y, u, v⟩ with
      | false =>
        have hv : Hid (aroundR zs = (⟨0, 0, 0, 0⟩, 20)) := by apply Lib.hid; unfold aroundR; rw [all_not zs k _ HQ.out hr]; rfl
        have RR := Lib.hid (fun X => hr ▸ refRight_any x y u v X)
        clear hr
        go_wp2_with fail
        refine (RR.out _).mono ?_
        rintro e w1 ⟨rfl, hb1⟩
        have kr := (hw.out.alloc (.cells #[.int .i64 x, .int .i64 y, .int .i64 u, .int .i64 v] 25)).below hb1 (hw.out.alloc _).lt
        have HB1 := Lib.hid ((hb.out.alloc hsz (.cells #[.int .i64 x, .int .i64 y, .int .i64 u, .int .i64 v] 25)).trans (hb1.mono (by simp <;> omega)))
        have cr := kr.cellAt
        have fr := kr.free
        clear hb1 c0 c1 c2 c3 kr
        go_wp2
        refine bodyPost_ret (v := .tuple #[.agg #[.int .i64 0, .int .i64 0, .int .i64 0, .int .i64 0], .int .i64 20]) (by simp [results, Try.results8, go_sem, cr, fr]) rfl ⟨(congrArg retR hv.out).symm, ?_⟩
        repeat (refine Below.setCell ?_ (by simp <;> omega) _)
        exact HB1.out
      | true =>
        have AS := Lib.hid (all_step zs k _ HQ.out hr ha.out)
        have HS := Lib.hid (hull_take zs k _ HQ.out)
        have RR := Lib.hid (fun X => hr ▸ refRight_any x y u v X)
        have NN := Lib.hid (fun X => none_any x y u v X)
        have h1 := (rightB_iff _).1 hr
        dsimp only at h1
        obtain ⟨⟨a1, a2⟩, ⟨a3, a4⟩, ⟨a5, a6⟩, a7, a8⟩ := h1
        clear hr HQ
        go_wp2_with fail
        refine (RR.out _).mono ?_
        rintro e w1 ⟨rfl, hb1⟩
        have kr := (hw.out.alloc (.cells #[.int .i64 x, .int .i64 y, .int .i64 u, .int .i64 v] 25)).below hb1 (hw.out.alloc _).lt
        have kq0 := whole_new wr [.int .i64 x, .int .i64 y, .int .i64 u, .int .i64 v] 25 wr.heap.size rfl
        have kq := kq0.below hb1 kq0.lt
        have HB1 := Lib.hid ((hb.out.alloc hsz (.cells #[.int .i64 x, .int .i64 y, .int .i64 u, .int .i64 v] 25)).trans (hb1.mono (by simp <;> omega)))
        have hs1 := HB1.out.size
        have KR := Lib.hid kr
        clear hb1 c0 c1 c2 c3 kr kq0 hb hw hsz
        have d0 := kq.cellAt 0
        have d1 := kq.cellAt 1
        have d2 := kq.cellAt 2
        have d3 := kq.cellAt 3
        have lq := kq.lt
        go_wp2_with fail
        refine (NN.out _).mono ?_
        rintro e w2 ⟨rfl, hb2⟩
        replace kq := kq.below hb2 kq.lt
        have KR2 := Lib.hid (KR.out.below hb2 KR.out.lt)
        have HB2 := Lib.hid (HB1.out.trans (hb2.mono hs1))
        have hs2 := HB2.out.size
        clear hb2 HB1 hs1 KR d0 d1 d2 d3 lq NN RR
        have d0 : w2.cell? ⟨wr.heap.size, 0, none⟩ = some (.int .i64 x) := kq.cellAt 0
        have d1 : w2.cell? ⟨wr.heap.size, 1, none⟩ = some (.int .i64 y) := kq.cellAt 1
        have d2 : w2.cell? ⟨wr.heap.size, 2, none⟩ = some (.int .i64 u) := kq.cellAt 2
        have d3 : w2.cell? ⟨wr.heap.size, 3, none⟩ = some (.int .i64 v) := kq.cellAt 3
        have lq := kq.lt
        clear kq
        have HX := Lib.hid (show hstep (sb, sx, sy, su, sv) ⟨x, y, u, v⟩ = _ from rfl)
        rw [hh.out] at HS
        cases he : emptyB ⟨x, y, u, v⟩ with
        | true =>
          have HN : Hid (hullS (zs.take (k + 1)) = (sb, sx, sy, su, sv)) := by apply Lib.hid; rw [HS.out]; unfold hstep; rw [if_pos he]
          clear he HX HS hh d0 d1 d2 d3 a1 a2 a3 a4 a5 a6 a7 a8
          go_wp2
          go_roundw
          case measure => simp [intOf]; omega
          case rel => exact ⟨k + 1, sb, sx, sy, su, sv, by omega, by go_num, rfl, rfl, rfl, rfl, rfl, HN, hbd, HB2, KR2, AS⟩
        | false =>
          have hne : ¬ emptyB ⟨x, y, u, v⟩ = true := by rw [he]; decide
          cases sb with
          | false =>
            have HN : Hid (hullS (zs.take (k + 1)) = (true, x, y, x + u, y + v)) := by apply Lib.hid; rw [HS.out]; unfold hstep; rw [if_neg hne]; rfl
            have HBN : Hid (HB4 x y (x + u) (y + v)) := by apply Lib.hid; unfold HB4; omega
            clear he hne HX HS hh hbd
            go_wp2
            go_roundw
            case measure => simp [intOf]; omega
            case rel => exact ⟨k + 1, true, x, y, x + u, y + v, by omega, by go_num, rfl, by simp, by simp, by simp, by simp, HN, HBN, HB2, KR2, AS⟩
          | true =>
            have HN : Hid (hullS (zs.take (k + 1)) = (true, min sx x, min sy y, max su (x + u), max sv (y + v))) := by apply Lib.hid; rw [HS.out]; unfold hstep; rw [if_neg hne]; rfl
            have HBN : Hid (HB4 (min sx x) (min sy y) (max su (x + u)) (max sv (y + v))) := by
              apply Lib.hid; have := hbd.out; unfold HB4 at *; omega
            clear he hne HX HS hh hbd
            go_wp2
            go_roundw
            case measure => simp [intOf]; omega
            case rel => exact ⟨k + 1, true, _, _, _, _, by omega, by go_num, rfl, rfl, rfl, rfl, rfl, HN, HBN, HB2, KR2, AS⟩
    · have hall : zs.all rightB = true := by have := ha.out; rwa [List.take_of_length_le (by omega)] at this
      have hull : hullS zs = (sb, sx, sy, su, sv) := by have := hh.out; rwa [List.take_of_length_le (by omega)] at this
      have hR : hullR zs = ⟨sx, sy, su - sx, sv - sy⟩ := by unfold hullR; rw [hull]
      obtain ⟨⟨e1, e2⟩, ⟨e3, e4⟩, ⟨e5, e6⟩, e7, e8⟩ := hbd.out
      have RR := Lib.hid (fun X => refRight_any sx sy (su - sx) (sv - sy) X)
      have hsz := hb.out.size
      cases hr : rightB ⟨sx, sy, su - sx, sv - sy⟩ with
      | false =>
        have hv : Hid (aroundR zs = (⟨0, 0, 0, 0⟩, 20)) := by apply Lib.hid; unfold aroundR; rw [if_pos hall, hR]; unfold rightR; rw [hr]; rfl
        rw [hr] at RR
        clear hr hall hull hR hh ha hbd
        go_wp2_with fail
        refine (RR.out _).mono ?_
        rintro e w1 ⟨rfl, hb1⟩
        have kr := (hw.out.alloc (.cells #[.int .i64 sx, .int .i64 sy, .int .i64 (su - sx), .int .i64 (sv - sy)] 25)).below hb1 (hw.out.alloc _).lt
        have kq0 := whole_new wr [.int .i64 sx, .int .i64 sy, .int .i64 (su - sx), .int .i64 (sv - sy)] 25 wr.heap.size rfl
        have kq := kq0.below hb1 kq0.lt
        have HB1 := Lib.hid ((hb.out.alloc hsz (.cells #[.int .i64 sx, .int .i64 sy, .int .i64 (su - sx), .int .i64 (sv - sy)] 25)).trans (hb1.mono (by simp <;> omega)))
        have cr := kr.cellAt
        have fr := kr.free
        have cq := kq.cellAt
        have lq := kq.lt
        clear hb1 kr kq kq0
        go_wp2
        refine bodyPost_ret (v := .tuple #[.agg #[.int .i64 0, .int .i64 0, .int .i64 0, .int .i64 0], .int .i64 20]) (by simp [results, Try.results8, go_sem, cr, fr]) rfl ⟨(congrArg retR hv.out).symm, ?_⟩
        repeat (refine Below.setCell ?_ (by simp <;> omega) _)
        exact HB1.out
      | true =>
        have hv : Hid (aroundR zs = (⟨sx, sy, su - sx, sv - sy⟩, 0)) := by apply Lib.hid; unfold aroundR; rw [if_pos hall, hR]; unfold rightR; rw [hr]; rfl
        rw [hr] at RR
        clear hr hall hull hR hh ha hbd
        go_wp2_with fail
        refine (RR.out _).mono ?_
        rintro e w1 ⟨rfl, hb1⟩
        have kr := (hw.out.alloc (.cells #[.int .i64 sx, .int .i64 sy, .int .i64 (su - sx), .int .i64 (sv - sy)] 25)).below hb1 (hw.out.alloc _).lt
        have kq0 := whole_new wr [.int .i64 sx, .int .i64 sy, .int .i64 (su - sx), .int .i64 (sv - sy)] 25 wr.heap.size rfl
        have kq := kq0.below hb1 kq0.lt
        have HB1 := Lib.hid ((hb.out.alloc hsz (.cells #[.int .i64 sx, .int .i64 sy, .int .i64 (su - sx), .int .i64 (sv - sy)] 25)).trans (hb1.mono (by simp <;> omega)))
        have cr := kr.cellAt
        have fr := kr.free
        have cq := kq.cellAt
        have lq := kq.lt
        clear hb1 kr kq kq0
        go_wp2
        refine bodyPost_ret (v := .tuple #[.agg #[.int .i64 sx, .int .i64 sy, .int .i64 (su - sx), .int .i64 (sv - sy)], .int .i64 0]) (by simp [results, Try.results8, go_sem, cr, fr]) rfl ⟨(congrArg retR hv.out).symm, ?_⟩
        repeat (refine Below.setCell ?_ (by simp <;> omega) _)
        exact HB1.out
set_option maxHeartbeats 1600000 in
theorem refAround_none (p : Option Addr) (cap : Nat) (W : World) :
    Calls Try.prog 8 #[.slice p 0 cap] W fun e W' => e = retR (aroundR []) ∧ Below W.heap.size W W' := by
  have RR := Lib.hid (fun X => refRight_any 0 0 0 0 X)
  rw [show rightB ⟨0, 0, 0, 0⟩ = true by decide] at RR
  have hv : Hid (aroundR [] = (⟨0, 0, 0, 0⟩, 0)) := Lib.hid (by decide)
  go_enter Try.func8, Try.ntmps8
  have kr0 := whole_new W [.int .i64 0, .int .i64 0, .int .i64 0, .int .i64 0] 25 W.heap.size rfl
  go_wp2
  refine wp_loop_rounds 1 ?_
  rw [rounds_succ]
  go_wp2_with fail
  refine (RR.out _).mono ?_
  rintro e w1 ⟨rfl, hb1⟩
  have kr := (kr0.alloc (.cells #[.int .i64 0, .int .i64 0, .int .i64 0, .int .i64 0] 25)).below hb1 (kr0.alloc _).lt
  have kq0 := whole_new (W.alloc (.cells #[.int .i64 0, .int .i64 0, .int .i64 0, .int .i64 0] 25)) [.int .i64 0, .int .i64 0, .int .i64 0, .int .i64 0] 25 (W.heap.size + 1) (by simp)
  have kq := kq0.below hb1 kq0.lt
  have HB1 := Lib.hid ((((Below.refl W.heap.size W).alloc (Nat.le_refl _) (.cells #[.int .i64 0, .int .i64 0, .int .i64 0, .int .i64 0] 25)).alloc (by simp) (.cells #[.int .i64 0, .int .i64 0, .int .i64 0, .int .i64 0] 25)).trans (hb1.mono (by simp <;> omega)))
  have cr := kr.cellAt
  have fr := kr.free
  have cq := kq.cellAt
  have lq := kq.lt
  clear hb1 kr kq kq0 kr0
  go_wp2
  refine bodyPost_ret (v := .tuple #[.agg #[.int .i64 0, .int .i64 0, .int .i64 0, .int .i64 0], .int .i64 0]) (by simp [results, Try.results8, go_sem, cr, fr]) rfl ⟨(congrArg retR hv.out).symm, ?_⟩
  repeat (refine Below.setCell ?_ (by simp <;> omega) _)
  exact HB1.out
theorem refAround_any (sv : Value) (zs : List R) (W : World) (hI : Rects W sv zs) :
    Calls Try.prog 8 #[sv] W fun e W' => e = retR (aroundR zs) ∧ Below W.heap.size W W' := by
  obtain ⟨hm, ⟨p, cap, rfl, rfl⟩ | ⟨g, off, cap, rfl, hlt, hc⟩⟩ := hI
  · exact refAround_none p cap W
  · exact refAround_some g off cap zs W hm hlt hc
end Go.Proofs.Ytailpknjiklpbaa
