/- Contract of rect.Around. -/
import Derived.Test.YtailpknjiklpbaaRPoint
import Derived.Test.YtailpknjiklpbaaRHull
import Derived.Test.YtailpknjiklpbaaRShown
import Derived.ScopeJumps
import Derived.Laws.Rows
import Derived.Laws.ResultCell
namespace Go.Proofs.Ytailpknjiklpbaa
open Go.RowKit Go.Shelf
set_option linter.unusedVariables false
attribute [local go_sem] Oper.semAt_some

theorem join_any (q x : R) (W : World) (hq : rightB q = true) (hx : rightB x = true) : Calls Try.prog 13 #[q.val, x.val] W fun e W' => e = .returned (joinR q x).val ∧ Below W.heap.size W W' := by
  by_cases h : q = ⟨0, 0, 0, 0⟩
  · subst h
    have h1 := join_none x.x x.y x.w x.h W
    rw [show joinR ⟨0, 0, 0, 0⟩ x = x by unfold joinR; rw [if_pos rfl]]
    exact h1
  · exact join_some q.x q.y q.w q.h x.x x.y x.w x.h W hq hx h
def foldJ (pre : List RR) : R := (vals pre).foldl joinR ⟨0, 0, 0, 0⟩
theorem foldJ_snoc (pre : List RR) (x : RR) : foldJ (pre ++ [x]) = joinR (foldJ pre) x.1 := by simp [foldJ, vals]
theorem foldJ_ptd (rs : List RR) : foldJ (ptd rs) = hullR (vals rs) := by
  rw [← hull_join (vals rs) (fun q hq => by obtain ⟨x, _, rfl⟩ := List.mem_map.1 hq; exact x.2)]
  unfold foldJ ptd vals
  rw [List.filter_map]; rfl
theorem vals_right (rs : List RR) : (vals rs).all rightB = true := by rw [List.all_eq_true]; intro q hq; obtain ⟨x, _, rfl⟩ := List.mem_map.1 hq; exact x.2
theorem around_yes (rs : List RR) (h : rightB (foldJ (ptd rs)) = true) : aroundR (vals rs) = (foldJ (ptd rs), 0) := by
  unfold aroundR
  rw [if_pos (vals_right rs), ← foldJ_ptd, rightR, if_pos h]
theorem around_no (rs : List RR) (k : Nat) (h : rightB (foldJ (ptd (rs.take k))) = false) : aroundR (vals rs) = (⟨0, 0, 0, 0⟩, 20) := by
  unfold aroundR
  rw [if_pos (vals_right rs), rightR]
  rw [foldJ_ptd] at h
  have hn : ¬ rightB (hullR (vals rs)) = true := fun hr => by
    have e : vals rs = vals (rs.take k) ++ vals (rs.drop k) := by simp [vals]
    rw [e] at hr
    have := hull_prefix _ _ (fun q hq => by rw [← e] at hq; obtain ⟨x, _, rfl⟩ := List.mem_map.1 hq; exact x.2) hr
    rw [h] at this; cases this
  rw [if_neg hn]
theorem results_rect {fn : Func} {W : World} {g : Nat} {q : R} {v : Value} {tmps : Array Value} (hf : fn.results = #[.cell 2 25, .tmp 3]) (ht : tmps.getD 2 undef = .pointer (some ⟨g, 0, none⟩)) (hv : tmps.getD 3 undef = v) (h : Whole W g 25 q.cells) :
    (results fn tmps).run Try.prog W = .ok (.tuple #[q.val, v]) W := by
  have hl := run_loadVar_row (P := Try.prog) W g 25 25 q.cells.toArray (0, 0) _ h Try.underlying25 rfl (by kernel_rfl)
  rw [results_cell_tmp hf, ht, hv]
  simp [asAddr, hl, R.val, R.cells]
def AI (B : Nat) (w : World) (pre : List RR) (V : World) : Prop :=
  (Whole V (B + 1) 25 (foldJ pre).cells ∧ Whole V B 25 (⟨0, 0, 0, 0⟩ : R).cells ∧ rightB (foldJ pre) = true) ∧ Below B w V
def AX (B : Nat) (w : World) (c : Code) (pre : List RR) (V : World) : Prop :=
  c = .goto 0 ∧ rightB (foldJ pre) = false ∧ Whole V B 25 (⟨0, 0, 0, 0⟩ : R).cells ∧ Below B w V
theorem AI.own (B : Nat) (w : World) (K : Nat) (h1 : B ≤ w.heap.size) (h2 : B ≤ K) : OwnFrom K (AI B w) := fun pre X Y row ⟨⟨ha, hc, hz⟩, hb⟩ hg hr =>
  ⟨⟨ha.grown hg (ha.ne fun r e => (hr r e).2), hc.grown hg (hc.ne fun r e => (hr r e).2), hz⟩, (ownFrom_below (β := Unit) h1 h2) () X Y row hb hg hr⟩
theorem AX.own (B : Nat) (w : World) (K : Nat) (h1 : B ≤ w.heap.size) (h2 : B ≤ K) (c : Code) : OwnFrom K (AX B w c) := fun pre X Y row ⟨hc, hz, ha, hb⟩ hg hr =>
  ⟨hc, hz, ha.grown hg (ha.ne fun r e => (hr r e).2), (ownFrom_below (β := Unit) h1 h2) () X Y row hb hg hr⟩
def JA (a0 : Option Addr) (len0 cap0 : Nat) (rs : List RR) (w : World) (a : Act) (V : World) : Prop :=
  ∃ D bs, a = { tmps := #[.slice a0 len0 cap0, undef, .pointer (some ⟨w.heap.size, 0, none⟩), .int .i64 0, .pointer (some ⟨w.heap.size + 1, 0, none⟩), undef, .slice a0 len0 cap0, .bool true, .bool false, .slice a0 len0 cap0, .func (.func 22) #[] #[.pointer (some ⟨bs, 0, none⟩)], undef, undef, undef, undef, undef, undef, undef, undef, undef], defers := [{ target := .collected D, args := #[] }] } ∧ w.heap.size + 2 ≤ D ∧ V.heap[D]? = some (.deferred (some [])) ∧ Whole V w.heap.size 25 (⟨0, 0, 0, 0⟩ : R).cells ∧ Below w.heap.size w V ∧ aroundR (vals rs) = (⟨0, 0, 0, 0⟩, 20)
/-- what a round leaves: four cells of the block B + 1 written between two calls -/
theorem stepA {B B2 : Nat} {w V w3 w4 : World} {q : R} {a' b' c' d' : Int} (h3 : Below V.heap.size V w3)
    (h4 : Below ((((w3.setCell ⟨B + 1, 0, none⟩ (.int .i64 a')).setCell ⟨B + 1, 1, none⟩ (.int .i64 b')).setCell ⟨B + 1, 2, none⟩ (.int .i64 c')).setCell ⟨B + 1, 3, none⟩ (.int .i64 d')).heap.size ((((w3.setCell ⟨B + 1, 0, none⟩ (.int .i64 a')).setCell ⟨B + 1, 1, none⟩ (.int .i64 b')).setCell ⟨B + 1, 2, none⟩ (.int .i64 c')).setCell ⟨B + 1, 3, none⟩ (.int .i64 d')) w4)
    (hb : Below B w V) (hk : Whole w3 (B + 1) 25 q.cells) (hz : Whole w3 B 25 (⟨0, 0, 0, 0⟩ : R).cells) (hl : B + 1 < V.heap.size) (h2 : B + 1 < B2) (hB : B ≤ w.heap.size) :
    KeepsOthers V w4 ∧ KpA B B2 V w4 ∧ Whole w4 (B + 1) 25 (⟨a', b', c', d'⟩ : R).cells ∧ Whole w4 B 25 (⟨0, 0, 0, 0⟩ : R).cells ∧ Below B w w4 := by
  have hs3 := h3.size
  obtain ⟨Y, hY⟩ : ∃ Y, (((w3.setCell ⟨B + 1, 0, none⟩ (.int .i64 a')).setCell ⟨B + 1, 1, none⟩ (.int .i64 b')).setCell ⟨B + 1, 2, none⟩ (.int .i64 c')).setCell ⟨B + 1, 3, none⟩ (.int .i64 d') = Y := ⟨_, rfl⟩
  rw [hY] at h4
  have kY : Whole Y (B + 1) 25 (⟨a', b', c', d'⟩ : R).cells := by rw [← hY]; exact (((hk.set 0 (.int .i64 a')).set 1 (.int .i64 b')).set 2 (.int .i64 c')).set 3 (.int .i64 d')
  have zY : Whole Y B 25 (⟨0, 0, 0, 0⟩ : R).cells := by rw [← hY]; exact (((hz.other ⟨B + 1, 0, none⟩ _ (by simp)).other ⟨B + 1, 1, none⟩ _ (by simp)).other ⟨B + 1, 2, none⟩ _ (by simp)).other ⟨B + 1, 3, none⟩ _ (by simp)
  have h0 : Below (B + 1) V w3 := h3.mono (by omega)
  have bY : Below (B + 1) V Y := by rw [← hY]; exact (((h0.setCell (p := ⟨B + 1, 0, none⟩) (Nat.le_refl _) _).setCell (p := ⟨B + 1, 1, none⟩) (Nat.le_refl _) _).setCell (p := ⟨B + 1, 2, none⟩) (Nat.le_refl _) _).setCell (p := ⟨B + 1, 3, none⟩) (Nat.le_refl _) _
  have oY : ∀ k, k ≠ B + 1 → Y.heap[k]? = w3.heap[k]? := fun k hk => by
    rw [← hY, Below.heap_setCell _ _ _ _ hk, Below.heap_setCell _ _ _ _ hk, Below.heap_setCell _ _ _ _ hk, Below.heap_setCell _ _ _ _ hk]
  have koY : KeepsOthers w3 Y := by rw [← hY]; exact (((KeepsOthers.setCell _ _ _).trans (KeepsOthers.setCell _ _ _)).trans (KeepsOthers.setCell _ _ _)).trans (KeepsOthers.setCell _ _ _)
  have kp : ∀ {P Q : World}, Below P.heap.size P Q → KeepsOthers P Q := fun h => ⟨h.size, fun k o hk ho' => (h.block k (Array.getElem?_eq_some_iff.1 hk).1).trans hk⟩
  have hsY := bY.size
  have b4 : Below (B + 1) V w4 := bY.trans (h4.mono (by omega))
  refine ⟨((kp h3).trans koY).trans (kp h4), ⟨b4.mono (by omega), fun k hk hl' => ?_⟩, kY.below h4 kY.lt, zY.below h4 zY.lt, hb.trans (b4.mono (by omega))⟩
  rw [h4.block k (by omega), oY k (by omega), h3.block k hl']
set_option maxRecDepth 100000 in
set_option maxHeartbeats 4000000 in
theorem around_good (sv : Value) (rs : List RR) (w : World) (hI : Rects w sv (vals rs)) : Calls Try.prog 6 #[sv] w fun e W' => e = retR (aroundR (vals rs)) ∧ Below w.heap.size w W' := by
  obtain ⟨a0, len0, cap0, rfl⟩ : ∃ a len cap, sv = .slice a len cap := by
    obtain ⟨_, ⟨a, cap, rfl, _⟩ | ⟨b, off, cap, rfl, _⟩⟩ := hI <;> exact ⟨_, _, _, rfl⟩
  have HA := Lib.hid (fun X hX => (vals_right rs) ▸ allRight_any (.slice a0 len0 cap0) (vals rs) X hX)
  have hB0 : Below w.heap.size w ((w.alloc (.cells #[.int .i64 0, .int .i64 0, .int .i64 0, .int .i64 0] 25)).alloc (.cells #[.int .i64 0, .int .i64 0, .int .i64 0, .int .i64 0] 25)) := ((Below.refl _ w).alloc (Nat.le_refl _) _).alloc (by simp) _
  have k0 : Whole ((w.alloc (.cells #[.int .i64 0, .int .i64 0, .int .i64 0, .int .i64 0] 25)).alloc (.cells #[.int .i64 0, .int .i64 0, .int .i64 0, .int .i64 0] 25)) w.heap.size 25 (⟨0, 0, 0, 0⟩ : R).cells := (whole_new w (⟨0, 0, 0, 0⟩ : R).cells 25 _ rfl).alloc _
  have k1 : Whole ((w.alloc (.cells #[.int .i64 0, .int .i64 0, .int .i64 0, .int .i64 0] 25)).alloc (.cells #[.int .i64 0, .int .i64 0, .int .i64 0, .int .i64 0] 25)) (w.heap.size + 1) 25 (⟨0, 0, 0, 0⟩ : R).cells := whole_new (w.alloc (.cells #[.int .i64 0, .int .i64 0, .int .i64 0, .int .i64 0] 25)) (⟨0, 0, 0, 0⟩ : R).cells 25 _ (by simp)
  have hz0 : ((w.alloc (.cells #[.int .i64 0, .int .i64 0, .int .i64 0, .int .i64 0] 25)).alloc (.cells #[.int .i64 0, .int .i64 0, .int .i64 0, .int .i64 0] 25)).heap.size = w.heap.size + 2 := by simp
  have HI0 := Lib.hid (hI.below hB0)
  have HB0 := Lib.hid hB0
  have K0 := Lib.hid k0
  have K1 := Lib.hid k1
  have HZ0 := Lib.hid hz0
  have HI := Lib.hid hI
  clear k0 k1 hB0 hI hz0
  refine (callsIn_wide (n := 3)).1 (callsIn_of_wp_marks Try.func6 rfl trivial (wpIn_wide.2 ?_) rfl)
  simp only [Try.ntmps6, List.size_toArray, List.length_cons, List.length_nil, Nat.reduceAdd, Nat.reduceSub, Array.replicate_succ, Array.replicate_zero, List.push_toArray, List.append_toArray, List.nil_append, List.cons_append]
  go_wp2_with fail
  refine wp_scope_jumps 0 (JA a0 len0 cap0 rs w) (fun _ _ => 0) rfl ?_ ?_
  · go_wp2_with (first
      | (go_at_call 11; refine (HA.out _ HI0.out).mono ?_; clear HA; rintro e w1 ⟨rfl, hb1⟩)
      | (go_at_call 12; refine (pointed_any _ _ _ _).mono ?_; rintro e w' ⟨rfl, rfl⟩))
    have b1 := HB0.out.trans (hb1.mono (by have := HZ0.out; omega))
    have K0a := K0.out.below hb1 K0.out.lt
    have K1a := K1.out.below hb1 K1.out.lt
    have hz1 : w.heap.size + 2 ≤ w1.heap.size := by have := hb1.size; have := HZ0.out; omega
    have k2 : Whole (w1.alloc (.cells #[.slice a0 len0 cap0] 22)) w1.heap.size 22 [.slice a0 len0 cap0] := whole_new w1 [.slice a0 len0 cap0] 22 _ rfl
    have hB : Below w.heap.size w (w1.alloc (.cells #[.slice a0 len0 cap0] 22)) := b1.alloc (by omega) _
    replace K0a := K0a.alloc (.cells #[.slice a0 len0 cap0] 22)
    replace K1a := K1a.alloc (.cells #[.slice a0 len0 cap0] 22)
    have hz2 : (w1.alloc (.cells #[.slice a0 len0 cap0] 22)).heap.size = w1.heap.size + 1 := by simp
    obtain ⟨W1, hW1⟩ : ∃ W1, w1.alloc (.cells #[.slice a0 len0 cap0] 22) = W1 := ⟨_, rfl⟩
    rw [hW1] at k2 hB K0a K1a hz2 ⊢
    have hz3 : w1.heap.size + 1 ≤ W1.heap.size := by omega
    clear hW1 hz2 hb1 b1 HB0 HZ0 K0 K1 HI0
    refine (wpIn_wide (n := 3)).1 (range_own (F := Fence.wide) rfl (by omega) (gf := 22) (lb := #[.pointer (some ⟨w1.heap.size, 0, none⟩)]) rfl trivial (enters_of Try.func22 (by kernel_rfl) rfl)
      (Kp := KpA w.heap.size (W1.heap.size + 2)) (fun _ _ _ h k => h.trans k) (fun W o h => ⟨below_put W o (by omega) h, fun k hk hl => World.putObj_heap_other (by omega)⟩)
      (pointed_seq _ w1.heap.size (W1.heap.size + 2) (.slice a0 len0 cap0) rs W1 w (by omega) (k2.cellAt 0) HI.out hB (Nat.le_refl _)) (fun _ => rfl)
      (AI w.heap.size w) (AX w.heap.size w) (AI.own _ _ _ (Nat.le_refl _) (by omega)) (fun c => AX.own _ _ _ (Nat.le_refl _) (by omega) c)
      ⟨⟨K1a, K0a, by decide⟩, hB⟩ ?round ?done ?stop)
    case round =>
      rintro l pre ⟨⟨x, y, u, v⟩, hx⟩ V hl ⟨⟨v1, v0, hq⟩, hbV⟩ hem
      have hbs := hbV.size
      have lv1 := v1.lt
      have hval : R.val ⟨x, y, u, v⟩ = .agg #[.int .i64 x, .int .i64 y, .int .i64 u, .int .i64 v] := rfl
      refine ⟨{ tmps := #[.slice a0 len0 cap0, undef, .pointer (some ⟨w.heap.size, 0, none⟩), .int .i64 0, .pointer (some ⟨w.heap.size + 1, 0, none⟩), .pointer (some ⟨V.heap.size, 0, none⟩), .slice a0 len0 cap0, .bool true, .bool false, .slice a0 len0 cap0, .func (.func 22) #[] #[.pointer (some ⟨w1.heap.size, 0, none⟩)], .agg #[.int .i64 x, .int .i64 y, .int .i64 u, .int .i64 v], undef, undef, undef, undef, undef, undef, undef, undef], defers := [] }, V.alloc (.cells #[.int .i64 x, .int .i64 y, .int .i64 u, .int .i64 v] 25), ?_, (KeepsOthers.alloc V _).from _, ⟨(Below.refl _ V).alloc (by omega) _, fun k hk hl => Below.heap_alloc _ _ _ hl⟩, ?_⟩
      · intro K hK
        clear v1 v0 hbV K0a K1a k2 hB
        gi_wp2
        rw [hval] at *
        exact hK
      · intro V₂ hgV hnc' hbl
        have kc : Whole V₂ V.heap.size 25 [.int .i64 x, .int .i64 y, .int .i64 u, .int .i64 v] := Whole.grown (whole_new V [.int .i64 x, .int .i64 y, .int .i64 u, .int .i64 v] 25 _ rfl) hgV (Whole.ne (whole_new V [.int .i64 x, .int .i64 y, .int .i64 u, .int .i64 v] 25 _ rfl) hnc')
        have v1' := (v1.alloc (.cells #[.int .i64 x, .int .i64 y, .int .i64 u, .int .i64 v] 25)).grown hgV ((v1.alloc _).ne hnc')
        have v0' := (v0.alloc (.cells #[.int .i64 x, .int .i64 y, .int .i64 u, .int .i64 v] 25)).grown hgV ((v0.alloc _).ne hnc')
        have hb2 : Below w.heap.size w V₂ := (hbV.trans ((Below.refl _ V).alloc (by omega) _)).trans hbl.1
        have hfs := foldJ_snoc pre ⟨⟨x, y, u, v⟩, hx⟩
        obtain ⟨q, hq0⟩ : ∃ q, foldJ pre = q := ⟨_, rfl⟩
        rw [hq0] at v1' hq hfs
        have JO := Lib.hid (fun X => join_any q ⟨x, y, u, v⟩ X hq hx)
        obtain ⟨r, hr0⟩ : ∃ r, joinR q ⟨x, y, u, v⟩ = r := ⟨_, rfl⟩
        rw [hr0] at JO
        replace hfs : foldJ (pre ++ [⟨⟨x, y, u, v⟩, hx⟩]) = r := hfs.trans hr0
        obtain ⟨a, b, c, d⟩ := q
        obtain ⟨a', b', c', d'⟩ := r
        replace JO : Hid (∀ X : World, Calls Try.prog 13 #[.agg #[.int .i64 a, .int .i64 b, .int .i64 c, .int .i64 d], .agg #[.int .i64 x, .int .i64 y, .int .i64 u, .int .i64 v]] X fun e W' => e = .returned (.agg #[.int .i64 a', .int .i64 b', .int .i64 c', .int .i64 d']) ∧ Below X.heap.size X W') := Lib.hid (fun X => JO.out X)
        have RI := Lib.hid (fun X => right_any a' b' c' d' X)
        obtain ⟨rb, hrb⟩ : ∃ rb, rightB ⟨a', b', c', d'⟩ = rb := ⟨_, rfl⟩
        rw [hrb] at RI
        have c0 : V₂.cell? ⟨w.heap.size + 1, 0, none⟩ = some (.int .i64 a) := v1'.cellAt 0
        have c1 : V₂.cell? ⟨w.heap.size + 1, 1, none⟩ = some (.int .i64 b) := v1'.cellAt 1
        have c2 : V₂.cell? ⟨w.heap.size + 1, 2, none⟩ = some (.int .i64 c) := v1'.cellAt 2
        have c3 : V₂.cell? ⟨w.heap.size + 1, 3, none⟩ = some (.int .i64 d) := v1'.cellAt 3
        have e0 : V₂.cell? ⟨V.heap.size, 0, none⟩ = some (.int .i64 x) := kc.cellAt 0
        have e1 : V₂.cell? ⟨V.heap.size, 1, none⟩ = some (.int .i64 y) := kc.cellAt 1
        have e2 : V₂.cell? ⟨V.heap.size, 2, none⟩ = some (.int .i64 u) := kc.cellAt 2
        have e3 : V₂.cell? ⟨V.heap.size, 3, none⟩ = some (.int .i64 v) := kc.cellAt 3
        have lc := kc.lt
        have lq := v1'.lt
        have KV1 := Lib.hid v1'
        have KV0 := Lib.hid v0'
        have HB2 := Lib.hid hb2
        have HF := Lib.hid hfs
        have HRB := Lib.hid hrb
        have hz4 := hb2.size
        clear v1 v0 v1' v0' hbV K0a K1a k2 hB hgV hnc' hbl hb2 kc hq hfs hrb hq0 hr0 hem
        cases rb with
        | true =>
          gi_wp2_with (refine ⟨trivial, ?_⟩; first
            | (gi_at_call 13; refine (CallsIn.inRound l (callsIn_wide.2 (JO.out _))).mono ?_; rintro e w3 ⟨rfl, hb3⟩; have K3 := Lib.hid (KV1.out.below hb3 lq); have Z3 := Lib.hid (KV0.out.below hb3 KV0.out.lt); have f0 := K3.out.free 0; have f1 := K3.out.free 1; have f2 := K3.out.free 2; have f3 := K3.out.free 3; have d0 : w3.cell? ⟨w.heap.size + 1, 0, none⟩ = some (.int .i64 a) := K3.out.cellAt 0; have d1 : w3.cell? ⟨w.heap.size + 1, 1, none⟩ = some (.int .i64 b) := K3.out.cellAt 1; have d2 : w3.cell? ⟨w.heap.size + 1, 2, none⟩ = some (.int .i64 c) := K3.out.cellAt 2; have d3 : w3.cell? ⟨w.heap.size + 1, 3, none⟩ = some (.int .i64 d) := K3.out.cellAt 3; have l3 := K3.out.lt; have B3 := Lib.hid hb3; clear hb3 c0 c1 c2 c3 e0 e1 e2 e3)
            | (gi_at_call 14; refine (CallsIn.inRound l (callsIn_wide.2 (RI.out _))).mono ?_; rintro e w4 ⟨rfl, hb4⟩; have S4 := stepA (B := w.heap.size) (B2 := W1.heap.size + 2) B3.out hb4 HB2.out K3.out Z3.out lq (by omega) (by omega); have KO := Lib.hid S4.1; have KP := Lib.hid S4.2.1; have KF := Lib.hid S4.2.2.1; have KZ := Lib.hid S4.2.2.2.1; have BF := Lib.hid S4.2.2.2.2; clear hb4 S4))
          refine ⟨KO.out.from _, KP.out, ⟨by rw [HF.out]; exact KF.out, KZ.out, by rw [HF.out]; exact HRB.out⟩, BF.out⟩
        | false =>
          gi_wp2_with (refine ⟨trivial, ?_⟩; first
            | (gi_at_call 13; refine (CallsIn.inRound l (callsIn_wide.2 (JO.out _))).mono ?_; rintro e w3 ⟨rfl, hb3⟩; have K3 := Lib.hid (KV1.out.below hb3 lq); have Z3 := Lib.hid (KV0.out.below hb3 KV0.out.lt); have f0 := K3.out.free 0; have f1 := K3.out.free 1; have f2 := K3.out.free 2; have f3 := K3.out.free 3; have d0 : w3.cell? ⟨w.heap.size + 1, 0, none⟩ = some (.int .i64 a) := K3.out.cellAt 0; have d1 : w3.cell? ⟨w.heap.size + 1, 1, none⟩ = some (.int .i64 b) := K3.out.cellAt 1; have d2 : w3.cell? ⟨w.heap.size + 1, 2, none⟩ = some (.int .i64 c) := K3.out.cellAt 2; have d3 : w3.cell? ⟨w.heap.size + 1, 3, none⟩ = some (.int .i64 d) := K3.out.cellAt 3; have l3 := K3.out.lt; have B3 := Lib.hid hb3; clear hb3 c0 c1 c2 c3 e0 e1 e2 e3)
            | (gi_at_call 14; refine (CallsIn.inRound l (callsIn_wide.2 (RI.out _))).mono ?_; rintro e w4 ⟨rfl, hb4⟩; have S4 := stepA (B := w.heap.size) (B2 := W1.heap.size + 2) B3.out hb4 HB2.out K3.out Z3.out lq (by omega) (by omega); have KO := Lib.hid S4.1; have KP := Lib.hid S4.2.1; have KF := Lib.hid S4.2.2.1; have KZ := Lib.hid S4.2.2.2.1; have BF := Lib.hid S4.2.2.2.2; clear hb4 S4))
          refine wpIn_goto ?_
          exact ⟨KO.out.from _, rfl, by rw [HF.out]; exact HRB.out, KZ.out, BF.out⟩
    case done =>
      rintro D xs V hD rfl ⟨⟨v1, v0, hq⟩, hbV⟩ hK
      have hR := around_yes rs hq
      obtain ⟨⟨a, b, c, d⟩, hq0⟩ : ∃ q, foldJ (ptd rs) = q := ⟨_, rfl⟩
      rw [hq0] at v1 hR
      have HR := Lib.hid hR
      clear hR
      have c0 : V.cell? ⟨w.heap.size + 1, 0, none⟩ = some (.int .i64 a) := v1.cellAt 0
      have c1 : V.cell? ⟨w.heap.size + 1, 1, none⟩ = some (.int .i64 b) := v1.cellAt 1
      have c2 : V.cell? ⟨w.heap.size + 1, 2, none⟩ = some (.int .i64 c) := v1.cellAt 2
      have c3 : V.cell? ⟨w.heap.size + 1, 3, none⟩ = some (.int .i64 d) := v1.cellAt 3
      have l1 := v1.lt
      have z0 : V.cell? ⟨w.heap.size, 0, none⟩ = some (.int .i64 0) := v0.cellAt 0
      have z1 : V.cell? ⟨w.heap.size, 1, none⟩ = some (.int .i64 0) := v0.cellAt 1
      have z2 : V.cell? ⟨w.heap.size, 2, none⟩ = some (.int .i64 0) := v0.cellAt 2
      have z3 : V.cell? ⟨w.heap.size, 3, none⟩ = some (.int .i64 0) := v0.cellAt 3
      have g0 := v0.free 0
      have g1 := v0.free 1
      have g2 := v0.free 2
      have g3 := v0.free 3
      have l0 := v0.lt
      have KF := Lib.hid ((((v0.set 0 (.int .i64 a)).set 1 (.int .i64 b)).set 2 (.int .i64 c)).set 3 (.int .i64 d))
      have BF := Lib.hid ((((hbV.setCell (p := ⟨w.heap.size, 0, none⟩) (Nat.le_refl _) (.int .i64 a)).setCell (p := ⟨w.heap.size, 1, none⟩) (Nat.le_refl _) (.int .i64 b)).setCell (p := ⟨w.heap.size, 2, none⟩) (Nat.le_refl _) (.int .i64 c)).setCell (p := ⟨w.heap.size, 3, none⟩) (Nat.le_refl _) (.int .i64 d))
      have hne : D ≠ w.heap.size := by omega
      have HK : Hid (((((V.setCell ⟨w.heap.size, 0, none⟩ (.int .i64 a)).setCell ⟨w.heap.size, 1, none⟩ (.int .i64 b)).setCell ⟨w.heap.size, 2, none⟩ (.int .i64 c)).setCell ⟨w.heap.size, 3, none⟩ (.int .i64 d)).heap[D]? = some (.deferred (some []))) := Lib.hid (by rw [Below.heap_setCell _ _ _ _ hne, Below.heap_setCell _ _ _ _ hne, Below.heap_setCell _ _ _ _ hne, Below.heap_setCell _ _ _ _ hne]; exact hK)
      clear v1 v0 hbV hK K0a K1a k2 hB hq0 hq
      go_wp2
      refine leaves_marks w.heap.size [D] _ ((Marks.nil w.heap.size _).cons (D := D) (by omega) HK.out (fun E hE => by cases hE)) (fun W' hck hbk => ⟨_, results_rect (g := w.heap.size) (q := ⟨a, b, c, d⟩) rfl rfl rfl (hck _ _ KF.out rfl), ?_, BF.out.trans hbk⟩)
      rw [HR.out]; rfl
    case stop =>
      rintro D c pre V hD ⟨k, hk, rfl⟩ ⟨rfl, hq, v0, hbV⟩ hK
      apply wpIn_goto
      exact ⟨rfl, D, w1.heap.size, rfl, by omega, hK, v0, hbV, around_no rs k hq⟩
  · rintro a V ⟨D, bs, rfl, hD, hK, v0, hbV, hno⟩
    have HR := Lib.hid hno
    have z0 : V.cell? ⟨w.heap.size, 0, none⟩ = some (.int .i64 0) := v0.cellAt 0
    have z1 : V.cell? ⟨w.heap.size, 1, none⟩ = some (.int .i64 0) := v0.cellAt 1
    have z2 : V.cell? ⟨w.heap.size, 2, none⟩ = some (.int .i64 0) := v0.cellAt 2
    have z3 : V.cell? ⟨w.heap.size, 3, none⟩ = some (.int .i64 0) := v0.cellAt 3
    have g0 := v0.free 0
    have g1 := v0.free 1
    have g2 := v0.free 2
    have g3 := v0.free 3
    have l0 := v0.lt
    have KF := Lib.hid ((((v0.set 0 (.int .i64 0)).set 1 (.int .i64 0)).set 2 (.int .i64 0)).set 3 (.int .i64 0))
    have BF := Lib.hid ((((hbV.setCell (p := ⟨w.heap.size, 0, none⟩) (Nat.le_refl _) (.int .i64 0)).setCell (p := ⟨w.heap.size, 1, none⟩) (Nat.le_refl _) (.int .i64 0)).setCell (p := ⟨w.heap.size, 2, none⟩) (Nat.le_refl _) (.int .i64 0)).setCell (p := ⟨w.heap.size, 3, none⟩) (Nat.le_refl _) (.int .i64 0))
    have hne : D ≠ w.heap.size := by omega
    have HK : Hid (((((V.setCell ⟨w.heap.size, 0, none⟩ (.int .i64 0)).setCell ⟨w.heap.size, 1, none⟩ (.int .i64 0)).setCell ⟨w.heap.size, 2, none⟩ (.int .i64 0)).setCell ⟨w.heap.size, 3, none⟩ (.int .i64 0)).heap[D]? = some (.deferred (some []))) := Lib.hid (by rw [Below.heap_setCell _ _ _ _ hne, Below.heap_setCell _ _ _ _ hne, Below.heap_setCell _ _ _ _ hne, Below.heap_setCell _ _ _ _ hne]; exact hK)
    clear v0 hbV hK hno HI0 HB0 K0 K1 HZ0 HA
    go_wp2
    refine leaves_marks w.heap.size [D] _ ((Marks.nil w.heap.size _).cons (D := D) (by omega) HK.out (fun E hE => by cases hE)) (fun W' hck hbk => ⟨_, results_rect (g := w.heap.size) (q := ⟨0, 0, 0, 0⟩) rfl rfl rfl (hck _ _ KF.out rfl), ?_, BF.out.trans hbk⟩)
    rw [HR.out]; rfl
end Go.Proofs.Ytailpknjiklpbaa
