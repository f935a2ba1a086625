/- Contract of spread.Needs: bands, over which needs have been distributed. Written by mk_SpNeeds.py. -/
import Derived.Test.YtmljndggblfeiaaSpMeet
import Derived.Test.YtmljndggblfeiaaKApp
import Derived.Test.YtmljndggblfeiaaSpBands
import Derived.Test.YtmljndggblfeiaaSpIter
import Derived.Test.YtmljndggblfeiaaMarks
import Derived.Test.YtmljndggblfeiaaRound
import Derived.Test.YtmljndggblfeiaaKShown
namespace Go.Proofs.Ytmljndggblfeiaa
open Go.RowKit Go.Shelf
set_option linter.unusedVariables false
set_option linter.unusedSimpArgs false
attribute [local go_sem] Oper.semAt_some

theorem mem_sortedL (m : Nat) (ns : List Ne) (s : Ne) (h : s ∈ sortedL m ns) : s ∈ ns := by
  unfold sortedL at h
  rcases List.mem_append.1 h with h | h
  · exact ((mem_turnL _ _ _).1 h).1
  · exact (List.mem_filter.1 h).1
/-- the first need of one column comes behind all others -/
theorem sortedL_cut (m : Nat) (ns : List Ne) (i : Nat) (x : Ne) (hx : (sortedL m ns)[i]? = some x) (h1 : x.cs = 1) (hp : ∀ s ∈ (sortedL m ns).take i, s.cs ≠ 1) : (sortedL m ns).take i = turnL m ns := by
  have hle : (turnL m ns).length ≤ i := by
    apply Classical.byContradiction
    intro hn
    unfold sortedL at hx
    rw [List.getElem?_append_left (by omega)] at hx
    have := ((mem_turnL _ _ _).1 (List.mem_of_getElem? hx)).2.1
    omega
  have hge : i ≤ (turnL m ns).length := by
    apply Classical.byContradiction
    intro hn
    have hi := (List.getElem?_eq_some_iff.1 hx).1
    have hlt : (turnL m ns).length < (sortedL m ns).length := by omega
    have hm : (sortedL m ns)[(turnL m ns).length] ∈ (sortedL m ns).take i := by
      rw [List.mem_take_iff_getElem]
      exact ⟨(turnL m ns).length, by omega, rfl⟩
    refine hp _ hm ?_
    have e : (sortedL m ns)[(turnL m ns).length]? = (ns.filter fun s => decide (s.cs = 1))[0]? := by
      unfold sortedL
      rw [List.getElem?_append_right (Nat.le_refl _), Nat.sub_self]
    rw [List.getElem?_eq_getElem hlt] at e
    have := List.mem_of_getElem? e.symm
    simpa using (List.mem_filter.1 this).2
  have e : i = (turnL m ns).length := by omega
  rw [e]
  unfold sortedL
  rw [List.take_left']
  rfl
theorem sortedL_all (m : Nat) (ns : List Ne) (hp : ∀ s ∈ sortedL m ns, s.cs ≠ 1) : sortedL m ns = turnL m ns := by
  have e : (ns.filter fun s => decide (s.cs = 1)) = [] := by
    rw [List.filter_eq_nil_iff]
    intro s hs h
    refine hp s ?_ (by simpa using h)
    unfold sortedL
    exact List.mem_append_right _ (List.mem_filter.2 ⟨hs, h⟩)
  unfold sortedL
  rw [e, List.append_nil]
/-- what lies in memory while needs are distributed -/
structure NSt (W : World) (b5 b8 m gl gm : Nat) (sl sm : List Value) (gap : Int) (v w : Value) (d : Wd) (X : World) : Prop where
  lo : Below W.heap.size W X
  k5 : Whole X b5 2 [.int .i64 gap]
  k8 : Whole X b8 47 [v, w]
  rr : 1 ≤ m → IRow X gl d.lo sl ∧ IRow X gm d.hi sm
theorem NSt.belowAt {W : World} {b5 b8 m gl gm B : Nat} {sl sm : List Value} {gap : Int} {v w : Value} {d : Wd} {X Y : World} (h : NSt W b5 b8 m gl gm sl sm gap v w d X) (hb : Below B X Y) (h5 : b5 < B) (h8 : b8 < B) (hg : 1 ≤ m → gl < B ∧ gm < B) (hW : W.heap.size ≤ B) : NSt W b5 b8 m gl gm sl sm gap v w d Y :=
  ⟨h.lo.trans (hb.mono hW), h.k5.below hb h5, h.k8.below hb h8, fun h1 => ⟨(h.rr h1).1.below hb (hg h1).1, (h.rr h1).2.below hb (hg h1).2⟩⟩
theorem NSt.below {W : World} {b5 b8 m gl gm : Nat} {sl sm : List Value} {gap : Int} {v w : Value} {d : Wd} {X Y : World} (h : NSt W b5 b8 m gl gm sl sm gap v w d X) (hb : Below X.heap.size X Y) : NSt W b5 b8 m gl gm sl sm gap v w d Y :=
  h.belowAt hb h.k5.lt h.k8.lt (fun h1 => ⟨(h.rr h1).1.lt, (h.rr h1).2.lt⟩) h.lo.size
theorem NSt.grown {W : World} {b5 b8 m gl gm : Nat} {sl sm : List Value} {gap : Int} {v w : Value} {d : Wd} {X Y : World} {row : Option Nat} (h : NSt W b5 b8 m gl gm sl sm gap v w d X) (hg : X.grownBy Y row) (hr : NoCells X row) (hl : ∀ r, row = some r → W.heap.size ≤ r) : NSt W b5 b8 m gl gm sl sm gap v w d Y :=
  ⟨h.lo.grown hg h.lo.size hl, h.k5.grown hg (h.k5.ne hr), h.k8.grown hg (h.k8.ne hr), fun h1 => ⟨Whole.grown (h.rr h1).1 hg (Whole.ne (h.rr h1).1 hr), Whole.grown (h.rr h1).2 hg (Whole.ne (h.rr h1).2 hr)⟩⟩
theorem KeepBut.fromG {E : List Nat} {B : Nat} {V X : World} (h : KeepBut E V X) (hG : ∀ g ∈ E, g < B) : KeepsFrom B V X := ⟨h.1, fun k o hB hk _ => (h.2 k (fun hm => by have := hG k hm; omega) (Array.getElem?_eq_some_iff.1 hk).1).trans hk⟩

theorem results_twoN {W : World} {x y : Value} {tmps : Array Value} {fn : Func} (hf : fn.results = #[.tmp 6, .tmp 7]) (h4 : tmps[6]? = some x) (h5 : tmps[7]? = some y) :
    (results fn tmps).run Try.prog W = .ok (.tuple #[x, y]) W := by
  simp [results, hf, go_sem, h4, h5]
set_option maxRecDepth 100000 in
set_option maxHeartbeats 1000000 in
theorem needs_bad (p q : Option Addr) (m c m' c' : Nat) (bs : List Ba) (ns : List Ne) (gap : Int) (W : World) (hb : RowsK Ba.cells 4 W (.slice p m c) bs) (hn : RowsK Ne.cells 9 W (.slice q m' c') ns) (hr : rightP bs ns gap = false) :
    Calls Try.prog 8 #[.slice p m c, .slice q m' c', .int .i64 gap] W fun e X => e = .returned (.tuple #[.slice none 0 0, .int .i64 130]) ∧ Below W.heap.size W X := by
  have HR := Lib.hid (fun X (hX : Below W.heap.size W X) => hr ▸ rightS_any p q m c m' c' bs ns gap X (hb.below hX) (hn.below hX))
  clear hb hn hr
  have HB := Lib.hid ((Below.refl _ W).alloc (Nat.le_refl _) (.cells #[.int .i64 gap] 2))
  refine (callsIn_wide (n := 3)).1 (callsIn_of_wp_marks Try.func8 rfl trivial (wpIn_wide.2 ?_) rfl)
  simp only [Try.ntmps8, List.size_toArray, List.length_cons, List.length_nil, Nat.reduceAdd, Nat.reduceSub, Array.replicate_succ, Array.replicate_zero, List.push_toArray, List.append_toArray, List.nil_append, List.cons_append]
  go_wp2
  refine wp_scope_jumps 0 (fun _ _ => False) (fun _ _ => 0) rfl ?_ (fun _ _ h => h.elim)
  go_wp2_with fail
  refine (HR.out _ HB.out).mono ?_
  rintro e w1 ⟨rfl, hb1⟩
  have HB1 := Lib.hid (HB.out.trans (hb1.mono HB.out.size))
  clear hb1 HB HR
  go_wp2
  try dsimp only [Exit.jump]
  exact leaves_marks W.heap.size [] _ (Marks.nil _ _) (fun W' hck hbk => ⟨_, results_twoN rfl rfl rfl, ⟨rfl, HB1.out.trans hbk⟩⟩)

set_option maxRecDepth 100000 in
set_option maxHeartbeats 8000000 in
theorem needs_ok (p q : Option Addr) (m c m' c' : Nat) (bs : List Ba) (ns : List Ne) (gap : Int) (W : World) (hb : RowsK Ba.cells 4 W (.slice p m c) bs) (hn : RowsK Ne.cells 9 W (.slice q m' c') ns) (hr : rightP bs ns gap = true) :
    Calls Try.prog 8 #[.slice p m c, .slice q m' c', .int .i64 gap] W fun e X => ∃ G, e = .returned (.tuple #[.slice (some ⟨G, 0, none⟩) m m, .int .i64 0]) ∧ W.heap.size ≤ G ∧ BsAt G (spreadP bs ns gap) X ∧ Below W.heap.size W X := by
  have hbl := hb.len
  have hnl := hn.len
  have hrr := (rightP_iff _ _ _).1 hr
  rw [hbl] at hrr
  have HR := Lib.hid (fun X (hX : Below W.heap.size W X) => hr ▸ rightS_any p q m c m' c' bs ns gap X (hb.below hX) (hn.below hX))
  have HWO := Lib.hid (fun X (hX : Below W.heap.size W X) => widthsOf_any p m c bs X (hb.below hX) (by omega))
  have HTU := Lib.hid (fun X (hX : Below W.heap.size W X) => inTurn_any m (by omega) q m' c' ns X (hn.below hX) (fun s hs => by have := (neB_iff _ s).1 (hrr.2.2.2.2.2 s hs); omega) (by omega))
  have HBA := Lib.hid (fun X (hX : Below W.heap.size W X) p0 p1 n0 c0 n1 c1 d hw => bandsW_any p p0 p1 m c n0 c0 n1 c1 bs d X (by omega) (hb.below hX) hw)
  have HND := Lib.hid (fun s (hs : s ∈ ns) => NdOk.of (gap := gap) (hrr.2.2.2.2.2 s hs) hrr.2.2.1 hrr.2.2.2.1 (by omega))
  have HD0 := Lib.hid (wdOf_ok bs hbl hrr.2.2.2.2.1)
  have HWT := Lib.hid (hbl ▸ spread_wd hr)
  have HSP : Hid (spreadP bs ns gap = wdIn bs (meetsP gap (wdOf bs) (turnL m ns))) := Lib.hid (by unfold spreadP; rw [hbl])
  have HM : Hid (m ≤ 100 ∧ m' ≤ 1000 ∧ ns.length = m') := Lib.hid (by omega)
  have hm100 : m ≤ 100 := by omega
  have HB := Lib.hid ((Below.refl _ W).alloc (Nat.le_refl _) (.cells #[.int .i64 gap] 2))
  have K5 := Lib.hid (whole_new W [.int .i64 gap] 2 _ rfl)
  obtain ⟨b5, hb5⟩ : ∃ b, b = W.heap.size := ⟨_, rfl⟩
  rw [← hb5] at K5
  have HB5 := Lib.hid hb5
  clear hb hn hr hbl hnl hrr hb5
  refine (callsIn_wide (n := 3)).1 (callsIn_of_wp_marks Try.func8 rfl trivial (wpIn_wide.2 ?_) rfl)
  simp only [Try.ntmps8, List.size_toArray, List.length_cons, List.length_nil, Nat.reduceAdd, Nat.reduceSub, Array.replicate_succ, Array.replicate_zero, List.push_toArray, List.append_toArray, List.nil_append, List.cons_append]
  go_wp2
  refine wp_scope_jumps 0 (fun _ _ => False) (fun _ _ => 0) rfl ?_ (fun _ _ h => h.elim)
  go_wp2_with fail
  refine (HR.out _ HB.out).mono ?_
  rintro e w1 ⟨rfl, hb1⟩
  have HB1 := Lib.hid (HB.out.trans (hb1.mono HB.out.size))
  have K51 := Lib.hid (K5.out.below hb1 K5.out.lt)
  clear hb1 HB HR K5
  go_wp2_with fail
  refine (HWO.out _ HB1.out).mono ?_
  rintro e w2 ⟨v0, v1, rfl, ht⟩
  obtain ⟨p0, n0, c0, rfl⟩ := own_sliceK ht.oa
  obtain ⟨p1, n1, c1, rfl⟩ := own_sliceK ht.oc
  have HPK : Hid (∃ (gl gm : Nat) (sl sm : List Value), (1 ≤ m → p0 = some ⟨gl, 0, none⟩ ∧ p1 = some ⟨gm, 0, none⟩ ∧ m = n0 ∧ m = n1 ∧ m ≤ c0 ∧ m ≤ c1 ∧ c0 ≤ 9223372036854775807 ∧ c1 ≤ 9223372036854775807 ∧ IRow w2 gl (wdOf bs).lo sl ∧ IRow w2 gm (wdOf bs).hi sm ∧ gl ≠ gm ∧ w1.heap.size ≤ gl ∧ w1.heap.size ≤ gm)) := Lib.hid (by
    by_cases h1 : 1 ≤ m
    · obtain ⟨gl, gm, sl, sm, hw⟩ := ht.wd (by omega) h1 HD0.out.ll HD0.out.hl
      obtain ⟨ca, ea, ha1, ha2⟩ := hw.vl
      obtain ⟨cb, eb, hb1, hb2⟩ := hw.vm
      simp only [Value.slice.injEq] at ea eb
      exact ⟨gl, gm, sl, sm, fun _ => ⟨ea.1, eb.1, ea.2.1.symm, eb.2.1.symm, by omega, by omega, by omega, by omega, hw.rl, hw.rm, hw.ne, hw.bl, hw.bm⟩⟩
    · exact ⟨0, 0, [], [], fun h => absurd h h1⟩)
  obtain ⟨gl, gm, sl, sm, hpk⟩ := HPK.out
  have HPC := Lib.hid hpk
  have HB2 := Lib.hid (HB1.out.trans (ht.lo.mono HB1.out.size))
  have K52 := Lib.hid (K51.out.below ht.lo K51.out.lt)
  have HS1 : Hid (W.heap.size < w1.heap.size ∧ w1.heap.size ≤ w2.heap.size) := Lib.hid ⟨by have := K51.out.lt; rw [HB5.out] at this; exact this, ht.lo.size⟩
  clear ht hpk HPK HB1 K51 HWO
  obtain ⟨b8, hb8⟩ : ∃ b, b = w2.heap.size := ⟨_, rfl⟩
  obtain ⟨w3, hw3⟩ : ∃ w3, w2.alloc (.cells #[.slice p0 n0 c0, .slice p1 n1 c1] 47) = w3 := ⟨_, rfl⟩
  have HN3 : Hid (NSt W b5 b8 m gl gm sl sm gap (.slice p0 n0 c0) (.slice p1 n1 c1) (wdOf bs) w3) := Lib.hid ⟨by rw [← hw3]; exact HB2.out.alloc HB2.out.size _, by rw [← hw3]; exact K52.out.alloc _, by rw [← hw3]; exact whole_new w2 [.slice p0 n0 c0, .slice p1 n1 c1] _ b8 hb8, fun h1 => by
    obtain ⟨_, _, _, _, _, _, _, _, hl, hm, _⟩ := HPC.out h1
    rw [← hw3]; exact ⟨hl.alloc _, hm.alloc _⟩⟩
  have HB8 := Lib.hid hb8
  clear HB2 K52
  go_wp2_with fail
  try rw [hw3]
  clear hw3 hb8
  refine wp_label ?_
  go_wp2_with fail
  refine (HTU.out _ HN3.out.lo).mono ?_
  rintro e w4 ⟨v2, rfl, ho, hb4⟩
  obtain ⟨p2, k2, c2, rfl⟩ := own_sliceK ho
  have HN4 := Lib.hid (HN3.out.below hb4)
  have HRZ : Hid (RowsK Ne.cells 9 w4 (.slice p2 k2 c2) (sortedL m ns) ∧ (sortedL m ns).length = k2 ∧ k2 ≤ 1000) := Lib.hid (by
    have hl : (sortedL m ns).length = ns.length := by
      have := ho.1
      rw [flat_lenG Ne.cells 9 (fun _ => rfl)] at this; omega
    have hr := own_rowsN ho hl (by have := HM.out; omega)
    have := hr.len
    exact ⟨hr, hr.len, by have := HM.out; omega⟩)
  have HBK : Hid (∀ b off, p2 = some ⟨b, off, none⟩ → w3.heap.size < b) := Lib.hid (fun b off e => by
    rcases ho.2 with ⟨e2, _⟩ | ⟨g, cap, cur, e2, hbg, _⟩
    · simp only [Value.slice.injEq] at e2; rw [e2.1] at e; cases e
    · simp only [Value.slice.injEq] at e2; rw [e2.1] at e; injection e with e; injection e with e3; omega)
  have HS34 : Hid (w2.heap.size < w3.heap.size) := Lib.hid (by have := HN3.out.k8.lt; rw [HB8.out] at this; exact this)
  clear ho hb4 HN3 HTU
  go_wp2_with fail
  refine (values_anyN p2 k2 c2 w4).mono ?_
  rintro e w5 ⟨rfl, hw5⟩
  have HN5 : Hid (NSt W b5 b8 m gl gm sl sm gap (.slice p0 n0 c0) (.slice p1 n1 c1) (wdOf bs) w5) := Lib.hid (by rw [hw5]; exact HN4.out.below ((Below.refl _ w4).alloc (Nat.le_refl _) _))
  have KV : Hid (Whole w5 w4.heap.size 23 [.slice p2 k2 c2]) := Lib.hid (by rw [hw5]; exact whole_new w4 [.slice p2 k2 c2] _ _ rfl)
  have HRZ5 : Hid (RowsK Ne.cells 9 w5 (.slice p2 k2 c2) (sortedL m ns) ∧ (sortedL m ns).length = k2 ∧ k2 ≤ 1000) := Lib.hid (by rw [hw5]; exact ⟨HRZ.out.1.below ((Below.refl _ w4).alloc (Nat.le_refl _) _), HRZ.out.2⟩)
  have h45 : w5.heap.size = w4.heap.size + 1 := by rw [hw5]; simp
  have HS5 : Hid (w1.heap.size ≤ w4.heap.size ∧ b8 < w4.heap.size ∧ b5 < w4.heap.size ∧ (1 ≤ m → gl < w4.heap.size ∧ gm < w4.heap.size)) := Lib.hid ⟨by have := HS1.out; have := HN4.out.k8.lt; have := HB8.out; omega, HN4.out.k8.lt, HN4.out.k5.lt, fun h1 => ⟨(HN4.out.rr h1).1.lt, (HN4.out.rr h1).2.lt⟩⟩
  clear hw5 HRZ HN4
  rw [← HB5.out, ← HB8.out]
  go_wp2
  obtain ⟨G, hG⟩ : ∃ G : List Nat, G = if m = 0 then [] else [gl, gm] := ⟨_, rfl⟩
  have HG : Hid (∀ g ∈ G, w1.heap.size ≤ g ∧ g < w4.heap.size ∧ g ≠ b8 ∧ g ≠ b5) := Lib.hid (fun g hg => by
    by_cases h0 : m = 0
    · rw [hG, if_pos h0] at hg; cases hg
    · rw [hG, if_neg h0] at hg
      have h1 := HPC.out (by omega)
      have h2 := HS5.out.2.2.2 (by omega)
      have h3 := h1.2.2.2.2.2.2.2.2.1.lt
      have h4 := h1.2.2.2.2.2.2.2.2.2.1.lt
      have h5 := h1.2.2.2.2.2.2.2.2.2.2.2
      have h6 := HS1.out
      have h7 := HB5.out
      have h8 := HB8.out
      rcases (by simpa using hg : g = gl ∨ g = gm) with rfl | rfl <;> omega)
  have HGL : Hid (∀ g ∈ G, g < w2.heap.size) := Lib.hid (fun g hg => by
    by_cases h0 : m = 0
    · rw [hG, if_pos h0] at hg; cases hg
    · rw [hG, if_neg h0] at hg
      have h1 := HPC.out (by omega)
      have h3 := h1.2.2.2.2.2.2.2.2.1.lt
      have h4 := h1.2.2.2.2.2.2.2.2.2.1.lt
      rcases (by simpa using hg : g = gl ∨ g = gm) with rfl | rfl <;> omega)
  have HGE : Hid (1 ≤ m → G = [gl, gm]) := Lib.hid (fun h1 => by rw [hG, if_neg (by omega)])
  clear hG
  have hseq := valE_next (3 - 1) (by omega) w4.heap.size ((w5.heap.size + 1) :: G) p2 k2 c2 (sortedL m ns) HRZ5.out.2.1 (by have := HRZ5.out.2.2; omega) w5 (fun hm => by
      rcases List.mem_cons.1 hm with e | e
      · omega
      · have := HG.out _ e; omega) (KV.out.cellAt 0)
    (fun i s hs => by
      obtain ⟨b, off, e, hb, hc⟩ := HRZ5.out.1.at i s hs
      exact ⟨b, off, e, hb, fun hm => (by
        rcases List.mem_cons.1 hm with e2 | e2
        · omega
        · have h1 := HBK.out b off e
          have h2 := HGL.out _ e2
          have h3 := HS34.out
          omega), hc⟩)
  have HS := Lib.hid hseq
  clear hseq
  refine (wpIn_wide (n := 3)).1 (range_keep (F := Fence.wide) rfl (by omega) (gf := 32) (lb := #[.pointer (some ⟨w4.heap.size, 0, none⟩)]) rfl trivial (enters_of Try.func32 (by kernel_rfl) rfl)
    (Kp := KeepBut ((w5.heap.size + 1) :: G)) (fun _ _ _ h k => h.trans k) (fun W o _ => KeepBut.put W _ o (by simp)) HS.out (fun _ => rfl)
    (fun pre X => (∀ s ∈ pre, s.cs ≠ 1) ∧ NSt W b5 b8 m gl gm sl sm gap (.slice p0 n0 c0) (.slice p1 n1 c1) (meetsP gap (wdOf bs) pre) X) (fun cd pre X => cd = .exit 0 ∧ NSt W b5 b8 m gl gm sl sm gap (.slice p0 n0 c0) (.slice p1 n1 c1) (meetsP gap (wdOf bs) (turnL m ns)) X)
    (fun s X Y h hb => ⟨h.1, h.2.belowAt hb (by have := HS5.out; omega) (by have := HS5.out; omega) (fun h1 => by have := HS5.out.2.2.2 h1; omega) HN5.out.lo.size⟩) (fun cd s X Y h hb => ⟨h.1, h.2.belowAt hb (by have := HS5.out; omega) (by have := HS5.out; omega) (fun h1 => by have := HS5.out.2.2.2 h1; omega) HN5.out.lo.size⟩)
    ⟨fun s hs => (by cases hs), HN5.out⟩ ?round ?done ?stop)
  case round =>
    rintro l pre x V hl ⟨hpne, hI⟩ ⟨i, hi, hpre⟩
    clear HS
    have H45 := Lib.hid h45
    clear h45
    have hxs : x ∈ sortedL m ns := List.mem_of_getElem? hi
    have hxn := HND.out x (mem_sortedL m ns x hxs)
    have h1m : 1 ≤ m := by have := hxn.k1; have := hxn.cm; omega
    have hpl : ∀ s ∈ pre, NdOk gap m s := fun s hs => HND.out s (mem_sortedL m ns s (by rw [hpre] at hs; exact List.mem_of_mem_take hs))
    have hwd := meetsP_ok pre HD0.out hpl
    have hseg := hxn.sg hwd
    have hstep : meetsP gap (wdOf bs) (pre ++ [x]) = meetP gap (meetsP gap (wdOf bs) pre) x := by unfold meetsP; rw [List.foldl_append]; rfl
    obtain ⟨rfl, rfl, rfl, rfl, hc0, hc1, hd0, hd1, -, -, hne, -, -⟩ := HPC.out h1m
    have HOF := Lib.hid (fun X => of_any gl gm m c0 c1 x X hxn.c0 hxn.k1 hxn.cm hc0 hc1 (by omega) hd0 hd1)
    have HME := Lib.hid (fun X (h1 : IRow X gl (meetsP gap (wdOf bs) pre).lo sl) (h2 : IRow X gm (meetsP gap (wdOf bs) pre).hi sm) => meet_any gl gm (meetsP gap (wdOf bs) pre).lo (meetsP gap (wdOf bs) pre).hi sl sm x.co.toNat x.cs.toNat gap x X hne h1 h2 (by rw [hwd.ll]; exact hxn.cm) (by rw [hwd.hl]; exact hxn.cm) hseg)
    have HCUT := Lib.hid (fun (h1 : x.cs = 1) => sortedL_cut m ns i x hi h1 (by rw [← hpre]; exact hpne))
    rw [← hpre] at HCUT
    have HSTP : Hid (meetsP gap (wdOf bs) (pre ++ [x]) = ⟨spl (meetsP gap (wdOf bs) pre).lo x.co.toNat (lo1 gap x (seg (meetsP gap (wdOf bs) pre).lo x.co.toNat x.cs.toNat) (seg (meetsP gap (wdOf bs) pre).hi x.co.toNat x.cs.toNat)), spl (meetsP gap (wdOf bs) pre).hi x.co.toNat (hi2 gap x (seg (meetsP gap (wdOf bs) pre).lo x.co.toNat x.cs.toNat) (seg (meetsP gap (wdOf bs) pre).hi x.co.toNat x.cs.toNat))⟩) := Lib.hid hstep
    have HPN := Lib.hid hpne
    have HGG := HGE.out h1m
    subst HGG
    have HNUM : Hid (b8 < w5.heap.size ∧ b5 < w5.heap.size ∧ gl < w5.heap.size ∧ gm < w5.heap.size ∧ W.heap.size ≤ gl ∧ W.heap.size ≤ gm ∧ b8 ≠ gl ∧ b8 ≠ gm ∧ b5 ≠ gl ∧ b5 ≠ gm ∧ W.heap.size ≤ w5.heap.size) := Lib.hid (by
      have a1 := HG.out gl (by simp)
      have a2 := HG.out gm (by simp)
      have a3 := HS5.out
      have a4 := H45.out
      have a5 := HS1.out
      have a6 := HN5.out.lo.size
      omega)
    have HLI : Hid (w5.heap.size ≤ l) := Lib.hid hl
    clear HPC HN5 KV HS5 HG HGL HGE hl
    clear hstep hseg hwd hpl hi hpre hxs hc0 hc1 hd0 hd1 hpne
    generalize hlx : lo1 gap x (seg (meetsP gap (wdOf bs) pre).lo x.co.toNat x.cs.toNat) (seg (meetsP gap (wdOf bs) pre).hi x.co.toNat x.cs.toNat) = LX at *
    generalize hhx : hi2 gap x (seg (meetsP gap (wdOf bs) pre).lo x.co.toNat x.cs.toNat) (seg (meetsP gap (wdOf bs) pre).hi x.co.toNat x.cs.toNat) = HX at *
    clear hlx hhx
    obtain ⟨D, hD⟩ : ∃ D, D = meetsP gap (wdOf bs) pre := ⟨_, rfl⟩
    rw [← hD] at hI HME HSTP
    have HDE := Lib.hid hD
    clear hD
    obtain ⟨nd, ro, co, rs, cs, mn, mx, ⟨wk, wn⟩⟩ := x
    apply Exists.intro
    apply Exists.intro
    refine ⟨?_, ?_, ?_, ?_⟩
    · intro K hK
      dsimp only [encV, Ne.val]
      simp only [List.zip_toArray, List.zip_cons_cons, List.zip_nil_left, List.zip_nil_right, List.foldl_toArray', List.foldl_toArray, List.foldl_cons, List.foldl_nil, List.setIfInBounds_toArray, List.set_cons_succ, List.set_cons_zero]
      gi_wp2
      exact hK
    · exact (KeepsOthers.alloc V _).from _
    · exact KeepBut.of_below ((Below.refl _ _).alloc (Nat.le_refl _) _)
    · intro V₂ hgV hnc hbl
      have KX0 := whole_new V [.int .i64 nd, .int .i64 ro, .int .i64 co, .int .i64 rs, .int .i64 cs, .int .i64 mn, .int .i64 mx, .int .i64 wk, .int .i64 wn] 37 _ rfl
      have KN0 := KX0.grown hgV (KX0.ne hnc)
      have hI2 := (hI.below ((Below.refl _ V).alloc (Nat.le_refl _) (.cells #[.int .i64 nd, .int .i64 ro, .int .i64 co, .int .i64 rs, .int .i64 cs, .int .i64 mn, .int .i64 mx, .int .i64 wk, .int .i64 wn] 37))).grown hgV hnc (fun r e => by cases e; have := HNUM.out; have := HLI.out; omega)
      have h8V := hI.k8.lt
      have h5V := hI.k5.lt
      have hglV := (hI.rr h1m).1.lt
      have hgmV := (hI.rr h1m).2.lt
      obtain ⟨b9, hb9⟩ : ∃ b9, V.heap.size = b9 := ⟨_, rfl⟩
      rw [hb9] at KN0 h8V h5V hglV hgmV ⊢
      have KN := Lib.hid KN0
      have HI := Lib.hid hI2
      have o4 := KN0.cellAt 4
      have lb := KN0.lt
      simp only [List.getElem?_cons_zero, List.getElem?_cons_succ] at o4
      clear KX0 KN0 hI2 hI hgV hnc hbl hb9
      by_cases h1 : cs = 1
      · have hb1 : (cs == 1) = true := by simpa using h1
        gi_wp2
        try simp only [Exit.inBlock, Exit.then]
        exact ⟨⟨Nat.le_refl _, fun k o _ hk _ => hk⟩, rfl, by rw [← HCUT.out (by first | rfl | exact h1), ← HDE.out]; exact HI.out⟩
      · have hb1 : (cs == 1) = false := by simpa using h1
        gi_wp2
        clear o4 lb
        try dsimp only at HOF
        try dsimp only [Ne.val] at HME
        have KW8 := Lib.hid HI.out.k8
        have KW5 := Lib.hid HI.out.k5
        have RL := Lib.hid (HI.out.rr h1m).1
        have RM := Lib.hid (HI.out.rr h1m).2
        have n8 : b8 ∉ [gl, gm] := by have := HNUM.out; simp; omega
        have n5 : b5 ∉ [gl, gm] := by have := HNUM.out; simp; omega
        have n9 : b9 ∉ [gl, gm] := by simp; omega
        refine wpIn_round_held (S := fun X => Hid (Upd [gl, gm] V₂ X)) (by kernel_rfl) (by kernel_rfl) (by simp only [LetsOut, Exit.inBlock, Exit.then]; first | (rintro ⟨x, y, h⟩; exact h) | simp) ?_
        have SV : Hid (Upd [gl, gm] V₂ V₂.drew) := Lib.hid (Upd.drew _ _ 1)
        have RL9 : Hid (IRow V₂.drew gl D.lo sl) := Lib.hid (RL.out.below (below_dn _ _ 1) RL.out.lt)
        have RM9 : Hid (IRow V₂.drew gm D.hi sm) := Lib.hid (RM.out.below (below_dn _ _ 1) RM.out.lt)
        clear RL RM
        generalize V₂.drew = w9 at SV RL9 RM9 ⊢
        try simp only [Act.put, List.setIfInBounds_toArray, List.set_cons_succ, List.set_cons_zero]
        refine wpAnyH_takeC (i := 0) (v := .agg #[.slice (some ⟨gl, 0, none⟩) m c0, .slice (some ⟨gm, 0, none⟩) m c1]) (some 25) rfl rfl (by kernel_rfl) (by kernel_rfl) (by kernel_rfl) (fun _ _ _ h => h) (Or.inl ⟨by rfl, ?_⟩) SV ?_
        · intro X hX; have kx := hX.out.whole KW8.out n8; have o0 := kx.cellAt 0; have o1 := kx.cellAt 1; have lX := kx.lt; clear kx; go_simp
        try simp only [Act.put, List.setIfInBounds_toArray, List.set_cons_succ, List.set_cons_zero]
        refine wpAnyH_takeC (i := 1) (v := .pointer (some ⟨b9, 0, none⟩)) (some 26) rfl rfl (by kernel_rfl) (by kernel_rfl) (by kernel_rfl) (fun _ _ _ h => h) (Or.inl ⟨by rfl, ?_⟩) SV ?_
        · intro X hX; have kx := hX.out.whole KN.out n9; have o0 := kx.cellAt 0; have lX := kx.lt; clear kx; go_simp
        try simp only [Act.put, List.setIfInBounds_toArray, List.set_cons_succ, List.set_cons_zero]
        refine wpAnyH_takeC (i := 2) (v := .agg #[.int .i64 nd, .int .i64 ro, .int .i64 co, .int .i64 rs, .int .i64 cs]) (some 27) rfl rfl (by kernel_rfl) (by kernel_rfl) (by kernel_rfl) (fun _ _ _ h => h) (Or.inl ⟨by rfl, ?_⟩) SV ?_
        · intro X hX; have kx := hX.out.whole KN.out n9; have o0 := kx.cellAt 0; have o1 := kx.cellAt 1; have o2 := kx.cellAt 2; have o3 := kx.cellAt 3; have o4 := kx.cellAt 4; have lX := kx.lt; clear kx; go_simp
        try simp only [Act.put, List.setIfInBounds_toArray, List.set_cons_succ, List.set_cons_zero]
        refine wpAnyH_takeC (i := 4) (v := .agg #[.int .i64 nd, .int .i64 ro, .int .i64 co, .int .i64 rs, .int .i64 cs, .int .i64 mn, .int .i64 mx, .int .i64 wk, .int .i64 wn]) (some 29) rfl rfl (by kernel_rfl) (by kernel_rfl) (by kernel_rfl) (fun _ _ _ h => h) (Or.inl ⟨by rfl, ?_⟩) SV ?_
        · intro X hX; have kx := hX.out.whole KN.out n9; have o0 := kx.cellAt 0; have o1 := kx.cellAt 1; have o2 := kx.cellAt 2; have o3 := kx.cellAt 3; have o4 := kx.cellAt 4; have o5 := kx.cellAt 5; have o6 := kx.cellAt 6; have o7 := kx.cellAt 7; have o8 := kx.cellAt 8; have lX := kx.lt; clear kx; go_simp
        try simp only [Act.put, List.setIfInBounds_toArray, List.set_cons_succ, List.set_cons_zero]
        refine wpAnyH_takeC (i := 5) (v := .int .i64 gap) (some 30) rfl rfl (by kernel_rfl) (by kernel_rfl) (by kernel_rfl) (fun _ _ _ h => h) (Or.inl ⟨by rfl, ?_⟩) SV ?_
        · intro X hX; have kx := hX.out.whole KW5.out n5; have o0 := kx.cellAt 0; have lX := kx.lt; clear kx; go_simp
        try simp only [Act.put, List.setIfInBounds_toArray, List.set_cons_succ, List.set_cons_zero]
        refine wpAnyH_all (rs := [3]) (by kernel_rfl) (by simp) ?_
        intro ii hii; obtain rfl : ii = 3 := by simpa using hii
        clear hii
        refine wpOp_step rfl (fun K hK => ?_)
        go_simp
        refine (HOF.out _).mono ?_
        rintro e w6 ⟨rfl, hb6⟩
        have S6 : Hid (Upd [gl, gm] V₂ w6) := Lib.hid (SV.out.trans (Upd.of_below hb6))
        have RL6 := Lib.hid (RL9.out.below hb6 RL9.out.lt)
        have RM6 := Lib.hid (RM9.out.below hb6 RM9.out.lt)
        refine hK _ _ ⟨S6, ?_⟩
        clear hK K hb6 SV RL9 RM9 HOF
        try simp only [Act.put, List.setIfInBounds_toArray, List.set_cons_succ, List.set_cons_zero]
        refine wpAnyH_all (rs := [6]) (by kernel_rfl) (by simp) ?_
        intro ii hii; obtain rfl : ii = 6 := by simpa using hii
        clear hii
        refine wpOp_step rfl (fun K hK => ?_)
        go_simp
        refine (HME.out _ RL6.out RM6.out).mono ?_
        rintro e w7 ⟨rfl, hl7, hm7, hu7⟩
        have S7 : Hid (Upd [gl, gm] V₂ w7) := Lib.hid (S6.out.trans hu7)
        have HN7 : Hid (NSt W b5 b8 m gl gm sl sm gap (.slice (some ⟨gl, 0, none⟩) m c0) (.slice (some ⟨gm, 0, none⟩) m c1) (meetsP gap (wdOf bs) (pre ++ [⟨nd, ro, co, rs, cs, mn, mx, ⟨wk, wn⟩⟩])) w7) := Lib.hid ⟨HI.out.lo.trans (S7.out.below HI.out.lo.size (fun k hk => by have := HNUM.out; rcases (by simpa using hk : k = gl ∨ k = gm) with rfl | rfl <;> omega)), S7.out.whole KW5.out n5, S7.out.whole KW8.out n8, fun _ => by rw [HSTP.out]; exact ⟨hl7, hm7⟩⟩
        refine hK _ _ ⟨S7, ?_⟩
        clear hK K hl7 hm7 hu7 S6 RL6 RM6 HME
        try simp only [Act.put, List.setIfInBounds_toArray, List.set_cons_succ, List.set_cons_zero]
        refine wpAnyH_done (by kernel_rfl) ?_ _
        try simp only [Exit.inBlock, Exit.then]
        refine ⟨(S7.out.kp).fromG (fun g hg => by have := HNUM.out; rcases (by simpa using hg : g = gl ∨ g = gm) with rfl | rfl <;> omega), ⟨S7.out.kp.1, fun k hk hl => S7.out.kp.2 k (fun hm => hk (List.mem_cons_of_mem _ hm)) hl⟩, ?_, HN7.out⟩
        intro s hs
        rcases List.mem_append.1 hs with h | h
        · exact HPN.out s h
        · obtain rfl := List.mem_singleton.1 h
          exact h1
  case done =>
    rintro D xs V hD rfl ⟨hne, hI⟩ hK
    clear HS
    rw [sortedL_all m ns hne] at hI
    clear hne
    have HI := Lib.hid hI
    have HK := Lib.hid hK
    have HWX := Lib.hid (fun (h1 : 1 ≤ m) => (⟨gl, gm, sl, sm, (HPC.out h1).1, (HPC.out h1).2.1, (HPC.out h1).2.2.1, (HPC.out h1).2.2.2.1, (hI.rr h1).1, (hI.rr h1).2, HWT.out.ll, HWT.out.hl⟩ : ∃ (gl gm : Nat) (sl sm : List Value), p0 = some ⟨gl, 0, none⟩ ∧ p1 = some ⟨gm, 0, none⟩ ∧ m = n0 ∧ m = n1 ∧ IRow V gl (meetsP gap (wdOf bs) (turnL m ns)).lo sl ∧ IRow V gm (meetsP gap (wdOf bs) (turnL m ns)).hi sm ∧ (meetsP gap (wdOf bs) (turnL m ns)).lo.length = m ∧ (meetsP gap (wdOf bs) (turnL m ns)).hi.length = m))
    have HBX := Lib.hid (HBA.out V hI.lo p0 p1 n0 c0 n1 c1 _ HWX.out)
    have y0 := hI.k8.cellAt 0
    have y1 := hI.k8.cellAt 1
    simp only [List.getElem?_cons_zero, List.getElem?_cons_succ] at y0 y1
    have l8 := hI.k8.lt
    have HWD : Hid (W.heap.size ≤ D) := Lib.hid (by have := HN5.out.lo.size; omega)
    clear HPC HN5 KV HS5 HG HGL HGE HWX hI hK hD HBA h45
    go_wp2_with fail
    refine HBX.out.mono ?_
    rintro e w6 ⟨G6, rfl, hG6, hbs6, hb6⟩
    have HK6 : Hid (w6.heap[D]? = some (.deferred (some []))) := Lib.hid ((hb6.block D (Array.getElem?_eq_some_iff.1 HK.out).1).trans HK.out)
    have HB6 := Lib.hid (HI.out.lo.trans (hb6.mono HI.out.lo.size))
    have HBS := Lib.hid hbs6
    have HG6 : Hid (W.heap.size ≤ G6) := Lib.hid (by have := HI.out.lo.size; omega)
    clear hG6 hbs6 hb6 HBX HI HK y0 y1 l8
    go_wp2
    try dsimp only [Exit.jump]
    exact leaves_marks W.heap.size [D] _ ((Marks.nil W.heap.size _).cons (D := D) HWD.out HK6.out (fun E hE => by cases hE)) (fun W' hck hbk => ⟨_, results_twoN rfl rfl rfl, ⟨G6, rfl, HG6.out, by rw [HSP.out]; exact hck _ _ HBS.out rfl, HB6.out.trans hbk⟩⟩)
  case stop =>
    rintro D cd pre V hD _ ⟨rfl, hI⟩ hK
    clear HS
    refine wpIn_wide.2 ?_
    have HI := Lib.hid hI
    have HK := Lib.hid hK
    have HWX := Lib.hid (fun (h1 : 1 ≤ m) => (⟨gl, gm, sl, sm, (HPC.out h1).1, (HPC.out h1).2.1, (HPC.out h1).2.2.1, (HPC.out h1).2.2.2.1, (hI.rr h1).1, (hI.rr h1).2, HWT.out.ll, HWT.out.hl⟩ : ∃ (gl gm : Nat) (sl sm : List Value), p0 = some ⟨gl, 0, none⟩ ∧ p1 = some ⟨gm, 0, none⟩ ∧ m = n0 ∧ m = n1 ∧ IRow V gl (meetsP gap (wdOf bs) (turnL m ns)).lo sl ∧ IRow V gm (meetsP gap (wdOf bs) (turnL m ns)).hi sm ∧ (meetsP gap (wdOf bs) (turnL m ns)).lo.length = m ∧ (meetsP gap (wdOf bs) (turnL m ns)).hi.length = m))
    have HBX := Lib.hid (HBA.out V hI.lo p0 p1 n0 c0 n1 c1 _ HWX.out)
    have y0 := hI.k8.cellAt 0
    have y1 := hI.k8.cellAt 1
    simp only [List.getElem?_cons_zero, List.getElem?_cons_succ] at y0 y1
    have l8 := hI.k8.lt
    have HWD : Hid (W.heap.size ≤ D) := Lib.hid (by have := HN5.out.lo.size; omega)
    clear HPC HN5 KV HS5 HG HGL HGE HWX hI hK hD HBA h45
    go_wp2_with fail
    refine HBX.out.mono ?_
    rintro e w6 ⟨G6, rfl, hG6, hbs6, hb6⟩
    have HK6 : Hid (w6.heap[D]? = some (.deferred (some []))) := Lib.hid ((hb6.block D (Array.getElem?_eq_some_iff.1 HK.out).1).trans HK.out)
    have HB6 := Lib.hid (HI.out.lo.trans (hb6.mono HI.out.lo.size))
    have HBS := Lib.hid hbs6
    have HG6 : Hid (W.heap.size ≤ G6) := Lib.hid (by have := HI.out.lo.size; omega)
    clear hG6 hbs6 hb6 HBX HI HK y0 y1 l8
    go_wp2
    try dsimp only [Exit.jump]
    exact leaves_marks W.heap.size [D] _ ((Marks.nil W.heap.size _).cons (D := D) HWD.out HK6.out (fun E hE => by cases hE)) (fun W' hck hbk => ⟨_, results_twoN rfl rfl rfl, ⟨G6, rfl, HG6.out, by rw [HSP.out]; exact hck _ _ HBS.out rfl, HB6.out.trans hbk⟩⟩)
end Go.Proofs.Ytmljndggblfeiaa
