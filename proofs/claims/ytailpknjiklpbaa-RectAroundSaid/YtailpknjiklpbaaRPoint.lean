/- Contract of rect.pointed: an iterator over the rectangles that have points, in order. -/
import Derived.Test.YtailpknjiklpbaaRSeq
import Derived.Test.YtailpknjiklpbaaRLines
import Derived.Test.YtailpknjiklpbaaRDoc

import Derived.Test.YtailpknjiklpbaaRValues
import Derived.Test.YtailpknjiklpbaaMarks
namespace Go.Proofs.Ytailpknjiklpbaa
open Go.RowKit Go.Shelf
set_option linter.unusedVariables false
attribute [local go_sem] Oper.semAt_some

/-- those that have points -/
def ptd (rs : List RR) : List RR := rs.filter fun q => !emptyB q.1
theorem ptd_skip (rs : List RR) (x : RR) (h : emptyB x.1 = true) : ptd (rs ++ [x]) = ptd rs := by simp [ptd, h]
theorem ptd_take (rs : List RR) (x : RR) (h : emptyB x.1 = false) : ptd (rs ++ [x]) = ptd rs ++ [x] := by simp [ptd, h]
/-- blocks below B0 stay, and those from B2 on -/
def KpA (B0 B2 : Nat) (V V' : World) : Prop := Below B0 V V' ∧ ∀ k, B2 ≤ k → k < V.heap.size → V'.heap[k]? = V.heap[k]?
theorem KpA.trans {B0 B2 : Nat} {A B C : World} (h : KpA B0 B2 A B) (k : KpA B0 B2 B C) : KpA B0 B2 A C := ⟨h.1.trans k.1, fun i hi hl => (k.2 i hi (Nat.lt_of_lt_of_le hl h.1.size)).trans (h.2 i hi hl)⟩
def PI (J : List RR → World → Prop) (yb l base : Nat) (pre : List RR) (V : World) : Prop := J (ptd pre) V ∧ Whole V yb 41 [.func (.yield l) #[] #[]] ∧ base ≤ V.heap.size
theorem PI.own {J : List RR → World → Prop} {B K : Nat} (h : OwnFrom B J) (hB : B ≤ K) (yb l base : Nat) : OwnFrom K (PI J yb l base) := fun s X Y row ⟨hj, hw, hz⟩ hg hr =>
  ⟨h _ X Y row hj hg (fun r e => ⟨by have := (hr r e).1; omega, (hr r e).2⟩), hw.grown hg (hw.ne fun r e => (hr r e).2), Nat.le_trans hz hg.size⟩
def PX (Jx : List RR → World → Prop) (c : Code) (pre : List RR) (V : World) : Prop := c = .exit 0 ∧ Jx (ptd pre) V
theorem PX.own {J : List RR → World → Prop} {B K : Nat} (h : OwnFrom B J) (hB : B ≤ K) (c : Code) : OwnFrom K (PX J c) := fun s X Y row ⟨hc, hj⟩ hg hr =>
  ⟨hc, h _ X Y row hj hg (fun r e => ⟨by have := (hr r e).1; omega, (hr r e).2⟩)⟩
set_option maxHeartbeats 1000000 in
theorem pointed_any (a : Option Addr) (len cap : Nat) (w : World) :
    Calls Try.prog 12 #[.slice a len cap] w fun e w' => e = .returned (.func (.func 22) #[] #[.pointer (some ⟨w.heap.size, 0, none⟩)]) ∧ w' = w.alloc (.cells #[.slice a len cap] 22) := by
  go_enter Try.func12, Try.ntmps12
  go_wp2
  go_ret
  exact ⟨rfl, rfl⟩
set_option maxRecDepth 100000 in
set_option maxHeartbeats 4000000 in
theorem pointed_seq (n : Nat) (Bs B2 : Nat) (sv : Value) (rs : List RR) (w w0 : World) (hBs : Bs < w.heap.size) (hc : w.cell? ⟨Bs, 0, none⟩ = some sv) (hI : Rects w0 sv (vals rs)) (hw0 : Below w0.heap.size w0 w) (hB2 : B2 ≤ w.heap.size + 2) :
    SeqOwn Fence.wide n Try.prog 22 #[.pointer (some ⟨Bs, 0, none⟩)] (fun x : RR => #[x.1.val]) (KpA w0.heap.size B2) (fun pre x => emptyB x.1 = false) (fun ys => ys = ptd rs) (fun pre => ∃ k, k ≤ rs.length ∧ pre = ptd (rs.take k)) w := by
  intro l J Jx W hW hW2 hJ hJx hY h0
  have hc' := (hW.cell (p := ⟨Bs, 0, none⟩) hBs).trans hc
  have hsz := hW.size
  have hsz0 := hw0.size
  have hWW := hw0.trans (hW.mono hsz0)
  have hBsW : Bs < W.heap.size := by omega
  obtain ⟨a0, len0, cap0, rfl⟩ : ∃ a len cap, sv = .slice a len cap := by
    obtain ⟨_, ⟨a, cap, rfl, _⟩ | ⟨b, off, cap, rfl, _⟩⟩ := hI <;> exact ⟨_, _, _, rfl⟩
  refine callsIn_of_wp_marks Try.func22 rfl trivial (wpIn_wide.2 ?_) rfl
  simp only [Try.ntmps22, List.size_toArray, List.length_cons, List.length_nil, Nat.reduceAdd, Nat.reduceSub, Array.replicate_succ, Array.replicate_zero, List.push_toArray, List.append_toArray, List.nil_append, List.cons_append]
  have HY := Lib.hid hY
  have HJ := Lib.hid hJ
  have HJx := Lib.hid hJx
  have H0 := Lib.hid h0
  have HI := Lib.hid hI
  clear hY hJ hJx h0 hI
  go_wp2
  refine wp_scope_straight ?_
  go_wp2
  refine wp_label ?_
  go_wp2_with (go_at_call 23; refine (values_any _ _ _ _).mono ?_; rintro e w' ⟨rfl, rfl⟩)
  have hW0 : Below W.heap.size W ((W.alloc (.cells #[.func (.yield l) #[] #[]] 41)).alloc (.cells #[.slice a0 len0 cap0] 22)) := ((Below.refl _ W).alloc (Nat.le_refl _) _).alloc (by simp) _
  have ky : Whole ((W.alloc (.cells #[.func (.yield l) #[] #[]] 41)).alloc (.cells #[.slice a0 len0 cap0] 22)) W.heap.size 41 [.func (.yield l) #[] #[]] := (whole_new W [.func (.yield l) #[] #[]] 41 _ rfl).alloc _
  have ks : Whole ((W.alloc (.cells #[.func (.yield l) #[] #[]] 41)).alloc (.cells #[.slice a0 len0 cap0] 22)) (W.heap.size + 1) 22 [.slice a0 len0 cap0] := whole_new (W.alloc (.cells #[.func (.yield l) #[] #[]] 41)) [.slice a0 len0 cap0] 22 _ (by simp)
  have hz2 : ((W.alloc (.cells #[.func (.yield l) #[] #[]] 41)).alloc (.cells #[.slice a0 len0 cap0] 22)).heap.size = W.heap.size + 2 := by simp
  obtain ⟨W2, hV2⟩ : ∃ V, (W.alloc (.cells #[.func (.yield l) #[] #[]] 41)).alloc (.cells #[.slice a0 len0 cap0] 22) = V := ⟨_, rfl⟩
  rw [hV2] at hW0 ky ks hz2 ⊢
  clear hV2
  have hB : Below w0.heap.size w0 W2 := hWW.trans (hW0.mono (by omega))
  have hz3 : W.heap.size + 2 ≤ W2.heap.size := by omega
  clear hz2
  refine (wpIn_wide (n := 3)).1 (wpIn_rangeFunc_ownH (F := Fence.wide) rfl (by omega) (gf := 33) (lb := #[.pointer (some ⟨W.heap.size + 1, 0, none⟩)]) rfl trivial (enters_of Try.func33 (by kernel_rfl) rfl)
    (values_stops Fence.wide _ trivial rfl (by omega) (W.heap.size + 1) (.slice a0 len0 cap0) Subtype.val rs W2 w0 (by omega) (ks.cellAt 0) HI.out hB) belowK_t (belowK_b (by omega)) (Below.refl _ _) (fun _ => rfl)
    (PI J W.heap.size l W2.heap.size) (PX Jx) (PI.own HJ.out (by omega) _ _ _) (fun c => PX.own HJx.out (by omega) c)
    ⟨HJ.out [] W W2 none H0.out (grown_of_below hW0) (fun r e => by cases e), ky, Nat.le_refl _⟩
    (fun x a' W' => ∃ g, a' = { tmps := #[.func (.yield l) #[] #[], .pointer (some ⟨Bs, 0, none⟩), .pointer (some ⟨W.heap.size, 0, none⟩), .pointer (some ⟨g, 0, none⟩), .slice a0 len0 cap0, .func (.func 33) #[] #[.pointer (some ⟨W.heap.size + 1, 0, none⟩)], x.1.val, undef, undef, undef, undef, undef, undef, undef, undef, undef, undef, undef, undef], defers := [] } ∧ W2.heap.size ≤ g ∧ Whole W' g 25 x.1.cells) ?hax ?assign ?body ?done ?stop)
  case hax =>
    rintro x a' s X Y row ⟨g, he, hg, hk⟩ hgr hr
    exact ⟨g, he, hg, hk.grown hgr (hk.ne fun r e => (hr r e).2)⟩
  case assign =>
    rintro l' pre ⟨⟨x, y, u, v⟩, hx⟩ V K hi' hK
    have hbase := hi'.2.2
    have hB' := Lib.hid hi'
    have hval : R.val ⟨x, y, u, v⟩ = .agg #[.int .i64 x, .int .i64 y, .int .i64 u, .int .i64 v] := rfl
    clear hi' ky ks hB hW0
    gi_wp2
    refine hK _ _ ((KeepsOthers.alloc V _).from _) ((Below.refl _ V).alloc (by omega) _) ((PI.own HJ.out (K := W2.heap.size) (by omega) _ _ _).alloc _ hB'.out) ⟨V.heap.size, by simp [hval], hbase, ?_⟩
    exact whole_new V [.int .i64 x, .int .i64 y, .int .i64 u, .int .i64 v] 25 _ rfl
  case body =>
    rintro l' pre ⟨⟨x, y, u, v⟩, hx⟩ a' V hl hlr ⟨hJ1, hy1, hb1⟩ ⟨g, rfl, hg, hk⟩ hlen
    have hval : R.val ⟨x, y, u, v⟩ = .agg #[.int .i64 x, .int .i64 y, .int .i64 u, .int .i64 v] := rfl
    replace hk : Whole V g 25 [.int .i64 x, .int .i64 y, .int .i64 u, .int .i64 v] := hk
    have c0 : V.cell? ⟨g, 0, none⟩ = some (.int .i64 x) := hk.cellAt 0
    have c1 : V.cell? ⟨g, 1, none⟩ = some (.int .i64 y) := hk.cellAt 1
    have c2 : V.cell? ⟨g, 2, none⟩ = some (.int .i64 u) := hk.cellAt 2
    have c3 : V.cell? ⟨g, 3, none⟩ = some (.int .i64 v) := hk.cellAt 3
    have lg := hk.lt
    have cy : V.cell? ⟨W.heap.size, 0, none⟩ = some (.func (.yield l) #[] #[]) := hy1.cellAt 0
    have ly := hy1.lt
    have HJ1 := Lib.hid hJ1
    have HY1 := Lib.hid hy1
    have heq : emptyB ⟨x, y, u, v⟩ = (u == 0 || v == 0) := rfl
    by_cases hu : u = 0
    · have he : Hid (ptd (pre ++ [(⟨⟨x, y, u, v⟩, hx⟩ : RR)]) = ptd pre) := Lib.hid (ptd_skip _ _ (by rw [heq]; simp [hu]))
      clear hJ1 hy1 ky ks hB hW0 hk hlr heq
      subst hu
      gi_wp2
      exact ⟨KeepsFrom.refl _ _, Below.refl _ _, by rw [he.out]; exact HJ1.out, HY1.out, hb1⟩
    · by_cases hv : v = 0
      · have he : Hid (ptd (pre ++ [(⟨⟨x, y, u, v⟩, hx⟩ : RR)]) = ptd pre) := Lib.hid (ptd_skip _ _ (by rw [heq]; simp [hv]))
        have nu : (u == 0) = false := by simp [hu]
        clear hJ1 hy1 ky ks hB hW0 hk hlr heq
        subst hv
        gi_wp2
        exact ⟨KeepsFrom.refl _ _, Below.refl _ _, by rw [he.out]; exact HJ1.out, HY1.out, hb1⟩
      · have hem : emptyB ⟨x, y, u, v⟩ = false := by rw [heq]; simp [hu, hv]
        have he : Hid (ptd (pre ++ [(⟨⟨x, y, u, v⟩, hx⟩ : RR)]) = ptd pre ++ [⟨⟨x, y, u, v⟩, hx⟩]) := Lib.hid (ptd_take _ _ hem)
        obtain ⟨fn, tmps, assign, body, hy, hR⟩ := HY.out (ptd pre) ⟨⟨x, y, u, v⟩, hx⟩ V hJ1 hem
        rw [hval] at hy
        have HR := Lib.hid hR
        have nu : (u == 0) = false := by simp [hu]
        have nv : (v == 0) = false := by simp [hv]
        clear hJ1 hy1 ky ks hB hW0 hk hlr heq hR hem hu hv
        gi_wp2
        refine RoundIn.mono (show RoundIn _ _ _ _ _ _ _ _ _ _ from ⟨HR.out.1, fun c cs _ => HR.out.2 c cs (room_wide _)⟩) ?_
        rintro e V3 (⟨rfl, hJ3, hk3, hkf⟩ | ⟨rfl, hJ3, hkf⟩)
        · have H3 := Lib.hid hJ3
          have K3 := Lib.hid hk3
          have KF := Lib.hid hkf
          clear hJ3 hk3 hkf
          gi_wp2
          refine ⟨⟨KF.out.size, fun k o hB hk ho => KF.out.same k o (by omega) hk ho⟩, K3.out.1, by rw [he.out]; exact H3.out, ?_, Nat.le_trans hb1 K3.out.1.size⟩
          exact (K3.out.2 W.heap.size (by omega) ly).trans HY1.out
        · have H3 := Lib.hid hJ3
          have KF := Lib.hid hkf
          clear hJ3 hkf
          gi_wp2
          exact ⟨⟨KF.out.size, fun k o hB hk ho => KF.out.same k o (by omega) hk ho⟩, rfl, by rw [he.out]; exact H3.out⟩
  case done =>
    rintro D xs V hD rfl ⟨hJ1, hy1, hb1⟩ hK
    have H1 := Lib.hid hJ1
    have HK := Lib.hid hK
    clear hJ1 hy1 ky ks hB hW0 hK
    go_wp2
    simp only [Exit.noGoto]
    refine ⟨by simp, .inl ⟨D, _, rfl, run_takeDeferred HK.out, ?_⟩⟩
    exact ⟨_, results_none rfl _ _ _, ⟨_, rfl⟩, .inl ⟨_, rfl, HJ.out.putObj _ H1.out (by omega) HK.out rfl⟩⟩
  case stop =>
    rintro D c pre V hD ⟨k, hk, rfl⟩ ⟨rfl, hJx1⟩ hK
    have H1 := Lib.hid hJx1
    have HK := Lib.hid hK
    clear hJx1 ky ks hB hW0 hK
    refine wpIn_exit ?_
    go_wp2
    simp only [Exit.noGoto]
    refine ⟨by simp, .inl ⟨D, _, rfl, run_takeDeferred HK.out, ?_⟩⟩
    exact ⟨_, results_none rfl _ _ _, ⟨_, rfl⟩, .inr ⟨_, ⟨k, hk, rfl⟩, HJx.out.putObj _ H1.out (by omega) HK.out rfl⟩⟩
end Go.Proofs.Ytailpknjiklpbaa
