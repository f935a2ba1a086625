/- Contract of lanes.Cols for a table of whose kids none is a column or a group of them. -/
/- The rows that every statement of layer 6 asks for first are known. -/
import Derived.Test.YtgaclepoipaecaaLSame
import Derived.Test.YtgaclepoipaecaaSSeq
import Derived.ScopeJumps
import Derived.WalkMore
import Derived.Test.YtgaclepoipaecaaTAlike
import Derived.Test.YtgaclepoipaecaaTComp
import Derived.Test.YtgaclepoipaecaaTShown
namespace Go.Proofs.Ytgaclepoipaecaa
open Go.RowKit Go.Shelf Go.Maps
set_option linter.unusedVariables false
attribute [local go_sem] Oper.semAt_some

def encSp (x : (Int × Int) × Int) : Array Value := #[.agg #[.int .i64 x.1.1, .int .i64 x.1.2], .int .i64 x.2]
/-- what the iterator of spans reads -/
structure SpanM (gl ga L o m cap p : Nat) (kv : Value) (ks : List Int) (kd : Nat → Int) (X : World) : Prop where
  lt : gl < X.heap.size ∧ ga < X.heap.size ∧ L < X.heap.size
  bl : X.cell? ⟨gl, 0, none⟩ = some (.slice (some ⟨L, o, none⟩) m cap)
  ba : X.cell? ⟨ga, 0, none⟩ = some (.int .i64 p)
  bk : X.cell? ⟨L, o + p * 34 + 1, none⟩ = some kv
  ints : Ints X kv ks
  kind : ∀ i, i < m → X.cell? ⟨L, o + i * 34, none⟩ = some (.int .i64 (kd i))
theorem SpanM.below {gl ga L o m cap p : Nat} {kv : Value} {ks : List Int} {kd : Nat → Int} {X Y : World} (h : SpanM gl ga L o m cap p kv ks kd X) (hb : Below X.heap.size X Y) : SpanM gl ga L o m cap p kv ks kd Y := by
  obtain ⟨h2, h3, h4, h5, h6, h8⟩ := h
  have := hb.size
  exact ⟨by omega, (hb.cell (p := ⟨gl, 0, none⟩) h2.1).trans h3, (hb.cell (p := ⟨ga, 0, none⟩) h2.2.1).trans h4, (hb.cell (p := ⟨L, o + p * 34 + 1, none⟩) h2.2.2).trans h5, h6.below hb, fun i hi => (hb.cell (p := ⟨L, o + i * 34, none⟩) h2.2.2).trans (h8 i hi)⟩
def S0I (R : World → Prop) (W : World) (pre : List (Int × Int)) (X : World) : Prop := R X ∧ Below W.heap.size W X
set_option maxRecDepth 100000 in
set_option maxHeartbeats 2000000 in
theorem spans_none (n : Nat) (gl ga L o m cap p : Nat) (kv : Value) (ks : List Int) (kd : Nat → Int) (hc : CapOk kv) (hm : m ≤ 1000000) (hp : p < m)
    (hks : ∀ z ∈ ks, 0 ≤ z ∧ z < (m : Int)) (hno : ∀ z ∈ ks, kd z.toNat ≠ 5 ∧ kd z.toNat ≠ 4) (w : World) (hR : SpanM gl ga L o m cap p kv ks kd w) (Kp : World → World → Prop) :
    SeqOwn Fence.wide n Try.prog 26 #[.pointer (some ⟨gl, 0, none⟩), .pointer (some ⟨ga, 0, none⟩)] encSp Kp (fun _ _ => False) (fun ys => ys = []) (fun _ => False) w := by
  intro l J Jx W hW hW2 hJ hJx hY h0
  have HRW := Lib.hid (hR.below hW)
  have hend : ∀ W', Below W.heap.size W W' → J [] W' := fun W' hb => hJ [] W W' none h0 (grown_of_below hb) (fun r e => by cases e)
  have HEND := Lib.hid hend
  have HKF := Lib.hid (fun Y => kidsF_any (some ⟨L, o, none⟩) m cap (p : Int) Y)
  have HNO := Lib.hid hno
  have HKS := Lib.hid hks
  refine callsIn_of_wp_marks Try.func26 rfl trivial (wpIn_wide.2 ?_) rfl
  simp only [Try.ntmps26, List.size_toArray, List.length_cons, List.length_nil, Nat.reduceAdd, Nat.reduceSub, Array.replicate_succ, Array.replicate_zero, List.push_toArray, List.append_toArray, List.nil_append, List.cons_append]
  have c1 := HRW.out.bl
  have c2 := HRW.out.ba
  have l1 := HRW.out.lt.1
  have l2 := HRW.out.lt.2.1
  clear hY hJ hJx h0 hend hR hno hks hW hW2
  go_wp2
  refine wp_scope_straight ?_
  go_wp2
  refine wp_label ?_
  go_wp2_with (go_at_call 22; refine (HKF.out _).mono ?_; rintro e w' ⟨rfl, rfl⟩)
  obtain ⟨N, hN⟩ : ∃ N, W.heap.size = N := ⟨_, rfl⟩
  obtain ⟨W3, hW3⟩ : ∃ W3, ((W.alloc (.cells #[.func (.yield l) #[] #[]] 69)).alloc (.cells #[.slice (some ⟨L, o, none⟩) m cap] 22)).alloc (.cells #[.int .i64 (p : Int)] 3) = W3 := ⟨_, rfl⟩
  have s3 : W3.heap.size = N + 3 := by rw [← hW3]; simp [hN]
  have b3 : Below W.heap.size W W3 := by rw [← hW3]; exact (((Below.refl _ W).alloc (Nat.le_refl _) _).alloc (by simp) _).alloc (by simp; omega) _
  have y0 : Whole W3 (N + 1) 22 [.slice (some ⟨L, o, none⟩) m cap] := by rw [← hW3]; exact (whole_new (W.alloc (.cells #[.func (.yield l) #[] #[]] 69)) [.slice (some ⟨L, o, none⟩) m cap] 22 _ (by simp [hN])).alloc _
  have y1 : Whole W3 (N + 2) 3 [.int .i64 (p : Int)] := by rw [← hW3]; exact whole_new ((W.alloc (.cells #[.func (.yield l) #[] #[]] 69)).alloc (.cells #[.slice (some ⟨L, o, none⟩) m cap] 22)) [.int .i64 (p : Int)] 3 _ (by simp [hN])
  have hRun : KidM (N + 3) (N + 1) (N + 2) L o m cap p kv ks kd W3 := by
    obtain ⟨h2, h3, h4, h5, h6, h8⟩ := HRW.out
    refine ⟨by omega, by omega, y0.cellAt 0, y1.cellAt 0, (b3.cell (p := ⟨L, o + p * 34 + 1, none⟩) h2.2.2).trans h5, h6.below b3, ?_, fun i hi => (b3.cell (p := ⟨L, o + i * 34, none⟩) h2.2.2).trans (h8 i hi)⟩
    obtain ⟨_, ⟨a, cap', e, hz⟩ | ⟨b', o', cap', e, hc⟩⟩ := h6
    · exact .inl hz
    · by_cases hz : ks = []
      · exact .inl hz
      · refine .inr ⟨b', o', cap', e, ?_⟩
        have : b' < W.heap.size := cell_lt (hc 0 (List.length_pos_iff.2 hz))
        omega
  have B3 := Lib.hid b3
  rw [hN, hW3]
  clear hW3 y0 y1 b3 c1 c2 l1 l2
  refine (wpIn_wide (n := 3)).1 (range_next (F := Fence.wide) rfl (by omega) (gf := 37) (lb := #[.pointer (some ⟨N + 1, 0, none⟩), .pointer (some ⟨N + 1 + 1, 0, none⟩)]) rfl trivial (enters_of Try.func37 (by kernel_rfl) rfl)
    (Kp := KeepR (KidM (N + 3) (N + 1) (N + 2) L o m cap p kv ks kd)) (fun _ _ _ h k => h.trans k) (fun W l o h1 h2 => ⟨by simp, fun hr => hr.below (below_put W o (by omega) h2)⟩)
    (lkids_next _ (by omega) (N + 3) (N + 1) (N + 2) L o m cap p kv ks kd hc (by omega) hp HKS.out W3 hRun s3.symm) (fun x => rfl)
    (S0I (KidM (N + 3) (N + 1) (N + 2) L o m cap p kv ks kd) W) (fun _ _ _ => False) ?own (fun _ _ _ _ _ hs _ _ => hs)
    ⟨hRun, B3.out⟩ ?round ?done ?stop)
  case own =>
    rintro pre X1 Y1 row ⟨g1, g2⟩ hg hr
    exact ⟨g1.grownN hg fun r e => (hr r e).2, (ownFrom_below (β := Unit) (Nat.le_refl _) (by omega)) () X1 Y1 row g2 hg hr⟩
  case stop =>
    rintro D c pre V hD _ hF hmk
    exact hF.elim
  case round =>
    rintro l' pre ⟨z, kz⟩ V hlq hI ⟨hz1, hz2⟩
    dsimp only at hz1 hz2
    subst hz2
    have hzm := List.mem_iff_getElem?.2 ⟨pre.length, hz1⟩
    have hzr := HKS.out z hzm
    obtain ⟨zn, rfl⟩ : ∃ zn : Nat, z = (zn : Int) := ⟨z.toNat, by omega⟩
    have hn5 := HNO.out _ hzm
    rw [Int.toNat_natCast] at hn5 ⊢
    have d5 : (kd zn == 5) = false := by simpa using hn5.1
    have d4 : (kd zn == 4) = false := by simpa using hn5.2
    refine ⟨{ tmps := #[.func (.yield l) #[] #[], .pointer (some ⟨gl, 0, none⟩), .pointer (some ⟨ga, 0, none⟩), .pointer (some ⟨N, 0, none⟩), .int .i64 zn, .int .i64 (kd zn), undef, undef, undef, .slice (some ⟨L, o, none⟩) m cap, .int .i64 p, .func (.func 37) #[] #[.pointer (some ⟨N + 1, 0, none⟩), .pointer (some ⟨N + 1 + 1, 0, none⟩)], .int .i64 zn, .int .i64 (kd zn), undef, undef, undef, undef, undef, undef, undef, undef, undef, undef, undef, undef, undef, undef, undef, undef, undef, undef, undef, undef, undef, undef, undef, undef, undef, undef, undef, undef, undef, undef, undef, undef, undef, undef, undef, undef, undef, undef, undef, undef, undef, undef, undef, undef, undef, undef, undef, undef, undef, undef, undef, undef, undef, undef], defers := [] }, V, ?_, KeepsFrom.refl _ _, ⟨Nat.le_refl _, id⟩, ?_⟩
    · intro K hK
      dsimp only [encK]
      gi_wp2
      exact hK
    · intro V₂ hgV hnc' hbl
      have hI2 : S0I (KidM (N + 3) (N + 1) (N + 2) L o m cap p kv ks kd) W (pre ++ [((zn : Int), kd zn)]) V₂ := ⟨hI.1.grownN hgV hnc', (ownFrom_below (β := Unit) (Nat.le_refl _) (show W.heap.size ≤ W3.heap.size by omega)) () V V₂ (some l') hI.2 hgV (fun r' e => by injection e with e; exact ⟨by omega, hnc' r' (by rw [e])⟩)⟩
      have HI2 := Lib.hid hI2
      clear hI hI2 hgV hnc' hbl hRun hzm hn5
      gi_wp2
      exact ⟨KeepsFrom.refl _ _, ⟨Nat.le_refl _, id⟩, HI2.out⟩
  case done =>
    rintro D xs V hD hS ⟨g1, g2⟩ hmk
    have G2 := Lib.hid g2
    have HMK := Lib.hid hmk
    clear g1 g2 hmk hRun
    go_wp2
    simp only [Exit.noGoto]
    refine ⟨by simp, .inl ⟨D, _, rfl, run_takeDeferred HMK.out, ?_⟩⟩
    refine ⟨_, results_none rfl _ _ _, ⟨_, rfl⟩, .inl ⟨_, rfl, HEND.out _ (G2.out.trans (below_put V _ (by omega) (Array.getElem?_eq_some_iff.1 HMK.out).1))⟩⟩
end Go.Proofs.Ytgaclepoipaecaa

namespace Go.Proofs.Ytgaclepoipaecaa
open Go.RowKit Go.Shelf Go.Maps
set_option linter.unusedVariables false
attribute [local go_sem] Oper.semAt_some

set_option maxHeartbeats 400000 in
theorem spansF_any (p1 : Option Addr) (l1 c1 : Nat) (at' : Int) (w : World) :
    Calls Try.prog 13 #[.slice p1 l1 c1, .int .i64 at'] w fun e w' => e = .returned (.func (.func 26) #[] #[.pointer (some ⟨w.heap.size, 0, none⟩), .pointer (some ⟨w.heap.size + 1, 0, none⟩)]) ∧
      w' = (w.alloc (.cells #[.slice p1 l1 c1] 22)).alloc (.cells #[.int .i64 at'] 3) := by
  go_enter Try.func13, Try.ntmps13
  go_wp2
  go_ret
  exact ⟨rfl, rfl⟩
theorem kd_same {ns ns' : List Nd} (h : ns'.map Nd.k = ns.map Nd.k) : kdOf ns' = kdOf ns := by
  funext i
  unfold kdOf
  have := congrArg (fun l => l[i]?) h
  simp only [List.getElem?_map] at this
  rw [this]
/-- more lanes onto a list in a box: the append, and the store -/
theorem box_step {NR base : Nat} {v : Value} {E : List (Int × Int)} {V Z : World} (lb : Whole V NR 25 [v]) (own : OwnL base V v E) (hz : Below V.heap.size V Z) (hb : base ≤ V.heap.size)
    (E2 : List (Int × Int)) (q : Option Addr) (c : Nat) (hq : q = none → E2.length = 0) (hc : ∀ a, q = some a → ∀ j u, (E2.flatMap encL)[j]? = some u → Z.cell? (a.add j) = some u) (hE : E.length + E2.length ≤ 4000000000000) :
    ∃ v' X2, (Builtin.append_ #[25, 25] 25 #[v, .slice q E2.length c]).run Try.prog Z = .ok v' X2 ∧ (∃ p2 c2, v' = .slice p2 (E ++ E2).length c2) ∧ Whole X2 NR 25 [v] ∧
      Whole (X2.setCell ⟨NR, 0, none⟩ v') NR 25 [v'] ∧ OwnL base (X2.setCell ⟨NR, 0, none⟩ v') v' (E ++ E2) ∧ KeepsOthers V (X2.setCell ⟨NR, 0, none⟩ v') ∧
      (∀ (g t : Nat) (zs : List Value), Whole V g t zs → t ≠ 48 → g ≠ NR → Whole X2 g t zs ∧ Whole (X2.setCell ⟨NR, 0, none⟩ v') g t zs) ∧
      (∀ (B : Nat) (w : World), B ≤ base → B ≤ NR → Below B w V → Below B w (X2.setCell ⟨NR, 0, none⟩ v')) ∧ (v'.ownBlock = v.ownBlock ∨ v'.ownBlock = some Z.heap.size) ∧
      (∀ (a : Addr) (u : Value), V.cell? a = some u → a.block ≠ NR → v.ownBlock ≠ some a.block → X2.cell? a = some u ∧ (X2.setCell ⟨NR, 0, none⟩ v').cell? a = some u) ∧
      (∀ g, g < V.heap.size → g ≠ NR → v.ownBlock ≠ some g → (X2.setCell ⟨NR, 0, none⟩ v').heap[g]? = V.heap[g]?) := by
  have hZl : Whole Z NR 25 [v] := lb.below hz lb.lt
  have hZo : Z.ownsRow base 48 2 v E.length (E.flatMap encL) := own_belowN own hz
  have hNV : base ≤ Z.heap.size := by have := hz.size; omega
  obtain ⟨i0, hi0, hz0, hz1, hz2⟩ := info_parts Try.infoLane
  obtain ⟨v', X2, hr, ho, hg, hv⟩ := run_append_any (w := Z) base 25 25 48 i0 _ 2 16 Try.underlying25 hi0 hz0 hz1 hz2 rfl (by decide) v E.length (E.flatMap encL) hZo q E2.length c (E2.flatMap encL) (encL_len E2) hq hc (encL_one E2) (by unfold maxLen; omega) (by omega) hNV
  have hlb : Whole X2 NR 25 [v] := hZl.grown hg (whole_own hZl hZo (by decide))
  have hO2 : OwnL base X2 v' (E ++ E2) := by
    unfold OwnL
    rw [List.length_append, List.flatMap_append]
    exact ho
  have hO3 : OwnL base (X2.setCell ⟨NR, 0, none⟩ v') v' (E ++ E2) := own_setCell (o := 0) (u := v') hO2 (whole_own hlb hO2 (by decide))
  obtain ⟨p2, c2, e2, _⟩ := own_src hO2
  refine ⟨v', X2, hr, ⟨p2, c2, e2⟩, hlb, hlb.set 0 v', hO3, ?_, fun g t zs hw ht hn => ?_, fun B w h1 h2 h3 => ?_, hv, fun a u hau hab hob => ?_, fun g hgl hgn hgo => ?_⟩
  · exact (⟨hz.size, fun j o hj _ => (hz.block j (Array.getElem?_eq_some_iff.1 hj).1).trans hj⟩ : KeepsOthers V Z).trans ((own_keeps hZo hg).trans (KeepsOthers.setCell _ _ _))
  · have h1 := hw.below hz hw.lt
    have h2 : Whole X2 g t zs := h1.grown hg (whole_own h1 hZo ht)
    exact ⟨h2, h2.other _ _ hn⟩
  · exact ((h3.trans (hz.mono (by omega))).grown hg (by omega) (fun g e => by have := (hZo.lt g e).1; omega)).setCell (p := ⟨NR, 0, none⟩) h2 _
  · have e1 : Z.cell? a = some u := (hz.cell (p := a) (cell_lt hau)).trans hau
    have e2 := hg.cell e1 (fun e => hob e.symm)
    refine ⟨e2, ?_⟩
    rw [World.cell?_setCell_other _ _ _ _ (fun e => hab (by rw [← e]))]
    exact e2
  · rw [Below.heap_setCell X2 _ _ g hgn, hg.block g (Nat.lt_of_lt_of_le hgl hz.size) (fun e => hgo e.symm), hz.block g hgl]
/-- so many columns without a node -/
def bare (k : Nat) : List (Int × Int) := List.replicate k (-1, -1)
def lenAt (NR : Nat) (X : World) : Nat := match X.cell? ⟨NR, 0, none⟩ with | some (.slice _ l _) => l | _ => 0
theorem lenAt_of {NR : Nat} {X : World} {p : Option Addr} {l c : Nat} (h : Whole X NR 25 [.slice p l c]) : lenAt NR X = l := by
  have := h.cellAt 0
  unfold lenAt
  simp at this
  rw [this]
theorem bare_succ (t : Nat) : bare (t + 1) = bare t ++ [(-1, -1)] := List.replicate_succ'
/-- the state of the last loop -/
structure BareW (N NR base D : Nat) (v : Value) (E : List (Int × Int)) (w X : World) : Prop where
  r0 : Whole X N 25 [.slice none 0 0]
  r1 : Whole X (N + 1) 26 [.int .i64 0]
  lb : Whole X NR 25 [v]
  own : OwnL base X v E
  low : Below N w X
  mkd : X.heap[D]? = some (.deferred (some []))
def C0I (N NR base : Nat) (v : Value) (E : List (Int × Int)) (w : World) (pre : List ((Int × Int) × Int)) (X : World) : Prop :=
  pre = [] ∧ Whole X N 25 [.slice none 0 0] ∧ Whole X (N + 1) 26 [.int .i64 0] ∧ Whole X NR 25 [v] ∧ OwnL base X v E ∧ Below w.heap.size w X
set_option maxRecDepth 100000 in
set_option maxHeartbeats 4000000 in
theorem cols_none (b off cap m p : Nat) (k : Nat) (ns : List Nd) (w : World) (hm : ns.length = m) (hm2 : m ≤ 65536) (hp : p < m) (hk : k ≤ 10000)
    (hK : ∀ n ∈ ns, n.ks.length ≤ 70000) (hlink : ∀ n ∈ ns, ∀ z ∈ n.ks, 0 ≤ z ∧ z < (m : Int))
    (H : Hid (Calls Try.prog 11 #[.slice (some ⟨b, off, none⟩) m cap] ((w.alloc (.cells #[.slice none 0 0] 25)).alloc (.cells #[.int .i64 0] 26)) fun e W' => ∃ L c ns', e = .returned (.tuple #[.slice (some ⟨L, 0, none⟩) m c, .int .i64 0]) ∧ ns'.map Nd.k = ns.map Nd.k ∧ ns'.map Nd.ks = ns.map Nd.ks ∧ PageAt W' (.slice (some ⟨L, 0, none⟩) m c) ns' ∧ Below (w.heap.size + 2) ((w.alloc (.cells #[.slice none 0 0] 25)).alloc (.cells #[.int .i64 0] 26)) W'))
    (ht : isTab ns p = true) (hno : ∀ z ∈ kfOf ns p, kdOf ns z.toNat ≠ 5 ∧ kdOf ns z.toNat ≠ 4) :
    Calls Try.prog 6 #[.slice (some ⟨b, off, none⟩) m cap, .int .i64 p, .int .i64 k] w fun e W' => ∃ v, e = .returned (.tuple #[v, .int .i64 0]) ∧ OwnL w.heap.size W' v (bare k) ∧ Below w.heap.size w W' := by
  refine (callsIn_wide (n := 3)).1 (callsIn_of_wp_marks Try.func6 rfl trivial (wpIn_wide.2 ?_) rfl)
  simp only [Try.ntmps6, List.size_toArray, List.length_cons, List.length_nil, Nat.reduceAdd, Nat.reduceSub, Array.replicate_succ, Array.replicate_zero, List.push_toArray, List.append_toArray, List.nil_append, List.cons_append]
  have HM := Lib.hid hm
  have HT := Lib.hid ht
  have HSF := Lib.hid (fun q l c (Y : World) => spansF_any q l c (p : Int) Y)
  obtain ⟨W0, hW0⟩ : ∃ W0, (w.alloc (.cells #[.slice none 0 0] 25)).alloc (.cells #[.int .i64 0] 26) = W0 := ⟨_, rfl⟩
  have k0 := Lib.hid (show Whole W0 w.heap.size 25 [.slice none 0 0] by rw [← hW0]; exact (whole_new w [.slice none 0 0] 25 _ rfl).alloc _)
  have k1 := Lib.hid (show Whole W0 (w.heap.size + 1) 26 [.int .i64 0] by rw [← hW0]; exact whole_new (w.alloc (.cells #[.slice none 0 0] 25)) [.int .i64 0] 26 _ (by simp))
  have b0 := Lib.hid (show Below w.heap.size w W0 by rw [← hW0]; exact ((Below.refl _ w).alloc (Nat.le_refl _) _).alloc (by simp) _)
  have s0 : W0.heap.size = w.heap.size + 2 := by rw [← hW0]; simp
  have z0 : w.heap.size + 2 ≤ W0.heap.size := by omega
  rw [hW0] at H
  clear s0
  have dk1 : decide ((k : Int) < 0) = false := by simp
  have dk2 : decide ((k : Int) > 10000) = false := by simp; omega
  have dk3 : decide (10000 < (k : Int)) = false := by simp; omega
  obtain ⟨i0, hi0, hz0', hz1', hz2'⟩ := info_parts Try.infoLane
  have HZ0 := Lib.hid hi0
  have HZ1 := Lib.hid hz0'
  have HZ2 := Lib.hid hz1'
  have HZ3 := Lib.hid hz2'
  clear hm ht hi0 hz0' hz1' hz2'
  go_wp2_with fail
  refine H.out.mono ?_
  clear H
  rintro e w1 ⟨L, c, ns1, rfl, hk1, hks1, hP1, hb1⟩
  have HP1 := Lib.hid hP1
  have hl1 : ns1.length = m := by have := congrArg List.length hk1; simpa [HM.out] using this
  have HTB := Lib.hid (show Calls Try.prog 12 #[.slice (some ⟨L, 0, none⟩) m c, .int .i64 p] w1 fun e W' => e = .returned (.bool true) ∧ w1 = W' from by
    have h := (tab_any (some ⟨L, 0, none⟩) m c p ns1 w1 hP1).mono (fun e w' h => (⟨h.1, h.2.symm⟩ : e = .returned (.bool (isTab ns1 p)) ∧ w1 = w'))
    have e : isTab ns1 p = true := by rw [← HT.out]; unfold isTab; rw [kd_same hk1, hl1, HM.out]
    rwa [e] at h)
  have k01 := Lib.hid (k0.out.below hb1 (by omega))
  have k11 := Lib.hid (k1.out.below hb1 (by omega))
  have B1 := Lib.hid (b0.out.trans (hb1.mono (by omega)))
  have HK1 := Lib.hid hk1
  have HKS1 := Lib.hid hks1
  have HL1 := Lib.hid hl1
  have z1 : w.heap.size + 2 ≤ w1.heap.size := by have := hb1.size; omega
  clear hP1 hl1 k0 k1 b0 hk1 hks1 hb1 hW0 z0
  go_wp2_with (first
    | (go_at_call 12; refine HTB.out.mono ?_; rintro e w' ⟨rfl, rfl⟩; clear HTB)
    | (at_make; refine wpList_make_own _ rfl _ _ 25 rfl w1.heap.size 48 i0 _ 2 Try.underlying25 HZ0.out HZ1.out HZ2.out .i64 .i64 _ k rfl rfl rfl (by rw [HZ3.out]; omega) (by unfold maxLen; omega) (Nat.le_refl _) ?_; intro w2 ho2 hg2; have B2 := Lib.hid ((Below.refl w1.heap.size w1).grown hg2 (Nat.le_refl _) (fun g e => by cases e)); have HO2 := Lib.hid ho2; clear ho2 hg2)
    | (go_at_call 13; refine (HSF.out _ _ _ _).mono ?_; rintro e w' ⟨rfl, rfl⟩))
  obtain ⟨N, hN⟩ : ∃ N, w.heap.size = N := ⟨_, rfl⟩
  obtain ⟨base, hbase⟩ : ∃ base, w1.heap.size = base := ⟨_, rfl⟩
  obtain ⟨NR, hNR⟩ : ∃ NR, w2.heap.size = NR := ⟨_, rfl⟩
  obtain ⟨W13, hW13⟩ : ∃ W13, w2.alloc (.cells #[.slice (some ⟨base, 0, none⟩) 0 k] 25) = W13 := ⟨_, rfl⟩
  obtain ⟨W3, hW3⟩ : ∃ W3, (W13.alloc (.cells #[.slice (some ⟨L, 0, none⟩) m c] 22)).alloc (.cells #[.int .i64 (p : Int)] 3) = W3 := ⟨_, rfl⟩
  have s13 : W13.heap.size = NR + 1 := by rw [← hW13]; simp [hNR]
  have s3 : W3.heap.size = NR + 3 := by rw [← hW3]; simp [s13]
  have hbR : base ≤ NR := by rw [← hbase, ← hNR]; exact B2.out.size
  have hNb : N + 2 ≤ base := by omega
  have b13 : Below NR w2 W13 := by rw [← hW13]; exact (Below.refl NR w2).alloc (by omega) _
  have b33 : Below NR W13 W3 := by rw [← hW3]; exact ((Below.refl NR W13).alloc (by omega) _).alloc (by simp; omega) _
  have b23 : Below NR w2 W3 := b13.trans b33
  have b1w3 : Below base w1 W3 := (by have := B2.out; rw [hbase] at this; exact this.trans (b23.mono hbR))
  have bw3 : Below N w W3 := by have := B1.out; rw [hN] at this; exact this.trans (b1w3.mono (by omega))
  have y0 : Whole W3 (NR + 1) 22 [.slice (some ⟨L, 0, none⟩) m c] := by rw [← hW3]; exact (whole_new W13 [.slice (some ⟨L, 0, none⟩) m c] 22 _ s13.symm).alloc _
  have y1 : Whole W3 (NR + 2) 3 [.int .i64 (p : Int)] := by rw [← hW3]; exact whole_new (W13.alloc (.cells #[.slice (some ⟨L, 0, none⟩) m c] 22)) [.int .i64 (p : Int)] 3 _ (by simp [s13])
  have y2 : Whole W3 NR 25 [.slice (some ⟨base, 0, none⟩) 0 k] := by
    rw [← hW3, ← hW13]
    exact ((whole_new w2 [.slice (some ⟨base, 0, none⟩) 0 k] 25 _ hNR.symm).alloc _).alloc _
  obtain ⟨n, hn⟩ : ∃ n, ns1[p]? = some n := ⟨_, List.getElem?_eq_getElem (by rw [HL1.out]; exact hp)⟩
  have hmem : n ∈ ns1 := List.mem_iff_getElem?.2 ⟨p, hn⟩
  have hkf : kfOf ns (p : Int) = n.ks := by
    have := congrArg (fun l => l[p]?) HKS1.out
    simp only [List.getElem?_map, hn] at this
    unfold kfOf
    rw [Int.toNat_natCast]
    cases hq : ns[p]? with
    | none => rw [hq] at this; simp at this
    | some n0 => rw [hq] at this; simp at this; exact this.symm
  have hnk : ∃ n0 ∈ ns, n0.ks = n.ks := by
    unfold kfOf at hkf
    rw [Int.toNat_natCast] at hkf
    cases hq : ns[p]? with
    | none => have := (List.getElem?_eq_none_iff.1 hq); have := HM.out; omega
    | some n0 => rw [hq] at hkf; exact ⟨n0, List.mem_iff_getElem?.2 ⟨p, hq⟩, hkf⟩
  obtain ⟨n0, hn0, en0⟩ := hnk
  have hlinkn : ∀ z ∈ n.ks, 0 ≤ z ∧ z < (m : Int) := fun z hz => hlink n0 hn0 z (by rw [en0]; exact hz)
  have hkd : kdOf ns1 = kdOf ns := kd_same HK1.out
  obtain ⟨b', off', e, _, hcs⟩ := page_cells HP1.out (by omega)
  injection e with e; injection e with e1 e2
  subst e1 e2
  obtain ⟨cn0, cn1, hIk, hbw0⟩ := hcs p n hn
  rw [hbase] at hbw0
  have hcapn : CapOk n.kv := (HP1.out.2.1 n hmem).2.2.1
  have hSp : SpanM (NR + 1) (NR + 2) L 0 m c p n.kv n.ks (kdOf ns) W3 := by
    refine ⟨by omega, y0.cellAt 0, y1.cellAt 0, (b1w3.cell (p := ⟨L, 0 + p * 34 + 1, none⟩) hbw0).trans cn1, hIk.below (by rw [hbase]; exact b1w3), fun j hj => ?_⟩
    have hj' := List.getElem?_eq_getElem (show j < ns1.length by rw [HL1.out]; exact hj)
    have := (hcs j _ hj').1
    rw [← hkd]
    unfold kdOf
    rw [hj']
    exact (b1w3.cell (p := ⟨L, 0 + j * 34, none⟩) hbw0).trans this
  have hno' : ∀ z ∈ n.ks, kdOf ns z.toNat ≠ 5 ∧ kdOf ns z.toNat ≠ 4 := fun z hz => hno z (by rw [hkf]; exact hz)
  have hC0 : C0I N NR base (.slice (some ⟨base, 0, none⟩) 0 k) (bare 0) w [] W3 := by
    refine ⟨rfl, ?_, ?_, y2, ?_, by rw [hN]; exact bw3⟩
    · have := k01.out; rw [hN] at this; exact this.below b1w3 (by omega)
    · have := k11.out; rw [hN] at this; exact this.below b1w3 (by omega)
    · have := HO2.out
      rw [hbase] at this
      exact own_belowN this (by rw [hNR]; exact b23)
  have HNN := Lib.hid hN
  simp only [hbase, hNR, hN]
  rw [hW13, hW3]
  clear hW13 hW3 s13 b13 b33 b23 b1w3 bw3 y0 y1 y2 cn0 cn1 hIk hbw0 hcs k01 k11 HO2 B1 B2 HSF HP1
  refine (wpIn_wide (n := 3)).1 (range_own (F := Fence.wide) rfl (by omega) (gf := 26) (lb := #[.pointer (some ⟨NR + 1, 0, none⟩), .pointer (some ⟨NR + 1 + 1, 0, none⟩)]) rfl trivial (enters_of Try.func26 (by kernel_rfl) rfl)
    (Kp := fun _ _ => True) (fun _ _ _ _ _ => trivial) (fun _ _ _ => trivial)
    (spans_none _ (NR + 1) (NR + 2) L 0 m c p n.kv n.ks (kdOf ns) hcapn (by omega) hp hlinkn hno' W3 hSp _) (fun x => rfl)
    (C0I N NR base (.slice (some ⟨base, 0, none⟩) 0 k) (bare 0) w) (fun _ _ _ => False) ?own (fun _ _ _ _ _ hs _ _ => hs)
    hC0 (fun _ _ _ _ _ _ hF => hF.elim) ?done ?stop)
  case own =>
    rintro pre X1 Y1 row ⟨g0, g1, g2, g3, g4, g5⟩ hg hr
    have hnc : NoCells X1 row := fun r e => (hr r e).2
    exact ⟨g0, g1.grown hg (g1.ne hnc), g2.grown hg (g2.ne hnc), g3.grown hg (g3.ne hnc), own_grown g4 hg hnc, (ownFrom_below (β := Unit) (Nat.le_refl _) (show w.heap.size ≤ W3.heap.size by have := HNN.out; omega)) () X1 Y1 row g5 hg hr⟩
  case stop =>
    rintro D c pre V hD _ hF hmk
    exact hF.elim
  case done =>
    rintro D xs V hD rfl ⟨_, g1, g2, g3, g4, g5⟩ hmk
    have HB := Lib.hid (show BareW N NR base D (.slice (some ⟨base, 0, none⟩) 0 k) (bare 0) w V from ⟨g1, g2, g3, g4, by have := g5; rw [HNN.out] at this; exact this, hmk⟩)
    clear g1 g2 g3 g4 g5 hmk hSp hC0
    go_wp2
    go_loopw [51] (fun _ X => ∃ (t : Nat) (v : Value), t ≤ k ∧ Hid (BareW N NR base D v (bare t) w X) ∧ lenAt NR X = t) (fun _ X => k - lenAt NR X)
    case atStart => exact ⟨0, _, Nat.zero_le _, HB, lenAt_of HB.out.lb⟩
    case round =>
      obtain ⟨t, v, htk, HX, hlen⟩ := hrel
      obtain ⟨q, c', rfl, _, _⟩ := own_src HX.out.own
      have hbl : (bare t).length = t := List.length_replicate
      rw [hbl] at HX
      have cN := HX.out.lb.cellAt 0
      have lN := HX.out.lb.lt
      have lD : D < wr.heap.size := (Array.getElem?_eq_some_iff.1 HX.out.mkd).1
      by_cases hlt : t < k
      · have hd : decide ((t : Int) < (k : Int)) = true := by simpa using hlt
        have hz : Below wr.heap.size wr (wr.alloc (.cells #[.int .i64 (-1), .int .i64 (-1)] 48)) := (Below.refl _ wr).alloc (Nat.le_refl _) _
        obtain ⟨v', X2, hr7, ⟨p2, c2, rfl⟩, hlb, a4, a5, a6, a7, a8, a9, a10, a11⟩ := box_step HX.out.lb HX.out.own hz (by omega) [((-1 : Int), (-1 : Int))] (some ⟨wr.heap.size, 0, none⟩) 1 (fun e => by cases e) (fun a e j u hj => by injection e with e; subst e; exact lay_new wr [.int .i64 (-1), .int .i64 (-1)] 48 _ rfl j u hj) (by rw [hbl, List.length_singleton]; omega)
        rw [List.length_append, hbl, List.length_singleton] at *
        have c7 := hlb.cellAt 0
        have f7 := hlb.free 0
        have l7 := hlb.lt
        have HB2 : Hid (BareW N NR base D (.slice p2 (t + 1) c2) (bare (t + 1)) w (X2.setCell ⟨NR, 0, none⟩ (.slice p2 (t + 1) c2))) := Lib.hid ⟨(a7 _ _ _ HX.out.r0 (by decide) (by omega)).2, (a7 _ _ _ HX.out.r1 (by decide) (by omega)).2, a4, by rw [bare_succ]; exact a5, a8 N w (by omega) (by omega) HX.out.low, a6.same D _ HX.out.mkd rfl⟩
        clear a4 a5 a6 a7 a8 a9 a10 a11 HX hz
        go_wp2_with (at_builtin; refine wpList_plain rfl (fun K hK => wp_append_run _ _ 25 rfl _ _ _ rfl rfl hr7 (hK _ _ ?_)); clear hK K)
        go_roundw
        case rel => exact ⟨t + 1, _, by omega, HB2, lenAt_of HB2.out.lb⟩
        case measure => rw [lenAt_of HB2.out.lb, hlen]; omega
      · obtain rfl : t = k := by omega
        have c0 := HX.out.r0.cellAt 0
        have f0 := HX.out.r0.free 0
        have l0 := HX.out.r0.lt
        have c1 := HX.out.r1.cellAt 0
        have f1 := HX.out.r1.free 0
        have l1 := HX.out.r1.lt
        clear hlen
        go_wp2
        have HXX := HX.out
        have q0 : Whole (wr.setCell ⟨N, 0, none⟩ (.slice q t c')) N 25 [.slice q t c'] := HXX.r0.set 0 _
        have q1 : Whole ((wr.setCell ⟨N, 0, none⟩ (.slice q t c')).setCell ⟨N + 1, 0, none⟩ (.int .i64 0)) N 25 [.slice q t c'] := q0.other _ _ (show N ≠ N + 1 by omega)
        have q2 : Whole ((wr.setCell ⟨N, 0, none⟩ (.slice q t c')).setCell ⟨N + 1, 0, none⟩ (.int .i64 0)) (N + 1) 26 [.int .i64 0] := (HXX.r1.other ⟨N, 0, none⟩ _ (show N + 1 ≠ N by omega)).set 0 _
        have o2 : OwnL base ((wr.setCell ⟨N, 0, none⟩ (.slice q t c')).setCell ⟨N + 1, 0, none⟩ (.int .i64 0)) (.slice q t c') (bare t) := own_setCell (own_setCell HXX.own (whole_own HXX.r0 HXX.own (by decide))) (whole_own (HXX.r1.other ⟨N, 0, none⟩ (.slice q t c') (show N + 1 ≠ N by omega)) (own_setCell HXX.own (whole_own HXX.r0 HXX.own (by decide))) (by decide))
        have m2 : ((wr.setCell ⟨N, 0, none⟩ (.slice q t c')).setCell ⟨N + 1, 0, none⟩ (.int .i64 0)).heap[D]? = some (.deferred (some [])) := ((KeepsOthers.setCell _ _ _).trans (KeepsOthers.setCell _ _ _)).same D _ HXX.mkd rfl
        have b2 : Below N w ((wr.setCell ⟨N, 0, none⟩ (.slice q t c')).setCell ⟨N + 1, 0, none⟩ (.int .i64 0)) := (HXX.low.setCell (p := ⟨N, 0, none⟩) (Nat.le_refl _) _).setCell (p := ⟨N + 1, 0, none⟩) (show N ≤ N + 1 by omega) _
        generalize (wr.setCell ⟨N, 0, none⟩ (.slice q t c')).setCell ⟨N + 1, 0, none⟩ (.int .i64 0) = Y at *
        refine leaves_marks N [D] _ ((Marks.nil _ _).cons (by omega) m2 (by simp)) (fun W' hck hbk => ?_)
        have r0 : W'.cell? ⟨N, 0, none⟩ = some (.slice q t c') := hck.cell (q1.cellAt 0)
        have r1 : W'.cell? ⟨N + 1, 0, none⟩ = some (.int .i64 0) := hck.cell (q2.cellAt 0)
        refine ⟨.tuple #[.slice q t c', .int .i64 0], ?_, _, rfl, own_from (own_cellsKept o2 hck) (by omega), by rw [HNN.out]; exact b2.trans hbk⟩
        simp [results, Try.results6, go_sem, r0, r1]
end Go.Proofs.Ytgaclepoipaecaa

namespace Go.Proofs.Ytgaclepoipaecaa
open Go.RowKit Go.Shelf Go.Maps
set_option linter.unusedVariables false
attribute [local go_sem] Oper.semAt_some

theorem colsF_none (lv : Value) (p k : Nat) (ns : List Nd) (w : World) (hP : PageAt w lv ns) (hK : ∀ n ∈ ns, n.ks.length ≤ 70000 ∧ n.ws.length ≤ 70000) (F : Fine ns) (hp : p < ns.length) (ht : kdOf ns p = 2) (hk : k ≤ 10000)
    (hno : ∀ z ∈ kfOf ns p, kdOf ns z.toNat ≠ 5 ∧ kdOf ns z.toNat ≠ 4) :
    Calls Try.prog 6 #[lv, .int .i64 p, .int .i64 k] w fun e W' => ∃ v, e = .returned (.tuple #[v, .int .i64 0]) ∧ OwnL w.heap.size W' v (bare k) ∧ Below w.heap.size w W' := by
  have hb : Below w.heap.size w ((w.alloc (.cells #[.slice none 0 0] 25)).alloc (.cells #[.int .i64 0] 26)) := ((Below.refl _ w).alloc (Nat.le_refl _) _).alloc (by simp) _
  have H := computed_laid lv ns _ (hP.below hb) hK F
  obtain ⟨_, _, ⟨a, cap, e, rfl⟩ | ⟨b, off, cap, rfl, _⟩⟩ := (id hP)
  · simp at hp
  · refine cols_none b off cap _ p k ns w rfl F.len2 hp hk (fun n hn => (hK n hn).1) (F.ok fun n hn => (hK n hn).1).link (Lib.hid (H.mono ?_)) (by unfold isTab; simp [hp, ht]) hno
    rintro e W' ⟨⟨L, c, ns', rfl, h1, h2, _⟩, h3⟩
    have hl := h1.len
    refine ⟨L, c, ns', by rw [hl], ?_, ?_, by rw [← hl]; exact h2.page (by rw [hl]; have := F.len2; omega), by simpa using h3⟩
    · apply List.ext_getElem?
      intro i
      rw [List.getElem?_map, List.getElem?_map]
      rcases h1.get i with ⟨e1, e2⟩ | ⟨n, n', e1, e2, e3⟩
      · rw [e1, e2]
      · rw [e1, e2]; simp [e3.k]
    · apply List.ext_getElem?
      intro i
      rw [List.getElem?_map, List.getElem?_map]
      rcases h1.get i with ⟨e1, e2⟩ | ⟨n, n', e1, e2, e3⟩
      · rw [e1, e2]
      · rw [e1, e2]; simp [e3.ks]
def ndK (k : Int) (kv : Value) (ks : List Int) : Nd := { Nd.zero with k := k, kv := kv, ks := ks }
def sh6 (A : Nat) : List Nd := [ndK 2 (.slice (some ⟨A, 0, none⟩) 3 3) [1, 2, 3], ndK 8 (.slice (some ⟨A + 1, 0, none⟩) 1 1) [4], { Nd.zero with k := 9 }, ndK 6 (.slice (some ⟨A + 2, 0, none⟩) 1 1) [5], { Nd.zero with k := 9 }, { Nd.zero with k := 9 }]
theorem sh6_check (A : Nat) : checkP (sh6 A) = (0, 0) := by rfl
theorem sh6_rows (A : Nat) : rowsP (sh6 A) (0 : Nat) = [(5, 3), (2, -1), (4, 1)] := by rfl
theorem sh6_kids (A : Nat) : ∀ n ∈ sh6 A, n.ks.length ≤ 70000 ∧ n.ws.length ≤ 70000 := fun n hn => by
  simp only [sh6, List.mem_cons, List.not_mem_nil, or_false] at hn
  rcases hn with rfl | rfl | rfl | rfl | rfl | rfl <;> simp [ndK, Nd.zero]
def sh6W (w : World) : World := (((w.alloc (.cells #[.int .i64 1, .int .i64 2, .int .i64 3] 3)).alloc (.cells #[.int .i64 4] 3)).alloc (.cells #[.int .i64 5] 3)).alloc (.cells ((sh6 w.heap.size).flatMap Nd.cells).toArray 45)
theorem page_sh6 (w : World) : PageAt (sh6W w) (.slice (some ⟨w.heap.size + 3, 0, none⟩) 6 6) (sh6 w.heap.size) := by
  have k1 : Whole (sh6W w) w.heap.size 3 [.int .i64 1, .int .i64 2, .int .i64 3] := (((whole_new w [.int .i64 1, .int .i64 2, .int .i64 3] 3 _ rfl).alloc _).alloc _).alloc _
  have k2 : Whole (sh6W w) (w.heap.size + 1) 3 [.int .i64 4] := ((whole_new (w.alloc (.cells #[.int .i64 1, .int .i64 2, .int .i64 3] 3)) [.int .i64 4] 3 _ (by simp)).alloc _).alloc _
  have k3 : Whole (sh6W w) (w.heap.size + 2) 3 [.int .i64 5] := (whole_new ((w.alloc (.cells #[.int .i64 1, .int .i64 2, .int .i64 3] 3)).alloc (.cells #[.int .i64 4] 3)) [.int .i64 5] 3 _ (by simp)).alloc _
  refine page_flat (t := 45) (whole_new (((w.alloc (.cells #[.int .i64 1, .int .i64 2, .int .i64 3] 3)).alloc (.cells #[.int .i64 4] 3)).alloc (.cells #[.int .i64 5] 3)) ((sh6 w.heap.size).flatMap Nd.cells) 45 _ (by simp)) rfl (by omega) (fun n hn => ?_)
  simp only [sh6, List.mem_cons, List.not_mem_nil, or_false] at hn
  rcases hn with rfl | rfl | rfl | rfl | rfl | rfl
  · exact ⟨Ints.whole k1 rfl (by simp), ints_nil _, capok_slice _ _ _ (by omega) (by omega), capok_slice _ _ _ (by omega) (by omega)⟩
  · exact ⟨Ints.whole k2 rfl (by simp), ints_nil _, capok_slice _ _ _ (by omega) (by omega), capok_slice _ _ _ (by omega) (by omega)⟩
  · exact nd_zero_ok _
  · exact ⟨Ints.whole k3 rfl (by simp), ints_nil _, capok_slice _ _ _ (by omega) (by omega), capok_slice _ _ _ (by omega) (by omega)⟩
  · exact nd_zero_ok _
  · exact nd_zero_ok _
theorem sh6_below (w : World) : Below w.heap.size w (sh6W w) := ((((Below.refl _ w).alloc (Nat.le_refl _) _).alloc (by simp) _).alloc (by simp; omega) _).alloc (by simp; omega) _
theorem sh6_no (A : Nat) : ∀ z ∈ kfOf (sh6 A) (0 : Nat), kdOf (sh6 A) z.toNat ≠ 5 ∧ kdOf (sh6 A) z.toNat ≠ 4 := fun z hz => by
  have : kfOf (sh6 A) (0 : Nat) = [1, 2, 3] := rfl
  rw [this] at hz
  simp only [List.mem_cons, List.not_mem_nil, or_false] at hz
  rcases hz with rfl | rfl | rfl
  · exact ⟨(by decide : (8 : Int) ≠ 5), (by decide : (8 : Int) ≠ 4)⟩
  · exact ⟨(by decide : (9 : Int) ≠ 5), (by decide : (9 : Int) ≠ 4)⟩
  · exact ⟨(by decide : (6 : Int) ≠ 5), (by decide : (6 : Int) ≠ 4)⟩
theorem wp_build_run {P : Program} {o : Oper} {a : Act} {w X : World} {K : Act → World → Prop} {Q : Exit → Act → World → Prop} (t : TypeId) (n : Nat) (parts : Array (Nat × Operand)) (ho : o.op = .buildSlice t n parts) (r : Value)
    (hr : (Instr.buildSlice t n (parts.map fun (i, x) => (i, a.eval x))).run P w = .ok r X) (h : K (a.put o.dst r) X) : o.wp P a w K Q := by
  unfold Oper.wp execOp
  simp only [ho, Sem.run_bind, Sem.run_pure, Result.andThen_ok, hr]
  exact h
theorem sh6_bad (A : Nat) : lchkP (sh6 A) 1 = 2 := by rfl
set_option maxRecDepth 100000 in
set_option maxHeartbeats 4000000 in
theorem shown6_any (w : World) : Calls Try.prog 4 #[] w fun e W' => e = .returned (.bool true) ∧ Below w.heap.size w W' := by
  have HP := Lib.hid (page_sh6 w)
  have HB := Lib.hid (sh6_below w)
  have hk1 : ∀ n ∈ sh6 w.heap.size, n.ks.length ≤ 70000 := fun n hn => (sh6_kids _ n hn).1
  have F := fine_of (ns := sh6 w.heap.size) (by rw [sh6_check])
  have H1 := Lib.hid (show Calls Try.prog 10 #[.slice (some ⟨w.heap.size + 3, 0, none⟩) 6 6, .int .i64 0] (sh6W w) fun e W' => ∃ v, e = .returned (.tuple #[v, .int .i64 0]) ∧ OwnL (sh6W w).heap.size W' v [(5, 3), (2, -1), (4, 1)] ∧ Below (sh6W w).heap.size (sh6W w) W' from by
    have := rowsF_good _ 0 _ _ HP.out hk1 F (show 0 < 6 by omega) rfl
    rw [sh6_rows] at this
    exact this)
  have H2 := Lib.hid (fun (X : World) (hX : Below (sh6W w).heap.size (sh6W w) X) => show Calls Try.prog 6 #[.slice (some ⟨w.heap.size + 3, 0, none⟩) 6 6, .int .i64 0, .int .i64 2] X fun e W' => ∃ v, e = .returned (.tuple #[v, .int .i64 0]) ∧ OwnL X.heap.size W' v (bare 2) ∧ Below X.heap.size X W' from
    colsF_none _ 0 2 _ X (HP.out.below hX) (sh6_kids _) F (show 0 < 6 by omega) rfl (by omega) (sh6_no _))
  have H3 := Lib.hid (fun (X : World) (hX : Below (sh6W w).heap.size (sh6W w) X) => show Calls Try.prog 10 #[.slice (some ⟨w.heap.size + 3, 0, none⟩) 6 6, .int .i64 1] X fun e W' => e = .returned (.tuple #[.slice none 0 0, .int .i64 2]) ∧ Below X.heap.size X W' from by
    have := rowsF_not _ 1 _ X (HP.out.below hX) hk1 (by rw [sh6_bad]; decide)
    rw [sh6_bad] at this
    exact this)
  clear hk1 F
  go_enter Try.func4, Try.ntmps4
  go_wp2_with fail
  refine wp_build_run _ _ _ rfl (.slice (some ⟨(((w.alloc (.cells #[.int .i64 1, .int .i64 2, .int .i64 3] 3)).alloc (.cells #[.int .i64 4] 3)).alloc (.cells #[.int .i64 5] 3)).heap.size, 0, none⟩) 6 6) (X := sh6W w) (by kernel_rfl) ?_
  rw [show (((w.alloc (.cells #[.int .i64 1, .int .i64 2, .int .i64 3] 3)).alloc (.cells #[.int .i64 4] 3)).alloc (.cells #[.int .i64 5] 3)).heap.size = w.heap.size + 3 by simp]
  go_wp2_with fail
  refine H1.out.mono ?_
  clear H1
  rintro e w1 ⟨v1, rfl, ho1, hb1⟩
  have HL1 := Lib.hid ho1.lanes
  have HB1 := Lib.hid hb1
  clear ho1 hb1
  go_wp2_with fail
  refine (H2.out _ HB1.out).mono ?_
  clear H2
  rintro e w2 ⟨v2, rfl, ho2, hb2⟩
  obtain ⟨q2, c2, hv2⟩ := ho2.lanes.form
  have hv2 : v2 = .slice q2 2 c2 := hv2
  subst hv2
  have HL2 := Lib.hid (HL1.out.below hb2)
  have HB2 := Lib.hid (HB1.out.trans (hb2.mono HB1.out.size))
  clear ho2 hb2 HL1 HB1
  go_wp2_with fail
  refine (H3.out _ HB2.out).mono ?_
  clear H3
  rintro e w3 ⟨rfl, hb3⟩
  have HL3 := Lib.hid (HL2.out.below hb3)
  have HB3 := Lib.hid (HB2.out.trans (hb3.mono HB2.out.size))
  clear hb3 HL2 HB2
  go_wp2_with fail
  have hb4 : Below w3.heap.size w3 (w3.alloc (.cells #[.int .i64 5, .int .i64 3, .int .i64 2, .int .i64 (-1), .int .i64 4, .int .i64 1] 48)) := (Below.refl _ w3).alloc (Nat.le_refl _) _
  have HSM : Hid (Calls Try.prog 9 #[v1, .slice (some ⟨w3.heap.size, 0, none⟩) 3 3] (w3.alloc (.cells #[.int .i64 5, .int .i64 3, .int .i64 2, .int .i64 (-1), .int .i64 4, .int .i64 1] 48)) fun e W' => e = .returned (.bool true) ∧ Below w3.heap.size w3 W') := Lib.hid (by
    refine (lsame_any v1 _ [(5, 3), (2, -1), (4, 1)] [(5, 3), (2, -1), (4, 1)] _ (HL3.out.below hb4) (lanes_lit (t := 48) (whole_new w3 [.int .i64 5, .int .i64 3, .int .i64 2, .int .i64 (-1), .int .i64 4, .int .i64 1] 48 _ rfl) (by decide))).mono ?_
    rintro e w' ⟨rfl, hb⟩
    exact ⟨rfl, hb4.trans (hb.mono hb4.size)⟩)
  refine HSM.out.mono ?_
  clear HSM hb4
  rintro e w4 ⟨rfl, hb4⟩
  have HB4 := Lib.hid (HB3.out.trans (hb4.mono HB3.out.size))
  clear hb4
  go_wp2
  go_ret
  exact ⟨rfl, HB.out.trans (HB4.out.mono HB.out.size)⟩
end Go.Proofs.Ytgaclepoipaecaa
