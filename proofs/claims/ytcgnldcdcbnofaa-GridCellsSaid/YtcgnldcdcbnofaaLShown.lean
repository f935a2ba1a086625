/- Contract of lanes.Cols for a table of whose kids none is a column or a group of them. -/
/- The rows that every statement of layer 6 asks for first are known. -/
import Derived.Test.YtcgnldcdcbnofaaLSame
import Derived.Test.YtcgnldcdcbnofaaSSeq
import Derived.ScopeJumps
import Derived.WalkMore
import Derived.Test.YtcgnldcdcbnofaaTAlike
import Derived.Test.YtcgnldcdcbnofaaTComp
import Derived.Test.YtcgnldcdcbnofaaTShown
namespace Go.Proofs.Ytcgnldcdcbnofaa
open Go.RowKit Go.Shelf Go.Maps
set_option linter.unusedVariables false
attribute [local go_sem] Oper.semAt_some

def encSp (x : (Int × Int) × Int) : Array Value := #[.agg #[.int .i64 x.1.1, .int .i64 x.1.2], .int .i64 x.2]
/-- what the iterator of spans reads -/
structure SpanM (gl ga L o m cap p : Nat) (kv : Value) (ks : List Int) (kd : Nat → Int) (X : World) : Prop where
  lt : gl < X.heap.size ∧ ga < X.heap.size ∧ L < X.heap.size
  bl : X.cell? ⟨gl, 0, none⟩ = some (.slice (some ⟨L, o, none⟩) m cap)
  ba : X.cell? ⟨ga, 0, none⟩ = some (.int .i64 p)
  bk : X.cell? ⟨L, o + p * 34 + 1, none⟩ = some kv
  ints : Ints X kv ks
  kind : ∀ i, i < m → X.cell? ⟨L, o + i * 34, none⟩ = some (.int .i64 (kd i))
theorem SpanM.below {gl ga L o m cap p : Nat} {kv : Value} {ks : List Int} {kd : Nat → Int} {X Y : World} (h : SpanM gl ga L o m cap p kv ks kd X) (hb : Below X.heap.size X Y) : SpanM gl ga L o m cap p kv ks kd Y := by
  obtain ⟨h2, h3, h4, h5, h6, h8⟩ := h
  have := hb.size
  exact ⟨by omega, (hb.cell (p := ⟨gl, 0, none⟩) h2.1).trans h3, (hb.cell (p := ⟨ga, 0, none⟩) h2.2.1).trans h4, (hb.cell (p := ⟨L, o + p * 34 + 1, none⟩) h2.2.2).trans h5, h6.below hb, fun i hi => (hb.cell (p := ⟨L, o + i * 34, none⟩) h2.2.2).trans (h8 i hi)⟩
def S0I (R : World → Prop) (W : World) (pre : List (Int × Int)) (X : World) : Prop := R X ∧ Below W.heap.size W X
end Go.Proofs.Ytcgnldcdcbnofaa

namespace Go.Proofs.Ytcgnldcdcbnofaa
open Go.RowKit Go.Shelf Go.Maps
set_option linter.unusedVariables false
attribute [local go_sem] Oper.semAt_some

theorem kd_same {ns ns' : List Nd} (h : ns'.map Nd.k = ns.map Nd.k) : kdOf ns' = kdOf ns := by
  funext i
  unfold kdOf
  have := congrArg (fun l => l[i]?) h
  simp only [List.getElem?_map] at this
  rw [this]
/-- more lanes onto a list in a box: the append, and the store -/
theorem box_step {NR base : Nat} {v : Value} {E : List (Int × Int)} {V Z : World} (lb : Whole V NR 66 [v]) (own : OwnL base V v E) (hz : Below V.heap.size V Z) (hb : base ≤ V.heap.size)
    (E2 : List (Int × Int)) (q : Option Addr) (c : Nat) (hq : q = none → E2.length = 0) (hc : ∀ a, q = some a → ∀ j u, (E2.flatMap encL)[j]? = some u → Z.cell? (a.add j) = some u) (hE : E.length + E2.length ≤ 4000000000000) :
    ∃ v' X2, (Builtin.append_ #[66, 66] 66 #[v, .slice q E2.length c]).run Try.prog Z = .ok v' X2 ∧ (∃ p2 c2, v' = .slice p2 (E ++ E2).length c2) ∧ Whole X2 NR 66 [v] ∧
      Whole (X2.setCell ⟨NR, 0, none⟩ v') NR 66 [v'] ∧ OwnL base (X2.setCell ⟨NR, 0, none⟩ v') v' (E ++ E2) ∧ KeepsOthers V (X2.setCell ⟨NR, 0, none⟩ v') ∧
      (∀ (g t : Nat) (zs : List Value), Whole V g t zs → t ≠ 70 → g ≠ NR → Whole X2 g t zs ∧ Whole (X2.setCell ⟨NR, 0, none⟩ v') g t zs) ∧
      (∀ (B : Nat) (w : World), B ≤ base → B ≤ NR → Below B w V → Below B w (X2.setCell ⟨NR, 0, none⟩ v')) ∧ (v'.ownBlock = v.ownBlock ∨ v'.ownBlock = some Z.heap.size) ∧
      (∀ (a : Addr) (u : Value), V.cell? a = some u → a.block ≠ NR → v.ownBlock ≠ some a.block → (X2.setCell ⟨NR, 0, none⟩ v').cell? a = some u) := by
  have hZl : Whole Z NR 66 [v] := lb.below hz lb.lt
  have hZo : Z.ownsRow base 70 2 v E.length (E.flatMap encL) := own_belowN own hz
  have hNV : base ≤ Z.heap.size := by have := hz.size; omega
  obtain ⟨i0, hi0, hz0, hz1, hz2⟩ := info_parts Try.infoLane
  obtain ⟨v', X2, hr, ho, hg, hv⟩ := run_append_any (w := Z) base 66 66 70 i0 _ 2 16 Try.underlying66 hi0 hz0 hz1 hz2 rfl (by decide) v E.length (E.flatMap encL) hZo q E2.length c (E2.flatMap encL) (encL_len E2) hq hc (encL_one E2) (by unfold maxLen; omega) (by omega) hNV
  have hlb : Whole X2 NR 66 [v] := hZl.grown hg (whole_own hZl hZo (by decide))
  have hO2 : OwnL base X2 v' (E ++ E2) := by
    unfold OwnL
    rw [List.length_append, List.flatMap_append]
    exact ho
  have hO3 : OwnL base (X2.setCell ⟨NR, 0, none⟩ v') v' (E ++ E2) := own_setCell (o := 0) (u := v') hO2 (whole_own hlb hO2 (by decide))
  obtain ⟨p2, c2, e2, _⟩ := own_src hO2
  refine ⟨v', X2, hr, ⟨p2, c2, e2⟩, hlb, hlb.set 0 v', hO3, ?_, fun g t zs hw ht hn => ?_, fun B w h1 h2 h3 => ?_, hv, fun a u hau hab hob => ?_⟩
  · exact (⟨hz.size, fun j o hj _ => (hz.block j (Array.getElem?_eq_some_iff.1 hj).1).trans hj⟩ : KeepsOthers V Z).trans ((own_keeps hZo hg).trans (KeepsOthers.setCell _ _ _))
  · have h1 := hw.below hz hw.lt
    have h2 : Whole X2 g t zs := h1.grown hg (whole_own h1 hZo ht)
    exact ⟨h2, h2.other _ _ hn⟩
  · exact ((h3.trans (hz.mono (by omega))).grown hg (by omega) (fun g e => by have := (hZo.lt g e).1; omega)).setCell (p := ⟨NR, 0, none⟩) h2 _
  · have e1 : Z.cell? a = some u := (hz.cell (p := a) (cell_lt hau)).trans hau
    have e2 := hg.cell e1 (fun e => hob e.symm)
    rw [World.cell?_setCell_other _ _ _ _ (fun e => hab (by rw [← e]))]
    exact e2
/-- so many columns without a node -/
def bare (k : Nat) : List (Int × Int) := List.replicate k (-1, -1)
def lenAt (NR : Nat) (X : World) : Nat := match X.cell? ⟨NR, 0, none⟩ with | some (.slice _ l _) => l | _ => 0
theorem lenAt_of {NR : Nat} {X : World} {p : Option Addr} {l c : Nat} (h : Whole X NR 66 [.slice p l c]) : lenAt NR X = l := by
  have := h.cellAt 0
  unfold lenAt
  simp at this
  rw [this]
theorem bare_succ (t : Nat) : bare (t + 1) = bare t ++ [(-1, -1)] := List.replicate_succ'
/-- the state of the last loop -/
structure BareW (N NR base D : Nat) (v : Value) (E : List (Int × Int)) (w X : World) : Prop where
  r0 : Whole X N 66 [.slice none 0 0]
  r1 : Whole X (N + 1) 27 [.int .i64 0]
  lb : Whole X NR 66 [v]
  own : OwnL base X v E
  low : Below N w X
  mkd : X.heap[D]? = some (.deferred (some []))
def C0I (N NR base : Nat) (v : Value) (E : List (Int × Int)) (w : World) (pre : List ((Int × Int) × Int)) (X : World) : Prop :=
  pre = [] ∧ Whole X N 66 [.slice none 0 0] ∧ Whole X (N + 1) 27 [.int .i64 0] ∧ Whole X NR 66 [v] ∧ OwnL base X v E ∧ Below w.heap.size w X
end Go.Proofs.Ytcgnldcdcbnofaa

namespace Go.Proofs.Ytcgnldcdcbnofaa
open Go.RowKit Go.Shelf Go.Maps
set_option linter.unusedVariables false
attribute [local go_sem] Oper.semAt_some

def ndK (k : Int) (kv : Value) (ks : List Int) : Nd := { Nd.zero with k := k, kv := kv, ks := ks }
def sh6 (A : Nat) : List Nd := [ndK 2 (.slice (some ⟨A, 0, none⟩) 3 3) [1, 2, 3], ndK 8 (.slice (some ⟨A + 1, 0, none⟩) 1 1) [4], { Nd.zero with k := 9 }, ndK 6 (.slice (some ⟨A + 2, 0, none⟩) 1 1) [5], { Nd.zero with k := 9 }, { Nd.zero with k := 9 }]
theorem sh6_check (A : Nat) : checkP (sh6 A) = (0, 0) := by rfl
theorem sh6_rows (A : Nat) : rowsP (sh6 A) (0 : Nat) = [(5, 3), (2, -1), (4, 1)] := by rfl
theorem sh6_kids (A : Nat) : ∀ n ∈ sh6 A, n.ks.length ≤ 70000 ∧ n.ws.length ≤ 70000 := fun n hn => by
  simp only [sh6, List.mem_cons, List.not_mem_nil, or_false] at hn
  rcases hn with rfl | rfl | rfl | rfl | rfl | rfl <;> simp [ndK, Nd.zero]
def sh6W (w : World) : World := (((w.alloc (.cells #[.int .i64 1, .int .i64 2, .int .i64 3] 3)).alloc (.cells #[.int .i64 4] 3)).alloc (.cells #[.int .i64 5] 3)).alloc (.cells ((sh6 w.heap.size).flatMap Nd.cells).toArray 65)
theorem page_sh6 (w : World) : PageAt (sh6W w) (.slice (some ⟨w.heap.size + 3, 0, none⟩) 6 6) (sh6 w.heap.size) := by
  have k1 : Whole (sh6W w) w.heap.size 3 [.int .i64 1, .int .i64 2, .int .i64 3] := (((whole_new w [.int .i64 1, .int .i64 2, .int .i64 3] 3 _ rfl).alloc _).alloc _).alloc _
  have k2 : Whole (sh6W w) (w.heap.size + 1) 3 [.int .i64 4] := ((whole_new (w.alloc (.cells #[.int .i64 1, .int .i64 2, .int .i64 3] 3)) [.int .i64 4] 3 _ (by simp)).alloc _).alloc _
  have k3 : Whole (sh6W w) (w.heap.size + 2) 3 [.int .i64 5] := (whole_new ((w.alloc (.cells #[.int .i64 1, .int .i64 2, .int .i64 3] 3)).alloc (.cells #[.int .i64 4] 3)) [.int .i64 5] 3 _ (by simp)).alloc _
  refine page_flat (t := 65) (whole_new (((w.alloc (.cells #[.int .i64 1, .int .i64 2, .int .i64 3] 3)).alloc (.cells #[.int .i64 4] 3)).alloc (.cells #[.int .i64 5] 3)) ((sh6 w.heap.size).flatMap Nd.cells) 65 _ (by simp)) rfl (by omega) (fun n hn => ?_)
  simp only [sh6, List.mem_cons, List.not_mem_nil, or_false] at hn
  rcases hn with rfl | rfl | rfl | rfl | rfl | rfl
  · exact ⟨Ints.whole k1 rfl (by simp), ints_nil _, capok_slice _ _ _ (by omega) (by omega), capok_slice _ _ _ (by omega) (by omega)⟩
  · exact ⟨Ints.whole k2 rfl (by simp), ints_nil _, capok_slice _ _ _ (by omega) (by omega), capok_slice _ _ _ (by omega) (by omega)⟩
  · exact nd_zero_ok _
  · exact ⟨Ints.whole k3 rfl (by simp), ints_nil _, capok_slice _ _ _ (by omega) (by omega), capok_slice _ _ _ (by omega) (by omega)⟩
  · exact nd_zero_ok _
  · exact nd_zero_ok _
theorem sh6_below (w : World) : Below w.heap.size w (sh6W w) := ((((Below.refl _ w).alloc (Nat.le_refl _) _).alloc (by simp) _).alloc (by simp; omega) _).alloc (by simp; omega) _
theorem sh6_no (A : Nat) : ∀ z ∈ kfOf (sh6 A) (0 : Nat), kdOf (sh6 A) z.toNat ≠ 5 ∧ kdOf (sh6 A) z.toNat ≠ 4 := fun z hz => by
  have : kfOf (sh6 A) (0 : Nat) = [1, 2, 3] := rfl
  rw [this] at hz
  simp only [List.mem_cons, List.not_mem_nil, or_false] at hz
  rcases hz with rfl | rfl | rfl
  · exact ⟨(by decide : (8 : Int) ≠ 5), (by decide : (8 : Int) ≠ 4)⟩
  · exact ⟨(by decide : (9 : Int) ≠ 5), (by decide : (9 : Int) ≠ 4)⟩
  · exact ⟨(by decide : (6 : Int) ≠ 5), (by decide : (6 : Int) ≠ 4)⟩
theorem wp_build_run {P : Program} {o : Oper} {a : Act} {w X : World} {K : Act → World → Prop} {Q : Exit → Act → World → Prop} (t : TypeId) (n : Nat) (parts : Array (Nat × Operand)) (ho : o.op = .buildSlice t n parts) (r : Value)
    (hr : (Instr.buildSlice t n (parts.map fun (i, x) => (i, a.eval x))).run P w = .ok r X) (h : K (a.put o.dst r) X) : o.wp P a w K Q := by
  unfold Oper.wp execOp
  simp only [ho, Sem.run_bind, Sem.run_pure, Result.andThen_ok, hr]
  exact h
theorem sh6_bad (A : Nat) : lchkP (sh6 A) 1 = 2 := by rfl
end Go.Proofs.Ytcgnldcdcbnofaa
