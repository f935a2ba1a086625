/- A style as an argument: opened, and shut again. -/
import Derived.Test.YtecnapecmioamaaSPlain
import Derived.Lib.SmallJoins
import Derived.Laws.IdiomArrays
import Derived.ProofKit
import Derived.OpenShut
namespace Go.Proofs.Ytecnapecmioamaa
open Go.ChangeShapes Go.WideShapes Go.ChangeAt Go.RowKit Go.Joins
set_option linter.unusedVariables false

theorem Try.cellsSty : Try.prog.cellsOf 44 = 29 := by kernel_rfl
theorem Try.cellsSize : Try.prog.cellsOf 36 = 2 := by kernel_rfl
theorem Try.cellsLine : Try.prog.cellsOf 40 = 3 := by kernel_rfl
theorem Try.cellsLines : Try.prog.cellsOf 41 = 12 := by kernel_rfl
theorem Try.cellsPads : Try.prog.cellsOf 37 = 4 := by kernel_rfl
theorem Try.cellsGaps : Try.prog.cellsOf 42 = 2 := by kernel_rfl
theorem Try.cellsI64 : Try.prog.cellsOf 2 = 1 := by kernel_rfl
theorem Try.cellsInt : Try.prog.cellsOf 3 = 1 := by kernel_rfl
theorem Try.cellsU32 : Try.prog.cellsOf 38 = 1 := by kernel_rfl
theorem Try.cellsBool : Try.prog.cellsOf 4 = 1 := by kernel_rfl
def wf64 (n : Int) : Prop := (Lit.int .i64 n).wf = true
/-- each of its numbers fits -/
def Sty.wf (s : Sty) : Prop :=
  (wf64 s.wk ∧ wf64 s.wn ∧ wf64 s.hk ∧ wf64 s.hn) ∧ (∀ k, k < 4 → wf64 (s.sd k).p ∧ wf64 (s.sd k).s ∧ wf64 (s.sd k).w ∧ (Lit.int .u32 (s.sd k).c).wf = true) ∧ wf64 s.cs ∧ wf64 s.rs ∧ wf64 s.al ∧ wf64 s.g0 ∧ wf64 s.g1
def lit64 {H : Type} (n : Int) : DataW H := .lit (.int .i64 n)
def Sty.data {H : Type} (s : Sty) : DataW H :=
  .agg [.agg [lit64 s.wk, lit64 s.wn], .agg [lit64 s.hk, lit64 s.hn], .agg [lit64 (s.sd 0).p, lit64 (s.sd 1).p, lit64 (s.sd 2).p, lit64 (s.sd 3).p],
    .agg [.agg [lit64 (s.sd 0).s, lit64 (s.sd 0).w, .lit (.int .u32 (s.sd 0).c)], .agg [lit64 (s.sd 1).s, lit64 (s.sd 1).w, .lit (.int .u32 (s.sd 1).c)], .agg [lit64 (s.sd 2).s, lit64 (s.sd 2).w, .lit (.int .u32 (s.sd 2).c)], .agg [lit64 (s.sd 3).s, lit64 (s.sd 3).w, .lit (.int .u32 (s.sd 3).c)]],
    lit64 s.cs, lit64 s.rs, lit64 s.al, .lit (.bool s.fx), .lit (.bool s.cl), .agg [lit64 s.g0, lit64 s.g1], .lit (.bool s.hd), .lit (.bool s.bl)]
section
variable {H : Type} {P : Program} {enc : TypeId × Value → H} {w : World} {base : Nat} {spare : Nat → Bool} {held : Bool}
theorem mapM_inv {α β : Type} {f : α → Option β} {a : α} {l : List α} {ys : List β} (h : (a :: l).mapM f = some ys) : ∃ y zs, f a = some y ∧ l.mapM f = some zs ∧ ys = y :: zs := by
  rw [List.mapM_cons] at h
  cases hf : f a with
  | none => simp [hf] at h
  | some y =>
    cases hl : l.mapM f with
    | none => simp [hf, hl] at h
    | some zs => simp [hf, hl] at h; exact ⟨y, zs, rfl, rfl, h.symm⟩
theorem mapM_mk {α β : Type} {f : α → Option β} {a : α} {l : List α} {y : β} {zs : List β} (h : f a = some y) (h' : l.mapM f = some zs) : (a :: l).mapM f = some (y :: zs) := by
  rw [List.mapM_cons, h, h']; rfl
theorem mapM_end {α β : Type} {f : α → Option β} {ys : List β} (h : ([] : List α).mapM f = some ys) : ys = [] := by simpa using h.symm
theorem trod_struct_inv {t : TypeId} {fs : Array Field} {fuel : Nat} {cs : List Value} {x : DataW H × List MemPlace} (ht : P.underlying t = some (.struct fs)) (h : DataW.trod enc P w base spare held fuel t cs = some x) :
    ∃ n xs, x = (.agg (xs.map (·.1)), xs.flatMap (·.2)) ∧ fs.toList.mapM (fun f => DataW.trod enc P w base spare held n f.type ((cs.drop f.offset).take (P.cellsOf f.type))) = some xs := by
  cases fuel with
  | zero => simp [DataW.trod] at h
  | succ n =>
    unfold DataW.trod at h
    rw [ht] at h
    dsimp only at h
    split at h
    · obtain ⟨xs, h1, h2⟩ := Option.map_eq_some_iff.1 h
      exact ⟨n, xs, h2.symm, h1⟩
    · cases h
theorem trod_array_inv {t e : TypeId} {m fuel : Nat} {cs : List Value} {x : DataW H × List MemPlace} (ht : P.underlying t = some (.array m e)) (h : DataW.trod enc P w base spare held fuel t cs = some x) :
    ∃ n xs, x = (.agg (xs.map (·.1)), xs.flatMap (·.2)) ∧ (List.range m).mapM (fun i => DataW.trod enc P w base spare held n e ((cs.drop (i * P.cellsOf e)).take (P.cellsOf e))) = some xs := by
  cases fuel with
  | zero => simp [DataW.trod] at h
  | succ n =>
    unfold DataW.trod at h
    rw [ht] at h
    dsimp only at h
    split at h
    · obtain ⟨xs, h1, h2⟩ := Option.map_eq_some_iff.1 h
      exact ⟨n, xs, h2.symm, h1⟩
    · cases h
theorem trod_struct_mk {t : TypeId} {fs : Array Field} {n : Nat} {cs : List Value} {xs : List (DataW H × List MemPlace)} (ht : P.underlying t = some (.struct fs)) (hl : cs.length = P.cellsOf t)
    (h : fs.toList.mapM (fun f => DataW.trod enc P w base spare held n f.type ((cs.drop f.offset).take (P.cellsOf f.type))) = some xs) : DataW.trod enc P w base spare held (n + 1) t cs = some (.agg (xs.map (·.1)), xs.flatMap (·.2)) := by
  unfold DataW.trod
  rw [ht]
  dsimp only
  rw [if_pos hl, h]; rfl
theorem trod_array_mk {t e : TypeId} {m n : Nat} {cs : List Value} {xs : List (DataW H × List MemPlace)} (ht : P.underlying t = some (.array m e)) (hl : cs.length = P.cellsOf t)
    (h : (List.range m).mapM (fun i => DataW.trod enc P w base spare held n e ((cs.drop (i * P.cellsOf e)).take (P.cellsOf e))) = some xs) : DataW.trod enc P w base spare held (n + 1) t cs = some (.agg (xs.map (·.1)), xs.flatMap (·.2)) := by
  unfold DataW.trod
  rw [ht]
  dsimp only
  rw [if_pos hl, h]; rfl
theorem trod_bool_mk {t : TypeId} {b : Bool} (m : Nat) (ht : P.underlying t = some .bool) : DataW.trod enc P w base spare held (m + 1) t [.bool b] = some (.lit (.bool b), []) := by
  unfold DataW.trod; rw [ht]
end
section
variable {H : Type} {enc : TypeId × Value → H} {w : World} {base : Nat} {spare : Nat → Bool} {held : Bool}
theorem open_size {n : Nat} {c0 c1 : Value} {x : DataW H × List MemPlace} (h : DataW.trod enc Try.prog w base spare held n 36 [c0, c1] = some x) :
    ∃ k m, c0 = .int .i64 k ∧ c1 = .int .i64 m ∧ x = (.agg [lit64 k, lit64 m], []) ∧ wf64 k ∧ wf64 m := by
  obtain ⟨n, xs, rfl, hm⟩ := trod_struct_inv Try.underlying36 h
  obtain ⟨y0, z0, h0, hm_1, rfl⟩ := mapM_inv hm
  obtain ⟨y1, z1, h1, hm_2, rfl⟩ := mapM_inv hm_1
  obtain rfl := mapM_end hm_2
  simp [Try.cellsInt, Try.cellsI64] at h0 h1
  obtain ⟨k, e0, rfl, w0⟩ := DataW.trod_int Try.underlying3 h0
  obtain ⟨m, e1, rfl, w1⟩ := DataW.trod_int Try.underlying2 h1
  simp at e0 e1
  exact ⟨k, m, e0, e1, rfl, w0, w1⟩
theorem open_line {n : Nat} {c0 c1 c2 : Value} {x : DataW H × List MemPlace} (h : DataW.trod enc Try.prog w base spare held n 40 [c0, c1, c2] = some x) :
    ∃ s v c, c0 = .int .i64 s ∧ c1 = .int .i64 v ∧ c2 = .int .u32 c ∧ x = (.agg [lit64 s, lit64 v, .lit (.int .u32 c)], []) ∧ wf64 s ∧ wf64 v ∧ (Lit.int .u32 c).wf = true := by
  obtain ⟨n, xs, rfl, hm⟩ := trod_struct_inv Try.underlying40 h
  obtain ⟨y0, z0, h0, hm_3, rfl⟩ := mapM_inv hm
  obtain ⟨y1, z1, h1, hm_4, rfl⟩ := mapM_inv hm_3
  obtain ⟨y2, z2, h2, hm_5, rfl⟩ := mapM_inv hm_4
  obtain rfl := mapM_end hm_5
  simp [Try.cellsInt, Try.cellsI64, Try.cellsU32] at h0 h1 h2
  obtain ⟨k, e0, rfl, w0⟩ := DataW.trod_int Try.underlying3 h0
  obtain ⟨m, e1, rfl, w1⟩ := DataW.trod_int Try.underlying2 h1
  obtain ⟨c, e2, rfl, w2⟩ := DataW.trod_int Try.underlying38 h2
  simp at e0 e1 e2
  exact ⟨k, m, c, e0, e1, e2, rfl, w0, w1, w2⟩
theorem shut_size (n : Nat) (k m : Int) (w0 : wf64 k) (w1 : wf64 m) : DataW.trod enc Try.prog w base spare held (n + 2) 36 [.int .i64 k, .int .i64 m] = some (.agg [lit64 k, lit64 m], []) :=
  trod_struct_mk (xs := [(lit64 k, []), (lit64 m, [])]) Try.underlying36 Try.cellsSize.symm
    (mapM_mk (by simp [Try.cellsInt]; exact trod_int_mk n Try.underlying3 w0) (mapM_mk (by simp [Try.cellsI64]; exact trod_int_mk n Try.underlying2 w1) rfl))
theorem shut_line (n : Nat) (k m c : Int) (w0 : wf64 k) (w1 : wf64 m) (w2 : (Lit.int .u32 c).wf = true) : DataW.trod enc Try.prog w base spare held (n + 2) 40 [.int .i64 k, .int .i64 m, .int .u32 c] = some (.agg [lit64 k, lit64 m, .lit (.int .u32 c)], []) :=
  trod_struct_mk (xs := [(lit64 k, []), (lit64 m, []), (.lit (.int .u32 c), [])]) Try.underlying40 Try.cellsLine.symm
    (mapM_mk (by simp [Try.cellsInt]; exact trod_int_mk n Try.underlying3 w0) (mapM_mk (by simp [Try.cellsI64]; exact trod_int_mk n Try.underlying2 w1) (mapM_mk (by simp [Try.cellsU32]; exact trod_int_mk n Try.underlying38 w2) rfl)))
theorem list29 {l : List Value} (h : l.length = 29) : ∃ c0 c1 c2 c3 c4 c5 c6 c7 c8 c9 c10 c11 c12 c13 c14 c15 c16 c17 c18 c19 c20 c21 c22 c23 c24 c25 c26 c27 c28, l = [c0, c1, c2, c3, c4, c5, c6, c7, c8, c9, c10, c11, c12, c13, c14, c15, c16, c17, c18, c19, c20, c21, c22, c23, c24, c25, c26, c27, c28] := by
  cases l with
  | nil => simp at h
  | cons c0 l =>
    have h := Nat.succ.inj h
    cases l with
    | nil => simp at h
    | cons c1 l =>
      have h := Nat.succ.inj h
      cases l with
      | nil => simp at h
      | cons c2 l =>
        have h := Nat.succ.inj h
        cases l with
        | nil => simp at h
        | cons c3 l =>
          have h := Nat.succ.inj h
          cases l with
          | nil => simp at h
          | cons c4 l =>
            have h := Nat.succ.inj h
            cases l with
            | nil => simp at h
            | cons c5 l =>
              have h := Nat.succ.inj h
              cases l with
              | nil => simp at h
              | cons c6 l =>
                have h := Nat.succ.inj h
                cases l with
                | nil => simp at h
                | cons c7 l =>
                  have h := Nat.succ.inj h
                  cases l with
                  | nil => simp at h
                  | cons c8 l =>
                    have h := Nat.succ.inj h
                    cases l with
                    | nil => simp at h
                    | cons c9 l =>
                      have h := Nat.succ.inj h
                      cases l with
                      | nil => simp at h
                      | cons c10 l =>
                        have h := Nat.succ.inj h
                        cases l with
                        | nil => simp at h
                        | cons c11 l =>
                          have h := Nat.succ.inj h
                          cases l with
                          | nil => simp at h
                          | cons c12 l =>
                            have h := Nat.succ.inj h
                            cases l with
                            | nil => simp at h
                            | cons c13 l =>
                              have h := Nat.succ.inj h
                              cases l with
                              | nil => simp at h
                              | cons c14 l =>
                                have h := Nat.succ.inj h
                                cases l with
                                | nil => simp at h
                                | cons c15 l =>
                                  have h := Nat.succ.inj h
                                  cases l with
                                  | nil => simp at h
                                  | cons c16 l =>
                                    have h := Nat.succ.inj h
                                    cases l with
                                    | nil => simp at h
                                    | cons c17 l =>
                                      have h := Nat.succ.inj h
                                      cases l with
                                      | nil => simp at h
                                      | cons c18 l =>
                                        have h := Nat.succ.inj h
                                        cases l with
                                        | nil => simp at h
                                        | cons c19 l =>
                                          have h := Nat.succ.inj h
                                          cases l with
                                          | nil => simp at h
                                          | cons c20 l =>
                                            have h := Nat.succ.inj h
                                            cases l with
                                            | nil => simp at h
                                            | cons c21 l =>
                                              have h := Nat.succ.inj h
                                              cases l with
                                              | nil => simp at h
                                              | cons c22 l =>
                                                have h := Nat.succ.inj h
                                                cases l with
                                                | nil => simp at h
                                                | cons c23 l =>
                                                  have h := Nat.succ.inj h
                                                  cases l with
                                                  | nil => simp at h
                                                  | cons c24 l =>
                                                    have h := Nat.succ.inj h
                                                    cases l with
                                                    | nil => simp at h
                                                    | cons c25 l =>
                                                      have h := Nat.succ.inj h
                                                      cases l with
                                                      | nil => simp at h
                                                      | cons c26 l =>
                                                        have h := Nat.succ.inj h
                                                        cases l with
                                                        | nil => simp at h
                                                        | cons c27 l =>
                                                          have h := Nat.succ.inj h
                                                          cases l with
                                                          | nil => simp at h
                                                          | cons c28 l =>
                                                            have h := Nat.succ.inj h
                                                            obtain rfl := List.length_eq_zero_iff.1 h
                                                            exact ⟨c0, c1, c2, c3, c4, c5, c6, c7, c8, c9, c10, c11, c12, c13, c14, c15, c16, c17, c18, c19, c20, c21, c22, c23, c24, c25, c26, c27, c28, rfl⟩
set_option maxRecDepth 100000 in
set_option maxHeartbeats 2000000 in
theorem open_sty {r : Reach} {b0 : Nat} {v : Value} {d : DataW H} {p : List MemPlace} (hv : Value.okWide Try.prog w r b0 44 v) (h : DataW.Trod enc Try.prog w base spare held 44 v d p) :
    ∃ q : Sty, v = q.val ∧ d = q.data ∧ p = [] ∧ q.wf := by
  obtain ⟨cs, rfl, hsz⟩ := okWide_struct Try.underlying44 hv
  obtain ⟨l⟩ := cs
  obtain ⟨c0, c1, c2, c3, c4, c5, c6, c7, c8, c9, c10, c11, c12, c13, c14, c15, c16, c17, c18, c19, c20, c21, c22, c23, c24, c25, c26, c27, c28, rfl⟩ := list29 (l := l) (by simpa [Try.cellsSty] using hsz)
  obtain ⟨fuel, hf⟩ := h
  obtain ⟨n, xs, hx, hm⟩ := trod_struct_inv Try.underlying44 hf
  obtain ⟨y0, z0, h0, hm_0, rfl⟩ := mapM_inv hm
  obtain ⟨y1, z1, h1, hm_1, rfl⟩ := mapM_inv hm_0
  obtain ⟨y2, z2, h2, hm_2, rfl⟩ := mapM_inv hm_1
  obtain ⟨y3, z3, h3, hm_3, rfl⟩ := mapM_inv hm_2
  obtain ⟨y4, z4, h4, hm_4, rfl⟩ := mapM_inv hm_3
  obtain ⟨y5, z5, h5, hm_5, rfl⟩ := mapM_inv hm_4
  obtain ⟨y6, z6, h6, hm_6, rfl⟩ := mapM_inv hm_5
  obtain ⟨y7, z7, h7, hm_7, rfl⟩ := mapM_inv hm_6
  obtain ⟨y8, z8, h8, hm_8, rfl⟩ := mapM_inv hm_7
  obtain ⟨y9, z9, h9, hm_9, rfl⟩ := mapM_inv hm_8
  obtain ⟨y10, z10, h10, hm_10, rfl⟩ := mapM_inv hm_9
  obtain ⟨y11, z11, h11, hm_11, rfl⟩ := mapM_inv hm_10
  obtain rfl := mapM_end hm_11
  simp [Try.cellsSize, Try.cellsPads, Try.cellsLines, Try.cellsInt, Try.cellsBool, Try.cellsGaps, Value.cells] at h0 h1 h2 h3 h4 h5 h6 h7 h8 h9 h10 h11
  obtain ⟨wk, wn, rfl, rfl, rfl, a0, a1⟩ := open_size h0
  obtain ⟨hk, hn, rfl, rfl, rfl, a2, a3⟩ := open_size h1
  obtain ⟨u0, u1, u2, u3, n2, hx2, p0, p1, p2, p3⟩ := trod_array4 Try.underlying37 Try.cellsI64 h2
  obtain ⟨q0, e0, rfl, b0⟩ := DataW.trod_int Try.underlying2 p0
  obtain ⟨q1, e1, rfl, b1⟩ := DataW.trod_int Try.underlying2 p1
  obtain ⟨q2, e2, rfl, b2⟩ := DataW.trod_int Try.underlying2 p2
  obtain ⟨q3, e3, rfl, b3⟩ := DataW.trod_int Try.underlying2 p3
  obtain ⟨n3, xs3, rfl, hm3⟩ := trod_array_inv Try.underlying41 h3
  rw [show List.range 4 = [0, 1, 2, 3] from rfl] at hm3
  obtain ⟨l0, t0, g0, hm3_6, rfl⟩ := mapM_inv hm3
  obtain ⟨l1, t1, g1, hm3_7, rfl⟩ := mapM_inv hm3_6
  obtain ⟨l2, t2, g2, hm3_8, rfl⟩ := mapM_inv hm3_7
  obtain ⟨l3, t3, g3, hm3_9, rfl⟩ := mapM_inv hm3_8
  obtain rfl := mapM_end hm3_9
  simp [Try.cellsLine] at g0 g1 g2 g3
  obtain ⟨s0, w0, k0, rfl, rfl, rfl, rfl, f0, f1, f2⟩ := open_line g0
  obtain ⟨s1, w1, k1, rfl, rfl, rfl, rfl, f3, f4, f5⟩ := open_line g1
  obtain ⟨s2, w2, k2, rfl, rfl, rfl, rfl, f6, f7, f8⟩ := open_line g2
  obtain ⟨s3, w3, k3, rfl, rfl, rfl, rfl, f9, f10, f11⟩ := open_line g3
  obtain ⟨cs, e4, rfl, b4⟩ := DataW.trod_int Try.underlying3 h4
  obtain ⟨rs, e5, rfl, b5⟩ := DataW.trod_int Try.underlying3 h5
  obtain ⟨al, e6, rfl, b6⟩ := DataW.trod_int Try.underlying3 h6
  obtain ⟨fx, e7, rfl⟩ := DataW.trod_bool Try.underlying4 h7
  obtain ⟨cl, e8, rfl⟩ := DataW.trod_bool Try.underlying4 h8
  obtain ⟨n9, xs9, rfl, hm9⟩ := trod_array_inv Try.underlying42 h9
  rw [show List.range 2 = [0, 1] from rfl] at hm9
  obtain ⟨m0, t4, g4, hm9_10, rfl⟩ := mapM_inv hm9
  obtain ⟨m1, t5, g5, hm9_11, rfl⟩ := mapM_inv hm9_10
  obtain rfl := mapM_end hm9_11
  simp [Try.cellsI64] at g4 g5
  obtain ⟨ga, e9, rfl, b9⟩ := DataW.trod_int Try.underlying2 g4
  obtain ⟨gb, e10, rfl, b10⟩ := DataW.trod_int Try.underlying2 g5
  obtain ⟨hd, e11, rfl⟩ := DataW.trod_bool Try.underlying4 h10
  obtain ⟨bl, e12, rfl⟩ := DataW.trod_bool Try.underlying4 h11
  simp at e0 e1 e2 e3 e4 e5 e6 e7 e8 e9 e10 e11 e12
  subst e0 e1 e2 e3 e4 e5 e6 e7 e8 e9 e10 e11 e12
  subst hx2
  simp only [Prod.mk.injEq] at hx
  obtain ⟨rfl, rfl⟩ := hx
  refine ⟨⟨wk, wn, hk, hn, fun k => if k = 0 then ⟨q0, s0, w0, k0⟩ else if k = 1 then ⟨q1, s1, w1, k1⟩ else if k = 2 then ⟨q2, s2, w2, k2⟩ else ⟨q3, s3, w3, k3⟩, cs, rs, al, fx, cl, ga, gb, hd, bl⟩, rfl, rfl, rfl, ⟨a0, a1, a2, a3⟩, ?_, b4, b5, b6, b9, b10⟩
  intro k hk4
  obtain rfl | rfl | rfl | rfl : k = 0 ∨ k = 1 ∨ k = 2 ∨ k = 3 := by omega
  · exact ⟨b0, f0, f1, f2⟩
  · exact ⟨b1, f3, f4, f5⟩
  · exact ⟨b2, f6, f7, f8⟩
  · exact ⟨b3, f9, f10, f11⟩
set_option maxRecDepth 100000 in
set_option maxHeartbeats 2000000 in
theorem shut_sty (q : Sty) (hq : q.wf) : DataW.Trod enc Try.prog w base spare held 44 q.val q.data [] := by
  obtain ⟨⟨a0, a1, a2, a3⟩, hs, b4, b5, b6, b9, b10⟩ := hq
  obtain ⟨x0, x1, x2, x3⟩ := hs 0 (by omega)
  obtain ⟨y0, y1, y2, y3⟩ := hs 1 (by omega)
  obtain ⟨u0, u1, u2, u3⟩ := hs 2 (by omega)
  obtain ⟨v0, v1, v2, v3⟩ := hs 3 (by omega)
  refine ⟨4, ?_⟩
  rw [q.val_lit]
  refine trod_struct_mk (xs := [(.agg [lit64 q.wk, lit64 q.wn], []), (.agg [lit64 q.hk, lit64 q.hn], []), (.agg [lit64 (q.sd 0).p, lit64 (q.sd 1).p, lit64 (q.sd 2).p, lit64 (q.sd 3).p], []),
    (.agg [.agg [lit64 (q.sd 0).s, lit64 (q.sd 0).w, .lit (.int .u32 (q.sd 0).c)], .agg [lit64 (q.sd 1).s, lit64 (q.sd 1).w, .lit (.int .u32 (q.sd 1).c)], .agg [lit64 (q.sd 2).s, lit64 (q.sd 2).w, .lit (.int .u32 (q.sd 2).c)], .agg [lit64 (q.sd 3).s, lit64 (q.sd 3).w, .lit (.int .u32 (q.sd 3).c)]], []),
    (lit64 q.cs, []), (lit64 q.rs, []), (lit64 q.al, []), (.lit (.bool q.fx), []), (.lit (.bool q.cl), []), (.agg [lit64 q.g0, lit64 q.g1], []), (.lit (.bool q.hd), []), (.lit (.bool q.bl), [])]) Try.underlying44 (by simp [Try.cellsSty, Value.cells]) ?_
  refine mapM_mk (by simp [Try.cellsSize, Value.cells]; exact shut_size 1 _ _ a0 a1) ?_
  refine mapM_mk (by simp [Try.cellsSize, Value.cells]; exact shut_size 1 _ _ a2 a3) ?_
  refine mapM_mk (by
    simp [Try.cellsPads, Value.cells]
    exact trod_array_mk (xs := [(lit64 (q.sd 0).p, []), (lit64 (q.sd 1).p, []), (lit64 (q.sd 2).p, []), (lit64 (q.sd 3).p, [])]) Try.underlying37 (by simp [Try.cellsPads]) (by
      rw [show List.range 4 = [0, 1, 2, 3] from rfl]
      exact mapM_mk (by simp [Try.cellsI64]; exact trod_int_mk 1 Try.underlying2 x0) (mapM_mk (by simp [Try.cellsI64]; exact trod_int_mk 1 Try.underlying2 y0) (mapM_mk (by simp [Try.cellsI64]; exact trod_int_mk 1 Try.underlying2 u0) (mapM_mk (by simp [Try.cellsI64]; exact trod_int_mk 1 Try.underlying2 v0) rfl))))) ?_
  refine mapM_mk (by
    simp [Try.cellsLines, Value.cells]
    exact trod_array_mk (xs := [(.agg [lit64 (q.sd 0).s, lit64 (q.sd 0).w, .lit (.int .u32 (q.sd 0).c)], []), (.agg [lit64 (q.sd 1).s, lit64 (q.sd 1).w, .lit (.int .u32 (q.sd 1).c)], []), (.agg [lit64 (q.sd 2).s, lit64 (q.sd 2).w, .lit (.int .u32 (q.sd 2).c)], []), (.agg [lit64 (q.sd 3).s, lit64 (q.sd 3).w, .lit (.int .u32 (q.sd 3).c)], [])]) Try.underlying41 (by simp [Try.cellsLines]) (by
      rw [show List.range 4 = [0, 1, 2, 3] from rfl]
      exact mapM_mk (by simp [Try.cellsLine]; exact shut_line 0 _ _ _ x1 x2 x3) (mapM_mk (by simp [Try.cellsLine]; exact shut_line 0 _ _ _ y1 y2 y3) (mapM_mk (by simp [Try.cellsLine]; exact shut_line 0 _ _ _ u1 u2 u3) (mapM_mk (by simp [Try.cellsLine]; exact shut_line 0 _ _ _ v1 v2 v3) rfl))))) ?_
  refine mapM_mk (by simp [Try.cellsInt, Value.cells]; exact trod_int_mk 2 Try.underlying3 b4) ?_
  refine mapM_mk (by simp [Try.cellsInt, Value.cells]; exact trod_int_mk 2 Try.underlying3 b5) ?_
  refine mapM_mk (by simp [Try.cellsInt, Value.cells]; exact trod_int_mk 2 Try.underlying3 b6) ?_
  refine mapM_mk (by simp [Try.cellsBool, Value.cells]; exact trod_bool_mk 2 Try.underlying4) ?_
  refine mapM_mk (by simp [Try.cellsBool, Value.cells]; exact trod_bool_mk 2 Try.underlying4) ?_
  refine mapM_mk (by
    simp [Try.cellsGaps, Value.cells]
    exact trod_array_mk (xs := [(lit64 q.g0, []), (lit64 q.g1, [])]) Try.underlying42 (by simp [Try.cellsGaps]) (by
      rw [show List.range 2 = [0, 1] from rfl]
      exact mapM_mk (by simp [Try.cellsI64]; exact trod_int_mk 1 Try.underlying2 b9) (mapM_mk (by simp [Try.cellsI64]; exact trod_int_mk 1 Try.underlying2 b10) rfl))) ?_
  refine mapM_mk (by simp [Try.cellsBool, Value.cells]; exact trod_bool_mk 2 Try.underlying4) ?_
  exact mapM_mk (by simp [Try.cellsBool, Value.cells]; exact trod_bool_mk 2 Try.underlying4) rfl
end
end Go.Proofs.Ytecnapecmioamaa
