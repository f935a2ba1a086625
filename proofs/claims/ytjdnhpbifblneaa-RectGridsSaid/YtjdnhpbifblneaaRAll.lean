/- Contract of slices.All over corners: the pairs of index and corner, in order. -/
import Derived.Test.YtjdnhpbifblneaaRCorners
import Derived.Test.YtjdnhpbifblneaaRNext
namespace Go.Proofs.Ytjdnhpbifblneaa
open Go.RowKit Go.Shelf Go.Sort Go.Lib
set_option linter.unusedVariables false
theorem run_store_complex' {P : Program} (w : World) (a : Addr) (m : Mode) (k : FloatKind) (x y : Nat) : (store a (.complex k x y) m).run P w = stored P w a (.complex k x y) m := run_store P w a _ m rfl
attribute [local go_sem] Oper.semAt_some run_store_complex'

def elC (cs : List Cor) (k : Nat) : Nat × Cor := (k, cs[k]?.getD ⟨0, 0, 0⟩)
def elsC (cs : List Cor) (k : Nat) : List (Nat × Cor) := (List.range k).map (elC cs)
theorem elsC_succ (cs : List Cor) (k : Nat) : elsC cs (k + 1) = elsC cs k ++ [elC cs k] := by simp [elsC, List.range_succ]
theorem elsC_len (cs : List Cor) (k : Nat) : (elsC cs k).length = k := by simp [elsC]
def nxtC (cs : List Cor) (pre : List (Nat × Cor)) (x : Nat × Cor) : Prop := ∃ k, k < cs.length ∧ pre = elsC cs k ∧ x = elC cs k
def encP (x : Nat × Cor) : Array Value := #[.int .i64 (x.1 : Int), .agg #[.complex .f64 (FN x.2.i) (FN x.2.j), .int .i64 x.2.t]]
set_option maxRecDepth 100000 in
set_option maxHeartbeats 2000000 in
theorem allC_in (F : Fence) (n : Nat) (hf : F.fn 43) (hro : F.round = none) (hn : 1 ≤ n) (l Bs B b cap : Nat) (cs : List Cor) (hreach : cs.length ≤ 9223372036854775807) (hb : b < B)
    (J Jx : List (Nat × Cor) → World → Prop)
    (hY : ∀ pre x W, J pre W → nxtC cs pre x → YieldAt F (n - 1) Try.prog l (encP x) W fun e W' =>
      (e = .returned (.bool true) ∧ J (pre ++ [x]) W' ∧ Below B W W') ∨ (e = .returned (.bool false) ∧ Jx (pre ++ [x]) W'))
    (W : World) (hB : B ≤ W.heap.size) (hJ : AbidesFrom W.heap.size J) (hBs : W.cell? ⟨Bs, 0, none⟩ = some (.slice (some ⟨b, 0, none⟩) cs.length cap)) (hc : ∀ j v, (encC cs)[j]? = some v → W.cell? ⟨b, j, none⟩ = some v) (h0 : J [] W) :
    CallsIn F n Try.prog 43 #[.func (.yield l) #[] #[], .pointer (some ⟨Bs, 0, none⟩)] W fun e W' => (∃ v, e = .returned v) ∧
      ((∃ ys, ys = elsC cs cs.length ∧ J ys W') ∨ (∃ pre, (∃ k, k ≤ cs.length ∧ pre = elsC cs k) ∧ Jx pre W')) := by
  refine callsIn_of_wp Try.func43 rfl hf ?_ hro
  simp only [Try.ntmps43, List.size_toArray, List.length_cons, List.length_nil, Nat.reduceAdd, Nat.reduceSub, Array.replicate_succ, Array.replicate_zero, List.push_toArray, List.append_toArray, List.nil_append, List.cons_append]
  gi_wp2
  gi_loopw [7] (fun i wr => ∃ k : Nat, k ≤ cs.length ∧ i = .int .i64 k ∧ J (elsC cs k) wr ∧ Hid (Below B W wr))
    (fun i _ => cs.length - (intOf i).toNat)
  case atStart => exact ⟨0, Nat.zero_le _, rfl, h0, Lib.hid (Below.refl _ _)⟩
  case round =>
    obtain ⟨k, hk, rfl, hJs, hnx⟩ := hrel
    by_cases hlt : k < cs.length
    · obtain ⟨c, hck⟩ : ∃ c, cs[k]?.getD ⟨0, 0, 0⟩ = c := ⟨_, rfl⟩
      have hcs : cs[k]? = some c := by rw [List.getElem?_eq_getElem hlt] at hck ⊢; simpa using hck
      have hcell : ∀ i v, c.cells[i]? = some v → (encC cs)[k * 2 + i]? = some v := by
        have key : ∀ (l : List Cor) (k : Nat) (c : Cor), l[k]? = some c → ∀ i v, c.cells[i]? = some v → (encC l)[k * 2 + i]? = some v := by
          intro l
          induction l with
          | nil => intro k c h; simp at h
          | cons a l ih =>
            intro k c h i v hv
            have hi2 : i < 2 := by have := (List.getElem?_eq_some_iff.1 hv).1; simpa [Cor.cells] using this
            rw [encC, List.flatMap_cons]
            cases k with
            | zero =>
              simp at h; subst h
              rw [List.getElem?_append_left (by simp [Cor.cells]; omega)]; simpa using hv
            | succ k =>
              rw [List.getElem?_append_right (by simp [Cor.cells]; omega), show (k + 1) * 2 + i - a.cells.length = k * 2 + i by simp [Cor.cells]; omega]
              exact ih k c (by simpa using h) i v hv
        exact key cs k c hcs
      have cc := fun i v h => (hnx.out.cell (p := ⟨b, k * 2 + i, none⟩) hb).trans (hc _ v (hcell i v h))
      have c0 : wr.cell? ⟨b, k * 2, none⟩ = some (.complex .f64 (FN c.i) (FN c.j)) := cc 0 _ rfl
      have c1 : wr.cell? ⟨b, k * 2 + 1, none⟩ = some (.int .i64 c.t) := cc 1 _ rfl
      have hsn := Lib.hid (elsC_succ cs k)
      have hel : elC cs k = (k, c) := by unfold elC; rw [hck]
      have hJ1 : J (elsC cs k) (wr.alloc (.cells #[.complex .f64 (FN c.i) (FN c.j), .int .i64 c.t] 59)) := abides_below hJ hJs ((Below.refl _ _).alloc (Nat.le_refl _) _)
      obtain ⟨fn, tmps, assign, body, hy, hR⟩ := hY _ (k, c) _ hJ1 ⟨k, hlt, rfl, hel.symm⟩
      rw [hel] at hsn
      dsimp only [encP] at hy
      generalize FN c.i = p1 at *
      generalize FN c.j = p2 at *
      generalize c.t = t at *
      have HR := Lib.hid hR
      have hz : B ≤ wr.heap.size := by have := hnx.out.size; omega
      clear cc hc hck hcs hcell hY hJs hBs h0 hJ1 hR hel
      gi_wp2
      refine HR.out.mono ?_
      rintro e W3 (⟨rfl, hJ3, hk3⟩ | ⟨rfl, hJx3⟩)
      · have H3 := Lib.hid hJ3
        have K3 := Lib.hid hk3
        clear hJ3 hk3
        gi_wp2
        go_roundw
        case rel => exact ⟨k + 1, by omega, by simp, by rw [hsn.out]; exact H3.out, Lib.hid ((hnx.out.trans ((Below.refl _ _).alloc (by omega) _)).trans K3.out)⟩
        case measure => simp [intOf]; omega
      · have H3 := Lib.hid hJx3
        clear hJx3
        gi_wp2
        refine bodyPost_ret (results_none rfl _ _ _) rfl ?_
        exact ⟨⟨_, rfl⟩, .inr ⟨_, ⟨k + 1, by omega, hsn.out.symm⟩, H3.out⟩⟩
    · have e : Hid (k = cs.length) := Lib.hid (by omega)
      have HJ := Lib.hid hJs
      clear hc hY hJs hBs h0
      gi_wp2
      go_end0
      exact ⟨⟨_, rfl⟩, .inl ⟨_, rfl, by rw [← e.out]; exact HJ.out⟩⟩
set_option maxHeartbeats 1000000 in
theorem allC_any (a : Option Addr) (len cap : Nat) (w : World) :
    Calls Try.prog 32 #[.slice a len cap] w fun e w' => e = .returned (.func (.func 43) #[] #[.pointer (some ⟨w.heap.size, 0, none⟩)]) ∧ w' = w.alloc (.cells #[.slice a len cap] 44) := by
  go_enter Try.func32, Try.ntmps32
  go_wp2
  go_ret
  exact ⟨rfl, rfl⟩
theorem allC_next (F : Fence) (n : Nat) (hf : F.fn 43) (hro : F.round = none) (hn : 1 ≤ n) (Bs b cap : Nat) (cs : List Cor) (hreach : cs.length ≤ 9223372036854775807) (w w0 : World) (hb : b < w0.heap.size) (hBs : Bs < w.heap.size)
    (hc : w.cell? ⟨Bs, 0, none⟩ = some (.slice (some ⟨b, 0, none⟩) cs.length cap)) (hcs : ∀ j v, (encC cs)[j]? = some v → w0.cell? ⟨b, j, none⟩ = some v) (hw0 : Below w0.heap.size w0 w) :
    SeqNext F n Try.prog 43 #[.pointer (some ⟨Bs, 0, none⟩)] encP w0.heap.size (nxtC cs) (fun ys => ys = elsC cs cs.length) (fun pre => ∃ k, k ≤ cs.length ∧ pre = elsC cs k) w := fun l J Jx W hW hJ hY h0 => by
  have hc' := (hW.cell (p := ⟨Bs, 0, none⟩) hBs).trans hc
  have hsz := hW.size
  have hsz0 := hw0.size
  have hWW := hw0.trans (hW.mono hsz0)
  exact allC_in F n hf hro hn l Bs w0.heap.size b cap cs hreach hb J Jx hY W (by omega) hJ hc' (fun j v h => (hWW.cell (p := ⟨b, j, none⟩) hb).trans (hcs j v h)) h0
end Go.Proofs.Ytjdnhpbifblneaa
