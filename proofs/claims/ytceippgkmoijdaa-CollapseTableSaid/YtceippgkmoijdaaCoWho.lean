/- Loads and stores of whole values, in regions whose order is drawn, too. Nothing of the program. -/
/- Whose slots are; the two courses of a net, their turns, and whose slots are beside a seam. -/
import Derived.Test.YtceippgkmoijdaaCBase
import Derived.Laws.Rows
import Derived.Laws.Tables
import Derived.OrdersHeld
import Derived.LoopTactic
import Derived.StillTail
import Derived.StillTailTactics
import Derived.Test.YtceippgkmoijdaaCoNet
namespace Go.Proofs.Ytceippgkmoijdaa
open Go.RowKit
set_option linter.unusedVariables false
attribute [local go_sem] Oper.semAt_some

/-- loads of whole values that lie anywhere -/
theorem run_loadVarC {P : Program} (w : World) (p : Addr) (ty : TypeId) (cs : Array Value) (d : TypeDesc) (hc : ∀ j v, cs[j]? = some v → w.cell? (p.add j) = some v)
    (hu : P.underlying ty = some d) (hd : (match d with | .struct _ | .array _ _ => true | _ => false) = true) (hi : (P.info? ty).map (·.size) = some cs.size) :
    (loadVar ty p).run P w = .ok (.agg cs) w := by
  have hl : (loadCells p cs.toList.length).run P w = .ok cs.toList.toArray w :=
    run_loadCells_list (P := P) w p cs.toList (fun j v hv => hc j v (by simpa using hv))
  cases hq : P.info? ty with
  | none => simp [hq] at hi
  | some i =>
    have hs : i.size = cs.size := by simpa [hq] using hi
    have hagg : (isAgg ty).run P w = .ok true w := by
      unfold isAgg
      rw [Sem.run_bind, run_underlying hu w]
      cases d <;> simp_all
    simp only [Array.length_toList, Array.toArray_toList] at hl
    simp [loadVar, Sem.run_bind, hagg, sizeOf, typeInfo, hq, hs, hl]
theorem wp_loadC {P : Program} {o : Oper} {a : Act} {w : World} {K : Act → World → Prop} {Q : Exit → Act → World → Prop} (ty : TypeId) (x : Operand) (ho : o.op = .load ty x)
    (p : Addr) (hx : a.eval x = .pointer (some p)) (cs : Array Value) (d : TypeDesc) (hc : ∀ j v, cs[j]? = some v → w.cell? (p.add j) = some v)
    (hu : P.underlying ty = some d) (hd : (match d with | .struct _ | .array _ _ => true | _ => false) = true) (hi : (P.info? ty).map (·.size) = some cs.size)
    (h : K (a.put o.dst (.agg cs)) w) : o.wp P a w K Q := by
  unfold Oper.wp execOp
  simp only [ho, hx, Instr.loadAt, Instr.sureAddr, Sem.run_bind, Sem.run_pure, Result.andThen_ok, run_loadVarC w p ty cs d hc hu hd hi]
  exact h
theorem wpList_loadC {P : Program} {ops : Array Oper} {rest : List Oper} {o : Oper} {a : Act} {w : World} {Q : Exit → Act → World → Prop} (hgd : o.guard = none) (ty : TypeId) (x : Operand) (ho : o.op = .load ty x)
    (p : Addr) (hx : a.eval x = .pointer (some p)) (cs : Array Value) (d : TypeDesc) (hc : ∀ j v, cs[j]? = some v → w.cell? (p.add j) = some v)
    (hu : P.underlying ty = some d) (hd : (match d with | .struct _ | .array _ _ => true | _ => false) = true) (hi : (P.info? ty).map (·.size) = some cs.size)
    (h : wpList P ops Q rest (a.put o.dst (.agg cs)) w) : wpList P ops Q (o :: rest) a w :=
  wpList_plain hgd fun _ hK => wp_loadC ty x ho p hx cs d hc hu hd hi (hK _ _ h)
theorem wpList_loadCw {P : Program} {ops : Array Oper} {rest : List Oper} {o : Oper} {a : Act} {w : World} {Q : Exit → Act → World → Prop} (hgd : Region.wanted o (yielded ops a.tmps) = true) (ty : TypeId) (x : Operand) (ho : o.op = .load ty x)
    (p : Addr) (hx : a.eval x = .pointer (some p)) (cs : Array Value) (d : TypeDesc) (hc : ∀ j v, cs[j]? = some v → w.cell? (p.add j) = some v)
    (hu : P.underlying ty = some d) (hd : (match d with | .struct _ | .array _ _ => true | _ => false) = true) (hi : (P.info? ty).map (·.size) = some cs.size)
    (h : wpList P ops Q rest (a.put o.dst (.agg cs)) w) : wpList P ops Q (o :: rest) a w :=
  wpList_step fun K hK => by rw [if_pos hgd]; exact wp_loadC ty x ho p hx cs d hc hu hd hi (hK _ _ h)
theorem add_plainC (b o j : Nat) : (⟨b, o, none⟩ : Addr).add j = ⟨b, o + j, none⟩ := by unfold Addr.add; split <;> simp_all
theorem wpAnyH_takeC {P : Program} {md : Region.Mode} {ops : Array Oper} {Q : Exit → Act → World → Prop} {S : World → Prop} {i : Nat} {oi : Oper} {v : Value} {fuel : Nat} {listed : Array Bool} {a : Act} {w : World} (dst : Option Tmp) (hi : ops[i]? = some oi) (hd : oi.dst = dst)
    (hs : Region.noSelect ops = true) (hf : Region.free md ops listed i = true) (hr : (Region.ready md ops listed).contains i = true)
    (hQ : ∀ c a w, Q (.panic c) (a.put dst v) w → Q (.panic c) a w) (hy : YieldsIf P ops S oi v a) (hS : S w)
    (h : wpAnyH P md ops Q S fuel (listed.setIfInBounds i true) (a.put dst v) w) : wpAnyH P md ops Q S (fuel + 1) listed a w := by
  subst hd
  exact wpAnyH_take hi hs hf hr hQ hy hS h
theorem region_held_atC {P : Program} {ops : Array Oper} {Q : Exit → Act → World → Prop} {S : World → Prop} {id : Nat} {a : Act} {w : World} (hm : P.follows .mixedOrders = true)
    (h : ∀ w2 : World, w.drew = w2 → wpAnyH P .any ops Q S ops.size (Array.replicate ops.size false) a w2) : (Code.region id ops true).wp P Q a w := wp_region_held hm (h _ rfl)
theorem yields_loadC {P : Program} {ops : Array Oper} {S : World → Prop} {op : Oper} {a : Act} (hw : Region.wanted op (yielded ops a.tmps) = true) (ty : TypeId) (x : Operand) (ho : op.op = .load ty x)
    (p : Addr) (hx : a.eval x = .pointer (some p)) (cs : Array Value) (d : TypeDesc) (hc : ∀ X, S X → ∀ j v, cs[j]? = some v → X.cell? (p.add j) = some v)
    (hu : P.underlying ty = some d) (hd : (match d with | .struct _ | .array _ _ => true | _ => false) = true) (hi : (P.info? ty).map (·.size) = some cs.size) : YieldsIf P ops S op (.agg cs) a :=
  .inl ⟨hw, fun w hw' => by
    unfold execOp
    simp only [ho, hx, Instr.loadAt, Instr.sureAddr, Sem.run_bind, Sem.run_pure, Result.andThen_ok, run_loadVarC w p ty cs d (hc w hw') hu hd hi]⟩
theorem whole_rowA {W : World} {g t : Nat} {xs : List Value} (h : Whole W g t xs) (ys : Array Value) : Whole (W.setRow g ys) g t ys.toList := setRow_heap W g xs.toArray ys t (0, 0) h
theorem whole_rowO {W : World} {g t : Nat} {xs : List Value} (h : Whole W g t xs) (k : Nat) (ys : Array Value) (hne : g ≠ k) : Whole (W.setRow k ys) g t xs := (setRow_other W k g ys hne).trans h
theorem Whole.loads {W : World} {g t : Nat} {cs : Array Value} (h : Whole W g t cs.toList) (j : Nat) (v : Value) (hv : cs[j]? = some v) : W.cell? ((⟨g, 0, none⟩ : Addr).add j) = some v := by
  have := h.cellAt j
  rw [Array.getElem?_toList, hv] at this
  rw [add_plainC, Nat.zero_add]; exact this
theorem wp_store_rowC {P : Program} {o : Oper} {a : Act} {w : World} {K : Act → World → Prop} {Q : Exit → Act → World → Prop} (hd : o.dst = none) (ty : TypeId) (x y : Operand) (ho : o.op = .store ty x y)
    (g : Nat) (cells : Array Value) (hx : a.eval x = .pointer (some ⟨g, 0, none⟩)) (hy : a.eval y = .agg cells)
    (t : TypeId) (old : Array Value) (hg : w.heap[g]? = some (.cells old t (0, 0))) (hi : (P.info? ty).map (·.size) = some cells.size)
    (hold : old.size = cells.size) (h1 : cells.all (·.oneCell') = true) (h : K a (w.setRow g cells)) : o.wp P a w K Q := by
  refine wp_store_row ty x y ho g cells hx hy t old hg hi hold h1 ?_
  rw [hd]; exact h
end Go.Proofs.Ytceippgkmoijdaa

namespace Go.Proofs.Ytceippgkmoijdaa
open Go.RowKit Go.Shelf
set_option linter.unusedVariables false
set_option linter.unusedSimpArgs false

/-- whose a slot is; -1: nobody's, or it is none -/
def whoP (ps : List Pz) (rn kn : Nat) (i j : Int) : Int := if 0 ≤ i ∧ i < (rn : Int) ∧ 0 ≤ j ∧ j < (kn : Int) then ownA (entL 0 ps).reverse (i.toNat, j.toNat) else -1
/-- a net in memory -/
def NetV (rn kn : Nat) (po : Option Addr) (co : Nat) : List Value := [.int .i64 (rn : Int), .int .i64 (kn : Int), .slice po rn co]
set_option maxHeartbeats 2000000 in
theorem whose_any (ps : List Pz) (rn kn : Nat) (po : Option Addr) (co : Nat) (i j : Int) (W : World) (hr : RowsZ W (.slice po rn co) (ownM ps rn kn)) (hi : I64 i) (hj : I64 j) :
    Calls Try.prog 52 #[.agg #[.int .i64 (rn : Int), .int .i64 (kn : Int), .slice po rn co], .int .i64 i, .int .i64 j] W fun e W' => e = .returned (.int .i64 (whoP ps rn kn i j)) ∧ Below W.heap.size W W' := by
  have hi1 := hi.1
  have hi2 := hi.2
  have hj1 := hj.1
  have hj2 := hj.2
  clear hi hj
  by_cases h1 : i < 0
  · have hw : Hid (whoP ps rn kn i j = -1) := Lib.hid (by unfold whoP; rw [if_neg (by omega)])
    clear hr
    go_enter Try.func52, Try.ntmps52
    go_wp2
    go_ret
    exact ⟨by rw [hw.out]; rfl, (Below.refl _ _).alloc (Nat.le_refl _) _⟩
  by_cases h2 : (rn : Int) ≤ i
  · have hw : Hid (whoP ps rn kn i j = -1) := Lib.hid (by unfold whoP; rw [if_neg (by omega)])
    clear hr
    go_enter Try.func52, Try.ntmps52
    go_wp2
    go_ret
    exact ⟨by rw [hw.out]; rfl, (Below.refl _ _).alloc (Nat.le_refl _) _⟩
  by_cases h3 : j < 0
  · have hw : Hid (whoP ps rn kn i j = -1) := Lib.hid (by unfold whoP; rw [if_neg (by omega)])
    clear hr
    go_enter Try.func52, Try.ntmps52
    go_wp2
    go_ret
    exact ⟨by rw [hw.out]; rfl, (Below.refl _ _).alloc (Nat.le_refl _) _⟩
  by_cases h4 : (kn : Int) ≤ j
  · have hw : Hid (whoP ps rn kn i j = -1) := Lib.hid (by unfold whoP; rw [if_neg (by omega)])
    clear hr
    go_enter Try.func52, Try.ntmps52
    go_wp2
    go_ret
    exact ⟨by rw [hw.out]; rfl, (Below.refl _ _).alloc (Nat.le_refl _) _⟩
  obtain ⟨a, rfl⟩ : ∃ a : Nat, i = (a : Int) := ⟨i.toNat, by omega⟩
  obtain ⟨b, rfl⟩ : ∃ b : Nat, j = (b : Int) := ⟨j.toNat, by omega⟩
  have ha : a < rn := by omega
  have hb : b < kn := by omega
  obtain ⟨g, q, cq, rfl, hg, hc1, hI⟩ := hr.at a ha
  obtain ⟨g2, o2, rfl, hg2, hc2⟩ := ints_cell hI b (by rw [rowM_len]; exact hb)
  rw [rowM_get _ _ _ _ hb] at hc2
  have hw : Hid (whoP ps rn kn a b = ownA (entL 0 ps).reverse (a, b)) := Lib.hid (by unfold whoP; rw [if_pos (by omega)]; simp)
  simp only [Option.getD_some] at hc2
  obtain ⟨v, hv⟩ : ∃ v, ownA (entL 0 ps).reverse (a, b) = v := ⟨_, rfl⟩
  rw [hv] at hw hc2
  clear hr hI hv
  go_enter Try.func52, Try.ntmps52
  go_wp2
  go_ret
  exact ⟨by rw [hw.out]; rfl, (Below.refl _ _).alloc (Nat.le_refl _) _⟩
theorem results_twoC {W : World} {x y : Value} {tmps : Array Value} {fn : Func} (hf : fn.results = #[.tmp 4, .tmp 5]) (h4 : tmps[4]? = some x) (h5 : tmps[5]? = some y) :
    (results fn tmps).run Try.prog W = .ok (.tuple #[x, y]) W := by
  simp [results, hf, go_sem, h4, h5]
def zeroCo : List Value := [.bool false, .int .i64 0, .int .i64 0, .int .i64 0, .int .i64 0, .nilFunc, .nilFunc]
theorem Try.infoCourse : (Try.prog.info? 70).map (·.size) = some 7 := by kernel_rfl
theorem below_setRow {B : Nat} {W X : World} (h : Below B W X) (g : Nat) (cs : Array Value) (hg : B ≤ g) : Below B W (X.setRow g cs) :=
  ⟨h.os, h.tape, h.output, by simp; exact h.size, fun k hk => (setRow_other X g k cs (by omega)).trans (h.block k hk)⟩
theorem results_co {fn : Func} {W : World} {g : Nat} {x0 x1 x2 x3 x4 x5 x6 : Value} {tmps : Array Value} (hf : fn.results = #[.cell 2 70]) (ht : tmps.getD 2 undef = .pointer (some ⟨g, 0, none⟩)) (h : Whole W g 70 [x0, x1, x2, x3, x4, x5, x6]) :
    (results fn tmps).run Try.prog W = .ok (.agg #[x0, x1, x2, x3, x4, x5, x6]) W :=
  results_cell_row hf tmps W g 70 #[x0, x1, x2, x3, x4, x5, x6] (0, 0) _ ht h Try.underlying70 rfl (by kernel_rfl)

/-- the course lying of the net in a block -/
def colying (rn kn gb : Nat) : List Value := [.bool true, .int .i64 (rn : Int), .int .i64 (kn : Int), .int .i64 0, .int .i64 2, .func (.func 50) #[] #[], .func (.func 51) #[] #[.pointer (some ⟨gb, 0, none⟩)]]
set_option maxHeartbeats 1000000 in
theorem lying_any (rn kn : Nat) (po : Option Addr) (co : Nat) (W : World) :
    Calls Try.prog 33 #[.agg #[.int .i64 (rn : Int), .int .i64 (kn : Int), .slice po rn co]] W fun e W' => e = .returned (.agg (colying rn kn W.heap.size).toArray) ∧ Whole W' W.heap.size 64 (NetV rn kn po co) ∧ Below W.heap.size W W' := by
  go_enter Try.func33, Try.ntmps33
  go_wp2_with (refine wpList_store_row rfl 70 (.tmp 2) (.tmp 12) rfl (W.heap.size + 1) (colying rn kn W.heap.size).toArray rfl rfl 70 zeroCo.toArray (whole_new (W.alloc (.cells (NetV rn kn po co).toArray 64)) zeroCo 70 _ (by simp)) Try.infoCourse rfl (by simp [colying, Value.oneCell']) ?_)
  refine bodyPost_ret (results_co (g := W.heap.size + 1) rfl rfl (whole_rowA (whole_new (W.alloc (.cells (NetV rn kn po co).toArray 64)) zeroCo 70 _ (by simp)) _)) rfl ⟨rfl, ?_, ?_⟩
  · exact whole_rowO ((whole_new W (NetV rn kn po co) 64 _ rfl).alloc _) _ _ (by omega)
  · exact below_setRow (((Below.refl _ W).alloc (Nat.le_refl _) _).alloc (by simp) _) _ _ (by omega)
theorem turnlying_any (a b : Int) (W : World) : Calls Try.prog 50 #[.int .i64 a, .int .i64 b] W fun e W' => e = .returned (.tuple #[.int .i64 a, .int .i64 b]) ∧ W = W' := by
  go_enter Try.func50, Try.ntmps50
  go_wp2
  exact bodyPost_ret (results_twoC rfl rfl rfl) rfl ⟨rfl, rfl⟩
set_option maxHeartbeats 1000000 in
theorem wholying_any (ps : List Pz) (rn kn gb : Nat) (po : Option Addr) (co : Nat) (a b : Int) (W : World) (hn : Whole W gb 64 (NetV rn kn po co)) (hr : RowsZ W (.slice po rn co) (ownM ps rn kn)) (ha : I64 a) (hb : I64 b) :
    Calls Try.prog 51 #[.int .i64 a, .int .i64 b, .pointer (some ⟨gb, 0, none⟩)] W fun e W' => e = .returned (.int .i64 (whoP ps rn kn a b)) ∧ Below W.heap.size W W' := by
  have HW := Lib.hid (whose_any ps rn kn po co a b W hr ha hb)
  have c0 := hn.cellAt 0
  have c1 := hn.cellAt 1
  have c2 := hn.cellAt 2
  have lg := hn.lt
  simp only [NetV, List.getElem?_cons_zero, List.getElem?_cons_succ] at c0 c1 c2
  clear hn hr ha hb
  go_enter Try.func51, Try.ntmps51
  go_wp2_with fail
  refine HW.out.mono ?_
  rintro e w1 ⟨rfl, hb1⟩
  have HB := Lib.hid hb1
  clear hb1
  go_wp2
  go_ret
  exact ⟨rfl, HB.out⟩

/-- the course standing of the net in a block -/
def costanding (rn kn gb : Nat) : List Value := [.bool false, .int .i64 (kn : Int), .int .i64 (rn : Int), .int .i64 3, .int .i64 1, .func (.func 53) #[] #[], .func (.func 54) #[] #[.pointer (some ⟨gb, 0, none⟩)]]
set_option maxHeartbeats 1000000 in
theorem standing_any (rn kn : Nat) (po : Option Addr) (co : Nat) (W : World) :
    Calls Try.prog 34 #[.agg #[.int .i64 (rn : Int), .int .i64 (kn : Int), .slice po rn co]] W fun e W' => e = .returned (.agg (costanding rn kn W.heap.size).toArray) ∧ Whole W' W.heap.size 64 (NetV rn kn po co) ∧ Below W.heap.size W W' := by
  go_enter Try.func34, Try.ntmps34
  go_wp2_with (refine wpList_store_row rfl 70 (.tmp 2) (.tmp 12) rfl (W.heap.size + 1) (costanding rn kn W.heap.size).toArray rfl rfl 70 zeroCo.toArray (whole_new (W.alloc (.cells (NetV rn kn po co).toArray 64)) zeroCo 70 _ (by simp)) Try.infoCourse rfl (by simp [costanding, Value.oneCell']) ?_)
  refine bodyPost_ret (results_co (g := W.heap.size + 1) rfl rfl (whole_rowA (whole_new (W.alloc (.cells (NetV rn kn po co).toArray 64)) zeroCo 70 _ (by simp)) _)) rfl ⟨rfl, ?_, ?_⟩
  · exact whole_rowO ((whole_new W (NetV rn kn po co) 64 _ rfl).alloc _) _ _ (by omega)
  · exact below_setRow (((Below.refl _ W).alloc (Nat.le_refl _) _).alloc (by simp) _) _ _ (by omega)
theorem turnstanding_any (a b : Int) (W : World) : Calls Try.prog 53 #[.int .i64 a, .int .i64 b] W fun e W' => e = .returned (.tuple #[.int .i64 b, .int .i64 a]) ∧ W = W' := by
  go_enter Try.func53, Try.ntmps53
  go_wp2
  exact bodyPost_ret (results_twoC rfl rfl rfl) rfl ⟨rfl, rfl⟩
set_option maxHeartbeats 1000000 in
theorem whostanding_any (ps : List Pz) (rn kn gb : Nat) (po : Option Addr) (co : Nat) (a b : Int) (W : World) (hn : Whole W gb 64 (NetV rn kn po co)) (hr : RowsZ W (.slice po rn co) (ownM ps rn kn)) (ha : I64 a) (hb : I64 b) :
    Calls Try.prog 54 #[.int .i64 a, .int .i64 b, .pointer (some ⟨gb, 0, none⟩)] W fun e W' => e = .returned (.int .i64 (whoP ps rn kn b a)) ∧ Below W.heap.size W W' := by
  have HW := Lib.hid (whose_any ps rn kn po co b a W hr hb ha)
  have c0 := hn.cellAt 0
  have c1 := hn.cellAt 1
  have c2 := hn.cellAt 2
  have lg := hn.lt
  simp only [NetV, List.getElem?_cons_zero, List.getElem?_cons_succ] at c0 c1 c2
  clear hn hr ha hb
  go_enter Try.func54, Try.ntmps54
  go_wp2_with fail
  refine HW.out.mono ?_
  rintro e w1 ⟨rfl, hb1⟩
  have HB := Lib.hid hb1
  clear hb1
  go_wp2
  go_ret
  exact ⟨rfl, HB.out⟩
end Go.Proofs.Ytceippgkmoijdaa
