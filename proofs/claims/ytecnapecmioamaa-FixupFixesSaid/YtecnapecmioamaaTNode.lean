/- Nodes as plain data; whether a node is wrong (tree.wrong, wrongText, hasText). -/
import Derived.Test.YtecnapecmioamaaTBase
import Derived.Test.YtecnapecmioamaaSValid
namespace Go.Proofs.Ytecnapecmioamaa
open Go.RowKit Go.Shelf
set_option linter.unusedVariables false
attribute [local go_sem] Oper.semAt_some

/-- a node: its kind, kids, style, words, blank, height; kv, wv: the slices in which kids and words lie -/
structure Nd where
  k : Int
  kv : Value
  ks : List Int
  s : Sty
  wv : Value
  ws : List Int
  b : Int
  h : Int
def ndCells (k : Int) (kv : Value) (sc : List Value) (wv : Value) (b h : Int) : List Value := .int .i64 k :: kv :: (sc ++ [wv, .int .i64 b, .int .i64 h])
def Nd.cells (n : Nd) : List Value := ndCells n.k n.kv n.s.cells n.wv n.b n.h
def Nd.val (n : Nd) : Value := .agg n.cells.toArray
def CapOk (v : Value) : Prop := ∃ p len cap, v = .slice p len cap ∧ len ≤ cap ∧ cap ≤ 9223372036854775807
def Nd.ok (n : Nd) (W : World) : Prop := Ints W n.kv n.ks ∧ Ints W n.wv n.ws ∧ CapOk n.kv ∧ CapOk n.wv
theorem Nd.ok.below {n : Nd} {W W' : World} (h : n.ok W) (hb : Below W.heap.size W W') : n.ok W' := ⟨h.1.below hb, h.2.1.below hb, h.2.2⟩
theorem Nd.len (n : Nd) : n.cells.length = 34 := by simp [Nd.cells, ndCells, Sty.cells, styCells]
theorem Nd.c0 (n : Nd) : n.cells[0]? = some (.int .i64 n.k) := rfl
theorem Nd.c1 (n : Nd) : n.cells[1]? = some n.kv := rfl
theorem Nd.c31 (n : Nd) : n.cells[31]? = some n.wv := rfl
theorem Nd.c32 (n : Nd) : n.cells[32]? = some (.int .i64 n.b) := rfl
theorem Nd.c33 (n : Nd) : n.cells[33]? = some (.int .i64 n.h) := rfl
theorem Nd.sty (n : Nd) (j : Nat) (v : Value) (h : n.s.cells[j]? = some v) : n.cells[2 + j]? = some v := by
  have hj : j < 29 := (List.getElem?_eq_some_iff.1 h).1
  unfold Nd.cells ndCells
  rw [show 2 + j = j + 1 + 1 by omega, List.getElem?_cons_succ, List.getElem?_cons_succ, List.getElem?_append_left (by have := (List.getElem?_eq_some_iff.1 h).1; omega)]
  exact h
theorem Try.infoNd : (Try.prog.info? 47).map (·.size) = some 34 := by kernel_rfl
theorem Ints.form {W : World} {v : Value} {zs : List Int} (h : Ints W v zs) : ∃ p cap, v = .slice p zs.length cap := by
  obtain ⟨_, ⟨a, cap, rfl, rfl⟩ | ⟨b, off, cap, rfl, _⟩⟩ := h
  · exact ⟨a, cap, rfl⟩
  · exact ⟨_, cap, rfl⟩
theorem Ints.small {W : World} {v : Value} {zs : List Int} (h : Ints W v zs) : zs.length ≤ 9223372036854775807 := h.1

/-- loads of whole values that lie anywhere -/
theorem run_loadVar_at {P : Program} (w : World) (p : Addr) (ty : TypeId) (cs : Array Value) (d : TypeDesc) (hc : ∀ j v, cs[j]? = some v → w.cell? (p.add j) = some v)
    (hu : P.underlying ty = some d) (hd : (match d with | .struct _ | .array _ _ => true | _ => false) = true) (hi : (P.info? ty).map (·.size) = some cs.size) :
    (loadVar ty p).run P w = .ok (.agg cs) w := by
  have hl : (loadCells p cs.toList.length).run P w = .ok cs.toList.toArray w :=
    run_loadCells_list (P := P) w p cs.toList (fun j v hv => hc j v (by simpa using hv))
  cases hq : P.info? ty with
  | none => simp [hq] at hi
  | some i =>
    have hs : i.size = cs.size := by simpa [hq] using hi
    have hagg : (isAgg ty).run P w = .ok true w := by
      unfold isAgg
      rw [Sem.run_bind, run_underlying hu w]
      cases d <;> simp_all
    simp only [Array.length_toList, Array.toArray_toList] at hl
    simp [loadVar, Sem.run_bind, hagg, sizeOf, typeInfo, hq, hs, hl]
theorem wp_load_at {P : Program} {o : Oper} {a : Act} {w : World} {K : Act → World → Prop} {Q : Exit → Act → World → Prop} (ty : TypeId) (x : Operand) (ho : o.op = .load ty x)
    (p : Addr) (hx : a.eval x = .pointer (some p)) (cs : Array Value) (d : TypeDesc) (hc : ∀ j v, cs[j]? = some v → w.cell? (p.add j) = some v)
    (hu : P.underlying ty = some d) (hd : (match d with | .struct _ | .array _ _ => true | _ => false) = true) (hi : (P.info? ty).map (·.size) = some cs.size)
    (h : K (a.put o.dst (.agg cs)) w) : o.wp P a w K Q := by
  unfold Oper.wp execOp
  simp only [ho, hx, Instr.loadAt, Instr.sureAddr, Sem.run_bind, Sem.run_pure, Result.andThen_ok, run_loadVar_at w p ty cs d hc hu hd hi]
  exact h
theorem wpList_load_at {P : Program} {ops : Array Oper} {rest : List Oper} {o : Oper} {a : Act} {w : World} {Q : Exit → Act → World → Prop} (hgd : o.guard = none) (ty : TypeId) (x : Operand) (ho : o.op = .load ty x)
    (p : Addr) (hx : a.eval x = .pointer (some p)) (cs : Array Value) (d : TypeDesc) (hc : ∀ j v, cs[j]? = some v → w.cell? (p.add j) = some v)
    (hu : P.underlying ty = some d) (hd : (match d with | .struct _ | .array _ _ => true | _ => false) = true) (hi : (P.info? ty).map (·.size) = some cs.size)
    (h : wpList P ops Q rest (a.put o.dst (.agg cs)) w) : wpList P ops Q (o :: rest) a w :=
  wpList_plain hgd fun _ hK => wp_load_at ty x ho p hx cs d hc hu hd hi (hK _ _ h)
theorem wpList_load_at_w {P : Program} {ops : Array Oper} {rest : List Oper} {o : Oper} {a : Act} {w : World} {Q : Exit → Act → World → Prop} (hgd : Region.wanted o (yielded ops a.tmps) = true) (ty : TypeId) (x : Operand) (ho : o.op = .load ty x)
    (p : Addr) (hx : a.eval x = .pointer (some p)) (cs : Array Value) (d : TypeDesc) (hc : ∀ j v, cs[j]? = some v → w.cell? (p.add j) = some v)
    (hu : P.underlying ty = some d) (hd : (match d with | .struct _ | .array _ _ => true | _ => false) = true) (hi : (P.info? ty).map (·.size) = some cs.size)
    (h : wpList P ops Q rest (a.put o.dst (.agg cs)) w) : wpList P ops Q (o :: rest) a w :=
  wpList_step fun K hK => by rw [if_pos hgd]; exact wp_load_at ty x ho p hx cs d hc hu hd hi (hK _ _ h)
theorem add_plain (b o j : Nat) : (⟨b, o, none⟩ : Addr).add j = ⟨b, o + j, none⟩ := by unfold Addr.add; split <;> simp_all
/-- a node's cells lie at b, o -/
def NdAt (W : World) (b o : Nat) (n : Nd) : Prop := ∀ j v, n.cells[j]? = some v → W.cell? ⟨b, o + j, none⟩ = some v
theorem NdAt.below {W W' : World} {b o : Nat} {n : Nd} (h : NdAt W b o n) (hb : Below W.heap.size W W') : NdAt W' b o n := fun j v hj =>
  (hb.cell (p := ⟨b, o + j, none⟩) (cell_lt (h j v hj))).trans (h j v hj)
theorem NdAt.load {W : World} {b o : Nat} {n : Nd} (h : NdAt W b o n) : ∀ j v, n.cells.toArray[j]? = some v → W.cell? ((⟨b, o, none⟩ : Addr).add j) = some v := fun j v hj => by
  rw [add_plain]; exact h j v (by simpa using hj)
theorem NdAt.style {W : World} {b o : Nat} {n : Nd} (h : NdAt W b o n) : ∀ j v, n.s.cells.toArray[j]? = some v → W.cell? ((⟨b, o + 2, none⟩ : Addr).add j) = some v := fun j v hj => by
  rw [add_plain, show o + 2 + j = o + (2 + j) by omega]; exact h _ v (n.sty j v (by simpa using hj))
theorem NdAt.whole {W : World} {g t : Nat} {n : Nd} (h : Whole W g t n.cells) : NdAt W g 0 n := fun j v hj => by
  rw [Nat.zero_add, h.cellAt]; exact hj

def hasT (n : Nd) : Bool := decide (0 < n.ws.length) || (decide (n.b ≠ 0) || decide (n.h ≠ 0))
def wrongT (n : Nd) : Bool := decide (10000 < n.ws.length) || (n.ws.any (outB 0 1073741824) || [n.b, n.h].any (outB 0 1073741824))
def wrongN (n : Nd) : Bool := decide (¬ (0 ≤ n.k ∧ n.k ≤ 10)) || (!validS n.s || (if n.k = 1 then decide (0 < n.ks.length) || wrongT n else if n.k = 5 then decide (0 < n.ks.length) || hasT n else hasT n))
set_option maxHeartbeats 400000 in
theorem hasText_at (n : Nd) (w : World) (p : Option Addr) (m cap : Nat) (b h : Int) (d : Bool) (hwv : n.wv = .slice p m cap) (hb : n.b = b) (hh : n.h = h)
    (D : Hid (d = (decide (0 < m) || (decide (b ≠ 0) || decide (h ≠ 0))))) : Calls Try.prog 49 #[n.val] w fun e W' => e = .returned (.bool d) ∧ Below w.heap.size w W' := by
  obtain ⟨cs, hcs⟩ : ∃ cs, n.cells.toArray = cs := ⟨_, rfl⟩
  have q31 : cs[31]? = some (.slice p m cap) := by rw [← hcs, ← hwv]; simpa using n.c31
  have q32 : cs[32]? = some (.int .i64 b) := by rw [← hcs, ← hb]; simpa using n.c32
  have q33 : cs[33]? = some (.int .i64 h) := by rw [← hcs, ← hh]; simpa using n.c33
  rw [show n.val = .agg n.cells.toArray from rfl, hcs]
  clear hcs hwv hb hh
  by_cases hm : m = 0
  · subst hm
    by_cases hb : b = 0
    · subst hb
      have hd : d = (h != 0) := by rw [D.out]; by_cases h0 : h = 0 <;> simp [h0]
      clear D; subst hd
      go_enter Try.func49, Try.ntmps49
      go_wp2
      go_ret
      exact ⟨rfl, (Below.refl _ _).alloc (Nat.le_refl _) _⟩
    · have hb' : (b != 0) = true := by simpa using hb
      have hd : d = true := by rw [D.out]; simp [hb]
      clear D; subst hd
      go_enter Try.func49, Try.ntmps49
      go_wp2
      go_ret
      exact ⟨rfl, (Below.refl _ _).alloc (Nat.le_refl _) _⟩
  · have hm' : 0 < m := by omega
    have hd : d = true := by rw [D.out]; simp [hm']
    clear D; subst hd
    go_enter Try.func49, Try.ntmps49
    go_wp2
    go_ret
    exact ⟨rfl, (Below.refl _ _).alloc (Nat.le_refl _) _⟩
theorem hasText_any (n : Nd) (w : World) (h : n.ok w) : Calls Try.prog 49 #[n.val] w fun e W' => e = .returned (.bool (hasT n)) ∧ Below w.heap.size w W' := by
  obtain ⟨p, cap, hwv⟩ := h.2.1.form
  exact hasText_at n w p _ cap _ _ _ hwv rfl rfl rfl
set_option maxHeartbeats 400000 in
theorem wrongText_at (n : Nd) (w : World) (p : Option Addr) (m cap : Nat) (d1 d2 d : Bool) (hwv : n.wv = .slice p m cap)
    (H1 : Hid (∀ X : World, Below w.heap.size w X → Calls Try.prog 59 #[.int .i64 0, .int .i64 1073741824, .slice p m cap] X fun e W' => e = .returned (.bool d1) ∧ Below X.heap.size X W'))
    (H2 : Hid (∀ sv X, Ints X sv [n.b, n.h] → Calls Try.prog 59 #[.int .i64 0, .int .i64 1073741824, sv] X fun e W' => e = .returned (.bool d2) ∧ Below X.heap.size X W'))
    (D : Hid (d = (decide (10000 < m) || (!d1 || !d2)))) : Calls Try.prog 48 #[n.val] w fun e W' => e = .returned (.bool d) ∧ Below w.heap.size w W' := by
  obtain ⟨cs, hcs⟩ : ∃ cs, n.cells.toArray = cs := ⟨_, rfl⟩
  have q31 : cs[31]? = some (.slice p m cap) := by rw [← hcs, ← hwv]; simpa using n.c31
  have q32 : cs[32]? = some (.int .i64 n.b) := by rw [← hcs]; simpa using n.c32
  have q33 : cs[33]? = some (.int .i64 n.h) := by rw [← hcs]; simpa using n.c33
  rw [show n.val = .agg n.cells.toArray from rfl, hcs]
  clear hcs hwv
  have hB : Hid (Below w.heap.size w (w.alloc (.cells cs 47))) := Lib.hid ((Below.refl _ w).alloc (Nat.le_refl _) _)
  by_cases hm : 10000 < m
  · have hd : d = true := by rw [D.out]; simp [hm]
    clear D H1 H2; subst hd
    go_enter Try.func48, Try.ntmps48
    go_wp2
    go_ret
    exact ⟨rfl, hB.out⟩
  · have hm' : ¬ 10000 < m := hm
    cases d1 with
    | false =>
      have hd : d = true := by rw [D.out]; simp
      clear D H2; subst hd
      go_enter Try.func48, Try.ntmps48
      go_wp2_with (go_at_call 59; refine (H1.out _ hB.out).mono ?_; clear H1; rintro e w1 ⟨rfl, hb1⟩)
      go_ret
      exact ⟨rfl, hB.out.trans (hb1.mono (by simp))⟩
    | true =>
      have hd : Hid (d = !d2) := Lib.hid (by rw [D.out]; simp [hm])
      clear D
      go_enter Try.func48, Try.ntmps48
      go_wp2_with (first
        | (go_at_call 59; refine (H1.out _ hB.out).mono ?_; clear H1; rintro e w1 ⟨rfl, hb1⟩; have e32 := (hb1.cell (p := ⟨w.heap.size, 32, none⟩) (by simp)).trans (show (w.alloc (.cells cs 47)).cell? ⟨w.heap.size, 32, none⟩ = some (.int .i64 n.b) from (cell_of_row _ _ _ _ _ _ (World.alloc_heap_new w _)).trans q32); have e33 := (hb1.cell (p := ⟨w.heap.size, 33, none⟩) (by simp)).trans (show (w.alloc (.cells cs 47)).cell? ⟨w.heap.size, 33, none⟩ = some (.int .i64 n.h) from (cell_of_row _ _ _ _ _ _ (World.alloc_heap_new w _)).trans q33); have z1 : w.heap.size < w1.heap.size := by have := hb1.size; simp at this; omega)
        | (go_at_call 59; refine (H2.out _ _ (Ints.whole (t := 2) (whole_new w1 [.int .i64 n.b, .int .i64 n.h] 2 _ rfl) rfl (by simp))).mono ?_; clear H2; rintro e w2 ⟨rfl, hb2⟩))
      go_ret
      exact ⟨by rw [hd.out]; first | rfl | (simp; done) | (simp; intro h; omega), (hB.out.trans (hb1.mono (by simp))).trans (((Below.refl _ w1).alloc (by omega) _).trans (hb2.mono (by simp; omega)))⟩
theorem wrongText_any (n : Nd) (w : World) (h : n.ok w) : Calls Try.prog 48 #[n.val] w fun e W' => e = .returned (.bool (wrongT n)) ∧ Below w.heap.size w W' := by
  obtain ⟨p, cap, hwv⟩ := h.2.1.form
  refine wrongText_at n w p _ cap (!n.ws.any (outB 0 1073741824)) (!([n.b, n.h].any (outB 0 1073741824))) _ hwv (Lib.hid fun X hX => ?_) (Lib.hid fun sv X hI => twithin_any 0 1073741824 sv [n.b, n.h] X hI) (Lib.hid ?_)
  · rw [← hwv]; exact twithin_any 0 1073741824 n.wv n.ws X (h.2.1.below hX)
  · unfold wrongT; simp
/-- what a node's own cells are in a block of their own, and in all later worlds -/
def NdBox (n : Nd) (k : Int) (g : Nat) (p : Option Addr) (m cap : Nat) (X : World) : Prop := g < X.heap.size ∧ NdAt X g 0 n ∧ X.cell? ⟨g, 0, none⟩ = some (.int .i64 k) ∧ X.cell? ⟨g, 1, none⟩ = some (.slice p m cap)
theorem NdBox.mk' {n : Nd} {g t : Nat} {p : Option Addr} {m cap : Nat} {X : World} (h : Whole X g t n.cells) (hk : n.kv = .slice p m cap) : NdBox n n.k g p m cap X :=
  ⟨h.lt, .whole h, by rw [h.cellAt]; exact n.c0, by rw [h.cellAt, n.c1, hk]⟩
theorem NdBox.later {n : Nd} {k : Int} {g B : Nat} {p : Option Addr} {m cap : Nat} {X Y : World} (h : NdBox n k g p m cap X) (hb : Below B X Y) (hB : g < B) (hB2 : X.heap.size = B) : NdBox n k g p m cap Y := by
  subst hB2
  exact ⟨Nat.lt_of_lt_of_le h.1 hb.size, h.2.1.below hb, (hb.cell (p := ⟨g, 0, none⟩) hB).trans h.2.2.1, (hb.cell (p := ⟨g, 1, none⟩) hB).trans h.2.2.2⟩
theorem nd_info (n : Nd) : (Try.prog.info? 47).map (·.size) = some n.cells.toArray.size := by rw [Try.infoNd]; simp [n.len]
theorem sty_info' (s : Sty) : (Try.prog.info? 44).map (·.size) = some s.cells.toArray.size := by rw [Try.infoSty]; rfl
set_option maxHeartbeats 1000000 in
theorem wrong_at (n : Nd) (w : World) (p : Option Addr) (m cap : Nat) (cs sc : Array Value) (d1 d2 d3 d4 d : Bool) (hkv : n.kv = .slice p m cap) (hcs : n.cells.toArray = cs) (hsc : n.s.cells.toArray = sc)
    (H1 : Hid (∀ sv X, Ints X sv [n.k] → Calls Try.prog 29 #[.int .i64 0, .int .i64 10, sv] X fun e W' => e = .returned (.bool d1) ∧ Below X.heap.size X W'))
    (H2 : Hid (∀ X : World, Calls Try.prog 42 #[.agg sc] X fun e W' => e = .returned (.bool d2) ∧ Below X.heap.size X W'))
    (H3 : Hid (∀ X : World, Below w.heap.size w X → Calls Try.prog 48 #[.agg cs] X fun e W' => e = .returned (.bool d3) ∧ Below X.heap.size X W'))
    (H4 : Hid (∀ X : World, Below w.heap.size w X → Calls Try.prog 49 #[.agg cs] X fun e W' => e = .returned (.bool d4) ∧ Below X.heap.size X W'))
    (D : Hid (d = (!d1 || (!d2 || (if n.k = 1 then decide (0 < m) || d3 else if n.k = 5 then decide (0 < m) || d4 else d4))))) : Calls Try.prog 31 #[.agg cs] w fun e W' => e = .returned (.bool d) ∧ Below w.heap.size w W' := by
  have KB : Hid (NdBox n n.k w.heap.size p m cap (w.alloc (.cells cs 47))) := Lib.hid (by rw [← hcs]; exact NdBox.mk' (whole_new w n.cells 47 _ rfl) hkv)
  have q0 : cs[0]? = some (.int .i64 n.k) := by rw [← hcs]; simpa using n.c0
  have LN : Hid (∀ X, NdAt X w.heap.size 0 n → ∀ j v, cs[j]? = some v → X.cell? ((⟨w.heap.size, 0, none⟩ : Addr).add j) = some v) := Lib.hid fun X h j v hj => by rw [← hcs] at hj; exact h.load j v hj
  have LS : Hid (∀ X, NdAt X w.heap.size 0 n → ∀ j v, sc[j]? = some v → X.cell? ((⟨w.heap.size, 2, none⟩ : Addr).add j) = some v) := Lib.hid fun X h j v hj => by rw [← hsc] at hj; exact h.style j v hj
  have iN : Hid ((Try.prog.info? 47).map (·.size) = some cs.size) := Lib.hid (by rw [← hcs]; exact nd_info n)
  have iS : Hid ((Try.prog.info? 44).map (·.size) = some sc.size) := Lib.hid (by rw [← hsc]; exact sty_info' _)
  have HI : Hid (∀ (X : World) (g : Nat), g = X.heap.size → Ints (X.alloc (.cells #[.int .i64 n.k] 3)) (.slice (some ⟨g, 0, none⟩) 1 1) [n.k]) := Lib.hid fun X g hg => Ints.whole (t := 3) (whole_new X [.int .i64 n.k] 3 _ hg) rfl (by simp)
  have hB : Hid (Below w.heap.size w (w.alloc (.cells cs 47))) := Lib.hid ((Below.refl _ w).alloc (Nat.le_refl _) _)
  clear hcs hsc hkv
  generalize n.k = k at *
  cases d1 with
  | false =>
    have hd : d = true := by rw [D.out]; simp
    clear D H2 H3 H4 LN LS iN iS; subst hd
    go_enter Try.func31, Try.ntmps31
    go_wp2_with (go_at_call 29; refine (H1.out _ _ (HI.out _ _ (by simp))).mono ?_; clear H1; rintro e w1 ⟨rfl, hb1⟩)
    go_ret
    exact ⟨rfl, (hB.out.alloc (by simp) _).trans (hb1.mono (by simp; omega))⟩
  | true =>
    cases d2 with
    | false =>
      have hd : d = true := by rw [D.out]; simp
      clear D H3 H4 LN iN; subst hd
      go_enter Try.func31, Try.ntmps31
      go_wp2_with (first
        | (go_at_call 29; refine (H1.out _ _ (HI.out _ _ (by simp))).mono ?_; clear H1; rintro e w1 ⟨rfl, hb1⟩; have K1 := Lib.hid (KB.out.later ((Below.refl _ _).alloc (Nat.le_refl _) _ |>.trans (hb1.mono (by simp))) (by simp) rfl); have B1 := Lib.hid (hB.out.trans (((Below.refl _ _).alloc (Nat.le_refl _) _ |>.trans (hb1.mono (by simp))).mono hB.out.size)); have z1 := K1.out.1; clear hb1 KB hB)
        | (refine wpList_load_at_w rfl 44 (.tmp 9) rfl _ rfl sc _ (LS.out _ K1.out.2.1) Try.underlying44 rfl iS.out ?_)
        | (go_at_call 42; refine (H2.out _).mono ?_; clear H2; rintro e w2 ⟨rfl, hb2⟩; have K2 := Lib.hid (K1.out.later hb2 z1 rfl); have B2 := Lib.hid (B1.out.trans (hb2.mono B1.out.size)); obtain ⟨z2, -, k2, s2⟩ := K2.out; clear hb2 K1 B1))
      go_ret
      exact ⟨rfl, B2.out⟩
    | true =>
      have hd0 := D.out
      clear D
      simp only [Bool.not_true, Bool.false_or] at hd0
      by_cases hk1 : k = 1
      · subst hk1
        by_cases hm : m = 0
        · have hd : Hid (d = d3) := Lib.hid (by rw [hd0]; simp [hm])
          clear hd0
          subst hm
          go_enter Try.func31, Try.ntmps31
          go_wp2_with (first
            | (go_at_call 29; refine (H1.out _ _ (HI.out _ _ (by simp))).mono ?_; clear H1; rintro e w1 ⟨rfl, hb1⟩; have K1 := Lib.hid (KB.out.later ((Below.refl _ _).alloc (Nat.le_refl _) _ |>.trans (hb1.mono (by simp))) (by simp) rfl); have B1 := Lib.hid (hB.out.trans (((Below.refl _ _).alloc (Nat.le_refl _) _ |>.trans (hb1.mono (by simp))).mono hB.out.size)); have z1 := K1.out.1; clear hb1 KB hB)
            | (refine wpList_load_at_w rfl 44 (.tmp 9) rfl _ rfl sc _ (LS.out _ K1.out.2.1) Try.underlying44 rfl iS.out ?_)
            | (go_at_call 42; refine (H2.out _).mono ?_; clear H2; rintro e w2 ⟨rfl, hb2⟩; have K2 := Lib.hid (K1.out.later hb2 z1 rfl); have B2 := Lib.hid (B1.out.trans (hb2.mono B1.out.size)); obtain ⟨z2, -, k2, s2⟩ := K2.out; clear hb2 K1 B1)
            | (refine wpList_load_at_w rfl 47 (.tmp 1) rfl _ rfl cs _ (LN.out _ K2.out.2.1) Try.underlying47 rfl iN.out ?_)
            | (go_at_call 48; refine (H3.out _ B2.out).mono ?_; rintro e w3 ⟨rfl, hb3⟩; have B3 := Lib.hid (B2.out.trans (hb3.mono B2.out.size)); clear hb3))
          go_ret
          exact ⟨by rw [hd.out]; first | rfl | (simp; done), B3.out⟩
        · have hd : d = true := by rw [hd0]; simp; omega
          clear hd0
          have hm' : 0 < m := by omega
          clear H3 H4; subst hd
          go_enter Try.func31, Try.ntmps31
          go_wp2_with (first
            | (go_at_call 29; refine (H1.out _ _ (HI.out _ _ (by simp))).mono ?_; clear H1; rintro e w1 ⟨rfl, hb1⟩; have K1 := Lib.hid (KB.out.later ((Below.refl _ _).alloc (Nat.le_refl _) _ |>.trans (hb1.mono (by simp))) (by simp) rfl); have B1 := Lib.hid (hB.out.trans (((Below.refl _ _).alloc (Nat.le_refl _) _ |>.trans (hb1.mono (by simp))).mono hB.out.size)); have z1 := K1.out.1; clear hb1 KB hB)
            | (refine wpList_load_at_w rfl 44 (.tmp 9) rfl _ rfl sc _ (LS.out _ K1.out.2.1) Try.underlying44 rfl iS.out ?_)
            | (go_at_call 42; refine (H2.out _).mono ?_; clear H2; rintro e w2 ⟨rfl, hb2⟩; have K2 := Lib.hid (K1.out.later hb2 z1 rfl); have B2 := Lib.hid (B1.out.trans (hb2.mono B1.out.size)); obtain ⟨z2, -, k2, s2⟩ := K2.out; clear hb2 K1 B1))
          go_ret
          exact ⟨rfl, B2.out⟩
      · by_cases hk5 : k = 5
        · subst hk5
          by_cases hm : m = 0
          · have hd : Hid (d = d4) := Lib.hid (by rw [hd0]; simp [hm])
            clear hd0
            subst hm
            go_enter Try.func31, Try.ntmps31
            go_wp2_with (first
              | (go_at_call 29; refine (H1.out _ _ (HI.out _ _ (by simp))).mono ?_; clear H1; rintro e w1 ⟨rfl, hb1⟩; have K1 := Lib.hid (KB.out.later ((Below.refl _ _).alloc (Nat.le_refl _) _ |>.trans (hb1.mono (by simp))) (by simp) rfl); have B1 := Lib.hid (hB.out.trans (((Below.refl _ _).alloc (Nat.le_refl _) _ |>.trans (hb1.mono (by simp))).mono hB.out.size)); have z1 := K1.out.1; clear hb1 KB hB)
              | (refine wpList_load_at_w rfl 44 (.tmp 9) rfl _ rfl sc _ (LS.out _ K1.out.2.1) Try.underlying44 rfl iS.out ?_)
              | (go_at_call 42; refine (H2.out _).mono ?_; clear H2; rintro e w2 ⟨rfl, hb2⟩; have K2 := Lib.hid (K1.out.later hb2 z1 rfl); have B2 := Lib.hid (B1.out.trans (hb2.mono B1.out.size)); obtain ⟨z2, -, k2, s2⟩ := K2.out; clear hb2 K1 B1)
              | (refine wpList_load_at_w rfl 47 (.tmp 1) rfl _ rfl cs _ (LN.out _ K2.out.2.1) Try.underlying47 rfl iN.out ?_)
              | (go_at_call 49; refine (H4.out _ B2.out).mono ?_; rintro e w3 ⟨rfl, hb3⟩; have B3 := Lib.hid (B2.out.trans (hb3.mono B2.out.size)); clear hb3))
            go_ret
            exact ⟨by rw [hd.out]; first | rfl | (simp; done), B3.out⟩
          · have hd : d = true := by rw [hd0]; simp; omega
            clear hd0
            have hm' : 0 < m := by omega
            clear H3 H4; subst hd
            go_enter Try.func31, Try.ntmps31
            go_wp2_with (first
              | (go_at_call 29; refine (H1.out _ _ (HI.out _ _ (by simp))).mono ?_; clear H1; rintro e w1 ⟨rfl, hb1⟩; have K1 := Lib.hid (KB.out.later ((Below.refl _ _).alloc (Nat.le_refl _) _ |>.trans (hb1.mono (by simp))) (by simp) rfl); have B1 := Lib.hid (hB.out.trans (((Below.refl _ _).alloc (Nat.le_refl _) _ |>.trans (hb1.mono (by simp))).mono hB.out.size)); have z1 := K1.out.1; clear hb1 KB hB)
              | (refine wpList_load_at_w rfl 44 (.tmp 9) rfl _ rfl sc _ (LS.out _ K1.out.2.1) Try.underlying44 rfl iS.out ?_)
              | (go_at_call 42; refine (H2.out _).mono ?_; clear H2; rintro e w2 ⟨rfl, hb2⟩; have K2 := Lib.hid (K1.out.later hb2 z1 rfl); have B2 := Lib.hid (B1.out.trans (hb2.mono B1.out.size)); obtain ⟨z2, -, k2, s2⟩ := K2.out; clear hb2 K1 B1))
            go_ret
            exact ⟨rfl, B2.out⟩
        · have hd : Hid (d = d4) := Lib.hid (by rw [hd0]; simp [hk1, hk5])
          clear hd0
          have e1 : (k == 1) = false := by simpa using hk1
          have e5 : (k == 5) = false := by simpa using hk5
          go_enter Try.func31, Try.ntmps31
          go_wp2_with (first
            | (go_at_call 29; refine (H1.out _ _ (HI.out _ _ (by simp))).mono ?_; clear H1; rintro e w1 ⟨rfl, hb1⟩; have K1 := Lib.hid (KB.out.later ((Below.refl _ _).alloc (Nat.le_refl _) _ |>.trans (hb1.mono (by simp))) (by simp) rfl); have B1 := Lib.hid (hB.out.trans (((Below.refl _ _).alloc (Nat.le_refl _) _ |>.trans (hb1.mono (by simp))).mono hB.out.size)); have z1 := K1.out.1; clear hb1 KB hB)
            | (refine wpList_load_at_w rfl 44 (.tmp 9) rfl _ rfl sc _ (LS.out _ K1.out.2.1) Try.underlying44 rfl iS.out ?_)
            | (go_at_call 42; refine (H2.out _).mono ?_; clear H2; rintro e w2 ⟨rfl, hb2⟩; have K2 := Lib.hid (K1.out.later hb2 z1 rfl); have B2 := Lib.hid (B1.out.trans (hb2.mono B1.out.size)); obtain ⟨z2, -, k2, s2⟩ := K2.out; clear hb2 K1 B1)
            | (refine wpList_load_at rfl 47 (.tmp 1) rfl _ rfl cs _ (LN.out _ K2.out.2.1) Try.underlying47 rfl iN.out ?_)
            | (go_at_call 49; refine (H4.out _ B2.out).mono ?_; rintro e w3 ⟨rfl, hb3⟩; have B3 := Lib.hid (B2.out.trans (hb3.mono B2.out.size)); clear hb3))
          go_ret
          exact ⟨by rw [hd.out]; first | rfl | (simp; done), B3.out⟩
theorem wrong_any (n : Nd) (w : World) (h : n.ok w) : Calls Try.prog 31 #[n.val] w fun e W' => e = .returned (.bool (wrongN n)) ∧ Below w.heap.size w W' := by
  obtain ⟨p, cap, hkv⟩ := h.1.form
  refine wrong_at n w p _ cap _ _ (!([n.k].any (outB 0 10))) (validS n.s) (wrongT n) (hasT n) (wrongN n) hkv rfl rfl (Lib.hid fun sv X hI => twithin_any_k 0 10 sv [n.k] X hI) (Lib.hid fun X => valid_any n.s X)
    (Lib.hid fun X hX => wrongText_any n X (h.below hX)) (Lib.hid fun X hX => hasText_any n X (h.below hX)) (Lib.hid ?_)
  unfold wrongN
  rw [within_one]
  congr 1
  by_cases h1 : 0 ≤ n.k <;> by_cases h2 : n.k ≤ 10 <;> simp [h1, h2]
end Go.Proofs.Ytecnapecmioamaa
