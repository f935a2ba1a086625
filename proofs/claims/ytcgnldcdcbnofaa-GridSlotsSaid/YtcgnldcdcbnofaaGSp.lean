/- Rows of cells in memory; the iterator over all cells (grid.cells). -/
import Derived.Test.YtcgnldcdcbnofaaSNext
import Derived.Test.YtcgnldcdcbnofaaMarks
import Derived.WalkSpells
import Derived.Lib.Hide
import Derived.LoopTactic
import Derived.BigQuiet
import Derived.Deep.QuietTactic
import Derived.Deep.LoopGhost
import Derived.Shelf.Abstract
import Derived.Shelf.RegionOpen
import Derived.ScopeJumps
import Derived.WalkMore
namespace Go.Proofs.Ytcgnldcdcbnofaa
open Go.RowKit Go.Shelf
set_option linter.unusedVariables false
attribute [local go_sem] Oper.semAt_some

/-- a cell: its node, how many columns and rows it wants -/
structure Sp where
  n : Int
  c : Int
  r : Int
def Sp.cells (x : Sp) : List Value := [.int .i64 x.n, .int .i64 x.c, .int .i64 x.r]
/-- a row of cells lies below B -/
def RowIn (B : Nat) (X : World) (v : Value) (xs : List Sp) : Prop :=
  xs.length ≤ 9223372036854775807 ∧ ((∃ a c, v = .slice a 0 c ∧ xs = []) ∨ ∃ b off c, v = .slice (some ⟨b, off, none⟩) xs.length c ∧ b < B ∧
    ∀ j x, xs[j]? = some x → X.cell? ⟨b, off + j * 3, none⟩ = some (.int .i64 x.n) ∧ X.cell? ⟨b, off + j * 3 + 1, none⟩ = some (.int .i64 x.c) ∧ X.cell? ⟨b, off + j * 3 + 2, none⟩ = some (.int .i64 x.r))
/-- rows of cells lie below B -/
def RowsIn (B : Nat) (X : World) (v : Value) (hv : Nat → Value) (rows : List (List Sp)) : Prop :=
  rows.length ≤ 9223372036854775807 ∧ ((∃ a c, v = .slice a 0 c ∧ rows = []) ∨ ∃ b off c, v = .slice (some ⟨b, off, none⟩) rows.length c ∧ b < B ∧
    ∀ i row, rows[i]? = some row → X.cell? ⟨b, off + i, none⟩ = some (hv i) ∧ RowIn B X (hv i) row)
theorem RowIn.keep {B : Nat} {X Y : World} {v : Value} {xs : List Sp} (h : RowIn B X v xs) (hb : ∀ k, k < B → Y.heap[k]? = X.heap[k]?) : RowIn B Y v xs := by
  refine ⟨h.1, h.2.imp id ?_⟩
  rintro ⟨b, off, c, e, hB, hc⟩
  refine ⟨b, off, c, e, hB, fun j x hx => ?_⟩
  obtain ⟨h1, h2, h3⟩ := hc j x hx
  have hq : ∀ o, Y.cell? ⟨b, o, none⟩ = X.cell? ⟨b, o, none⟩ := fun o => by simp only [World.cell?]; rw [hb b hB]
  rw [hq, hq, hq]
  exact ⟨h1, h2, h3⟩
theorem RowsIn.keep {B : Nat} {X Y : World} {v : Value} {hv : Nat → Value} {rows : List (List Sp)} (h : RowsIn B X v hv rows) (hb : ∀ k, k < B → Y.heap[k]? = X.heap[k]?) : RowsIn B Y v hv rows := by
  refine ⟨h.1, h.2.imp id ?_⟩
  rintro ⟨b, off, c, e, hB, hc⟩
  refine ⟨b, off, c, e, hB, fun i row hr => ?_⟩
  obtain ⟨h1, h2⟩ := hc i row hr
  exact ⟨by simp only [World.cell?] at h1 ⊢; rw [hb b hB]; exact h1, h2.keep hb⟩
theorem RowsIn.below {B : Nat} {X Y : World} {v : Value} {hv : Nat → Value} {rows : List (List Sp)} (h : RowsIn B X v hv rows) (hb : Below B X Y) : RowsIn B Y v hv rows := h.keep fun k hk => hb.block k hk
theorem RowIn.below {B : Nat} {X Y : World} {v : Value} {rows : List Sp} (h : RowIn B X v rows) (hb : Below B X Y) : RowIn B Y v rows := h.keep fun k hk => hb.block k hk
theorem RowsIn.mono {B C : Nat} {X : World} {v : Value} {hv : Nat → Value} {rows : List (List Sp)} (h : RowsIn B X v hv rows) (hb : B ≤ C) : RowsIn C X v hv rows := by
  refine ⟨h.1, h.2.imp id ?_⟩
  rintro ⟨b, off, c, e, hB, hc⟩
  refine ⟨b, off, c, e, by omega, fun i row hr => ?_⟩
  obtain ⟨h1, h2⟩ := hc i row hr
  refine ⟨h1, h2.1, h2.2.imp id ?_⟩
  rintro ⟨b', off', c', e', hB', hc'⟩
  exact ⟨b', off', c', e', by omega, hc'⟩
theorem RowsIn.form {B : Nat} {X : World} {v : Value} {hv : Nat → Value} {rows : List (List Sp)} (h : RowsIn B X v hv rows) : ∃ p c, v = .slice p rows.length c := by
  rcases h.2 with ⟨a, c, rfl, rfl⟩ | ⟨b, off, c, rfl, _⟩
  · exact ⟨_, _, rfl⟩
  · exact ⟨_, _, rfl⟩
theorem RowIn.form {B : Nat} {X : World} {v : Value} {rows : List Sp} (h : RowIn B X v rows) : ∃ p c, v = .slice p rows.length c := by
  rcases h.2 with ⟨a, c, rfl, rfl⟩ | ⟨b, off, c, rfl, _⟩
  · exact ⟨_, _, rfl⟩
  · exact ⟨_, _, rfl⟩
theorem RowsIn.at {B : Nat} {X : World} {p : Option Addr} {l c : Nat} {hv : Nat → Value} {rows : List (List Sp)} (h : RowsIn B X (.slice p l c) hv rows) (i : Nat) (row : List Sp) (hr : rows[i]? = some row) :
    ∃ b off, p = some ⟨b, off, none⟩ ∧ b < B ∧ X.cell? ⟨b, off + i, none⟩ = some (hv i) ∧ RowIn B X (hv i) row := by
  rcases h.2 with ⟨a, c', _, rfl⟩ | ⟨b, off, c', e, hB, hc⟩
  · simp at hr
  · injection e with e1 e2 e3
    exact ⟨b, off, e1, hB, hc i row hr⟩
theorem RowIn.at {B : Nat} {X : World} {p : Option Addr} {l c : Nat} {xs : List Sp} (h : RowIn B X (.slice p l c) xs) (j : Nat) (x : Sp) (hx : xs[j]? = some x) :
    ∃ b off, p = some ⟨b, off, none⟩ ∧ b < B ∧ X.cell? ⟨b, off + j * 3, none⟩ = some (.int .i64 x.n) ∧ X.cell? ⟨b, off + j * 3 + 1, none⟩ = some (.int .i64 x.c) ∧ X.cell? ⟨b, off + j * 3 + 2, none⟩ = some (.int .i64 x.r) := by
  rcases h.2 with ⟨a, c', _, rfl⟩ | ⟨b, off, c', e, hB, hc⟩
  · simp at hx
  · injection e with e1 e2 e3
    obtain ⟨h1, h2, h3⟩ := hc j x hx
    exact ⟨b, off, e1, hB, h1, h2, h3⟩
/-- all cells, each with its row, from row k on -/
def cellsF : Nat → List (List Sp) → List (Nat × Sp)
  | _, [] => []
  | k, row :: r => row.map (fun x => (k, x)) ++ cellsF (k + 1) r
theorem cellsF_drop (rows : List (List Sp)) (t : Nat) (row : List Sp) (h : rows[t]? = some row) : cellsF t (rows.drop t) = row.map (fun x => (t, x)) ++ cellsF (t + 1) (rows.drop (t + 1)) := by
  obtain ⟨hl, he⟩ := List.getElem?_eq_some_iff.1 h
  rw [List.drop_eq_getElem_cons hl, he]
  rfl
theorem cellsF_end (rows : List (List Sp)) (t : Nat) (h : rows.length ≤ t) : cellsF t (rows.drop t) = [] := by
  rw [List.drop_of_length_le h]; rfl
theorem map_drop (row : List Sp) (t j : Nat) (x : Sp) (h : row[j]? = some x) : (row.drop j).map (fun x => (t, x)) = (t, x) :: (row.drop (j + 1)).map (fun x => (t, x)) := by
  obtain ⟨hl, he⟩ := List.getElem?_eq_some_iff.1 h
  rw [List.drop_eq_getElem_cons hl, he]
  rfl
/-- the next cell -/
def nxtC (rows : List (List Sp)) (pre : List (Nat × Sp)) (x : Nat × Sp) : Prop := ∃ rest, cellsF 0 rows = pre ++ x :: rest
def encC (x : Nat × Sp) : Array Value := #[.int .i64 (x.1 : Int), .agg #[.int .i64 x.2.n, .int .i64 x.2.c, .int .i64 x.2.r]]
def KeepG (R : World → Prop) (V W : World) : Prop := V.heap.size ≤ W.heap.size ∧ (R V → R W)
theorem KeepG.trans {R : World → Prop} {U V W : World} (h : KeepG R U V) (k : KeepG R V W) : KeepG R U W := ⟨Nat.le_trans h.1 k.1, fun x => k.2 (h.2 x)⟩
/-- what the iterator reads: its box, and the rows, which lie below B -/
structure CellMem (B gb : Nat) (v : Value) (hv : Nat → Value) (rows : List (List Sp)) (X : World) : Prop where
  size : B ≤ X.heap.size
  lt : gb < X.heap.size
  box : X.cell? ⟨gb, 0, none⟩ = some v
  rows : RowsIn B X v hv rows
theorem CellMem.keep {B gb : Nat} {v : Value} {hv : Nat → Value} {rows : List (List Sp)} {X Y : World} (h : CellMem B gb v hv rows X) (hs : X.heap.size ≤ Y.heap.size) (hb : ∀ k, k < B → Y.heap[k]? = X.heap[k]?) (hg : Y.heap[gb]? = X.heap[gb]?) : CellMem B gb v hv rows Y :=
  ⟨Nat.le_trans h.size hs, Nat.lt_of_lt_of_le h.lt hs, by have := h.box; simp only [World.cell?] at this ⊢; rw [hg]; exact this, h.rows.keep hb⟩
theorem CellMem.below {B gb : Nat} {v : Value} {hv : Nat → Value} {rows : List (List Sp)} {X Y : World} (h : CellMem B gb v hv rows X) (hb : Below X.heap.size X Y) : CellMem B gb v hv rows Y :=
  h.keep hb.size (fun k hk => hb.block k (Nat.lt_of_lt_of_le hk h.size)) (hb.block gb h.lt)
theorem grown_of_below' {W W' : World} (hb : Below W.heap.size W W') : W.grownBy W' none := ⟨hb.os, hb.tape, hb.output, hb.size, fun k hk _ => hb.block k hk⟩
theorem abides_below' {β : Type} {B : Nat} {J : β → World → Prop} (h : AbidesFrom B J) {s : β} {W W' : World} (hs : J s W) (hb : Below W.heap.size W W') : J s W' :=
  h s W W' none hs (grown_of_below' hb) (fun r e => by cases e)
set_option maxRecDepth 100000 in
set_option maxHeartbeats 2000000 in
theorem gcells_in (n : Nat) (hn : 1 ≤ n) (l B gb m c : Nat) (p : Option Addr) (hv : Nat → Value) (rows : List (List Sp)) (hm : rows.length = m) (J Jx : List (Nat × Sp) → World → Prop)
    (hY : ∀ pre x W, J pre W → nxtC rows pre x → YieldAt Fence.wide (n - 1) Try.prog l (encC x) W fun e W' =>
      (e = .returned (.bool true) ∧ J (pre ++ [x]) W' ∧ KeepG (CellMem B gb (.slice p m c) hv rows) W W') ∨ (e = .returned (.bool false) ∧ Jx (pre ++ [x]) W'))
    (W : World) (hJ : AbidesFrom W.heap.size J) (hR : CellMem B gb (.slice p m c) hv rows W) (h0 : J [] W) :
    CallsIn Fence.wide n Try.prog 45 #[.func (.yield l) #[] #[], .pointer (some ⟨gb, 0, none⟩)] W fun e W' => (∃ v, e = .returned v) ∧
      ((∃ ys, ys = cellsF 0 rows ∧ J ys W') ∨ (∃ pre, True ∧ Jx pre W')) := by
  refine callsIn_of_wp Try.func45 rfl trivial ?_ rfl
  simp only [Try.ntmps45, List.size_toArray, List.length_cons, List.length_nil, Nat.reduceAdd, Nat.reduceSub, Array.replicate_succ, Array.replicate_zero, List.push_toArray, List.append_toArray, List.nil_append, List.cons_append]
  have HY := Lib.hid hY
  have HJ := Lib.hid hJ
  have HR0 := Lib.hid hR
  have H0 := Lib.hid h0
  have HM := Lib.hid hm
  have hmm : m ≤ 9223372036854775807 := by have := hR.rows.1; omega
  have bx := hR.box
  have lb := hR.lt
  clear hY hJ h0 hm hR
  refine wpIn_wide.2 (wp_scope_straight ((wpIn_wide (n := n)).1 ?_))
  gi_wp2
  refine wpIn_label ?_
  gi_wp2
  gi_loopw [9] (fun s9 X => ∃ (t : Nat) (pre : List (Nat × Sp)), t ≤ m ∧ s9 = .int .i64 t ∧ Hid (cellsF 0 rows = pre ++ cellsF t (rows.drop t)) ∧ Hid (J pre X) ∧ Hid (CellMem B gb (.slice p m c) hv rows X) ∧ Hid (W.heap.size ≤ X.heap.size)) (fun s9 _ => m - (intOf s9).toNat)
  case atStart => exact ⟨0, [], Nat.zero_le _, rfl, Lib.hid (by simp), H0, HR0, Lib.hid (Nat.le_refl _)⟩
  case round =>
    obtain ⟨t, pre, ht, rfl, HE, HJ1, HR, HZ⟩ := hrel
    clear bx lb
    by_cases hlt : t < m
    · obtain ⟨row, hrow⟩ : ∃ row, rows[t]? = some row := ⟨_, List.getElem?_eq_getElem (by rw [HM.out]; exact hlt)⟩
      obtain ⟨b, off, rfl, hbB, crow, hrin⟩ := HR.out.rows.at t row hrow
      obtain ⟨q, cq, hvt⟩ := hrin.form
      rw [hvt] at crow hrin
      have hk := hrin.1
      have HRW := Lib.hid hrow
      have hbs : b < wr.heap.size := by have := HR.out.size; omega
      have HRI := Lib.hid hrin
      obtain ⟨k, hkk⟩ : ∃ k, row.length = k := ⟨_, rfl⟩
      rw [hkk] at hk crow HRI hvt
      have HVT := Lib.hid hvt
      clear hvt
      have HK := Lib.hid hkk
      have HE2 := Lib.hid (HE.out.trans (by rw [cellsF_drop rows t row hrow]))
      clear hrow hrin hkk HE
      gi_wp2
      gi_loopw [16] (fun s16 X => ∃ (j : Nat) (pre : List (Nat × Sp)), j ≤ k ∧ s16 = .int .i64 j ∧ Hid (cellsF 0 rows = pre ++ ((row.drop j).map (fun x => (t, x)) ++ cellsF (t + 1) (rows.drop (t + 1)))) ∧ Hid (J pre X) ∧ Hid (CellMem B gb (.slice (some ⟨b, off, none⟩) m c) hv rows X) ∧ Hid (W.heap.size ≤ X.heap.size) ∧ Hid (RowIn B X (.slice q k cq) row)) (fun s16 _ => k - (intOf s16).toNat)
      case atStart => exact ⟨0, pre, Nat.zero_le _, rfl, Lib.hid (by simpa using HE2.out), HJ1, HR, HZ, HRI⟩
      case round =>
        clear HE2 HJ1 HR HZ HRI crow hbs
        obtain ⟨j, pre, hj, rfl, HE, HJ1, HR, HZ, HRI⟩ := hrel
        by_cases hjl : j < k
        · obtain ⟨x, hx⟩ : ∃ x, row[j]? = some x := ⟨_, List.getElem?_eq_getElem (by rw [HK.out]; exact hjl)⟩
          obtain ⟨b', off', rfl, hbB', c0, c1, c2⟩ := HRI.out.at j x hx
          have hbs' : b' < wr.heap.size := by have := HR.out.size; omega
          have hE3 := HE.out.trans (by rw [map_drop row t j x hx])
          obtain ⟨x1, x2, x3⟩ := x
          have HE3 := Lib.hid hE3
          clear hE3 hx HE
          obtain ⟨V, hV⟩ : ∃ V, wr.alloc (.cells #[.int .i64 x1, .int .i64 x2, .int .i64 x3] 48) = V := ⟨_, rfl⟩
          have kv := hV ▸ whole_new wr [.int .i64 x1, .int .i64 x2, .int .i64 x3] 48 _ rfl
          have bV : Below wr.heap.size wr V := hV ▸ (Below.refl _ wr).alloc (Nat.le_refl _) _
          have hJV := abides_below' HJ.out HJ1.out bV
          have hS : Hid (CellMem B gb (.slice (some ⟨b, off, none⟩) m c) hv rows V) := Lib.hid (HR.out.below bV)
          have hI : Hid (RowIn B V (.slice (some ⟨b', off', none⟩) k cq) row) := Lib.hid (HRI.out.below (bV.mono HR.out.size))
          have hZV : Hid (W.heap.size ≤ V.heap.size) := Lib.hid (Nat.le_trans HZ.out bV.size)
          have lV := kv.lt
          have f0 := kv.cellAt 0
          have f1 := kv.cellAt 1
          have f2 := kv.cellAt 2
          obtain ⟨fn, tmps, assign, body, hy, hRR⟩ := HY.out pre (t, ⟨x1, x2, x3⟩) V hJV ⟨_, HE3.out⟩
          dsimp only [encC] at hy
          have HRn := Lib.hid hRR
          clear hJV kv bV HRI HR HJ1 HZ hRR HY
          gi_wp2
          refine HRn.out.mono ?_
          rintro e W3 (⟨rfl, hJ3, hk3⟩ | ⟨rfl, hJx3⟩)
          · have H3 := Lib.hid hJ3
            have K3 := Lib.hid hk3
            clear hJ3 hk3 HRn hV c0 c1 c2 f0 f1 f2 hy
            have hI3 : Hid (RowIn B W3 (.slice (some ⟨b', off', none⟩) k cq) row) := Lib.hid ?hrow
            gi_wp2
            go_roundw
            case rel => exact ⟨j + 1, pre ++ [(t, ⟨x1, x2, x3⟩)], by omega, by go_num, Lib.hid (by rw [HE3.out]; simp), H3, Lib.hid (K3.out.2 hS.out), Lib.hid (Nat.le_trans hZV.out K3.out.1), hI3⟩
            case measure => simp [intOf]; omega
            case hrow =>
              obtain ⟨_, _, _, _, _, hr'⟩ := (K3.out.2 hS.out).rows.at t row HRW.out
              rw [HVT.out] at hr'
              exact hr'
          · have H3 := Lib.hid hJx3
            clear hJx3 HRn hV c0 c1 c2 f0 f1 f2 hy
            gi_wp2
            simp only [Exit.noGoto]
            go_end0
            exact ⟨⟨_, rfl⟩, .inr ⟨_, trivial, H3.out⟩⟩
        · have HE2 : Hid (cellsF 0 rows = pre ++ cellsF (t + 1) (rows.drop (t + 1))) := Lib.hid (by have := HE.out; rw [List.drop_of_length_le (by rw [HK.out]; omega)] at this; simpa using this)
          clear HE HRI
          gi_wp2
          go_roundw
          case rel => exact ⟨t + 1, pre, by omega, by go_num, HE2, HJ1, HR, HZ⟩
          case measure => simp [intOf]; omega
    · have HE2 : Hid (pre = cellsF 0 rows) := Lib.hid (by have := HE.out; rw [cellsF_end rows t (by rw [HM.out]; omega), List.append_nil] at this; exact this.symm)
      clear HE
      gi_wp2
      simp only [Exit.noGoto]
      go_end0
      exact ⟨⟨_, rfl⟩, .inl ⟨_, HE2.out, HJ1.out⟩⟩
theorem gcells_next (n : Nat) (hn : 1 ≤ n) (B gb : Nat) (v : Value) (hv : Nat → Value) (rows : List (List Sp)) (w : World) (hR : CellMem B gb v hv rows w) :
    SeqNext Fence.wide n Try.prog 45 #[.pointer (some ⟨gb, 0, none⟩)] encC (KeepG (CellMem B gb v hv rows)) (nxtC rows) (fun ys => ys = cellsF 0 rows) (fun _ => True) w := by
  obtain ⟨p, c, rfl⟩ := hR.rows.form
  exact fun l J Jx W hW hJ hY h0 => gcells_in n hn l _ gb rows.length c p hv rows rfl J Jx hY W hJ (hR.below hW) h0
theorem gcellsF_any (p1 : Option Addr) (l1 c1 : Nat) (w : World) :
    Calls Try.prog 26 #[.slice p1 l1 c1] w fun e w' => e = .returned (.func (.func 45) #[] #[.pointer (some ⟨w.heap.size, 0, none⟩)]) ∧
      w' = w.alloc (.cells #[.slice p1 l1 c1] 25) := by
  go_enter Try.func26, Try.ntmps26
  go_wp2
  go_ret
  exact ⟨rfl, rfl⟩
end Go.Proofs.Ytcgnldcdcbnofaa
