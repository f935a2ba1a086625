/- Lines, and lists of four lines: contracts of collapse.rightLines and rightCells. -/
/- Two lists that grow side by side, their slices in the two fields of one box: what an append to one of them leaves of the other. Nothing of the program. -/
import Derived.Test.YtceippgkmoijdaaCMm
import Derived.Test.YtceippgkmoijdaaCBase
import Derived.Maps.OwnIn
import Derived.RangeFuncNested
import Derived.RangeFuncBound
import Derived.RangeFuncCalls
namespace Go.Proofs.Ytceippgkmoijdaa
open Go.RowKit Go.Shelf
set_option linter.unusedVariables false
set_option linter.unusedSimpArgs false

/-- a line -/
structure Li where
  st : Int
  wd : Int
  co : Int
  deriving DecidableEq, Inhabited
def Li.cells (s : Li) : List Value := [.int .i64 s.st, .int .i64 s.wd, .int .u32 s.co]
def Li.val (s : Li) : Value := .agg #[.int .i64 s.st, .int .i64 s.wd, .int .u32 s.co]
theorem Li.cells_len (s : Li) : s.cells.length = 3 := rfl
/-- is a line right? -/
def liB (l : Li) : Bool := rightS ⟨l.st, l.wd, l.co, 0, 0, 0⟩
/-- four lines -/
structure Fr where
  a : Li
  b : Li
  c : Li
  d : Li
  deriving DecidableEq, Inhabited
def Fr.list (s : Fr) : List Li := [s.a, s.b, s.c, s.d]
def Fr.cells (s : Fr) : List Value := s.a.cells ++ s.b.cells ++ s.c.cells ++ s.d.cells
def Fr.val (s : Fr) : Value := .agg s.cells.toArray
theorem Fr.cells_len (s : Fr) : s.cells.length = 12 := rfl
theorem Fr.flat (s : Fr) : s.list.flatMap Li.cells = s.cells := rfl
def frB (s : Fr) : Bool := s.list.all liB

set_option maxHeartbeats 400000 in
theorem liw_any (s : Li) (W : World) :
    Calls Try.prog 66 #[s.val] W fun e W' => e = .returned (.bool (!liB s)) ∧ Below W.heap.size W W' := by
  have HR := Lib.hid (fun X => right_any ⟨s.st, s.wd, s.co, 0, 0, 0⟩ X)
  obtain ⟨b, hb⟩ : ∃ b, liB s = b := ⟨_, rfl⟩
  rw [show rightS ⟨s.st, s.wd, s.co, 0, 0, 0⟩ = b from hb] at HR
  rw [hb]
  clear hb
  obtain ⟨st, wd, co⟩ := s
  unfold Si.val at HR
  unfold Li.val
  dsimp only at HR ⊢
  go_enter Try.func66, Try.ntmps66
  go_wp2_with fail
  refine (HR.out _).mono ?_
  rintro e w' ⟨rfl, hb1⟩
  have HB := Lib.hid hb1
  clear hb1
  go_wp2
  go_ret
  exact ⟨by first | rfl | (simp; done), ((Below.refl _ _).alloc (Nat.le_refl _) _).trans (HB.out.mono (by simp))⟩
theorem any_notC {α : Type} (p : α → Bool) (zs : List α) : (zs.any fun r => !p r) = !(zs.all p) := by
  induction zs with
  | nil => rfl
  | cons a l ih => rw [List.any_cons, List.all_cons, ih]; cases p a <;> rfl
set_option maxHeartbeats 400000 in
theorem rightLines_any (sv : Value) (zs : List Li) (W : World) (hI : RowsK Li.cells 3 W sv zs) :
    Calls Try.prog 40 #[sv] W fun e W' => e = .returned (.bool (zs.all liB)) ∧ Below W.heap.size W W' := by
  have eg : ∀ args w, (callFunc 66 args).run Try.prog w = .ok (.enter 66 args) w := enters_of Try.func66 (by kernel_rfl) rfl
  have hcall : Calls Try.prog 65 #[sv, .func (.func 66) #[] #[]] W fun e W' => e = .returned (.bool (zs.any fun r => !liB r)) ∧ Below W.heap.size W W' := by
    obtain ⟨hm, ⟨a, cap, rfl, rfl⟩ | ⟨b, off, cap, rfl, hlt, hc⟩⟩ := hI
    · have hN : Calls Try.prog 78 #[.slice a 0 cap, .func (.func 66) #[] #[]] W (IdxPost false W) := by
        go_enter Try.func78, Try.ntmps78
        go_wp2
        refine wp_loop_rounds 1 ?_
        rw [rounds_succ]
        go_wp2
        go_ret
        exact ⟨-1, rfl, rfl, rfl⟩
      have HC := Lib.hid hN
      clear hN
      go_enter Try.func65, Try.ntmps65
      go_wp2_with fail
      refine HC.out.mono ?_
      rintro e w' ⟨i, rfl, hi, rfl⟩
      have HI := Lib.hid hi
      clear hi
      go_wp2
      go_ret
      refine ⟨?_, Below.refl _ _⟩
      have := HI.out
      first | (rw [this]; rfl) | (simp [this]; done) | (simp; simpa using this)
    · have h := AnyQ.slices_ContainsFunc Try.containsLn 3 Try.isAgg27 Try.sizeOf27 Li.cells (fun _ => rfl) (fun r => !liB r) 66 #[] eg b off zs.length cap zs W (fun X r hX => (liw_any r X).mono fun _ _ ⟨he, hb⟩ => ⟨he, hX.trans (hb.mono hX.size)⟩) (Nat.le_refl _) hm hlt hc
      rw [List.take_length] at h
      exact h
  rw [any_notC] at hcall
  obtain ⟨b, hb⟩ : ∃ b, zs.all liB = b := ⟨_, rfl⟩
  rw [hb] at hcall ⊢
  have HC := Lib.hid hcall
  clear hcall hb
  go_enter Try.func40, Try.ntmps40
  go_wp2_with fail
  refine HC.out.mono ?_
  rintro e w' ⟨rfl, hb1⟩
  have HB := Lib.hid hb1
  clear hb1
  go_wp2
  go_ret
  exact ⟨by cases b <;> rfl, HB.out⟩
set_option maxRecDepth 100000 in
set_option maxHeartbeats 1000000 in
theorem frw_any (s : Fr) (W : World) :
    Calls Try.prog 64 #[s.val] W fun e W' => e = .returned (.bool (!frB s)) ∧ Below W.heap.size W W' := by
  have k0 := whole_new W s.cells 28 _ rfl
  have HR := Lib.hid (rightLines_any (.slice (some ⟨W.heap.size, 0, none⟩) 4 4) s.list (W.alloc (.cells s.cells.toArray 28)) (RowsK.whole Li.cells_len (t := 28) (by rw [Fr.flat]; exact k0) rfl 4 (by simp [Fr.list])))
  obtain ⟨b, hb⟩ : ∃ b, frB s = b := ⟨_, rfl⟩
  rw [show s.list.all liB = b from hb] at HR
  rw [hb]
  clear hb k0
  obtain ⟨⟨a0, a1, a2⟩, ⟨b0, b1, b2⟩, ⟨c0, c1, c2⟩, ⟨d0, d1, d2⟩⟩ := s
  unfold Fr.val
  simp only [Fr.cells, Li.cells, List.cons_append, List.nil_append] at HR ⊢
  go_enter Try.func64, Try.ntmps64
  go_wp2_with fail
  refine HR.out.mono ?_
  rintro e w' ⟨rfl, hb1⟩
  have HB := Lib.hid hb1
  clear hb1
  go_wp2
  go_ret
  exact ⟨by first | rfl | (simp; done), ((Below.refl _ _).alloc (Nat.le_refl _) _).trans (HB.out.mono (by simp))⟩
set_option maxHeartbeats 400000 in
theorem rightCells_any (sv : Value) (zs : List Fr) (W : World) (hI : RowsK Fr.cells 12 W sv zs) :
    Calls Try.prog 39 #[sv] W fun e W' => e = .returned (.bool (zs.all frB)) ∧ Below W.heap.size W W' := by
  have eg : ∀ args w, (callFunc 64 args).run Try.prog w = .ok (.enter 64 args) w := enters_of Try.func64 (by kernel_rfl) rfl
  have hcall : Calls Try.prog 63 #[sv, .func (.func 64) #[] #[]] W fun e W' => e = .returned (.bool (zs.any fun r => !frB r)) ∧ Below W.heap.size W W' := by
    obtain ⟨hm, ⟨a, cap, rfl, rfl⟩ | ⟨b, off, cap, rfl, hlt, hc⟩⟩ := hI
    · have hN : Calls Try.prog 77 #[.slice a 0 cap, .func (.func 64) #[] #[]] W (IdxPost false W) := by
        go_enter Try.func77, Try.ntmps77
        go_wp2
        refine wp_loop_rounds 1 ?_
        rw [rounds_succ]
        go_wp2
        go_ret
        exact ⟨-1, rfl, rfl, rfl⟩
      have HC := Lib.hid hN
      clear hN
      go_enter Try.func63, Try.ntmps63
      go_wp2_with fail
      refine HC.out.mono ?_
      rintro e w' ⟨i, rfl, hi, rfl⟩
      have HI := Lib.hid hi
      clear hi
      go_wp2
      go_ret
      refine ⟨?_, Below.refl _ _⟩
      have := HI.out
      first | (rw [this]; rfl) | (simp [this]; done) | (simp; simpa using this)
    · have h := AnyQ.slices_ContainsFunc Try.containsFr 12 Try.isAgg28 Try.sizeOf28 Fr.cells (fun _ => rfl) (fun r => !frB r) 64 #[] eg b off zs.length cap zs W (fun X r hX => (frw_any r X).mono fun _ _ ⟨he, hb⟩ => ⟨he, hX.trans (hb.mono hX.size)⟩) (Nat.le_refl _) hm hlt hc
      rw [List.take_length] at h
      exact h
  rw [any_notC] at hcall
  obtain ⟨b, hb⟩ : ∃ b, zs.all frB = b := ⟨_, rfl⟩
  rw [hb] at hcall ⊢
  have HC := Lib.hid hcall
  clear hcall hb
  go_enter Try.func39, Try.ntmps39
  go_wp2_with fail
  refine HC.out.mono ?_
  rintro e w' ⟨rfl, hb1⟩
  have HB := Lib.hid hb1
  clear hb1
  go_wp2
  go_ret
  exact ⟨by cases b <;> rfl, HB.out⟩
end Go.Proofs.Ytceippgkmoijdaa

namespace Go.Proofs.Ytceippgkmoijdaa
open Go.RowKit
set_option linter.unusedVariables false

theorem Whole.grown {W W' : World} {row : Option Nat} {g t : Nat} {xs : List Value} (h : Whole W g t xs) (hg : W.grownBy W' row) (hr : row ≠ some g) : Whole W' g t xs :=
  (hg.block g h.lt (fun e => hr e.symm)).trans h
/-- rows that hold no cells -/
def NoCells (W : World) (row : Option Nat) : Prop := ∀ r, row = some r → ∃ o : Obj, W.heap[r]? = some o ∧ o.isCells = false
theorem Whole.ne {W : World} {row : Option Nat} {g t : Nat} {xs : List Value} (h : Whole W g t xs) (hr : NoCells W row) : row ≠ some g := fun e => by
  obtain ⟨o, ho, hc⟩ := hr g e
  rw [show W.heap[g]? = _ from h] at ho; cases ho; cases hc
theorem own_block_cells {W : World} {base e size n : Nat} {v : Value} {xs : List Value} (h : W.ownsRow base e size v n xs) {g : Nat} (hg : v.ownBlock = some g) : ∃ cur, W.heap[g]? = some (.cells cur e (0, 0)) := by
  rcases h.2 with ⟨rfl, _⟩ | ⟨g', cap, cur, rfl, _, hgg, _⟩
  · simp [Value.ownBlock] at hg
  · simp [Value.ownBlock] at hg; subst hg; exact ⟨cur, hgg⟩
theorem own_ne {W : World} {base e size n : Nat} {v : Value} {xs : List Value} (h : W.ownsRow base e size v n xs) {row : Option Nat} (hr : NoCells W row) : v.ownBlock = none ∨ v.ownBlock ≠ row := by
  cases hv : v.ownBlock with
  | none => exact .inl rfl
  | some g =>
    refine .inr fun e => ?_
    obtain ⟨cur, hc⟩ := own_block_cells h hv
    obtain ⟨o, ho, hc'⟩ := hr g e.symm
    rw [hc] at ho; cases ho; cases hc'
theorem own_grown {W W' : World} {base e size n : Nat} {v : Value} {xs : List Value} {row : Option Nat} (h : W.ownsRow base e size v n xs) (hg : W.grownBy W' row) (hr : NoCells W row) : W'.ownsRow base e size v n xs := h.kept hg (own_ne h hr)
theorem whole_own {W : World} {base e size n g t : Nat} {v : Value} {xs ys : List Value} (hw : Whole W g t ys) (h : W.ownsRow base e size v n xs) (hte : t ≠ e) : v.ownBlock ≠ some g := fun hv => by
  obtain ⟨cur, hc⟩ := own_block_cells h hv
  rw [show W.heap[g]? = _ from hw] at hc; cases hc; exact hte rfl
theorem own_keeps {W W' : World} {base e size n : Nat} {v : Value} {xs : List Value} (h : W.ownsRow base e size v n xs) (hg : W.grownBy W' v.ownBlock) : KeepsOthers W W' :=
  KeepsOthers.of_grownBy hg fun j o ej ho => by obtain ⟨cur, hc⟩ := own_block_cells h ej; rw [hc] at ho; cases ho; rfl
theorem own_below {B : Nat} {w W W' : World} {base e size n : Nat} {v : Value} {xs : List Value} (hb : Below B w W) (h : W.ownsRow base e size v n xs) (hB : B ≤ base) (hg : W.grownBy W' v.ownBlock) (hs : B ≤ W.heap.size) : Below B w W' :=
  hb.grown hg hs (fun k ek => Nat.le_trans hB (h.lt k ek).1)
theorem own_setCell {W : World} {base e size n g o : Nat} {v u : Value} {xs : List Value} (h : W.ownsRow base e size v n xs) (hne : v.ownBlock ≠ some g) : (W.setCell ⟨g, o, none⟩ u).ownsRow base e size v n xs := by
  refine ⟨h.1, ?_⟩
  rcases h.2 with hn | ⟨g', cap, cur, rfl, hb, hgg, rest⟩
  · exact .inl hn
  · refine .inr ⟨g', cap, cur, rfl, hb, ?_, rest⟩
    rw [Below.heap_setCell W _ u g' (by simpa [Value.ownBlock] using hne)]
    exact hgg
theorem own_slice {W : World} {base e size n : Nat} {v : Value} {xs : List Value} (h : W.ownsRow base e size v n xs) : ∃ p k c, v = .slice p k c := by
  rcases h.2 with ⟨rfl, _⟩ | ⟨g', cap, cur, rfl, _⟩ <;> exact ⟨_, _, _, rfl⟩
/-- the two blocks are two -/
def Two (vx vy : Value) : Prop := (vx.ownBlock = none ∧ vy.ownBlock = none) ∨ vx.ownBlock ≠ vy.ownBlock
theorem Two.symm {vx vy : Value} (h : Two vx vy) : Two vy vx := h.elim (fun h => .inl ⟨h.2, h.1⟩) (fun h => .inr fun e => h e.symm)
theorem Two.kept {vx vy : Value} (h : Two vx vy) : vy.ownBlock = none ∨ vy.ownBlock ≠ vx.ownBlock := h.elim (fun h => .inl h.2) (fun h => .inr fun e => h e.symm)
/-- two lists that grow: their slices lie in the box b -/
structure Grow2 (base e t b : Nat) (vx vy : Value) (n m : Nat) (xs ys : List Value) (W : World) : Prop where
  box : Whole W b t [vx, vy]
  ox : W.ownsRow base e 1 vx n xs
  oy : W.ownsRow base e 1 vy m ys
  two : Two vx vy
theorem Grow2.grown {base e t b n m : Nat} {vx vy : Value} {xs ys : List Value} {W W' : World} {row : Option Nat} (h : Grow2 base e t b vx vy n m xs ys W) (hg : W.grownBy W' row) (hr : NoCells W row) : Grow2 base e t b vx vy n m xs ys W' :=
  ⟨h.box.grown hg (h.box.ne hr), own_grown h.ox hg hr, own_grown h.oy hg hr, h.two⟩
/-- one more on the first list: a new block o, the append, the store -/
theorem Grow2.stepX {base e t b n m n' : Nat} {vx vy v' : Value} {xs ys xs' : List Value} {V w1 : World} {o : Obj} (h : Grow2 base e t b vx vy n m xs ys V) (hte : t ≠ e)
    (hown : w1.ownsRow base e 1 v' n' xs') (hg : (V.alloc o).grownBy w1 vx.ownBlock) (hf : v'.ownBlock = vx.ownBlock ∨ v'.ownBlock = some (V.heap.size + 1)) :
    Grow2 base e t b v' vy n' m xs' ys (w1.setCell ⟨b, 0, none⟩ v') := by
  have hbox : Whole w1 b t [vx, vy] := (h.box.alloc o).grown hg (whole_own (h.box.alloc o) (h.ox.alloc o) hte)
  have hy : w1.ownsRow base e 1 vy m ys := (h.oy.alloc o).kept hg h.two.kept
  refine ⟨hbox.set 0 v', own_setCell hown (whole_own hbox hown hte), own_setCell hy (whole_own hbox hy hte), ?_⟩
  rcases hf with hf | hf
  · exact h.two.elim (fun k => .inl ⟨hf.trans k.1, k.2⟩) (fun k => .inr (by rw [hf]; exact k))
  · refine .inr fun e' => ?_
    have := ((h.oy.alloc o).lt _ (e'.symm.trans hf)).2
    simp at this
theorem Grow2.stepY {base e t b n m m' : Nat} {vx vy v' : Value} {xs ys ys' : List Value} {V w1 : World} {o : Obj} (h : Grow2 base e t b vx vy n m xs ys V) (hte : t ≠ e)
    (hown : w1.ownsRow base e 1 v' m' ys') (hg : (V.alloc o).grownBy w1 vy.ownBlock) (hf : v'.ownBlock = vy.ownBlock ∨ v'.ownBlock = some (V.heap.size + 1)) :
    Grow2 base e t b vx v' n m' xs ys' (w1.setCell ⟨b, 1, none⟩ v') := by
  have hbox : Whole w1 b t [vx, vy] := (h.box.alloc o).grown hg (whole_own (h.box.alloc o) (h.oy.alloc o) hte)
  have hx : w1.ownsRow base e 1 vx n xs := (h.ox.alloc o).kept hg h.two.symm.kept
  refine ⟨hbox.set 1 v', own_setCell hx (whole_own hbox hx hte), own_setCell hown (whole_own hbox hown hte), ?_⟩
  rcases hf with hf | hf
  · exact h.two.elim (fun k => .inl ⟨k.1, hf.trans k.2⟩) (fun k => .inr (by rw [hf]; exact k))
  · refine .inr fun e' => ?_
    have := ((h.ox.alloc o).lt _ (e'.trans hf)).2
    simp at this
theorem Whole.app {base e g t n sz : Nat} {v : Value} {xs zs : List Value} {V w1 : World} {o : Obj} (h : Whole V g t zs) (ho : V.ownsRow base e sz v n xs) (hte : t ≠ e) (hg : (V.alloc o).grownBy w1 v.ownBlock) : Whole w1 g t zs :=
  (h.alloc o).grown hg (whole_own (h.alloc o) (ho.alloc o) hte)
/-- what such a step leaves of another block -/
theorem Whole.step {base e g t b n off sz : Nat} {v v' : Value} {xs zs : List Value} {V w1 : World} {o : Obj} (h : Whole V g t zs) (ho : V.ownsRow base e sz v n xs) (hte : t ≠ e) (hg : (V.alloc o).grownBy w1 v.ownBlock) (hne : g ≠ b) :
    Whole (w1.setCell ⟨b, off, none⟩ v') g t zs :=
  ((h.alloc o).grown hg (whole_own (h.alloc o) (ho.alloc o) hte)).other _ _ hne
theorem step_keeps {base e b n off sz : Nat} {v v' : Value} {xs : List Value} {V w1 : World} {o : Obj} (ho : V.ownsRow base e sz v n xs) (hg : (V.alloc o).grownBy w1 v.ownBlock) : KeepsOthers V (w1.setCell ⟨b, off, none⟩ v') :=
  ((KeepsOthers.alloc V o).trans (own_keeps (ho.alloc o) hg)).trans (KeepsOthers.setCell _ _ _)
theorem step_below {B base e b n off sz : Nat} {v v' : Value} {xs : List Value} {V w1 w : World} {o : Obj} (hb : Below B w V) (ho : V.ownsRow base e sz v n xs) (hg : (V.alloc o).grownBy w1 v.ownBlock) (hB : B ≤ base) (hb' : B ≤ b) (hs : B ≤ V.heap.size) :
    Below B w (w1.setCell ⟨b, off, none⟩ v') :=
  (own_below (hb.alloc hs o) (ho.alloc o) hB hg (by simp; omega)).setCell (p := ⟨b, off, none⟩) hb' _
theorem two_new (w : World) (x y : Value) (t : Nat) : ∀ j u, [x, y][j]? = some u → (w.alloc (.cells #[x, y] t)).cell? ((⟨w.heap.size, 0, none⟩ : Addr).add j) = some u := by
  intro j u hj
  have h := (whole_new w [x, y] t _ rfl).cellAt j
  rw [show (⟨w.heap.size, 0, none⟩ : Addr).add j = ⟨w.heap.size, j, none⟩ by unfold Addr.add; split <;> simp_all]
  exact h.trans hj
end Go.Proofs.Ytceippgkmoijdaa
