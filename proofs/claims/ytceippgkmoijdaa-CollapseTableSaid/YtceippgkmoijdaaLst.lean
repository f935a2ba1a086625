/- The contract of contest.Winner for every list of sides; what the laws' shown answers. -/
/- Claims, stretches; what a stretch claims at a side. -/
/- Lists of structs in one block, of any kind: what is stored into them; made of zeros. Generic. -/
import Derived.Test.YtceippgkmoijdaaCWinner
import Derived.Test.YtceippgkmoijdaaCoEdg
import Derived.Test.YtceippgkmoijdaaCMm
import Derived.Deep.MidRow
import Derived.Laws.MakeOwn
namespace Go.Proofs.Ytceippgkmoijdaa
open Go.RowKit Go.Shelf Go.Sort
set_option linter.unusedVariables false
set_option linter.unusedSimpArgs false

theorem winner_any (p : Option Addr) (m c : Nat) (zs : List Si) (w : World) (hz : Sides w (.slice p m c) zs) (hm : zs.length = m) (hc : m ≤ c) (hcx : c ≤ 9223372036854775807) (hh : ∀ x ∈ zs, x.hue) :
    Calls Try.prog 72 #[.slice p m c] w fun e W' => e = .returned (.tuple #[(winR zs).1.val, .int .i64 (winR zs).2]) ∧ Below w.heap.size w W' := by
  cases zs with
  | nil =>
    obtain rfl : 0 = m := by simpa using hm
    exact winner_none p c w
  | cons s r =>
    cases hb : (s :: r).all rightS with
    | false =>
      have e : winR (s :: r) = (Si.zero, 110) := by simp only [winR, hb]; rfl
      rw [e]
      exact winner_bad p m c (s :: r) w hz hm (by simp at hm; omega) hb
    | true =>
      have e : winR (s :: r) = (winF s r, 0) := by simp only [winR, hb]; rfl
      rw [e]
      obtain ⟨b, off, rfl, _, _⟩ := hz.at 0 s rfl
      exact winner_main b off m c s r w hz hm hc hcx hb hh
def shTwo : Si := ⟨3, 2, 0, 0, 0, 0⟩
def shOne : Si := ⟨2, 1, 0, 0, 0, 0⟩
def shNone : Si := ⟨1, 0, 0, 5, 0, 0⟩
theorem sh_one : winR [shTwo, shOne, shNone] = (shNone, 0) := by decide +kernel
theorem sh_two : winR [shOne, shTwo] = (shTwo, 0) := by decide +kernel
theorem sides_three {W : World} {g t : Nat} {a b c : Si} (h : Whole W g t (a.cells ++ b.cells ++ c.cells)) : Sides W (.slice (some ⟨g, 0, none⟩) 3 3) [a, b, c] :=
  Sides.whole (t := t) (by simpa using h) rfl (by omega)
end Go.Proofs.Ytceippgkmoijdaa

namespace Go.Proofs.Ytceippgkmoijdaa
open Go.RowKit Go.Shelf
set_option linter.unusedVariables false
set_option linter.unusedSimpArgs false

/-- a claim -/
structure Cl where
  won : Si
  n : Int
  deriving DecidableEq, Inhabited
def Cl.cells (c : Cl) : List Value := c.won.cells ++ [.int .i64 c.n]
def Cl.val (c : Cl) : Value := .agg c.cells.toArray
def Cl.zero : Cl := ⟨Si.zero, 0⟩
theorem Cl.cells_len (c : Cl) : c.cells.length = 7 := rfl
theorem Try.infoClaim : (Try.prog.info? 108).map (·.size) = some 7 := by kernel_rfl
theorem results_clm {fn : Func} {W : World} {g q : Nat} {x0 x1 x2 x3 x4 x5 x6 : Value} {tmps : Array Value} (hf : fn.results = #[.cell q 108]) (ht : tmps.getD q undef = .pointer (some ⟨g, 0, none⟩)) (h : Whole W g 108 [x0, x1, x2, x3, x4, x5, x6]) :
    (results fn tmps).run Try.prog W = .ok (.agg #[x0, x1, x2, x3, x4, x5, x6]) W :=
  results_cell_row hf tmps W g 108 #[x0, x1, x2, x3, x4, x5, x6] (0, 0) _ ht h Try.underlying108 rfl Try.infoClaim
/-- a stretch -/
structure Sr where
  run : Rn
  ks : Si
  deriving DecidableEq, Inhabited
def Sr.cells (s : Sr) : List Value := s.run.cells ++ s.ks.cells
def Sr.val (s : Sr) : Value := .agg s.cells.toArray
theorem Sr.cells_len (s : Sr) : s.cells.length = 20 := rfl
/-- the line at a side -/
def Fr.at (f : Fr) (k : Nat) : Li := f.list.getD k f.d
/-- what a stretch claims at a side -/
def Sr.claim (s : Sr) (k : Nat) : Cl := ⟨⟨(s.run.ln.at k).st, (s.run.ln.at k).wd, (s.run.ln.at k).co, s.ks.bb, s.ks.ro, s.ks.cl⟩, 1⟩
set_option maxRecDepth 100000 in
set_option maxHeartbeats 4000000 in
theorem claim_any (s : Sr) (k : Nat) (hk : k < 4) (W : World) :
    Calls Try.prog 60 #[s.val, .int .i64 (k : Int)] W fun e W' => e = .returned (s.claim k).val ∧ Below W.heap.size W W' := by
  obtain ⟨⟨fr, to, ⟨⟨a0, a1, a2⟩, ⟨b0, b1, b2⟩, ⟨c0, c1, c2⟩, ⟨d0, d1, d2⟩⟩⟩, ⟨st, wd, co, bb, ro, cl⟩⟩ := s
  simp only [Sr.val, Sr.cells, Rn.cells, Fr.cells, Li.cells, Si.cells, List.cons_append, List.nil_append]
  obtain rfl | rfl | rfl | rfl : k = 0 ∨ k = 1 ∨ k = 2 ∨ k = 3 := by omega
  all_goals
    go_enter Try.func60, Try.ntmps60
    go_wp2
    refine bodyPost_ret (results_clm (g := W.heap.size + 1) rfl rfl (whole_new (W.alloc _) [_, _, _, _, _, _, _] 108 _ (by simp))) rfl ⟨rfl, ?_⟩
    exact ((Below.refl _ W).alloc (Nat.le_refl _) _).alloc (by simp) _
end Go.Proofs.Ytceippgkmoijdaa

namespace Go.Proofs.Ytceippgkmoijdaa
open Go.RowKit Go.Shelf
set_option linter.unusedVariables false
set_option linter.unusedSectionVars false
set_option linter.unusedSimpArgs false

theorem whole_putL {G t : Nat} : ∀ (l : List Value) (o : Nat) (xs : List Value) (X : World), Whole X G t xs → o + l.length ≤ xs.length → Whole (X.setCells G o l) G t (xs.take o ++ (l ++ xs.drop (o + l.length)))
  | [], o, xs, X, h, ho => by
    have e : xs.take o ++ ([] ++ xs.drop (o + ([] : List Value).length)) = xs := by simp
    rw [e]; exact h
  | v :: l, o, xs, X, h, ho => by
    simp only [List.length_cons] at ho
    have h1 := whole_putL l (o + 1) (xs.set o v) (X.setCell ⟨G, o, none⟩ v) (h.set o v) (by simp; omega)
    have e : (xs.set o v).take (o + 1) ++ (l ++ (xs.set o v).drop (o + 1 + l.length)) = xs.take o ++ (v :: l ++ xs.drop (o + (v :: l).length)) := by
      rw [List.drop_set_of_lt (by omega), List.take_add_one, List.take_set_of_le (Nat.le_refl _)]
      rw [List.getElem?_set_self (by omega)]
      simp only [List.length_cons, Option.toList_some, List.append_assoc, List.cons_append, List.nil_append]
      rw [show o + 1 + l.length = o + (l.length + 1) by omega]
    rw [e] at h1
    exact h1
theorem whole_putLO {G g t : Nat} : ∀ (l : List Value) (o : Nat) (xs : List Value) (X : World), Whole X g t xs → g ≠ G → Whole (X.setCells G o l) g t xs
  | [], o, xs, X, h, hne => h
  | v :: l, o, xs, X, h, hne => whole_putLO l (o + 1) xs _ (h.other ⟨G, o, none⟩ v hne) hne
theorem below_putL {B G : Nat} {W : World} (hg : B ≤ G) : ∀ (l : List Value) (o : Nat) (X : World), Below B W X → Below B W (X.setCells G o l)
  | [], o, X, h => h
  | v :: l, o, X, h => below_putL hg l (o + 1) _ (h.setCell (p := ⟨G, o, none⟩) hg v)
theorem heap_putL {G k : Nat} (hne : k ≠ G) : ∀ (l : List Value) (o : Nat) (X : World), (X.setCells G o l).heap[k]? = X.heap[k]?
  | [], o, X => rfl
  | v :: l, o, X => (heap_putL hne l (o + 1) _).trans (Below.heap_setCell X ⟨G, o, none⟩ v k hne)
theorem size_putL {G : Nat} : ∀ (l : List Value) (o : Nat) (X : World), (X.setCells G o l).heap.size = X.heap.size
  | [], o, X => rfl
  | v :: l, o, X => (size_putL l (o + 1) _).trans (by simp)
/-- a list of structs is a block -/
def LsB {α : Type} (cells : α → List Value) (t G : Nat) (bs : List α) (X : World) : Prop := Whole X G t (bs.flatMap cells)
section
variable {α : Type} [Inhabited α] {cells : α → List Value} {n t G : Nat} {bs : List α} {X : World}
theorem LsB.below {B : Nat} {Y : World} (h : LsB cells t G bs X) (hb : Below B X Y) (hg : G < B) : LsB cells t G bs Y := Whole.below h hb hg
theorem LsB.lt (h : LsB cells t G bs X) : G < X.heap.size := Whole.lt h
theorem LsB.rows (hl : ∀ a, (cells a).length = n) (h : LsB cells t G bs X) {m : Nat} (hm : bs.length = m) (c : Nat) (h2 : m ≤ 9223372036854775807) : RowsK cells n X (.slice (some ⟨G, 0, none⟩) m c) bs := RowsK.whole hl h hm c h2
theorem LsB.cell (hl : ∀ a, (cells a).length = n) (h : LsB cells t G bs X) (c : Nat) (b : α) (hb : bs[c]? = some b) (i : Nat) (hi : i < n) : X.cell? ⟨G, c * n + i, none⟩ = (cells b)[i]? := by
  have hc := (List.getElem?_eq_some_iff.1 hb).1
  rw [Whole.cellAt h, flat_getK cells n hl bs c i hi hc]
  have : bs[c]! = b := by simp [List.getElem!_eq_getElem?_getD, hb]
  rw [this]
theorem LsB.range (hl : ∀ a, (cells a).length = n) (h : LsB cells t G bs X) (c : Nat) (b : α) (hb : bs[c]? = some b) : X.rangeAt G (c * n) (cells b) := fun j v hv => by
  have hj : j < n := by have := (List.getElem?_eq_some_iff.1 hv).1; rwa [hl] at this
  rw [h.cell hl c b hb j hj, hv]
theorem LsB.there (hl : ∀ a, (cells a).length = n) (h : LsB cells t G bs X) (c : Nat) (hc : c < bs.length) : X.there G (c * n) n := fun j hj => by
  obtain ⟨b, hb⟩ : ∃ b, bs[c]? = some b := ⟨_, List.getElem?_eq_getElem hc⟩
  refine ⟨?_, Whole.free h _⟩
  rw [h.cell hl c b hb j hj]
  simp [hl, hj]
theorem flat_lenL (hl : ∀ a, (cells a).length = n) (l : List α) : (l.flatMap cells).length = l.length * n := by
  induction l with
  | nil => simp
  | cons a l ih => rw [List.flatMap_cons, List.length_append, ih, hl, List.length_cons, Nat.succ_mul]; omega
theorem flat_setL (hl : ∀ a, (cells a).length = n) (bs : List α) (c : Nat) (b : α) (hc : c < bs.length) : (bs.set c b).flatMap cells = (bs.flatMap cells).take (c * n) ++ (cells b ++ (bs.flatMap cells).drop (c * n + (cells b).length)) := by
  induction bs generalizing c with
  | nil => simp at hc
  | cons a l ih =>
    cases c with
    | zero =>
      rw [List.set_cons_zero, List.flatMap_cons, List.flatMap_cons, Nat.zero_mul, List.take_zero, List.nil_append, Nat.zero_add, List.drop_append, List.drop_of_length_le (by rw [hl, hl]; exact Nat.le_refl _), hl, hl, Nat.sub_self]; rfl
    | succ c =>
      rw [List.set_cons_succ, List.flatMap_cons, List.flatMap_cons, ih c (by simpa using hc)]
      rw [show (c + 1) * n = (cells a).length + c * n by rw [hl, Nat.succ_mul]; omega, List.take_length_add_append, Nat.add_assoc, List.drop_length_add_append, List.append_assoc]
theorem LsB.put (hl : ∀ a, (cells a).length = n) (h : LsB cells t G bs X) (c : Nat) (b : α) (hc : c < bs.length) : LsB cells t G (bs.set c b) (X.setCells G (c * n) (cells b)) := by
  unfold LsB
  rw [flat_setL hl bs c b hc]
  refine whole_putL (cells b) (c * n) _ X h ?_
  rw [flat_lenL hl, hl]
  have := Nat.mul_le_mul_right n (show c + 1 ≤ bs.length from hc)
  rw [Nat.succ_mul] at this
  exact this
theorem made_flatL (hl : ∀ a, (cells a).length = n) (z : α) (m : Nat) : madeCells (cells z).toArray (m * n) = ((List.replicate m z).flatMap cells).toArray := by
  apply Array.ext_getElem?
  intro i
  by_cases h : i < m * n
  · have hn : 0 < n := Nat.pos_of_ne_zero fun e => by subst e; simp at h
    have hd : i / n < m := (Nat.div_lt_iff_lt_mul hn).2 h
    have hr := Nat.mod_lt i hn
    have e := flat_getK cells n hl (List.replicate m z) (i / n) (i % n) hr (by simpa using hd)
    rw [show i / n * n + i % n = i by rw [Nat.mul_comm]; exact Nat.div_add_mod i n] at e
    rw [List.getElem?_toArray (xs := (List.replicate m z).flatMap cells), e]
    have e2 : (List.replicate m z)[i / n]! = z := by simp [List.getElem!_eq_getElem?_getD, hd]
    rw [e2]
    simp only [madeCells, Array.getElem?_map, Array.getElem?_range, h, if_true, Option.map_some, List.size_toArray, hl]
    rw [List.getElem?_eq_getElem (by rw [hl]; exact hr)]
    simp [hl, hr]
  · rw [List.getElem?_toArray (xs := (List.replicate m z).flatMap cells), List.getElem?_eq_none (by rw [flat_lenL hl]; simp; omega)]
    simp [madeCells]; omega
end
end Go.Proofs.Ytceippgkmoijdaa
