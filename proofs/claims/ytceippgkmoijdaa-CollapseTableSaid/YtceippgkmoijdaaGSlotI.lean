/- Contracts of the columns' methods of package grid (free, gap, take), and of grid.high. -/
/- Plain facts on saturated whole numbers: nothing of the program. -/
/- Contracts of the arithmetic of layer 1 (fixed) and of the document's own answers: saturated sums, differences, bounds. -/
/- Slices of whole numbers as lists; sums over them. -/
/- Contracts of grid.high and of the columns' take: a list that its caller owns, and that grows. -/
/- The iterator over the slots of a place (grid.slots), and over all slots of a grid (grid.whole). -/
import Derived.Test.YtceippgkmoijdaaGPlain
import Derived.Test.YtceippgkmoijdaaCBase
import Derived.Maps.AppendAt
import Derived.Deep.AppendLies
import Derived.Laws.OwnMore
import Derived.WalkKit
import Derived.Lib.Hide
import Derived.Test.YtceippgkmoijdaaRows
import Derived.WalkSpells
import Derived.WalkLawsBesides
import Derived.LoopTactic
import Derived.BigQuiet
import Derived.Deep.QuietTactic
namespace Go.Proofs.Ytceippgkmoijdaa
open Go.RowKit Go.Shelf
set_option linter.unusedVariables false
attribute [local go_sem] Oper.semAt_some

/-- numbers that are no less than 0, as the program's -/
def zz (t : List Nat) : List Int := t.map fun (n : Nat) => (n : Int)
theorem zz_get (t : List Nat) (c z : Nat) (h : t[c]? = some z) : (zz t)[c]?.getD 0 = (z : Int) := by simp [zz, h]
theorem zz_len (t : List Nat) : (zz t).length = t.length := by simp [zz]
theorem ints_at (W : World) (p : Option Addr) (l c : Nat) (t : List Nat) (h : Ints W (.slice p l c) (zz t)) (i z : Nat) (hz : t[i]? = some z) :
    ∃ b off, p = some ⟨b, off, none⟩ ∧ W.cell? ⟨b, off + i, none⟩ = some (.int .i64 (z : Int)) ∧ b < W.heap.size := by
  have hi := (List.getElem?_eq_some_iff.1 hz).1
  obtain ⟨_, ⟨a, c', e, h0⟩ | ⟨b, off, c', e, hc⟩⟩ := h
  · have := congrArg List.length h0
    rw [zz_len] at this; simp only [List.length_nil] at this; omega
  · injection e with e1 e2 e3
    have := hc i (by rw [zz_len]; exact hi)
    rw [zz_get t i z hz] at this
    exact ⟨b, off, e1, this, cell_lt this⟩
def JG (p : Option Addr) (l c : Nat) (t : List Nat) (row col most : Nat) (w : World) : Act → World → Prop := fun a X =>
  ∃ (cc : Nat) (ci : Int) (x10 x11 x12 x13 x14 x15 x16 x17 x18 x19 x20 x21 x22 x23 x24 x25 x26 x27 x28 x29 : Value),
    a = { tmps := #[.slice p l c, .int .i64 row, .int .i64 ci, .int .i64 most, undef, undef, undef, undef, .int .i64 0, .int .i64 0, x10, x11, x12, x13, x14, x15, x16, x17, x18, x19, x20, x21, x22, x23, x24, x25, x26, x27, x28, x29], defers := [] } ∧ w = X ∧ ci = (cc : Int) ∧ Hid (firstF t row cc = firstF t row col ∧ cc ≤ l)
end Go.Proofs.Ytceippgkmoijdaa

namespace Go.Proofs.Ytceippgkmoijdaa
open Go.RowKit

/-- the bounds, behind names -/
def Top : Int := 9223372036854775807
def Low : Int := -9223372036854775808
/-- a whole number, saturated -/
def sat (x : Int) : Int := if 9223372036854775807 < x then 9223372036854775807 else if x < -9223372036854775808 then -9223372036854775808 else x
theorem sat_lo (x : Int) : -9223372036854775808 ≤ sat x := by unfold sat; split <;> (try split) <;> omega
theorem sat_hi (x : Int) : sat x ≤ 9223372036854775807 := by unfold sat; split <;> (try split) <;> omega
theorem sat_over {x : Int} (h : 9223372036854775807 < x) : sat x = 9223372036854775807 := by unfold sat; rw [if_pos h]
theorem sat_under {x : Int} (h : x < -9223372036854775808) : sat x = -9223372036854775808 := by unfold sat; rw [if_neg (by omega), if_pos h]
theorem sat_in {x : Int} (h : -9223372036854775808 ≤ x) (h' : x ≤ 9223372036854775807) : sat x = x := by unfold sat; rw [if_neg (by omega), if_neg (by omega)]
theorem ret_int {k : IntKind} {a b : Int} (h : a = b) : Ending.returned (.int k a) = .returned (.int k b) := by rw [h]
end Go.Proofs.Ytceippgkmoijdaa

namespace Go.Proofs.Ytceippgkmoijdaa
open Go.RowKit

theorem wrap_mag (a : Int) (a1 : -9223372036854775808 ≤ a) (h : a < 0) : IntKind.u64.wrap (-IntKind.u64.wrap a) = (a.natAbs : Int) := by
  simp [IntKind.wrap, IntKind.bits, IntKind.signed]; omega

end Go.Proofs.Ytceippgkmoijdaa

namespace Go.Proofs.Ytceippgkmoijdaa
open Go.RowKit
set_option linter.unusedVariables false

/-- the slice value sv holds the numbers zs of kind k in the world W -/
def Nums (k : IntKind) (W : World) (sv : Value) (zs : List Int) : Prop :=
  zs.length ≤ 9223372036854775807 ∧ ((∃ (a : Option Addr) (cap : Nat), sv = .slice a 0 cap ∧ cap ≤ 9223372036854775807 ∧ zs = []) ∨ ∃ b off cap, sv = .slice (some ⟨b, off, none⟩) zs.length cap ∧ zs.length ≤ cap ∧ cap ≤ 9223372036854775807 ∧ ∀ j, j < zs.length → W.cell? ⟨b, off + j, none⟩ = some (.int k (zs[j]?.getD 0)))
/-- .. and all of them lie in 64 bits -/
def In64 (zs : List Int) : Prop := ∀ j, j < zs.length → -9223372036854775808 ≤ zs[j]?.getD 0 ∧ zs[j]?.getD 0 ≤ 9223372036854775807
/-- a sum, saturated step by step -/
def addS (zs : List Int) : Int := zs.foldl (fun s z => sat (s + z)) 0
theorem foldl_bd (zs : List Int) (s : Int) (h : -9223372036854775808 ≤ s ∧ s ≤ 9223372036854775807) : -9223372036854775808 ≤ zs.foldl (fun s z => sat (s + z)) s ∧ zs.foldl (fun s z => sat (s + z)) s ≤ 9223372036854775807 := by
  induction zs generalizing s with
  | nil => exact h
  | cons z zs ih => exact ih _ ⟨sat_lo _, sat_hi _⟩
theorem addS_bd (zs : List Int) : -9223372036854775808 ≤ addS zs ∧ addS zs ≤ 9223372036854775807 := foldl_bd zs 0 (by omega)
theorem take_snoc (zs : List Int) (k : Nat) (h : k < zs.length) : zs.take (k + 1) = zs.take k ++ [zs[k]?.getD 0] := by
  rw [List.take_succ_eq_append_getElem h]; simp [h]
theorem addS_snoc (zs : List Int) (k : Nat) (h : k < zs.length) : addS (zs.take (k + 1)) = sat (addS (zs.take k) + zs[k]?.getD 0) := by
  rw [take_snoc zs k h]; simp [addS]


end Go.Proofs.Ytceippgkmoijdaa

namespace Go.Proofs.Ytceippgkmoijdaa
open Go.RowKit Go.Shelf
set_option linter.unusedVariables false
attribute [local go_sem] Oper.semAt_some

/-- a cell's place -/
structure Pl where
  n : Int
  r : Nat
  c : Nat
  h : Nat
  w : Nat
deriving DecidableEq
def Pl.cells (p : Pl) : List Value := [.int .i64 p.n, .int .i64 (p.r : Int), .int .i64 (p.c : Int), .int .i64 (p.h : Int), .int .i64 (p.w : Int)]
def highF (r : Int) (left : Nat) : Nat := if r = 0 then left else min r.toNat left
/-- the columns' list, as its owner holds it -/
def OwnT (base : Nat) (X : World) (v : Value) (t : List Nat) : Prop := X.ownsRow base 3 1 v t.length ((zz t).map (Value.int .i64))
theorem OwnT.form {base : Nat} {X : World} {v : Value} {t : List Nat} (h : OwnT base X v t) : ∃ p c, v = .slice p t.length c := by
  rcases h.2 with ⟨rfl, h0⟩ | ⟨g', cap, cur, rfl, _⟩
  · exact ⟨none, 0, by rw [h0]⟩
  · exact ⟨_, _, rfl⟩
theorem OwnT.ints {base : Nat} {X : World} {v : Value} {t : List Nat} (h : OwnT base X v t) (hl : t.length ≤ 1000000) : Ints X v (zz t) := by
  rcases h.2 with ⟨rfl, h0⟩ | ⟨g', cap, cur, rfl, hb, hg, _, _, hcs, htk⟩
  · refine ⟨by rw [zz_len]; omega, .inl ⟨none, 0, rfl, ?_⟩⟩
    have : t = [] := List.length_eq_zero_iff.1 h0
    rw [this]; rfl
  · refine ⟨by rw [zz_len]; omega, .inr ⟨g', 0, cap, by rw [zz_len], fun j hj => ?_⟩⟩
    rw [zz_len] at hj
    have hq := congrArg (fun l => l[j]?) htk
    simp only [Nat.mul_one] at hq
    rw [List.getElem?_take_of_lt hj] at hq
    rw [Nat.zero_add]
    simp only [World.cell?, hg]
    rw [← Array.getElem?_toList, hq]
    simp [zz, hj]
theorem zz_snoc (t : List Nat) (z : Nat) : (zz (t ++ [z])).map (Value.int .i64) = (zz t).map (Value.int .i64) ++ [.int .i64 (z : Int)] := by simp [zz]
theorem zz_set (t : List Nat) (i z : Nat) : (zz (t.set i z)).map (Value.int .i64) = ((zz t).map (Value.int .i64)).set i (.int .i64 (z : Int)) := by simp [zz, List.map_set]
/-- what a call leaves that may write a list of its caller's -/
structure Left (v : Value) (w X : World) (v' : Value) : Prop where
  grown : w.grownBy X v.ownBlock
  own : v'.ownBlock = v.ownBlock ∨ ∃ k, v'.ownBlock = some k ∧ w.heap.size ≤ k
theorem Left.step {v v1 v2 : Value} {w X Y : World} (h : Left v w X v1) (k : Left v1 X Y v2) : Left v w Y v2 := by
  refine ⟨h.grown.andThen k.grown fun j hj => ?_, ?_⟩
  · rcases h.own with h1 | ⟨k1, h1, h2⟩
    · exact .inr (by rw [← h1]; exact hj)
    · rw [h1] at hj; cases hj; exact .inl h2
  · rcases k.own with h1 | ⟨k1, h1, h2⟩
    · rw [h1]; exact h.own
    · exact .inr ⟨k1, h1, Nat.le_trans h.grown.size h2⟩
theorem Try.infoIntG : (Try.prog.info? 3).map (fun i => (i.zero, i.size, i.bytes)) = some (some (.int .i64 0), 1, 8) := by kernel_rfl
theorem lay_newG (w : World) (xs : List Value) (t g : Nat) (hg : g = w.heap.size) : ∀ j u, xs[j]? = some u → (w.alloc (.cells xs.toArray t)).cell? ((⟨g, 0, none⟩ : Addr).add j) = some u := by
  intro j u hj
  have h := (whole_new w xs t g hg).cellAt j
  rw [show (⟨g, 0, none⟩ : Addr).add j = ⟨g, j, none⟩ by unfold Addr.add; split <;> simp_all]
  exact h.trans hj
theorem Left.refl (v : Value) (w : World) : Left v w w v := ⟨World.grownBy.refl w _, .inl rfl⟩
theorem Left.alloc {v v1 : Value} {w X : World} (h : Left v w X v1) (o : Obj) : Left v w (X.alloc o) v1 := h.step ⟨World.grownBy_alloc X o _, .inl rfl⟩
end Go.Proofs.Ytceippgkmoijdaa

namespace Go.Proofs.Ytceippgkmoijdaa
open Go.RowKit Go.Shelf
set_option linter.unusedVariables false
attribute [local go_sem] Oper.semAt_some

def FewS (p : Pl) : Prop := p.r ≤ 200000 ∧ p.c ≤ 200000 ∧ p.h ≤ 200000 ∧ p.w ≤ 200000
/-- the slots of a place from a row on, and of a row from a column on -/
def rowS (p : Pl) (r c n : Nat) : List (Nat × Nat) := (List.range' c n).map fun c => (p.r + r, p.c + c)
def rowsS (p : Pl) (r n : Nat) : List (Nat × Nat) := (List.range' r n).flatMap fun r => rowS p r 0 p.w
def slotsL (p : Pl) : List (Nat × Nat) := rowsS p 0 p.h
theorem rowS_step (p : Pl) (r c n : Nat) : rowS p r c (n + 1) = (p.r + r, p.c + c) :: rowS p r (c + 1) n := by unfold rowS; rw [List.range'_succ]; rfl
theorem rowsS_step (p : Pl) (r n : Nat) : rowsS p r (n + 1) = rowS p r 0 p.w ++ rowsS p (r + 1) n := by unfold rowsS; rw [List.range'_succ]; rfl
def nxtSl (p : Pl) (pre : List (Nat × Nat)) (x : Nat × Nat) : Prop := ∃ rest, slotsL p = pre ++ x :: rest
def encSl (x : Nat × Nat) : Array Value := #[.agg #[.int .i64 (x.1 : Int), .int .i64 (x.2 : Int)]]
def SlotMem (gb : Nat) (p : Pl) (X : World) : Prop := Whole X gb 52 p.cells
set_option maxRecDepth 100000 in
set_option maxHeartbeats 2000000 in
theorem gslots_in (n : Nat) (hn : 1 ≤ n) (l gb : Nat) (p : Pl) (hp : FewS p) (J Jx : List (Nat × Nat) → World → Prop)
    (hY : ∀ pre x W, J pre W → nxtSl p pre x → YieldAt Fence.wide (n - 1) Try.prog l (encSl x) W fun e W' =>
      (e = .returned (.bool true) ∧ J (pre ++ [x]) W' ∧ KeepG (SlotMem gb p) W W') ∨ (e = .returned (.bool false) ∧ Jx (pre ++ [x]) W'))
    (W : World) (hR : SlotMem gb p W) (h0 : J [] W) :
    CallsIn Fence.wide n Try.prog 94 #[.func (.yield l) #[] #[], .pointer (some ⟨gb, 0, none⟩)] W fun e W' => (∃ v, e = .returned v) ∧
      ((∃ ys, ys = slotsL p ∧ J ys W') ∨ (∃ pre, True ∧ Jx pre W')) := by
  refine callsIn_of_wp Try.func94 rfl trivial ?_ rfl
  simp only [Try.ntmps94, List.size_toArray, List.length_cons, List.length_nil, Nat.reduceAdd, Nat.reduceSub, Array.replicate_succ, Array.replicate_zero, List.push_toArray, List.append_toArray, List.nil_append, List.cons_append]
  obtain ⟨pn, pr, pc, ph, pw⟩ := p
  obtain ⟨f1, f2, f3, f4⟩ := hp
  dsimp only at f1 f2 f3 f4
  have HC : Hid (∀ X, SlotMem gb ⟨pn, pr, pc, ph, pw⟩ X → gb < X.heap.size ∧ X.cell? ⟨gb, 1, none⟩ = some (.int .i64 (pr : Int)) ∧ X.cell? ⟨gb, 2, none⟩ = some (.int .i64 (pc : Int)) ∧ X.cell? ⟨gb, 3, none⟩ = some (.int .i64 (ph : Int)) ∧ X.cell? ⟨gb, 4, none⟩ = some (.int .i64 (pw : Int))) := Lib.hid fun X h =>
    ⟨h.lt, h.cellAt 1, h.cellAt 2, h.cellAt 3, h.cellAt 4⟩
  have HY := Lib.hid hY
  have HR0 := Lib.hid hR
  have H0 := Lib.hid h0
  obtain ⟨lb, -, -, a3, -⟩ := HC.out W hR
  clear hY h0 hR
  gi_wp2
  gi_loopw [7] (fun s7 X => ∃ (r : Nat) (pre : List (Nat × Nat)), r ≤ ph ∧ s7 = .int .i64 r ∧ Hid (slotsL ⟨pn, pr, pc, ph, pw⟩ = pre ++ rowsS ⟨pn, pr, pc, ph, pw⟩ r (ph - r)) ∧ Hid (J pre X) ∧ Hid (SlotMem gb ⟨pn, pr, pc, ph, pw⟩ X)) (fun s7 _ => ph - (intOf s7).toNat)
  case atStart => exact ⟨0, [], Nat.zero_le _, rfl, Lib.hid (by simp [slotsL]), H0, HR0⟩
  case round =>
    obtain ⟨r, pre, hr, rfl, HE, HJ, HR⟩ := hrel
    clear lb a3
    obtain ⟨lb, a1, a2, a3, a4⟩ := HC.out wr HR.out
    by_cases hlt : r < ph
    · have HE2 : Hid (slotsL ⟨pn, pr, pc, ph, pw⟩ = pre ++ (rowS ⟨pn, pr, pc, ph, pw⟩ r 0 (pw - 0) ++ rowsS ⟨pn, pr, pc, ph, pw⟩ (r + 1) (ph - (r + 1)))) := Lib.hid (by
        have := HE.out
        rw [show ph - r = (ph - (r + 1)) + 1 by omega, rowsS_step] at this
        exact this)
      clear HE
      gi_wp2
      gi_loopw [12] (fun s12 X => ∃ (c : Nat) (pre : List (Nat × Nat)), c ≤ pw ∧ s12 = .int .i64 c ∧ Hid (slotsL ⟨pn, pr, pc, ph, pw⟩ = pre ++ (rowS ⟨pn, pr, pc, ph, pw⟩ r c (pw - c) ++ rowsS ⟨pn, pr, pc, ph, pw⟩ (r + 1) (ph - (r + 1)))) ∧ Hid (J pre X) ∧ Hid (SlotMem gb ⟨pn, pr, pc, ph, pw⟩ X)) (fun s12 _ => pw - (intOf s12).toNat)
      case atStart => exact ⟨0, pre, Nat.zero_le _, rfl, HE2, HJ, HR⟩
      case round =>
        clear HE2 HJ HR lb a1 a2 a3 a4
        obtain ⟨c, pre, hc, rfl, HE, HJ, HR⟩ := hrel
        obtain ⟨lb, a1, a2, a3, a4⟩ := HC.out wr HR.out
        by_cases hlc : c < pw
        · have hE3 := HE.out
          rw [show pw - c = (pw - (c + 1)) + 1 by omega, rowS_step] at hE3
          obtain ⟨fn, tmps, assign, body, hy, hRR⟩ := HY.out pre (pr + r, pc + c) wr HJ.out ⟨_, hE3⟩
          dsimp only [encSl] at hy
          rw [show ((pr + r : Nat) : Int) = (pr : Int) + (r : Int) by omega, show ((pc + c : Nat) : Int) = (pc : Int) + (c : Int) by omega] at hy
          have HRn := Lib.hid hRR
          have HE3 := Lib.hid hE3
          clear hRR hE3 HE HJ
          gi_wp2
          refine HRn.out.mono ?_
          rintro e W3 (⟨rfl, hJ3, hk3⟩ | ⟨rfl, hJx3⟩)
          · have H3 := Lib.hid hJ3
            have K3 := Lib.hid (hk3.2 HR.out)
            clear hJ3 hk3 HRn hy HR
            gi_wp2
            go_roundw
            case rel => exact ⟨c + 1, pre ++ [(pr + r, pc + c)], by omega, by go_num, Lib.hid (by rw [HE3.out]; simp), H3, K3⟩
            case measure => simp [intOf]; omega
          · have H3 := Lib.hid hJx3
            clear hJx3 HRn hy
            gi_wp2
            exact bodyPost_ret (v := .tuple #[]) (results_none rfl _ _ _) rfl ⟨⟨_, rfl⟩, .inr ⟨_, trivial, H3.out⟩⟩
        · have HE2 : Hid (slotsL ⟨pn, pr, pc, ph, pw⟩ = pre ++ rowsS ⟨pn, pr, pc, ph, pw⟩ (r + 1) (ph - (r + 1))) := Lib.hid (by
            have := HE.out
            rw [show pw - c = 0 by omega] at this
            exact this)
          clear HE
          gi_wp2
          go_roundw
          case rel => exact ⟨r + 1, pre, by omega, by go_num, HE2, HJ, HR⟩
          case measure => simp [intOf]; omega
    · have HE2 : Hid (pre = slotsL ⟨pn, pr, pc, ph, pw⟩) := Lib.hid (by
        have := HE.out
        rw [show ph - r = 0 by omega] at this
        rw [this]; simp [rowsS])
      clear HE
      gi_wp2
      go_end0
      exact ⟨⟨_, rfl⟩, .inl ⟨_, HE2.out, HJ.out⟩⟩
theorem gslots_next (n : Nat) (hn : 1 ≤ n) (gb : Nat) (p : Pl) (hp : FewS p) (w : World) (hR : SlotMem gb p w) :
    SeqNext Fence.wide n Try.prog 94 #[.pointer (some ⟨gb, 0, none⟩)] encSl (KeepG (SlotMem gb p)) (nxtSl p) (fun ys => ys = slotsL p) (fun _ => True) w :=
  fun l J Jx W hW hJ hY h0 => gslots_in n hn l gb p hp J Jx hY W (hR.below hW hR.lt) h0
theorem gslotsF_any (x0 x1 x2 x3 x4 : Int) (w : World) :
    Calls Try.prog 83 #[.agg #[.int .i64 x0, .int .i64 x1, .int .i64 x2, .int .i64 x3, .int .i64 x4]] w fun e w' => e = .returned (.func (.func 94) #[] #[.pointer (some ⟨w.heap.size, 0, none⟩)]) ∧
      w' = w.alloc (.cells #[.int .i64 x0, .int .i64 x1, .int .i64 x2, .int .i64 x3, .int .i64 x4] 52) := by
  go_enter Try.func83, Try.ntmps83
  go_wp2
  go_ret
  exact ⟨rfl, rfl⟩
theorem gwhole_any (rows cols : Int) (w : World) :
    Calls Try.prog 69 #[.int .i64 rows, .int .i64 cols] w fun e w' => e = .returned (.func (.func 94) #[] #[.pointer (some ⟨w.heap.size, 0, none⟩)]) ∧
      w' = w.alloc (.cells #[.int .i64 0, .int .i64 0, .int .i64 0, .int .i64 rows, .int .i64 cols] 52) := by
  go_enter Try.func69, Try.ntmps69
  go_wp2_with (go_at_call 83; refine (gslotsF_any 0 0 0 rows cols _).mono ?_; rintro e w1 ⟨rfl, rfl⟩)
  go_ret
  exact ⟨rfl, rfl⟩
end Go.Proofs.Ytceippgkmoijdaa
