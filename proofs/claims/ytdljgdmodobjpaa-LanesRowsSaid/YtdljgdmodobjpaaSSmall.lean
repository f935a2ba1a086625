/- Plain facts on saturated whole numbers: nothing of the program. -/
/- Contracts of the arithmetic of layer 1 (fixed) and of the document's own answers: saturated sums, differences, bounds. -/
/- Slices of whole numbers as lists; sums over them. -/
/- Contracts of the small functions of layer 3 (style): drawn widths, sizes that are computed or asked whether they may be, and the document's own. -/
import Derived.WalkKit
import Derived.Lib.Hide
import Derived.Test.YtdljgdmodobjpaaRows
import Derived.WalkSpells
import Derived.WalkLawsBesides
import Derived.LoopTactic
import Derived.BigQuiet
import Derived.Deep.QuietTactic
import Derived.Test.YtdljgdmodobjpaaSPlain
import Derived.Test.YtdljgdmodobjpaaSBase
namespace Go.Proofs.Ytdljgdmodobjpaa
open Go.RowKit

/-- the bounds, behind names -/
def Top : Int := 9223372036854775807
def Low : Int := -9223372036854775808
/-- a whole number, saturated -/
def sat (x : Int) : Int := if 9223372036854775807 < x then 9223372036854775807 else if x < -9223372036854775808 then -9223372036854775808 else x
theorem sat_lo (x : Int) : -9223372036854775808 ≤ sat x := by unfold sat; split <;> (try split) <;> omega
theorem sat_hi (x : Int) : sat x ≤ 9223372036854775807 := by unfold sat; split <;> (try split) <;> omega
theorem sat_over {x : Int} (h : 9223372036854775807 < x) : sat x = 9223372036854775807 := by unfold sat; rw [if_pos h]
theorem sat_under {x : Int} (h : x < -9223372036854775808) : sat x = -9223372036854775808 := by unfold sat; rw [if_neg (by omega), if_pos h]
theorem sat_in {x : Int} (h : -9223372036854775808 ≤ x) (h' : x ≤ 9223372036854775807) : sat x = x := by unfold sat; rw [if_neg (by omega), if_neg (by omega)]
theorem ret_int {k : IntKind} {a b : Int} (h : a = b) : Ending.returned (.int k a) = .returned (.int k b) := by rw [h]
end Go.Proofs.Ytdljgdmodobjpaa

namespace Go.Proofs.Ytdljgdmodobjpaa
open Go.RowKit

theorem wrap_mag (a : Int) (a1 : -9223372036854775808 ≤ a) (h : a < 0) : IntKind.u64.wrap (-IntKind.u64.wrap a) = (a.natAbs : Int) := by
  simp [IntKind.wrap, IntKind.bits, IntKind.signed]; omega

end Go.Proofs.Ytdljgdmodobjpaa

namespace Go.Proofs.Ytdljgdmodobjpaa
open Go.RowKit
set_option linter.unusedVariables false

/-- the slice value sv holds the numbers zs of kind k in the world W -/
def Nums (k : IntKind) (W : World) (sv : Value) (zs : List Int) : Prop :=
  zs.length ≤ 9223372036854775807 ∧ ((∃ (a : Option Addr) (cap : Nat), sv = .slice a 0 cap ∧ cap ≤ 9223372036854775807 ∧ zs = []) ∨ ∃ b off cap, sv = .slice (some ⟨b, off, none⟩) zs.length cap ∧ zs.length ≤ cap ∧ cap ≤ 9223372036854775807 ∧ ∀ j, j < zs.length → W.cell? ⟨b, off + j, none⟩ = some (.int k (zs[j]?.getD 0)))
/-- .. and all of them lie in 64 bits -/
def In64 (zs : List Int) : Prop := ∀ j, j < zs.length → -9223372036854775808 ≤ zs[j]?.getD 0 ∧ zs[j]?.getD 0 ≤ 9223372036854775807
/-- a sum, saturated step by step -/
def addS (zs : List Int) : Int := zs.foldl (fun s z => sat (s + z)) 0
theorem foldl_bd (zs : List Int) (s : Int) (h : -9223372036854775808 ≤ s ∧ s ≤ 9223372036854775807) : -9223372036854775808 ≤ zs.foldl (fun s z => sat (s + z)) s ∧ zs.foldl (fun s z => sat (s + z)) s ≤ 9223372036854775807 := by
  induction zs generalizing s with
  | nil => exact h
  | cons z zs ih => exact ih _ ⟨sat_lo _, sat_hi _⟩
theorem addS_bd (zs : List Int) : -9223372036854775808 ≤ addS zs ∧ addS zs ≤ 9223372036854775807 := foldl_bd zs 0 (by omega)
theorem take_snoc (zs : List Int) (k : Nat) (h : k < zs.length) : zs.take (k + 1) = zs.take k ++ [zs[k]?.getD 0] := by
  rw [List.take_succ_eq_append_getElem h]; simp [h]
theorem addS_snoc (zs : List Int) (k : Nat) (h : k < zs.length) : addS (zs.take (k + 1)) = sat (addS (zs.take k) + zs[k]?.getD 0) := by
  rw [take_snoc zs k h]; simp [addS]


end Go.Proofs.Ytdljgdmodobjpaa

namespace Go.Proofs.Ytdljgdmodobjpaa
open Go.RowKit Go.Shelf
set_option linter.unusedVariables false

def drawnW (s w : Int) : Int := if s = 0 ∨ s = 1 then 0 else max w 0
theorem ret_size {k a b : Int} (h : a = b) : Ending.returned (.agg #[.int .i64 k, .int .i64 a]) = .returned (.agg #[.int .i64 k, .int .i64 b]) := by rw [h]
theorem ret_bool {a b : Bool} (h : a = b) : Ending.returned (.bool a) = .returned (.bool b) := by rw [h]
set_option maxHeartbeats 400000 in
theorem drawn_any (s w c : Int) (W : World) : Calls Try.prog 64 #[.agg #[.int .i64 s, .int .i64 w, .int .u32 c]] W fun e W' => e = .returned (.int .i64 (drawnW s w)) ∧ Below W.heap.size W W' := by
  have D : Hid (drawnW s w = if s = 0 ∨ s = 1 then 0 else max w 0) := Lib.hid rfl
  generalize drawnW s w = d at *
  go_enter Try.func64, Try.ntmps64
  go_wp2
  all_goals (go_ret; refine ⟨ret_int ?_, (Below.refl _ _).alloc (Nat.le_refl _) _⟩; have e := D.out; simp_all <;> omega)
set_option maxHeartbeats 400000 in
theorem compSize_at (k n d : Int) (W : World) (h : (k = 0 ∧ d = 0) ∨ (k = 1 ∧ n < 0 ∧ d = 0) ∨ (k = 1 ∧ 0 ≤ n ∧ d = n) ∨ (k ≠ 0 ∧ k ≠ 1 ∧ d = n)) :
    Calls Try.prog 65 #[.agg #[.int .i64 k, .int .i64 n]] W fun e W' => e = .returned (.agg #[.int .i64 k, .int .i64 d]) ∧ Below W.heap.size W W' := by
  rcases h with ⟨h0, rfl⟩ | ⟨h0, h1, rfl⟩ | ⟨h0, h1, rfl⟩ | ⟨h0, h1, rfl⟩
  all_goals
    go_enter Try.func65, Try.ntmps65
    go_wp2
    refine bodyPost_ret (v := .agg #[.int .i64 k, .int .i64 _]) (by simp [results, Try.results65, go_sem] <;> first | exact ⟨by omega, rfl⟩ | omega | rfl) rfl ⟨rfl, ?_⟩
    exact ((Below.refl _ _).alloc (Nat.le_refl _) _).alloc (by simp) _
theorem compSize_any (k n : Int) (W : World) : Calls Try.prog 65 #[.agg #[.int .i64 k, .int .i64 n]] W fun e W' => e = .returned (.agg #[.int .i64 k, .int .i64 (compN k n)]) ∧ Below W.heap.size W W' :=
  compSize_at k n _ W (by unfold compN; by_cases h0 : k = 0 <;> by_cases h1 : k = 1 <;> simp [h0, h1] <;> omega)
set_option maxHeartbeats 400000 in
theorem refLen_any (n : Int) (W : World) : Calls Try.prog 75 #[.int .i64 n] W fun e W' => e = .returned (.bool (inPx n)) ∧ W = W' := by
  by_cases h : -1073741824 ≤ n
  · have D : Hid (inPx n = decide (n ≤ 1073741824)) := Lib.hid (by simp [inPx, h])
    go_enter Try.func75, Try.ntmps75
    go_wp2
    go_ret
    exact ⟨ret_bool D.out.symm, rfl⟩
  · have D : Hid (inPx n = false) := Lib.hid (by simp [inPx]; omega)
    go_enter Try.func75, Try.ntmps75
    go_wp2
    go_ret
    exact ⟨ret_bool D.out.symm, rfl⟩
def madeN (k n : Int) : Int := max (if k = 0 then 0 else n) 0
set_option maxHeartbeats 400000 in
theorem validSize_any (k n : Int) (W : World) : Calls Try.prog 78 #[.agg #[.int .i64 k, .int .i64 n]] W fun e W' => e = .returned (.bool (sizeB k n)) ∧ Below W.heap.size W W' := by
  have hd : sizeB k n = if k = 0 then true else if k = 1 then inPx n else if k = 2 then decide (0 ≤ n) && decide (n ≤ 10000000) else false := rfl
  have H1 := Lib.hid (fun sv X hI => within_any (-1073741824) 1073741824 sv [n] X hI)
  have H2 := Lib.hid (fun sv X hI => within_any 0 10000000 sv [n] X hI)
  have E1 : (inPx n = !([n].any (outB (-1073741824) 1073741824))) := (within_one _ _ _).symm
  have E2 : ((decide (0 ≤ n) && decide (n ≤ 10000000)) = !([n].any (outB 0 10000000))) := (within_one _ _ _).symm
  rw [E1, E2] at hd
  clear E1 E2
  generalize (!([n].any (outB (-1073741824) 1073741824))) = d1 at *
  generalize (!([n].any (outB 0 10000000))) = d2 at *
  generalize sizeB k n = d at *
  have D := Lib.hid hd
  clear hd
  by_cases h0 : k = 0
  · subst h0
    go_enter Try.func78, Try.ntmps78
    go_wp2_with fail
    go_ret
    exact ⟨ret_bool (by simpa using D.out.symm), (Below.refl _ _).alloc (Nat.le_refl _) _⟩
  · by_cases h1 : k = 1
    · subst h1
      go_enter Try.func78, Try.ntmps78
      go_wp2_with fail
      refine (H1.out _ _ (Ints.whole (t := 2) (whole_new _ _ _ _ (by simp)) rfl (by simp))).mono ?_
      rintro e w' ⟨rfl, hb1⟩
      go_wp2_with fail
      go_ret
      exact ⟨ret_bool (by simpa using D.out.symm), (((Below.refl _ _).alloc (Nat.le_refl _) _).alloc (by simp) _).trans (hb1.mono (by simp; omega))⟩
    · by_cases h2 : k = 2
      · subst h2
        go_enter Try.func78, Try.ntmps78
        go_wp2_with fail
        refine (H2.out _ _ (Ints.whole (t := 2) (whole_new _ _ _ _ (by simp)) rfl (by simp))).mono ?_
        rintro e w' ⟨rfl, hb1⟩
        go_wp2_with fail
        go_ret
        exact ⟨ret_bool (by simpa using D.out.symm), (((Below.refl _ _).alloc (Nat.le_refl _) _).alloc (by simp) _).trans (hb1.mono (by simp; omega))⟩
      · go_enter Try.func78, Try.ntmps78
        go_wp2_with fail
        go_ret
        exact ⟨ret_bool (by simpa [h0, h1, h2] using D.out.symm), (Below.refl _ _).alloc (Nat.le_refl _) _⟩
set_option maxHeartbeats 400000 in
theorem refSize_any (k n : Int) (W : World) : Calls Try.prog 74 #[.agg #[.int .i64 k, .int .i64 n]] W fun e W' => e = .returned (.bool (sizeB k n)) ∧ Below W.heap.size W W' := by
  have hd : sizeB k n = if k = 0 then true else if k = 1 then inPx n else if k = 2 then decide (0 ≤ n) && decide (n ≤ 10000000) else false := rfl
  have H1 := Lib.hid (fun X => refLen_any n X)
  generalize sizeB k n = d at *
  generalize inPx n = d1 at *
  have D := Lib.hid hd
  clear hd
  by_cases h0 : k = 0
  · subst h0
    go_enter Try.func74, Try.ntmps74
    go_wp2_with fail
    go_ret
    exact ⟨ret_bool (by simpa using D.out.symm), (Below.refl _ _).alloc (Nat.le_refl _) _⟩
  · by_cases h1 : k = 1
    · subst h1
      go_enter Try.func74, Try.ntmps74
      go_wp2_with fail
      refine (H1.out _).mono ?_
      rintro e w' ⟨rfl, rfl⟩
      go_wp2_with fail
      go_ret
      exact ⟨ret_bool (by simpa using D.out.symm), (Below.refl _ _).alloc (Nat.le_refl _) _⟩
    · by_cases h2 : k = 2
      · subst h2
        by_cases h3 : 0 ≤ n
        · have hd : Hid (d = decide (n ≤ 10000000)) := Lib.hid (by simpa [h3] using D.out)
          go_enter Try.func74, Try.ntmps74
          go_wp2_with fail
          go_ret
          exact ⟨ret_bool hd.out.symm, (Below.refl _ _).alloc (Nat.le_refl _) _⟩
        · have hd : Hid (d = false) := Lib.hid (by simpa [h3] using D.out)
          go_enter Try.func74, Try.ntmps74
          go_wp2_with fail
          go_ret
          exact ⟨ret_bool hd.out.symm, (Below.refl _ _).alloc (Nat.le_refl _) _⟩
      · go_enter Try.func74, Try.ntmps74
        go_wp2_with fail
        go_ret
        exact ⟨ret_bool (by simpa [h0, h1, h2] using D.out.symm), (Below.refl _ _).alloc (Nat.le_refl _) _⟩
end Go.Proofs.Ytdljgdmodobjpaa
