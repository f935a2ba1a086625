/- Slices of structs as lists: where their cells lie; as arguments: opened, and cut. Nothing of the program but its types. -/
/- Contracts of columns.computed, allComputed, rightNeed, and the closures that Right and chosen go by. -/
import Derived.Test.YtmljndggblfeiaaKBase
import Derived.Test.YtmljndggblfeiaaKPlain
import Derived.Lib.SmallJoins
import Derived.ProofKit
import Derived.OpenShut
import Derived.Deep.Slices
import Derived.BigRegion
import Derived.RegionTactic
import Derived.Test.YtmljndggblfeiaaShelf
namespace Go.Proofs.Ytmljndggblfeiaa
open Go.ChangeShapes Go.WideShapes Go.ChangeAt Go.RowKit Go.Joins Go.Shelf
set_option linter.unusedVariables false
set_option linter.unusedSimpArgs false

theorem add_plainK (b off j : Nat) : (⟨b, off, none⟩ : Addr).add j = ⟨b, off + j, none⟩ := by simp [Addr.add]
/-- a slice of structs: its cells -/
def RowsK {α : Type} [Inhabited α] (cells : α → List Value) (n : Nat) (W : World) (sv : Value) (zs : List α) : Prop :=
  zs.length ≤ 9223372036854775807 ∧ ((∃ (a : Option Addr) (cap : Nat), sv = .slice a 0 cap ∧ zs = []) ∨ ∃ b off cap, sv = .slice (some ⟨b, off, none⟩) zs.length cap ∧ b < W.heap.size ∧ ∀ j, j < zs.length → ∀ i v, (cells (zs[j]!))[i]? = some v → W.cell? ⟨b, off + j * n + i, none⟩ = some v)
theorem RowsK.below {α : Type} [Inhabited α] {cells : α → List Value} {n : Nat} {W W' : World} {sv : Value} {zs : List α} (h : RowsK cells n W sv zs) (hb : Below W.heap.size W W') : RowsK cells n W' sv zs := by
  obtain ⟨hm, ⟨a, cap, rfl, rfl⟩ | ⟨b, off, cap, rfl, hlt, hc⟩⟩ := h
  · exact ⟨hm, .inl ⟨a, cap, rfl, rfl⟩⟩
  · exact ⟨hm, .inr ⟨b, off, cap, rfl, by have := hb.size; omega, fun j hj i v hv => (hb.cell (p := ⟨b, off + j * n + i, none⟩) hlt).trans (hc j hj i v hv)⟩⟩
theorem RowsK.at {α : Type} [Inhabited α] {cells : α → List Value} {n : Nat} {W : World} {p : Option Addr} {m c : Nat} {zs : List α} (h : RowsK cells n W (.slice p m c) zs) (k : Nat) (s : α) (hs : zs[k]? = some s) :
    ∃ b off, p = some ⟨b, off, none⟩ ∧ b < W.heap.size ∧ ∀ i v, (cells s)[i]? = some v → W.cell? ⟨b, off + k * n + i, none⟩ = some v := by
  obtain ⟨hm, ⟨a, cap, e, rfl⟩ | ⟨b, off, cap, e, hlt, hc⟩⟩ := h
  · simp at hs
  · injection e with e1 e2 e3
    have hk := (List.getElem?_eq_some_iff.1 hs).1
    refine ⟨b, off, e1, hlt, fun i v hv => hc k hk i v ?_⟩
    have : zs[k]! = s := by simp [List.getElem!_eq_getElem?_getD, hs]
    rw [this]; exact hv
theorem RowsK.len {α : Type} [Inhabited α] {cells : α → List Value} {n : Nat} {W : World} {p : Option Addr} {m c : Nat} {zs : List α} (h : RowsK cells n W (.slice p m c) zs) : zs.length = m := by
  obtain ⟨hm, ⟨a, cap, e, rfl⟩ | ⟨b, off, cap, e, hlt, hc⟩⟩ := h
  · injection e with e1 e2 e3; subst e2; rfl
  · injection e with e1 e2 e3; exact e2.symm
theorem RowsK.slice {α : Type} [Inhabited α] {cells : α → List Value} {n : Nat} {W : World} {sv : Value} {zs : List α} (h : RowsK cells n W sv zs) : ∃ p c, sv = .slice p zs.length c := by
  obtain ⟨hm, ⟨a, cap, e, rfl⟩ | ⟨b, off, cap, e, hlt, hc⟩⟩ := h
  · exact ⟨a, cap, e⟩
  · exact ⟨_, cap, e⟩
theorem RowsK.none {α : Type} [Inhabited α] {cells : α → List Value} {n : Nat} {W : World} {a : Option Addr} {c : Nat} : RowsK cells n W (.slice a 0 c) ([] : List α) := ⟨by simp, .inl ⟨a, c, rfl, rfl⟩⟩
theorem flat_getK {α : Type} [Inhabited α] (cells : α → List Value) (n : Nat) (hn : ∀ a, (cells a).length = n) (l : List α) (j i : Nat) (hi : i < n) (hj : j < l.length) : (l.flatMap cells)[j * n + i]? = (cells (l[j]!))[i]? := by
  induction l generalizing j with
  | nil => simp at hj
  | cons a l ih =>
    cases j with
    | zero =>
      rw [List.flatMap_cons, List.getElem?_append_left (by rw [hn]; omega)]; simp
    | succ j =>
      rw [List.flatMap_cons, List.getElem?_append_right (by rw [hn, Nat.succ_mul]; omega)]
      rw [show (j + 1) * n + i - (cells a).length = j * n + i by rw [hn, Nat.succ_mul]; omega, ih j (by simpa using hj)]; simp
theorem RowsK.whole {α : Type} [Inhabited α] {cells : α → List Value} {n : Nat} (hn : ∀ a, (cells a).length = n) {W : World} {g t m : Nat} {zs : List α} (h : Whole W g t (zs.flatMap cells)) (hz : zs.length = m) (c : Nat) (hm : m ≤ 9223372036854775807) : RowsK cells n W (.slice (some ⟨g, 0, Option.none⟩) m c) zs := by
  refine ⟨by omega, .inr ⟨g, 0, c, by rw [hz], h.lt, fun j hj i v hv => ?_⟩⟩
  rw [h.cellAt]
  have hi : i < n := by
    have := (List.getElem?_eq_some_iff.1 hv).1; rwa [hn] at this
  rw [show 0 + j * n + i = j * n + i by omega, flat_getK cells n hn zs j i hi hj]; exact hv
/-- a slice of structs that is an argument -/
def RowArg {α : Type} [Inhabited α] (cells : α → List Value) (wf : α → Prop) (n : Nat) (W : World) (a : Option Addr) (len cap : Nat) (zs : List α) : Prop :=
  (∀ s ∈ zs, wf s) ∧ ((a = none ∧ len = 0 ∧ cap = 0 ∧ zs = []) ∨ ∃ x, a = some x ∧ len ≤ cap ∧ cap ≤ maxLen ∧ zs.length = len ∧ ∀ j, j < len → ∀ i v, (cells (zs[j]!))[i]? = some v → W.cell? (x.add (j * n + i)) = some v)
theorem open_rowsK {α : Type} [Inhabited α] {H : Type} {enc : TypeId × Value → H} {w : World} {base : Nat} {spare : Nat → Bool} {held : Bool} {cells : α → List Value} {wf : α → Prop} {n T E : Nat} (hT : Try.prog.underlying T = some (.slice E)) (hE : Try.prog.cellsOf E = n) (hn : ∀ a, (cells a).length = n)
    (one : ∀ {fuel : Nat} {cs : List Value} {x : DataW H × List MemPlace}, DataW.trod enc Try.prog w base spare held fuel E cs = some x → ∃ q : α, cs = cells q ∧ wf q)
    {a : Option Addr} {len cap fuel : Nat} {y : DataW H × List MemPlace} (h : DataW.trod enc Try.prog w base spare held fuel T [.slice a len cap] = some y) : ∃ zs, RowArg cells wf n w a len cap zs := by
  rcases Go.Deep.open_slice hT h with ⟨hcs, _⟩ | ⟨x, l, c, m, nn, D, Pl, hcs, _, hl, hm, hmm, _, hx⟩
  · simp at hcs
    obtain ⟨rfl, rfl, rfl⟩ := hcs
    exact ⟨[], by simp, .inl ⟨rfl, rfl, rfl, rfl⟩⟩
  · simp at hcs
    obtain ⟨rfl, rfl, rfl⟩ := hcs
    have hlm : len ≤ m := by rw [hmm]; split <;> omega
    rw [hE] at hx
    have each : ∀ i, i < len → ∃ q : α, wf q ∧ ∀ k v, (cells q)[k]? = some v → w.cell? (x.add (i * n + k)) = some v := by
      intro i hi
      obtain ⟨cs, h1, h2⟩ := hx i (by omega)
      obtain ⟨q, rfl, hw⟩ := one h2
      obtain ⟨_, _, hc⟩ := World.cells?_some h1
      refine ⟨q, hw, fun k v hv => ?_⟩
      have hk : k < n := by have := (List.getElem?_eq_some_iff.1 hv).1; rwa [hn] at this
      have := hc k hk
      rw [hv] at this
      rw [Go.Deep.add_add] at this
      exact this
    obtain ⟨q, hq⟩ := Go.Deep.choose_lt each
    refine ⟨(List.range len).map q, ?_, .inr ⟨x, rfl, hl, hm, by simp, fun j hj k v hv => ?_⟩⟩
    · intro s hs
      simp at hs
      obtain ⟨i, hi, rfl⟩ := hs
      exact (hq i hi).1
    · refine (hq j hj).2 k v ?_
      have e : ((List.range len).map q)[j]! = q j := by simp [hj]
      rw [e] at hv; exact hv
/-- an argument, cut to its first so many -/
theorem RowArg.take {α : Type} [Inhabited α] {cells : α → List Value} {wf : α → Prop} {n : Nat} (hn : ∀ a, (cells a).length = n) (h0 : 0 < n) {W : World} {a : Option Addr} {len cap : Nat} {zs : List α} (h : RowArg cells wf n W a len cap zs) (k : Nat) :
    RowsK cells n W (.slice a (min len k) cap) (zs.take k) ∧ (zs.take k).length = min len k ∧ len ≤ cap ∧ cap ≤ 9223372036854775807 ∧ (∀ s ∈ zs.take k, wf s) ∧ ((a = none ∧ len = 0 ∧ cap = 0) ∨ ∃ g off m, a = some ⟨g, off, m⟩) := by
  have hw : ∀ s ∈ zs.take k, wf s := fun s hs => h.1 s (List.mem_of_mem_take hs)
  rcases h.2 with ⟨rfl, rfl, rfl, rfl⟩ | ⟨x, rfl, hl, hm, hz, hc⟩
  · exact ⟨by rw [Nat.zero_min, List.take_nil]; exact RowsK.none, by simp, by simp, by simp, hw, .inl ⟨rfl, rfl, rfl⟩⟩
  · unfold maxLen at hm
    obtain ⟨g, off, m⟩ := x
    have ht : (zs.take k).length = min len k := by rw [List.length_take, hz, Nat.min_comm]
    refine ⟨?_, ht, hl, by omega, hw, .inr ⟨g, off, m, rfl⟩⟩
    refine ⟨by omega, ?_⟩
    by_cases h1 : min len k = 0
    · rw [h1] at ht ⊢
      exact .inl ⟨_, _, rfl, List.length_eq_zero_iff.1 ht⟩
    · right
      obtain ⟨v0, hv0⟩ : ∃ v, (cells (zs[0]!))[0]? = some v := ⟨_, List.getElem?_eq_getElem (by rw [hn]; exact h0)⟩
      have c0 := hc 0 (by omega) 0 v0 hv0
      have hs : m = none := by simpa [Addr.add] using World.cell?_spot c0
      subst hs
      refine ⟨g, off, cap, by rw [ht], ?_, fun j hj i v hv => ?_⟩
      · simpa [Addr.add] using cell_lt c0
      · have hj' : j < len := by omega
        have hjk : j < k := by omega
        have e : (zs.take k)[j]! = zs[j]! := by simp [List.getElem!_eq_getElem?_getD, List.getElem?_take, hjk]
        rw [e] at hv
        have := hc j hj' i v hv
        rw [add_plainK] at this
        rw [show off + j * n + i = off + (j * n + i) by omega]
        exact this
end Go.Proofs.Ytmljndggblfeiaa

namespace Go.Proofs.Ytmljndggblfeiaa
open Go.RowKit Go.Shelf
set_option linter.unusedVariables false
set_option linter.unusedSimpArgs false

set_option maxHeartbeats 1000000 in
theorem comp_any (s : Sz) (W : World) :
    Calls Try.prog 70 #[s.val] W fun e W' => e = .returned (.bool (szB s)) ∧ Below W.heap.size W W' := by
  obtain ⟨k, n⟩ := s
  obtain ⟨q, hq⟩ : ∃ q, [n].any (outB 0 1073741824) = q := ⟨_, rfl⟩
  have HV := Lib.hid (fun sv X hI => hq ▸ within_any 0 1073741824 sv [n] X hI)
  have hqi : (!q) = (decide (0 ≤ n) && decide (n ≤ 1073741824)) := by rw [← hq]; exact within_one 0 1073741824 n
  obtain ⟨b, hb⟩ : ∃ b, szB ⟨k, n⟩ = b := ⟨_, rfl⟩
  have hcase : (k = 0 ∧ 0 < n ∧ Hid (b = false)) ∨ (k = 0 ∧ ¬ 0 < n ∧ ¬ 10000000 < n ∧ Hid (b = !q)) ∨ (k = 2 ∧ 10000000 < n ∧ Hid (b = false)) ∨ (k = 2 ∧ ¬ 10000000 < n ∧ Hid (b = !q)) ∨ (k = 1 ∧ Hid (b = !q)) ∨ ((k == 0) = false ∧ (k == 1) = false ∧ (k == 2) = false ∧ Hid (b = false)) := by
    rw [hqi, ← hb]
    by_cases h0 : k = 0
    · subst h0
      by_cases h : 0 < n
      · exact .inl ⟨rfl, h, Lib.hid (by simp [szB, mostS]; omega)⟩
      · exact .inr (.inl ⟨rfl, h, by omega, Lib.hid (by rw [Bool.eq_iff_iff]; simp [szB, mostS]; omega)⟩)
    · by_cases h2 : k = 2
      · subst h2
        by_cases h : 10000000 < n
        · exact .inr (.inr (.inl ⟨rfl, h, Lib.hid (by simp [szB, mostS]; omega)⟩))
        · exact .inr (.inr (.inr (.inl ⟨rfl, h, Lib.hid (by rw [Bool.eq_iff_iff]; simp [szB, mostS]; omega)⟩)))
      · by_cases h1 : k = 1
        · subst h1
          exact .inr (.inr (.inr (.inr (.inl ⟨rfl, Lib.hid (by rw [Bool.eq_iff_iff]; simp [szB, mostS])⟩))))
        · refine .inr (.inr (.inr (.inr (.inr ⟨by simpa using h0, by simpa using h1, by simpa using h2, Lib.hid ?_⟩))))
          simp [szB, mostS, h0, h1, h2]; omega
  unfold Sz.val
  dsimp only
  rw [hb]
  clear hb hqi hq
  rcases hcase with ⟨rfl, h1, HB⟩ | ⟨rfl, h1, h2, HB⟩ | ⟨rfl, h1, HB⟩ | ⟨rfl, h1, HB⟩ | ⟨rfl, HB⟩ | ⟨h0, h1, h2, HB⟩
  · clear HV
    go_enter Try.func70, Try.ntmps70
    go_wp2
    go_ret
    exact ⟨by rw [HB.out]; rfl, (Below.refl _ _).alloc (Nat.le_refl _) _⟩
  · go_enter Try.func70, Try.ntmps70
    go_wp2_with fail
    refine (HV.out _ _ (Ints.whole (t := 2) (whole_new _ _ _ _ (by simp)) rfl (by simp))).mono ?_
    rintro e w2 ⟨rfl, hb2⟩
    have HB2 := Lib.hid hb2
    clear hb2
    go_wp2
    go_ret
    exact ⟨by rw [HB.out]; rfl, (((Below.refl _ _).alloc (Nat.le_refl _) _).alloc (by simp) _).trans (HB2.out.mono (by simp <;> omega))⟩
  · clear HV
    go_enter Try.func70, Try.ntmps70
    go_wp2
    go_ret
    exact ⟨by rw [HB.out]; rfl, (Below.refl _ _).alloc (Nat.le_refl _) _⟩
  · go_enter Try.func70, Try.ntmps70
    go_wp2_with fail
    refine (HV.out _ _ (Ints.whole (t := 2) (whole_new _ _ _ _ (by simp)) rfl (by simp))).mono ?_
    rintro e w2 ⟨rfl, hb2⟩
    have HB2 := Lib.hid hb2
    clear hb2
    go_wp2
    go_ret
    exact ⟨by rw [HB.out]; rfl, (((Below.refl _ _).alloc (Nat.le_refl _) _).alloc (by simp) _).trans (HB2.out.mono (by simp <;> omega))⟩
  · go_enter Try.func70, Try.ntmps70
    go_wp2_with fail
    refine (HV.out _ _ (Ints.whole (t := 2) (whole_new _ _ _ _ (by simp)) rfl (by simp))).mono ?_
    rintro e w2 ⟨rfl, hb2⟩
    have HB2 := Lib.hid hb2
    clear hb2
    go_wp2
    go_ret
    exact ⟨by rw [HB.out]; rfl, (((Below.refl _ _).alloc (Nat.le_refl _) _).alloc (by simp) _).trans (HB2.out.mono (by simp <;> omega))⟩
  · clear HV
    go_enter Try.func70, Try.ntmps70
    go_wp2
    go_ret
    exact ⟨by rw [HB.out]; rfl, (Below.refl _ _).alloc (Nat.le_refl _) _⟩
set_option maxHeartbeats 400000 in
theorem wrongS_any (s : Sz) (W : World) :
    Calls Try.prog 69 #[s.val] W fun e W' => e = .returned (.bool (!szB s)) ∧ Below W.heap.size W W' := by
  have HR := Lib.hid (fun X => comp_any s X)
  obtain ⟨b, hb⟩ : ∃ b, szB s = b := ⟨_, rfl⟩
  rw [hb] at HR ⊢
  clear hb
  unfold Sz.val at *
  go_enter Try.func69, Try.ntmps69
  go_wp2_with fail
  refine (HR.out _).mono ?_
  rintro e w' ⟨rfl, hb1⟩
  have HB := Lib.hid hb1
  clear hb1
  go_wp2
  go_ret
  exact ⟨by first | rfl | (simp; done), ((Below.refl _ _).alloc (Nat.le_refl _) _).trans (HB.out.mono (by simp))⟩
theorem any_notK {α : Type} (p : α → Bool) (zs : List α) : (zs.any fun r => !p r) = !(zs.all p) := by
  induction zs with
  | nil => rfl
  | cons a l ih => rw [List.any_cons, List.all_cons, ih]; cases p a <;> rfl
set_option maxHeartbeats 400000 in
theorem allComp_any (sv : Value) (zs : List Sz) (W : World) (hI : RowsK Sz.cells 2 W sv zs) :
    Calls Try.prog 50 #[sv] W fun e W' => e = .returned (.bool (zs.all szB)) ∧ Below W.heap.size W W' := by
  have eg : ∀ args w, (callFunc 69 args).run Try.prog w = .ok (.enter 69 args) w := enters_of Try.func69 (by kernel_rfl) rfl
  have hcall : Calls Try.prog 68 #[sv, .func (.func 69) #[] #[]] W fun e W' => e = .returned (.bool (zs.any fun r => !szB r)) ∧ Below W.heap.size W W' := by
    obtain ⟨hm, ⟨a, cap, rfl, rfl⟩ | ⟨b, off, cap, rfl, hlt, hc⟩⟩ := hI
    · have hN : Calls Try.prog 86 #[.slice a 0 cap, .func (.func 69) #[] #[]] W (IdxPost false W) := by
        go_enter Try.func86, Try.ntmps86
        go_wp2
        refine wp_loop_rounds 1 ?_
        rw [rounds_succ]
        go_wp2
        go_ret
        exact ⟨-1, rfl, rfl, rfl⟩
      have HC := Lib.hid hN
      clear hN
      go_enter Try.func68, Try.ntmps68
      go_wp2_with fail
      refine HC.out.mono ?_
      rintro e w' ⟨i, rfl, hi, rfl⟩
      have HI := Lib.hid hi
      clear hi
      go_wp2
      go_ret
      refine ⟨?_, Below.refl _ _⟩
      have := HI.out
      first | (rw [this]; rfl) | (simp [this]; done) | (simp; simpa using this)
    · have h := AnyQ.slices_ContainsFunc Try.containsZ 2 Try.isAgg35 Try.sizeOf35 Sz.cells (fun _ => rfl) (fun r => !szB r) 69 #[] eg b off zs.length cap zs W (fun X r hX => (wrongS_any r X).mono fun _ _ ⟨he, hb⟩ => ⟨he, hX.trans (hb.mono hX.size)⟩) (Nat.le_refl _) hm hlt hc
      rw [List.take_length] at h
      exact h
  rw [any_notK] at hcall
  obtain ⟨b, hb⟩ : ∃ b, zs.all szB = b := ⟨_, rfl⟩
  rw [hb] at hcall ⊢
  have HC := Lib.hid hcall
  clear hcall hb
  go_enter Try.func50, Try.ntmps50
  go_wp2_with fail
  refine HC.out.mono ?_
  rintro e w' ⟨rfl, hb1⟩
  have HB := Lib.hid hb1
  clear hb1
  go_wp2
  go_ret
  exact ⟨by cases b <;> rfl, HB.out⟩
end Go.Proofs.Ytmljndggblfeiaa
