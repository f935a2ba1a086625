/- What the statements of layer 6 share: rows and captions of a page that was cut. -/
/- Contracts of lanes.Ends and of the document's own: where runs of rows end; lanes as an argument, opened. Written by program (mk_LEnds.py). -/
/- Where a cell lies: plain functions on the list that says from which row on each column is free. Nothing of the program. -/
/- Rows of cells in memory; the iterator over all cells (grid.cells). -/
/- Contracts of the columns' methods of package grid (free, gap, take), and of grid.high. -/
/- Contracts of grid.high and of the columns' take: a list that its caller owns, and that grows. -/
/- The places of cells, as a plain function. -/
/- Contract of grid.within: whether some numbers lie between two. Written by program (mk_GWithin.py) out of the text on tree.within: the code is the same. -/
/- Contract of grid.Right: whether rows of cells, with their ends, are right. -/
import Derived.Test.YtcgnldcdcbnofaaLSame
import Derived.Test.YtcgnldcdcbnofaaTPre
import Derived.Test.YtcgnldcdcbnofaaLShown
import Derived.Test.YtcgnldcdcbnofaaTLaw
import Derived.Test.YtcgnldcdcbnofaaSOpen
import Derived.Deep.SlicePairs
import Derived.Test.YtcgnldcdcbnofaaMem
import Derived.Test.YtcgnldcdcbnofaaSNext
import Derived.Test.YtcgnldcdcbnofaaMarks
import Derived.WalkSpells
import Derived.Lib.Hide
import Derived.LoopTactic
import Derived.BigQuiet
import Derived.Deep.QuietTactic
import Derived.Deep.LoopGhost
import Derived.Shelf.Abstract
import Derived.Shelf.RegionOpen
import Derived.ScopeJumps
import Derived.WalkMore
import Derived.Test.YtcgnldcdcbnofaaSBase
import Derived.Maps.AppendAt
import Derived.Deep.AppendLies
import Derived.Laws.OwnMore
import Derived.Test.YtcgnldcdcbnofaaSlice
namespace Go.Proofs.Ytcgnldcdcbnofaa
open Go.RowKit Go.Shelf
set_option linter.unusedVariables false

theorem kf_link {ns : List Nd} (hO : PageOk ns) {p z : Int} (h : z ∈ kfOf ns p) : 0 ≤ z ∧ z < (ns.length : Int) := by
  obtain ⟨n, hn, hz⟩ := kf_mem h
  exact hO.link n (List.mem_iff_getElem?.2 ⟨_, hn⟩) z hz
theorem fnd_mem {ns : List Nd} {k : Int} {ps : List Int} {x : Int × Int} (h : x ∈ fndP ns k ps) : x.2 ∈ ps ∧ x.1 ∈ kfOf ns x.2 ∧ kdOf ns x.1.toNat = k := by
  obtain ⟨q, hq, hx⟩ := List.mem_flatMap.1 h
  obtain ⟨z, hz, rfl⟩ := List.mem_map.1 hx
  obtain ⟨h1, h2⟩ := List.mem_filter.1 hz
  exact ⟨hq, h1, by simpa using h2⟩
theorem first_mem {ns : List Nd} {k p z : Int} (h : z ∈ firstK ns k p) : z ∈ kfOf ns p ∧ kdOf ns z.toNat = k := by
  obtain ⟨h1, h2⟩ := List.mem_filter.1 (List.mem_of_mem_take h)
  exact ⟨h1, by simpa using h2⟩
theorem one_mem {ns : List Nd} {mv : List Int} {z : Int} {x : Int × Int} (h : x ∈ oneR ns mv z) :
    (x = (z, -1) ∧ kdOf ns z.toNat = 9) ∨ (x.2 = z ∧ x.1 ∈ kfOf ns z ∧ kdOf ns x.1.toNat = 9 ∧ (kdOf ns z.toNat = 6 ∨ kdOf ns z.toNat = 7 ∨ kdOf ns z.toNat = 8) ∧ (kdOf ns z.toNat = 7 ∨ z ∉ mv)) := by
  unfold oneR at h
  by_cases k9 : kdOf ns z.toNat = 9
  · rw [if_pos k9] at h
    exact .inl ⟨by simpa using h, k9⟩
  · rw [if_neg k9] at h
    by_cases k68 : kdOf ns z.toNat = 6 ∨ kdOf ns z.toNat = 8
    · rw [if_pos k68] at h
      by_cases hc : mv.contains z = true
      · rw [if_pos hc] at h; cases h
      · rw [if_neg hc] at h
        obtain ⟨h1, h2, h3⟩ := fnd_mem h
        have e : x.2 = z := by simpa using h1
        rw [e] at h2
        exact .inr ⟨e, h2, h3, by omega, .inr (by simpa using hc)⟩
    · rw [if_neg k68] at h
      by_cases k7 : kdOf ns z.toNat = 7
      · rw [if_pos k7] at h
        obtain ⟨h1, h2, h3⟩ := fnd_mem h
        have e : x.2 = z := by simpa using h1
        rw [e] at h2
        exact .inr ⟨e, h2, h3, by omega, .inl k7⟩
      · rw [if_neg k7] at h; cases h
/-- where a row comes from -/
theorem rows_mem {ns : List Nd} {p : Int} {x : Int × Int} (h : x ∈ rowsP ns p) :
    kdOf ns x.1.toNat = 9 ∧ ((x.2 = -1 ∧ x.1 ∈ kfOf ns p) ∨ (x.2 ∈ kfOf ns p ∧ (kdOf ns x.2.toNat = 6 ∨ kdOf ns x.2.toNat = 7 ∨ kdOf ns x.2.toNat = 8) ∧ x.1 ∈ kfOf ns x.2)) := by
  unfold rowsP at h
  rcases List.mem_append.1 h with h | h
  · rcases List.mem_append.1 h with h | h
    · obtain ⟨h1, h2, h3⟩ := fnd_mem h
      obtain ⟨h4, h5⟩ := first_mem h1
      exact ⟨h3, .inr ⟨h4, .inl h5, h2⟩⟩
    · obtain ⟨z, hz, hx⟩ := List.mem_flatMap.1 h
      rcases one_mem hx with ⟨rfl, h9⟩ | ⟨e, h2, h3, h4, _⟩
      · exact ⟨h9, .inl ⟨rfl, hz⟩⟩
      · exact ⟨h3, .inr ⟨by rw [e]; exact hz, by rw [e]; exact h4, by rw [e]; exact h2⟩⟩
  · obtain ⟨h1, h2, h3⟩ := fnd_mem h
    obtain ⟨h4, h5⟩ := first_mem h1
    exact ⟨h3, .inr ⟨h4, .inr (.inr h5), h2⟩⟩
theorem rows_in {ns : List Nd} (hO : PageOk ns) {p : Int} {x : Int × Int} (h : x ∈ rowsP ns p) : 0 ≤ x.1 ∧ x.1 < (ns.length : Int) ∧ -1 ≤ x.2 ∧ x.2 < (ns.length : Int) := by
  obtain ⟨_, ⟨h1, h2⟩ | ⟨h1, _, h2⟩⟩ := rows_mem h
  · have := kf_link hO h2; omega
  · have := kf_link hO h2; have := kf_link hO h1; omega
/-- the order of heads, bodies, feet -/
theorem ord_ok {A B C : List (Int × Int)} {f l : Int} (hA : ∀ x ∈ A, x.2 = f ∧ 0 ≤ f) (hB : ∀ x ∈ B, (0 ≤ f → x.2 ≠ f) ∧ (0 ≤ l → x.2 ≠ l)) (hC : ∀ x ∈ C, x.2 = l ∧ 0 ≤ l) (hne : 0 ≤ f → 0 ≤ l → f ≠ l) (i : Nat) (x y : Int × Int)
    (hx : (A ++ B ++ C)[i]? = some x) (hy : (A ++ B ++ C)[i + 1]? = some y) : ¬ (y.2 = f ∧ 0 ≤ f ∧ x.2 ≠ f) ∧ ¬ (x.2 = l ∧ 0 ≤ l ∧ y.2 ≠ l) := by
  have key : ∀ (j : Nat) (z : Int × Int), (A ++ B ++ C)[j]? = some z → (j < A.length ∧ z ∈ A) ∨ (A.length ≤ j ∧ j < A.length + B.length ∧ z ∈ B) ∨ (A.length + B.length ≤ j ∧ z ∈ C) := fun j z h => by
    by_cases h1 : j < A.length
    · rw [List.append_assoc, List.getElem?_append_left h1] at h
      exact .inl ⟨h1, List.mem_iff_getElem?.2 ⟨_, h⟩⟩
    · by_cases h2 : j < (A ++ B).length
      · rw [List.getElem?_append_left h2, List.getElem?_append_right (by omega)] at h
        exact .inr (.inl ⟨by omega, by simpa using h2, List.mem_iff_getElem?.2 ⟨_, h⟩⟩)
      · rw [List.getElem?_append_right (by omega)] at h
        exact .inr (.inr ⟨by simpa using h2, List.mem_iff_getElem?.2 ⟨_, h⟩⟩)
  constructor
  · rintro ⟨h1, h2, h3⟩
    rcases key _ _ hy with ⟨a, b⟩ | ⟨_, _, b⟩ | ⟨_, b⟩
    · rcases key _ _ hx with ⟨_, d⟩ | ⟨c, _⟩ | ⟨c, _⟩
      · exact h3 (hA x d).1
      · omega
      · omega
    · exact (hB y b).1 h2 h1
    · have := hC y b
      exact hne h2 this.2 (by omega)
  · rintro ⟨h1, h2, h3⟩
    rcases key _ _ hx with ⟨a, b⟩ | ⟨_, _, b⟩ | ⟨a, b⟩
    · have := hA x b
      exact hne this.2 h2 (by omega)
    · exact (hB x b).2 h2 h1
    · rcases key _ _ hy with ⟨c, _⟩ | ⟨_, c, _⟩ | ⟨_, d⟩
      · omega
      · omega
      · exact h3 (hC y d).1
theorem first_form (ns : List Nd) (k p : Int) : firstK ns k p = [] ∧ kindK ns k p = [] ∨ ∃ h t, kindK ns k p = h :: t ∧ firstK ns k p = [h] := by
  unfold firstK
  cases hk : kindK ns k p with
  | nil => exact .inl ⟨rfl, rfl⟩
  | cons h t => exact .inr ⟨h, t, rfl, rfl⟩
/-- the first of a kind, or -1 -/
def firstN (ns : List Nd) (k : Int) (l : List Int) : Int := ((l.filter fun z => decide (kdOf ns z.toNat = k)).head?).getD (-1)
theorem firstN_of (ns : List Nd) (k p : Int) : firstK ns k p = [] ∧ firstN ns k (kfOf ns p) = -1 ∨ firstK ns k p = [firstN ns k (kfOf ns p)] := by
  rcases first_form ns k p with ⟨h1, h2⟩ | ⟨h, t, h1, h2⟩
  · refine .inl ⟨h1, ?_⟩
    unfold kindK at h2
    unfold firstN; rw [h2]; rfl
  · refine .inr ?_
    unfold kindK at h1
    unfold firstN; rw [h1, h2]; rfl
theorem heads_ok {ns : List Nd} (hO : PageOk ns) (p : Int) (i : Nat) (x y : Int × Int) (hx : (rowsP ns p)[i]? = some x) (hy : (rowsP ns p)[i + 1]? = some y) :
    ¬ (y.2 = firstN ns 6 (kfOf ns p) ∧ 0 ≤ firstN ns 6 (kfOf ns p) ∧ x.2 ≠ firstN ns 6 (kfOf ns p)) ∧ ¬ (x.2 = firstN ns 8 (kfOf ns p) ∧ 0 ≤ firstN ns 8 (kfOf ns p) ∧ y.2 ≠ firstN ns 8 (kfOf ns p)) := by
  have hin : ∀ k, (firstK ns k p = [] ∧ firstN ns k (kfOf ns p) = -1) ∨ (firstK ns k p = [firstN ns k (kfOf ns p)] ∧ 0 ≤ firstN ns k (kfOf ns p) ∧ kdOf ns (firstN ns k (kfOf ns p)).toNat = k) := fun k => by
    rcases firstN_of ns k p with h | h
    · exact .inl h
    · obtain ⟨h1, h2⟩ := first_mem (ns := ns) (k := k) (p := p) (z := firstN ns k (kfOf ns p)) (by rw [h]; simp)
      exact .inr ⟨h, (kf_link hO h1).1, h2⟩
  unfold rowsP at hx hy
  refine ord_ok (f := firstN ns 6 (kfOf ns p)) (l := firstN ns 8 (kfOf ns p)) (fun x hx => ?_) (fun x hx => ?_) (fun x hx => ?_) (fun h1 h2 e => ?_) i x y hx hy
  · obtain ⟨h1, _⟩ := fnd_mem hx
    rcases hin 6 with ⟨h, _⟩ | ⟨h, h0, _⟩
    · rw [h] at h1; cases h1
    · rw [h] at h1; exact ⟨by simpa using h1, h0⟩
  · obtain ⟨z, hz, hx⟩ := List.mem_flatMap.1 hx
    have hz0 := (kf_link hO hz).1
    rcases one_mem hx with ⟨rfl, _⟩ | ⟨e, _, _, h4, h5⟩
    · exact ⟨fun h => by dsimp only; omega, fun h => by dsimp only; omega⟩
    · have hno : ∀ k, (k = 6 ∨ k = 8) → 0 ≤ firstN ns k (kfOf ns p) → x.2 ≠ firstN ns k (kfOf ns p) := fun k hk h0 hq => by
        rcases hin k with ⟨_, h⟩ | ⟨h, _, h2⟩
        · omega
        · rw [← hq, e] at h2
          rcases h5 with h5 | h5
          · omega
          · apply h5
            have : z ∈ firstK ns k p := by rw [h, ← hq, e]; simp
            rcases hk with rfl | rfl
            · exact List.mem_append_left _ this
            · exact List.mem_append_right _ this
      exact ⟨hno 6 (.inl rfl), hno 8 (.inr rfl)⟩
  · obtain ⟨h1, _⟩ := fnd_mem hx
    rcases hin 8 with ⟨h, _⟩ | ⟨h, h0, _⟩
    · rw [h] at h1; cases h1
    · rw [h] at h1; exact ⟨by simpa using h1, h0⟩
  · rcases hin 6 with ⟨_, h⟩ | ⟨_, _, h6⟩
    · omega
    · rcases hin 8 with ⟨_, h⟩ | ⟨_, _, h8⟩
      · omega
      · rw [e] at h6; omega
/-- kids of a tree's node are told apart -/
theorem Tr.kf_nodup {ns : List Nd} (h : Tr ns) (p : Int) : (kfOf ns p).Nodup := by
  rw [List.nodup_iff_count]
  intro y
  unfold kfOf
  cases hq : ns[p.toNat]? with
  | none => simp
  | some n => exact h.one hq y
theorem Tr.kf_up {ns : List Nd} (h : Tr ns) {p q y : Int} (hp : 0 ≤ p) (hq : 0 ≤ q) (h1 : y ∈ kfOf ns p) (h2 : y ∈ kfOf ns q) : p = q := by
  obtain ⟨n, hn, hy⟩ := kf_mem h1
  obtain ⟨n', hn', hy'⟩ := kf_mem h2
  have := h.up hn hn' hy hy'
  omega
theorem fnd_nodup {ns : List Nd} (h : Tr ns) (k p : Int) : (fndP ns k (firstK ns k p)).Nodup ∧ ∀ k', (fndP ns k' (firstK ns k p)).Nodup := by
  have : ∀ k', (fndP ns k' (firstK ns k p)).Nodup := fun k' => by
    rcases first_form ns k p with ⟨h1, _⟩ | ⟨z, t, _, h1⟩
    · rw [h1]; simp [fndP]
    · rw [h1]
      unfold fndP kindK
      simp only [List.flatMap_cons, List.flatMap_nil, List.append_nil]
      unfold List.Nodup
      rw [List.pairwise_map]
      exact (((h.kf_nodup z).filter _).imp fun {a b} hab e => hab (by injection e))
  exact ⟨this k, this⟩
theorem one_nodup {ns : List Nd} (h : Tr ns) (mv : List Int) (z : Int) : (oneR ns mv z).Nodup := by
  have hf : (fndP ns 9 [z]).Nodup := by
    unfold fndP kindK
    simp only [List.flatMap_cons, List.flatMap_nil, List.append_nil]
    unfold List.Nodup
    rw [List.pairwise_map]
    exact (((h.kf_nodup z).filter _).imp fun {a b} hab e => hab (by injection e))
  unfold oneR
  split
  · simp
  · split
    · split
      · simp
      · exact hf
    · split
      · exact hf
      · simp
theorem rows_nodup {ns : List Nd} (h : Tr ns) (hO : PageOk ns) (p : Int) : (rowsP ns p).Nodup := by
  unfold rowsP
  have hA := (fnd_nodup h 6 p).2 9
  have hC := (fnd_nodup h 8 p).2 9
  have hB : ((kfOf ns p).flatMap (oneR ns (firstK ns 6 p ++ firstK ns 8 p))).Nodup := by
    unfold List.Nodup
    rw [List.pairwise_flatMap]
    refine ⟨fun z _ => one_nodup h _ z, ?_⟩
    refine (h.kf_nodup p).imp_of_mem (fun {a b} ha hb hab x hx y hy e => hab ?_)
    have ha0 := (kf_link hO ha).1
    have hb0 := (kf_link hO hb).1
    subst e
    rcases one_mem hx with ⟨rfl, _⟩ | ⟨e1, _⟩ <;> rcases one_mem hy with ⟨e2, _⟩ | ⟨e2, _⟩
    · injection e2
    · dsimp only at e2; omega
    · rw [e2] at e1; dsimp only at e1; omega
    · omega
  have hmv : ∀ x ∈ (kfOf ns p).flatMap (oneR ns (firstK ns 6 p ++ firstK ns 8 p)), x.2 ∉ firstK ns 6 p ∧ x.2 ∉ firstK ns 8 p := fun x hx => by
    obtain ⟨z, hz, hx⟩ := List.mem_flatMap.1 hx
    rcases one_mem hx with ⟨rfl, _⟩ | ⟨e, _, _, h4, h5⟩
    · exact ⟨fun hm => by have := (kf_link hO (first_mem hm).1).1; dsimp only at this; omega, fun hm => by have := (kf_link hO (first_mem hm).1).1; dsimp only at this; omega⟩
    · rw [e]
      rcases h5 with h5 | h5
      · exact ⟨fun hm => by have := (first_mem hm).2; omega, fun hm => by have := (first_mem hm).2; omega⟩
      · exact ⟨fun hm => h5 (List.mem_append_left _ hm), fun hm => h5 (List.mem_append_right _ hm)⟩
  rw [List.nodup_append, List.nodup_append]
  refine ⟨⟨hA, hB, fun a ha b hb e => ?_⟩, hC, fun a ha b hb e => ?_⟩
  · subst e; exact (hmv a hb).1 (fnd_mem ha).1
  · subst e
    rcases List.mem_append.1 ha with ha | ha
    · have h1 := (first_mem (fnd_mem ha).1).2
      have h2 := (first_mem (fnd_mem hb).1).2
      omega
    · exact (hmv a ha).2 (fnd_mem hb).1
/-- each row is there once -/
theorem rows_once {ns : List Nd} (h : Tr ns) (hO : PageOk ns) {p : Nat} (hk : kdOf ns p = 2) (z : Int) : ((rowsP ns p).map Prod.fst).count z ≤ 1 := by
  have hn : ((rowsP ns p).map Prod.fst).Nodup := by
    unfold List.Nodup
    rw [List.pairwise_map]
    refine (rows_nodup h hO p).imp_of_mem (fun {a b} ha hb hab e => hab ?_)
    obtain ⟨_, ⟨a1, a2⟩ | ⟨a1, a3, a2⟩⟩ := rows_mem ha <;> obtain ⟨_, ⟨b1, b2⟩ | ⟨b1, b3, b2⟩⟩ := rows_mem hb
    · exact Prod.ext e (by rw [a1, b1])
    · rw [e] at a2
      have := h.kf_up (by omega) (kf_link hO b1).1 a2 b2
      rw [← this, Int.toNat_natCast, hk] at b3; omega
    · rw [← e] at b2
      have := h.kf_up (by omega) (kf_link hO a1).1 b2 a2
      rw [← this, Int.toNat_natCast, hk] at a3; omega
    · rw [e] at a2
      exact Prod.ext e (h.kf_up (kf_link hO a1).1 (kf_link hO b1).1 a2 b2)
  rw [List.nodup_iff_count] at hn
  exact hn z
/-- how many rows a kid has -/
def rowW (ns : List Nd) (z : Int) : Nat := if kdOf ns z.toNat = 9 then 1 else if 6 ≤ kdOf ns z.toNat ∧ kdOf ns z.toNat ≤ 8 then (kindK ns 9 z).length else 0
theorem one_len (ns : List Nd) (mv : List Int) (hmv : ∀ z ∈ mv, kdOf ns z.toNat = 6 ∨ kdOf ns z.toNat = 8) (z : Int) : (oneR ns mv z).length = if mv.contains z = true then 0 else rowW ns z := by
  have hf : (fndP ns 9 [z]).length = (kindK ns 9 z).length := by simp [fndP]
  unfold oneR rowW
  by_cases hc : mv.contains z = true
  · rw [if_pos hc]
    have := hmv z (by simpa using hc)
    rw [if_neg (show ¬ kdOf ns z.toNat = 9 by omega), if_pos this, if_pos hc]; rfl
  · simp only [if_neg hc]
    by_cases k9 : kdOf ns z.toNat = 9
    · rw [if_pos k9, if_pos k9]; rfl
    · rw [if_neg k9, if_neg k9]
      by_cases k68 : kdOf ns z.toNat = 6 ∨ kdOf ns z.toNat = 8
      · rw [if_pos k68, if_pos (show 6 ≤ kdOf ns z.toNat ∧ kdOf ns z.toNat ≤ 8 by omega), hf]
      · rw [if_neg k68]
        by_cases k7 : kdOf ns z.toNat = 7
        · rw [if_pos k7, if_pos (show 6 ≤ kdOf ns z.toNat ∧ kdOf ns z.toNat ≤ 8 by omega), hf]
        · rw [if_neg k7, if_neg (show ¬ (6 ≤ kdOf ns z.toNat ∧ kdOf ns z.toNat ≤ 8) by omega)]; rfl
def sumW (f : Int → Nat) : List Int → Nat
  | [] => 0
  | z :: l => f z + sumW f l
theorem sumW_append (f : Int → Nat) : ∀ (a b : List Int), sumW f (a ++ b) = sumW f a + sumW f b
  | [], b => by simp [sumW]
  | z :: a, b => by simp [sumW, sumW_append f a b]; omega
theorem sumW_not (f : Int → Nat) (h : Int) : ∀ (l : List Int), h ∉ l → sumW (fun z => if z = h then 0 else f z) l = sumW f l
  | [], _ => rfl
  | z :: l, hn => by
    simp only [List.mem_cons, not_or] at hn
    simp only [sumW]
    rw [if_neg (fun e => hn.1 e.symm), sumW_not f h l hn.2]
theorem sumW_out (f : Int → Nat) (h : Int) : ∀ (l : List Int), l.Nodup → h ∈ l → sumW f l = f h + sumW (fun z => if z = h then 0 else f z) l
  | [], _, hm => by cases hm
  | z :: l, hd, hm => by
    obtain ⟨h1, h2⟩ := List.nodup_cons.1 hd
    simp only [sumW]
    by_cases e : z = h
    · subst e
      rw [if_pos rfl, sumW_not f z l h1]; omega
    · rw [if_neg e, sumW_out f h l h2 (by rcases List.mem_cons.1 hm with h | h; exact absurd h.symm e; exact h)]; omega
theorem sumW_congr {f g : Int → Nat} : ∀ (l : List Int), (∀ z ∈ l, f z = g z) → sumW f l = sumW g l
  | [], _ => rfl
  | z :: l, h => by simp only [sumW]; rw [h z (by simp), sumW_congr l (fun y hy => h y (by simp [hy]))]
theorem flat_len {β : Type} (g : Int → List β) : ∀ (l : List Int), (l.flatMap g).length = sumW (fun z => (g z).length) l
  | [] => rfl
  | z :: l => by rw [List.flatMap_cons, List.length_append, flat_len g l]; rfl
theorem rows_len {ns : List Nd} (h : Tr ns) (p : Int) : (rowsP ns p).length = sumW (rowW ns) (kfOf ns p) := by
  have hd := h.kf_nodup p
  have hmv : ∀ z ∈ firstK ns 6 p ++ firstK ns 8 p, kdOf ns z.toNat = 6 ∨ kdOf ns z.toNat = 8 := fun z hz => by
    rcases List.mem_append.1 hz with hz | hz
    · exact .inl (first_mem hz).2
    · exact .inr (first_mem hz).2
  unfold rowsP
  rw [List.length_append, List.length_append, flat_len]
  rw [sumW_congr (g := fun z => if (firstK ns 6 p ++ firstK ns 8 p).contains z = true then 0 else rowW ns z) _ (fun z _ => one_len ns _ hmv z)]
  have hw : ∀ k z, (k = 6 ∨ k = 8) → kdOf ns z.toNat = k → (fndP ns 9 [z]).length = rowW ns z := fun k z hk hz => by
    unfold rowW
    rw [if_neg (by omega), if_pos (by omega)]
    simp [fndP]
  rcases first_form ns 6 p with ⟨h6, _⟩ | ⟨a, ta, _, h6⟩ <;> rcases first_form ns 8 p with ⟨h8, _⟩ | ⟨b, tb, _, h8⟩
  · rw [h6, h8]; simp [fndP]
  · have mb := first_mem (ns := ns) (k := 8) (p := p) (z := b) (by rw [h8]; simp)
    rw [h6, h8, hw 8 b (.inr rfl) mb.2, sumW_out (rowW ns) b _ hd mb.1]
    simp only [fndP, List.flatMap_nil, List.length_nil, List.nil_append, Nat.zero_add]
    rw [sumW_congr (g := fun z => if z = b then 0 else rowW ns z) _ (fun z _ => by by_cases e : z = b <;> simp [e])]
    omega
  · have ma := first_mem (ns := ns) (k := 6) (p := p) (z := a) (by rw [h6]; simp)
    rw [h6, h8, hw 6 a (.inl rfl) ma.2, sumW_out (rowW ns) a _ hd ma.1]
    simp only [fndP, List.flatMap_nil, List.length_nil, List.append_nil, Nat.add_zero]
    rw [sumW_congr (g := fun z => if z = a then 0 else rowW ns z) _ (fun z _ => by by_cases e : z = a <;> simp [e])]
  · have ma := first_mem (ns := ns) (k := 6) (p := p) (z := a) (by rw [h6]; simp)
    have mb := first_mem (ns := ns) (k := 8) (p := p) (z := b) (by rw [h8]; simp)
    have hab : b ≠ a := fun e => by rw [e] at mb; omega
    rw [h6, h8, hw 6 a (.inl rfl) ma.2, hw 8 b (.inr rfl) mb.2, sumW_out (rowW ns) a _ hd ma.1, sumW_out (fun z => if z = a then 0 else rowW ns z) b _ hd mb.1, if_neg hab]
    rw [sumW_congr (f := fun z => if ([a] ++ [b]).contains z = true then 0 else rowW ns z) (g := fun z => if z = b then 0 else if z = a then 0 else rowW ns z) _ (fun z _ => by by_cases e1 : z = a <;> by_cases e2 : z = b <;> simp [e1, e2])]
    omega
end Go.Proofs.Ytcgnldcdcbnofaa

namespace Go.Proofs.Ytcgnldcdcbnofaa
open Go.RowKit Go.Shelf
set_option linter.unusedVariables false

theorem kindK_ge (ns : List Nd) (p : Nat) {n : Nd} (hn : ns[p]? = some n) : kfOf ns (p : Int) = n.ks := by unfold kfOf; rw [Int.toNat_natCast, hn]; rfl
/-- what lies at a place of a page, as a law reads it -/
structure PlaceAt (W : World) (b off p : Nat) (n : Nd) (q : Option Addr) (kl c : Nat) : Prop where
  kv : n.kv = .slice q kl c
  len : n.ks.length = kl
  ck : W.cell? ⟨b, off + p * 34 + 1, none⟩ = some (.slice q kl c)
  ints : Ints W (.slice q kl c) n.ks
  lt : b < W.heap.size
theorem place_at {W : World} {b off m cap : Nat} {ns : List Nd} (hP : PageAt W (.slice (some ⟨b, off, none⟩) m cap) ns) {p : Nat} {n : Nd} (hn : ns[p]? = some n) : ∃ q kl c, PlaceAt W b off p n q kl c := by
  have hl := (List.getElem?_eq_some_iff.1 hn).1
  have hm : ns.length = m := by obtain ⟨q', c', e⟩ := hP.form; injection e with _ e; exact e.symm
  obtain ⟨b', off', e, _, hc⟩ := page_cells hP (by omega)
  injection e with e; injection e with e1 e2
  subst e1 e2
  obtain ⟨_, h1, h2, h3⟩ := hc p n hn
  obtain ⟨q, c, hq⟩ := h2.form
  exact ⟨q, n.ks.length, c, hq, rfl, by rw [← hq]; exact h1, by rw [← hq]; exact h2, h3⟩
theorem kd_at {W : World} {b off m cap : Nat} {ns : List Nd} (hP : PageAt W (.slice (some ⟨b, off, none⟩) m cap) ns) (j : Nat) (hj : j < m) : W.cell? ⟨b, off + j * 34, none⟩ = some (.int .i64 (kdOf ns j)) := by
  obtain ⟨b', off', e, h, _⟩ := kd_cell hP j hj
  injection e with e; injection e with e1 e2
  subst e1 e2
  exact h
theorem some_page {W : World} {q : Option Addr} {m cap : Nat} {ns : List Nd} (hP : PageAt W (.slice q m cap) ns) (hm : 1 ≤ m) : ∃ b off, q = some ⟨b, off, none⟩ := by
  obtain ⟨b, off, e, _⟩ := page_cells hP hm
  exact ⟨b, off, e⟩
/-- a list's kids, read one by one -/
theorem LanesAt.at {W : World} {q : Option Addr} {l c : Nat} {E : List (Int × Int)} (h : LanesAt W (.slice q l c) E) (i : Nat) (x : Int × Int) (hx : E[i]? = some x) : ∃ b off, q = some ⟨b, off, none⟩ ∧ W.cell? ⟨b, off + i * 2, none⟩ = some (.int .i64 x.1) ∧ W.cell? ⟨b, off + i * 2 + 1, none⟩ = some (.int .i64 x.2) ∧ b < W.heap.size := by
  obtain ⟨_, ⟨a, c', e, rfl⟩ | ⟨b, off, c', e, hc⟩⟩ := h
  · simp at hx
  · injection e with e1 e2 e3
    obtain ⟨h1, h2⟩ := hc i x hx
    exact ⟨b, off, e1, h1, h2, cell_lt h1⟩
end Go.Proofs.Ytcgnldcdcbnofaa

namespace Go.Proofs.Ytcgnldcdcbnofaa
open Go.ChangeShapes Go.WideShapes Go.ChangeAt Go.RowKit Go.Joins Go.Shelf Go.Maps
set_option linter.unusedVariables false
set_option linter.unusedSimpArgs false
attribute [local go_sem] Oper.semAt_some

section
variable {H : Type} {enc : TypeId × Value → H} {w : World} {base : Nat} {spare : Nat → Bool} {held : Bool}
theorem open_lanes {a : Option Addr} {len cap fuel : Nat} {y : DataW H × List MemPlace} (h : DataW.trod enc Try.prog w base spare held fuel 66 [.slice a len cap] = some y) : ∃ E, LanesAt w (.slice a len cap) E ∧ E.length = len ∧ len ≤ cap ∧ cap ≤ maxLen := by
  rcases Go.Deep.open_slice_pairs Try.underlying66 Try.underlying70 (by kernel_rfl) rfl rfl (by kernel_rfl) (by kernel_rfl) h with ⟨hcs, _⟩ | ⟨x, l, c, m, n, V0, V1, D0, D1, P0, P1, hcs, _, hl, hm, hmm, _, hx⟩
  · simp at hcs
    obtain ⟨rfl, rfl, rfl⟩ := hcs
    exact ⟨[], ⟨by simp, .inl ⟨none, 0, rfl, rfl⟩⟩, rfl, by omega, by unfold maxLen; omega⟩
  · simp at hcs
    obtain ⟨rfl, rfl, rfl⟩ := hcs
    have hm' := hm
    unfold maxLen at hm
    have hlm : len ≤ m := by rw [hmm]; split <;> omega
    have each : ∀ i, i < len → ∃ q : Int × Int, w.cell? (x.add (i * 2)) = some (.int .i64 q.1) ∧ w.cell? (x.add (i * 2 + 1)) = some (.int .i64 q.2) := by
      intro i hi
      obtain ⟨c0, c1, h0, h1⟩ := hx i (by omega)
      obtain ⟨a0, e0, _, _⟩ := DataW.trod_int Try.underlying3 h0
      obtain ⟨a1, e1, _, _⟩ := DataW.trod_int Try.underlying3 h1
      simp at e0 e1
      exact ⟨(a0, a1), by rw [c0, e0], by rw [c1, e1]⟩
    obtain ⟨q, hq⟩ := Go.Deep.choose_lt each
    refine ⟨(List.range len).map q, ⟨by simp; omega, ?_⟩, by simp, hl, hm'⟩
    obtain ⟨g, off, sp⟩ := x
    by_cases h0 : len = 0
    · subst h0; exact .inl ⟨_, cap, rfl, rfl⟩
    · right
      have c0 := (hq 0 (by omega)).1
      have hs : sp = none := by simpa [Addr.add] using World.cell?_spot c0
      subst hs
      refine ⟨g, off, cap, by simp, fun i p hp => ?_⟩
      have hi : i < len := by have := (List.getElem?_eq_some_iff.1 hp).1; simpa using this
      have e : p = q i := by simp [hi] at hp; exact hp.symm
      subst e
      obtain ⟨c1, c2⟩ := hq i hi
      rw [add_plain] at c1 c2
      exact ⟨c1, by rw [Nat.add_assoc]; exact c2⟩
end
/-- where runs end, from a row on -/
def endsF : Nat → List Int → List Int
  | _, [] => []
  | k, [_] => [(k : Int) + 1]
  | k, g :: g' :: r => (if g' = g then ((endsF (k + 1) (g' :: r)).headD 0) else (k : Int) + 1) :: endsF (k + 1) (g' :: r)
theorem endsF_len : ∀ (k : Nat) (l : List Int), (endsF k l).length = l.length
  | _, [] => rfl
  | _, [_] => rfl
  | k, g :: g' :: r => by simp [endsF, endsF_len (k + 1) (g' :: r)]
theorem endsF_le : ∀ (k : Nat) (l : List Int), ∀ z ∈ endsF k l, 0 ≤ z ∧ z ≤ (k : Int) + l.length
  | _, [], z, h => by simp [endsF] at h
  | k, [_], z, h => by simp [endsF] at h; simp; omega
  | k, g :: g' :: r, z, h => by
    have ih := endsF_le (k + 1) (g' :: r)
    simp only [endsF, List.mem_cons] at h
    rcases h with h | h
    · by_cases e : g' = g
      · rw [if_pos e] at h
        have hl := endsF_len (k + 1) (g' :: r)
        cases hq : endsF (k + 1) (g' :: r) with
        | nil => rw [hq] at hl; simp at hl
        | cons y t =>
          have := ih y (by rw [hq]; simp)
          rw [hq] at h
          simp at h this ⊢
          omega
      · rw [if_neg e] at h
        simp; omega
    · have := ih z h
      simp at this ⊢
      omega
/-- the row of ends under way: t rows are still to come -/
def endsW (t : Nat) (E : List (Int × Int)) : List Int := List.replicate t 0 ++ endsF t ((E.map Prod.snd).drop t)
theorem endsW_len (t : Nat) (E : List (Int × Int)) (h : t ≤ E.length) : (endsW t E).length = E.length := by
  unfold endsW
  rw [List.length_append, endsF_len, List.length_replicate, List.length_drop, List.length_map]
  omega
theorem endsW_last (E : List (Int × Int)) : endsW E.length E = List.replicate E.length 0 := by
  unfold endsW
  rw [List.drop_of_length_le (by rw [List.length_map]; exact Nat.le_refl _)]
  simp [endsF]
theorem drop_snd (E : List (Int × Int)) (t : Nat) (x : Int × Int) (hx : E[t]? = some x) : (E.map Prod.snd).drop t = x.2 :: (E.map Prod.snd).drop (t + 1) := by
  have hl : t < (E.map Prod.snd).length := by rw [List.length_map]; exact (List.getElem?_eq_some_iff.1 hx).1
  rw [List.drop_eq_getElem_cons hl]
  congr 1
  have := (List.getElem?_eq_some_iff.1 hx).2
  simp [this]
theorem set_at (t : Nat) (l : List Int) (v : Int) : (List.replicate (t + 1) 0 ++ l).set t v = List.replicate t 0 ++ v :: l := by
  rw [List.replicate_succ', List.append_assoc, List.set_append_right _ _ (by simp), List.length_replicate, Nat.sub_self]
  rfl
/-- the last row of all -/
theorem endsW_one (E : List (Int × Int)) (t : Nat) (x : Int × Int) (hx : E[t]? = some x) (hn : E[t + 1]? = none) : (endsW (t + 1) E).set t ((t : Int) + 1) = endsW t E := by
  unfold endsW
  rw [drop_snd E t x hx, set_at]
  have : (E.map Prod.snd).drop (t + 1) = [] := List.drop_of_length_le (by rw [List.length_map]; exact List.getElem?_eq_none_iff.1 hn)
  rw [this]
  simp [endsF]
theorem endsW_else (E : List (Int × Int)) (t : Nat) (x y : Int × Int) (hx : E[t]? = some x) (hy : E[t + 1]? = some y) (hne : y.2 ≠ x.2) : (endsW (t + 1) E).set t ((t : Int) + 1) = endsW t E := by
  unfold endsW
  rw [drop_snd E t x hx, drop_snd E (t + 1) y hy, set_at]
  simp [endsF, hne]
theorem endsW_head (E : List (Int × Int)) (t : Nat) (y : Int × Int) (hy : E[t + 1]? = some y) : ∃ z, (endsW (t + 1) E)[t + 1]? = some z ∧ 0 ≤ z ∧ z ≤ (E.length : Int) ∧ z = (endsF (t + 1) ((E.map Prod.snd).drop (t + 1))).headD 0 := by
  have hl := (List.getElem?_eq_some_iff.1 hy).1
  unfold endsW
  rw [List.getElem?_append_right (by simp), List.length_replicate, Nat.sub_self]
  have h2 := endsF_len (t + 1) ((E.map Prod.snd).drop (t + 1))
  have h3 := endsF_le (t + 1) ((E.map Prod.snd).drop (t + 1))
  rw [List.length_drop, List.length_map] at h2 h3
  cases hq : endsF (t + 1) ((E.map Prod.snd).drop (t + 1)) with
  | nil => rw [hq] at h2; simp at h2; omega
  | cons z r =>
    have := h3 z (by rw [hq]; simp)
    exact ⟨z, rfl, this.1, by omega, rfl⟩
theorem endsW_same (E : List (Int × Int)) (t : Nat) (x y : Int × Int) (hx : E[t]? = some x) (hy : E[t + 1]? = some y) (he : y.2 = x.2) (z v : Int) (hz : z = (endsF (t + 1) ((E.map Prod.snd).drop (t + 1))).headD 0) : ((endsW (t + 1) E).set t v).set t z = endsW t E := by
  unfold endsW
  rw [set_at, drop_snd E t x hx, drop_snd E (t + 1) y hy, List.set_append_right _ _ (by simp), List.length_replicate, Nat.sub_self, hz, drop_snd E (t + 1) y hy]
  simp [endsF, he]

set_option maxRecDepth 100000 in
set_option maxHeartbeats 2000000 in
theorem ends_at (q : Option Addr) (m cap : Nat) (E : List (Int × Int)) (w : World) (hE : LanesAt w (.slice q m cap) E) (hm : E.length = m) (hm2 : m ≤ 100000) :
    Calls Try.prog 19 #[.slice q m cap] w fun e W' => e = .returned (.slice (some ⟨w.heap.size, 0, none⟩) m m) ∧ Whole W' w.heap.size 3 ((endsW 0 E).map (Value.int .i64)) ∧ Below w.heap.size w W' := by
  have HE := Lib.hid hE
  have HM := Lib.hid hm
  have hmk := make_ints m (by omega)
  clear hE hm
  go_enter Try.func19, Try.ntmps19
  go_wp2
  obtain ⟨W4, hW4⟩ : ∃ W4, w.alloc (.cells (Array.replicate m (.int .i64 0)) 3) = W4 := ⟨_, rfl⟩
  have k4 : Whole W4 w.heap.size 3 ((endsW m E).map (Value.int .i64)) := by
    rw [← hW4, ← HM.out, endsW_last, show Array.replicate E.length (Value.int .i64 0) = ((List.replicate E.length (0 : Int)).map (Value.int .i64)).toArray by simp]
    exact whole_new w _ 3 _ rfl
  have b4 : Below w.heap.size w W4 := by rw [← hW4]; exact (Below.refl _ w).alloc (Nat.le_refl _) _
  have HI : Hid (Whole W4 w.heap.size 3 ((endsW m E).map (Value.int .i64)) ∧ Below w.heap.size w W4) := Lib.hid ⟨k4, b4⟩
  rw [hW4]
  clear hW4 k4 b4 hmk
  go_loopw [4] (fun s4 X => ∃ t : Nat, t ≤ m ∧ s4 = .int .i64 ((t : Int) - 1) ∧ Hid (Whole X w.heap.size 3 ((endsW t E).map (Value.int .i64)) ∧ Below w.heap.size w X)) (fun s4 _ => (intOf s4 + 1).toNat)
  case atStart => exact ⟨m, Nat.le_refl _, congrArg (Value.int .i64) (by first | omega | (unfold wrap64; omega)), HI⟩
  case round =>
    obtain ⟨t, ht, rfl, HX⟩ := hrel
    obtain ⟨X1, X2⟩ := HX.out
    have lg := X1.lt
    cases t with
    | zero =>
      have HX1 := Lib.hid X1
      have HX2 := Lib.hid X2
      clear X1 X2
      go_wp2
      go_ret
      exact ⟨rfl, HX1.out, HX2.out⟩
    | succ t =>
      have et : ((t + 1 : Nat) : Int) - 1 = (t : Int) := by omega
      rw [et]
      clear et
      have dge : decide ((t : Int) ≥ 0) = true := by simp
      obtain ⟨x, hx⟩ : ∃ x, E[t]? = some x := ⟨_, List.getElem?_eq_getElem (by rw [HM.out]; omega)⟩
      obtain ⟨rb, ro, rfl, _, cx, lr⟩ := HE.out.at t x hx
      have cx2 := (X2.cell (p := ⟨rb, ro + t * 2 + 1, none⟩) lr).trans cx
      have lr2 : rb < wr.heap.size := by have := X2.size; omega
      have hwl : (endsW (t + 1) E).length = m := by rw [endsW_len _ _ (by rw [HM.out]; exact ht), HM.out]
      have hrg : rb ≠ w.heap.size := by omega
      have cg : ∃ v, wr.cell? ⟨w.heap.size, t, none⟩ = some v := by
        rw [X1.cellAt, List.getElem?_map]
        exact ⟨_, by rw [List.getElem?_eq_getElem (by rw [hwl]; omega)]; rfl⟩
      obtain ⟨v0, cg⟩ := cg
      have fg := X1.free t
      by_cases hlast : t + 1 < m
      · obtain ⟨y, hy⟩ : ∃ y, E[t + 1]? = some y := ⟨_, List.getElem?_eq_getElem (by rw [HM.out]; omega)⟩
        obtain ⟨rb', ro', e, _, cy, _⟩ := HE.out.at (t + 1) y hy
        injection e with e; injection e with e1 e2
        subst e1 e2
        have cy2 := (X2.cell (p := ⟨rb, ro + (t + 1) * 2 + 1, none⟩) lr).trans cy
        obtain ⟨z, hz, hz0, hz1, hzh⟩ := endsW_head E t y hy
        rw [HM.out] at hz1
        have S1 : Hid (Whole (wr.setCell ⟨w.heap.size, t, none⟩ (.int .i64 ((t : Int) + 1))) w.heap.size 3 (((endsW (t + 1) E).set t ((t : Int) + 1)).map (Value.int .i64)) ∧ Below w.heap.size w (wr.setCell ⟨w.heap.size, t, none⟩ (.int .i64 ((t : Int) + 1)))) := Lib.hid ⟨by
          have := X1.set t (.int .i64 ((t : Int) + 1))
          rw [List.map_set]; exact this, X2.setCell (p := ⟨w.heap.size, t, none⟩) (Nat.le_refl _) _⟩
        have dl1 : decide ((t : Int) + 1 < (m : Int)) = true := by simp; omega
        by_cases hq : y.2 = x.2
        · have S2 := S1
          have czz : (wr.setCell ⟨w.heap.size, t, none⟩ (.int .i64 ((t : Int) + 1))).cell? ⟨w.heap.size, t + 1, none⟩ = some (.int .i64 z) := by
            rw [S1.out.1.cellAt, List.getElem?_map, List.getElem?_set_ne (by omega), hz]; rfl
          have cww : (wr.setCell ⟨w.heap.size, t, none⟩ (.int .i64 ((t : Int) + 1))).cell? ⟨w.heap.size, t, none⟩ = some (.int .i64 ((t : Int) + 1)) := by
            rw [S1.out.1.cellAt, List.getElem?_map, List.getElem?_set_self (by rw [hwl]; omega)]; rfl
          have S3 : ∀ nq, Hid (Whole (((wr.setCell ⟨w.heap.size, t, none⟩ (.int .i64 ((t : Int) + 1))).drewN nq).setCell ⟨w.heap.size, t, none⟩ (.int .i64 z)) w.heap.size 3 ((endsW t E).map (Value.int .i64)) ∧ Below w.heap.size w (((wr.setCell ⟨w.heap.size, t, none⟩ (.int .i64 ((t : Int) + 1))).drewN nq).setCell ⟨w.heap.size, t, none⟩ (.int .i64 z))) := fun nq => by
            have bn := below_dn (w.heap.size + 1) (wr.setCell ⟨w.heap.size, t, none⟩ (.int .i64 ((t : Int) + 1))) nq
            refine Lib.hid ⟨?_, (S1.out.2.trans (bn.mono (by omega))).setCell (p := ⟨w.heap.size, t, none⟩) (Nat.le_refl _) _⟩
            have h1 := (S1.out.1.below bn (by omega)).set t (.int .i64 z)
            rw [← List.map_set, endsW_same E t x y hx hy hq z _ hzh] at h1
            exact h1
          have dq : (y.2 == x.2) = true := by simpa using hq
          obtain ⟨y1, y2⟩ := y
          obtain ⟨x1, x2⟩ := x
          dsimp only at dq cx2 cy2
          clear X1 X2 HX HI hx hy cx cy hz hzh hq
          go_wp2
          go_quiet (fail)
          go_wp2

          go_roundw
          case rel => exact ⟨t, by omega, by go_num, S3 _⟩
          case measure => (simp [intOf]; try omega)
        · have S2 : Hid (Whole (wr.setCell ⟨w.heap.size, t, none⟩ (.int .i64 ((t : Int) + 1))) w.heap.size 3 ((endsW t E).map (Value.int .i64)) ∧ Below w.heap.size w (wr.setCell ⟨w.heap.size, t, none⟩ (.int .i64 ((t : Int) + 1)))) := by
            have := S1.out; rw [endsW_else E t x y hx hy hq] at this; exact Lib.hid this
          have S3 : ∀ nq, Hid (Whole ((wr.setCell ⟨w.heap.size, t, none⟩ (.int .i64 ((t : Int) + 1))).drewN nq) w.heap.size 3 ((endsW t E).map (Value.int .i64)) ∧ Below w.heap.size w ((wr.setCell ⟨w.heap.size, t, none⟩ (.int .i64 ((t : Int) + 1))).drewN nq)) := fun nq => by
            have bn := below_dn (w.heap.size + 1) (wr.setCell ⟨w.heap.size, t, none⟩ (.int .i64 ((t : Int) + 1))) nq
            exact Lib.hid ⟨S2.out.1.below bn (by omega), S2.out.2.trans (bn.mono (by omega))⟩
          have dq : (y.2 == x.2) = false := by simpa using hq
          have S0 := S1
          obtain ⟨y1, y2⟩ := y
          obtain ⟨x1, x2⟩ := x
          dsimp only at dq cx2 cy2
          clear X1 X2 HX HI hx hy cx cy hz hzh hq S1
          go_wp2
          go_quiet (fail)
          go_wp2
          go_roundw
          case rel => exact ⟨t, by omega, by go_num, S3 _⟩
          case measure => (simp [intOf]; try omega)
      · have S2 : Hid (Whole (wr.setCell ⟨w.heap.size, t, none⟩ (.int .i64 ((t : Int) + 1))) w.heap.size 3 ((endsW t E).map (Value.int .i64)) ∧ Below w.heap.size w (wr.setCell ⟨w.heap.size, t, none⟩ (.int .i64 ((t : Int) + 1)))) := Lib.hid ⟨by
          have h1 := X1.set t (.int .i64 ((t : Int) + 1))
          rw [← List.map_set, endsW_one E t x hx (List.getElem?_eq_none_iff.2 (by rw [HM.out]; omega))] at h1
          exact h1, X2.setCell (p := ⟨w.heap.size, t, none⟩) (Nat.le_refl _) _⟩
        have S3 : ∀ nq, Hid (Whole ((wr.setCell ⟨w.heap.size, t, none⟩ (.int .i64 ((t : Int) + 1))).drewN nq) w.heap.size 3 ((endsW t E).map (Value.int .i64)) ∧ Below w.heap.size w ((wr.setCell ⟨w.heap.size, t, none⟩ (.int .i64 ((t : Int) + 1))).drewN nq)) := fun nq => by
          have bn := below_dn (w.heap.size + 1) (wr.setCell ⟨w.heap.size, t, none⟩ (.int .i64 ((t : Int) + 1))) nq
          exact Lib.hid ⟨S2.out.1.below bn (by omega), S2.out.2.trans (bn.mono (by omega))⟩
        have dl1 : decide ((t : Int) + 1 < (m : Int)) = false := by simp; omega
        clear X1 X2 HX HI hx cx
        go_wp2
        go_quiet (fail)
        go_wp2
        go_roundw
        case rel => exact ⟨t, by omega, by go_num, S3 _⟩
        case measure => (simp [intOf]; try omega)

set_option maxRecDepth 100000 in
set_option maxHeartbeats 2000000 in
theorem refEnds_at (q : Option Addr) (m cap : Nat) (E : List (Int × Int)) (w : World) (hE : LanesAt w (.slice q m cap) E) (hm : E.length = m) (hm2 : m ≤ 100000) :
    Calls Try.prog 22 #[.slice q m cap] w fun e W' => e = .returned (.slice (some ⟨w.heap.size, 0, none⟩) m m) ∧ Whole W' w.heap.size 3 ((endsW 0 E).map (Value.int .i64)) ∧ Below w.heap.size w W' := by
  have HE := Lib.hid hE
  have HM := Lib.hid hm
  have hmk := make_ints m (by omega)
  clear hE hm
  go_enter Try.func22, Try.ntmps22
  go_wp2
  obtain ⟨W4, hW4⟩ : ∃ W4, w.alloc (.cells (Array.replicate m (.int .i64 0)) 3) = W4 := ⟨_, rfl⟩
  have k4 : Whole W4 w.heap.size 3 ((endsW m E).map (Value.int .i64)) := by
    rw [← hW4, ← HM.out, endsW_last, show Array.replicate E.length (Value.int .i64 0) = ((List.replicate E.length (0 : Int)).map (Value.int .i64)).toArray by simp]
    exact whole_new w _ 3 _ rfl
  have b4 : Below w.heap.size w W4 := by rw [← hW4]; exact (Below.refl _ w).alloc (Nat.le_refl _) _
  have HI : Hid (Whole W4 w.heap.size 3 ((endsW m E).map (Value.int .i64)) ∧ Below w.heap.size w W4) := Lib.hid ⟨k4, b4⟩
  rw [hW4]
  clear hW4 k4 b4 hmk
  go_loopw [4] (fun s4 X => ∃ t : Nat, t ≤ m ∧ s4 = .int .i64 ((t : Int) - 1) ∧ Hid (Whole X w.heap.size 3 ((endsW t E).map (Value.int .i64)) ∧ Below w.heap.size w X)) (fun s4 _ => (intOf s4 + 1).toNat)
  case atStart => exact ⟨m, Nat.le_refl _, congrArg (Value.int .i64) (by first | omega | (unfold wrap64; omega)), HI⟩
  case round =>
    obtain ⟨t, ht, rfl, HX⟩ := hrel
    obtain ⟨X1, X2⟩ := HX.out
    have lg := X1.lt
    cases t with
    | zero =>
      have HX1 := Lib.hid X1
      have HX2 := Lib.hid X2
      clear X1 X2
      go_wp2
      go_ret
      exact ⟨rfl, HX1.out, HX2.out⟩
    | succ t =>
      have et : ((t + 1 : Nat) : Int) - 1 = (t : Int) := by omega
      rw [et]
      clear et
      have dge : decide ((t : Int) ≥ 0) = true := by simp
      obtain ⟨x, hx⟩ : ∃ x, E[t]? = some x := ⟨_, List.getElem?_eq_getElem (by rw [HM.out]; omega)⟩
      obtain ⟨rb, ro, rfl, _, cx, lr⟩ := HE.out.at t x hx
      have cx2 := (X2.cell (p := ⟨rb, ro + t * 2 + 1, none⟩) lr).trans cx
      have lr2 : rb < wr.heap.size := by have := X2.size; omega
      have hwl : (endsW (t + 1) E).length = m := by rw [endsW_len _ _ (by rw [HM.out]; exact ht), HM.out]
      have hrg : rb ≠ w.heap.size := by omega
      have cg : ∃ v, wr.cell? ⟨w.heap.size, t, none⟩ = some v := by
        rw [X1.cellAt, List.getElem?_map]
        exact ⟨_, by rw [List.getElem?_eq_getElem (by rw [hwl]; omega)]; rfl⟩
      obtain ⟨v0, cg⟩ := cg
      have fg := X1.free t
      by_cases hlast : t + 1 < m
      · obtain ⟨y, hy⟩ : ∃ y, E[t + 1]? = some y := ⟨_, List.getElem?_eq_getElem (by rw [HM.out]; omega)⟩
        obtain ⟨rb', ro', e, _, cy, _⟩ := HE.out.at (t + 1) y hy
        injection e with e; injection e with e1 e2
        subst e1 e2
        have cy2 := (X2.cell (p := ⟨rb, ro + (t + 1) * 2 + 1, none⟩) lr).trans cy
        obtain ⟨z, hz, hz0, hz1, hzh⟩ := endsW_head E t y hy
        rw [HM.out] at hz1
        have S1 : Hid (Whole (wr.setCell ⟨w.heap.size, t, none⟩ (.int .i64 ((t : Int) + 1))) w.heap.size 3 (((endsW (t + 1) E).set t ((t : Int) + 1)).map (Value.int .i64)) ∧ Below w.heap.size w (wr.setCell ⟨w.heap.size, t, none⟩ (.int .i64 ((t : Int) + 1)))) := Lib.hid ⟨by
          have := X1.set t (.int .i64 ((t : Int) + 1))
          rw [List.map_set]; exact this, X2.setCell (p := ⟨w.heap.size, t, none⟩) (Nat.le_refl _) _⟩
        have dl1 : decide ((t : Int) + 1 < (m : Int)) = true := by simp; omega
        by_cases hq : y.2 = x.2
        · have S2 := S1
          have czz : (wr.setCell ⟨w.heap.size, t, none⟩ (.int .i64 ((t : Int) + 1))).cell? ⟨w.heap.size, t + 1, none⟩ = some (.int .i64 z) := by
            rw [S1.out.1.cellAt, List.getElem?_map, List.getElem?_set_ne (by omega), hz]; rfl
          have cww : (wr.setCell ⟨w.heap.size, t, none⟩ (.int .i64 ((t : Int) + 1))).cell? ⟨w.heap.size, t, none⟩ = some (.int .i64 ((t : Int) + 1)) := by
            rw [S1.out.1.cellAt, List.getElem?_map, List.getElem?_set_self (by rw [hwl]; omega)]; rfl
          have S3 : ∀ nq, Hid (Whole (((wr.setCell ⟨w.heap.size, t, none⟩ (.int .i64 ((t : Int) + 1))).drewN nq).setCell ⟨w.heap.size, t, none⟩ (.int .i64 z)) w.heap.size 3 ((endsW t E).map (Value.int .i64)) ∧ Below w.heap.size w (((wr.setCell ⟨w.heap.size, t, none⟩ (.int .i64 ((t : Int) + 1))).drewN nq).setCell ⟨w.heap.size, t, none⟩ (.int .i64 z))) := fun nq => by
            have bn := below_dn (w.heap.size + 1) (wr.setCell ⟨w.heap.size, t, none⟩ (.int .i64 ((t : Int) + 1))) nq
            refine Lib.hid ⟨?_, (S1.out.2.trans (bn.mono (by omega))).setCell (p := ⟨w.heap.size, t, none⟩) (Nat.le_refl _) _⟩
            have h1 := (S1.out.1.below bn (by omega)).set t (.int .i64 z)
            rw [← List.map_set, endsW_same E t x y hx hy hq z _ hzh] at h1
            exact h1
          have dq : (y.2 == x.2) = true := by simpa using hq
          obtain ⟨y1, y2⟩ := y
          obtain ⟨x1, x2⟩ := x
          dsimp only at dq cx2 cy2
          clear X1 X2 HX HI hx hy cx cy hz hzh hq
          go_wp2
          go_quiet (fail)
          go_wp2

          go_roundw
          case rel => exact ⟨t, by omega, by go_num, S3 _⟩
          case measure => (simp [intOf]; try omega)
        · have S2 : Hid (Whole (wr.setCell ⟨w.heap.size, t, none⟩ (.int .i64 ((t : Int) + 1))) w.heap.size 3 ((endsW t E).map (Value.int .i64)) ∧ Below w.heap.size w (wr.setCell ⟨w.heap.size, t, none⟩ (.int .i64 ((t : Int) + 1)))) := by
            have := S1.out; rw [endsW_else E t x y hx hy hq] at this; exact Lib.hid this
          have S3 : ∀ nq, Hid (Whole ((wr.setCell ⟨w.heap.size, t, none⟩ (.int .i64 ((t : Int) + 1))).drewN nq) w.heap.size 3 ((endsW t E).map (Value.int .i64)) ∧ Below w.heap.size w ((wr.setCell ⟨w.heap.size, t, none⟩ (.int .i64 ((t : Int) + 1))).drewN nq)) := fun nq => by
            have bn := below_dn (w.heap.size + 1) (wr.setCell ⟨w.heap.size, t, none⟩ (.int .i64 ((t : Int) + 1))) nq
            exact Lib.hid ⟨S2.out.1.below bn (by omega), S2.out.2.trans (bn.mono (by omega))⟩
          have dq : (y.2 == x.2) = false := by simpa using hq
          have S0 := S1
          obtain ⟨y1, y2⟩ := y
          obtain ⟨x1, x2⟩ := x
          dsimp only at dq cx2 cy2
          clear X1 X2 HX HI hx hy cx cy hz hzh hq S1
          go_wp2
          go_quiet (fail)
          go_wp2
          go_roundw
          case rel => exact ⟨t, by omega, by go_num, S3 _⟩
          case measure => (simp [intOf]; try omega)
      · have S2 : Hid (Whole (wr.setCell ⟨w.heap.size, t, none⟩ (.int .i64 ((t : Int) + 1))) w.heap.size 3 ((endsW t E).map (Value.int .i64)) ∧ Below w.heap.size w (wr.setCell ⟨w.heap.size, t, none⟩ (.int .i64 ((t : Int) + 1)))) := Lib.hid ⟨by
          have h1 := X1.set t (.int .i64 ((t : Int) + 1))
          rw [← List.map_set, endsW_one E t x hx (List.getElem?_eq_none_iff.2 (by rw [HM.out]; omega))] at h1
          exact h1, X2.setCell (p := ⟨w.heap.size, t, none⟩) (Nat.le_refl _) _⟩
        have S3 : ∀ nq, Hid (Whole ((wr.setCell ⟨w.heap.size, t, none⟩ (.int .i64 ((t : Int) + 1))).drewN nq) w.heap.size 3 ((endsW t E).map (Value.int .i64)) ∧ Below w.heap.size w ((wr.setCell ⟨w.heap.size, t, none⟩ (.int .i64 ((t : Int) + 1))).drewN nq)) := fun nq => by
          have bn := below_dn (w.heap.size + 1) (wr.setCell ⟨w.heap.size, t, none⟩ (.int .i64 ((t : Int) + 1))) nq
          exact Lib.hid ⟨S2.out.1.below bn (by omega), S2.out.2.trans (bn.mono (by omega))⟩
        have dl1 : decide ((t : Int) + 1 < (m : Int)) = false := by simp; omega
        clear X1 X2 HX HI hx cx
        go_wp2
        go_quiet (fail)
        go_wp2
        go_roundw
        case rel => exact ⟨t, by omega, by go_num, S3 _⟩
        case measure => (simp [intOf]; try omega)
end Go.Proofs.Ytcgnldcdcbnofaa

namespace Go.Proofs.Ytcgnldcdcbnofaa
set_option linter.unusedVariables false

/-- is a column free in a row? -/
def freeB (t : List Nat) (row c : Nat) : Bool := match t[c]? with
  | none => true
  | some z => decide (z ≤ row)
theorem freeB_out {t : List Nat} {row c : Nat} (h : t.length ≤ c) : freeB t row c = true := by
  unfold freeB; rw [List.getElem?_eq_none h]
theorem freeB_lt {t : List Nat} {row c : Nat} (h : freeB t row c = false) : c < t.length := by
  cases Nat.lt_or_ge c t.length with
  | inl h' => exact h'
  | inr h' => rw [freeB_out h'] at h; cases h
theorem freeB_at {t : List Nat} {row c z : Nat} (h : t[c]? = some z) : freeB t row c = decide (z ≤ row) := by unfold freeB; rw [h]
def skipN (t : List Nat) (row : Nat) : Nat → Nat → Nat
  | 0, c => c
  | f + 1, c => if freeB t row c = true then c else skipN t row f (c + 1)
/-- the first free column, from one on -/
def firstF (t : List Nat) (row c : Nat) : Nat := skipN t row (t.length - c) c
def wideN (t : List Nat) (row c : Nat) : Nat → Nat → Nat
  | 0, k => k
  | r + 1, k => if freeB t row (c + k) = true then wideN t row c r (k + 1) else k
/-- how many columns are free there -/
def wideF (t : List Nat) (row c most : Nat) : Nat := wideN t row c most 0
theorem skipN_spec (t : List Nat) (row : Nat) : ∀ f c, t.length ≤ c + f → c ≤ skipN t row f c ∧ (∀ j, c ≤ j → j < skipN t row f c → freeB t row j = false) ∧ freeB t row (skipN t row f c) = true
  | 0, c, h => ⟨Nat.le_refl _, fun j h1 h2 => by simp only [skipN] at h2; omega, freeB_out (by simpa [skipN] using h)⟩
  | f + 1, c, h => by
    unfold skipN
    by_cases hf : freeB t row c = true
    · rw [if_pos hf]
      exact ⟨Nat.le_refl _, fun j h1 h2 => by omega, hf⟩
    · rw [if_neg hf]
      obtain ⟨h1, h2, h3⟩ := skipN_spec t row f (c + 1) (by omega)
      refine ⟨by omega, fun j hj hl => ?_, h3⟩
      by_cases e : j = c
      · subst e; simpa using hf
      · exact h2 j (by omega) hl
theorem firstF_spec (t : List Nat) (row c : Nat) : c ≤ firstF t row c ∧ (∀ j, c ≤ j → j < firstF t row c → freeB t row j = false) ∧ freeB t row (firstF t row c) = true :=
  skipN_spec t row _ c (by omega)
theorem firstF_eq {t : List Nat} {row c d : Nat} (h1 : c ≤ d) (h2 : ∀ j, c ≤ j → j < d → freeB t row j = false) (h3 : freeB t row d = true) : firstF t row c = d := by
  obtain ⟨g1, g2, g3⟩ := firstF_spec t row c
  rcases Nat.lt_trichotomy (firstF t row c) d with h | h | h
  · rw [h2 _ g1 h] at g3; cases g3
  · exact h
  · rw [g2 _ h1 h] at h3; cases h3
theorem firstF_step {t : List Nat} {row c : Nat} (h : freeB t row c = false) : firstF t row c = firstF t row (c + 1) := by
  obtain ⟨g1, g2, g3⟩ := firstF_spec t row (c + 1)
  refine firstF_eq (by omega) (fun j h1 h2 => ?_) g3
  by_cases e : j = c
  · subst e; exact h
  · exact g2 j (by omega) h2
theorem firstF_le (t : List Nat) (row c : Nat) (h : c ≤ t.length) : firstF t row c ≤ t.length := by
  obtain ⟨g1, g2, g3⟩ := firstF_spec t row c
  rcases Nat.lt_or_ge t.length (firstF t row c) with h' | h'
  · have := g2 _ h h'; rw [freeB_out (Nat.le_refl _)] at this; cases this
  · exact h'
theorem wideN_spec (t : List Nat) (row c : Nat) : ∀ r k, (∀ j, j < k → freeB t row (c + j) = true) →
    k ≤ wideN t row c r k ∧ wideN t row c r k ≤ k + r ∧ (∀ j, j < wideN t row c r k → freeB t row (c + j) = true) ∧ (wideN t row c r k = k + r ∨ freeB t row (c + wideN t row c r k) = false)
  | 0, k, h => ⟨Nat.le_refl _, Nat.le_refl _, h, .inl rfl⟩
  | r + 1, k, h => by
    unfold wideN
    by_cases hf : freeB t row (c + k) = true
    · rw [if_pos hf]
      obtain ⟨h1, h2, h3, h4⟩ := wideN_spec t row c r (k + 1) (fun j hj => by
        by_cases e : j = k
        · subst e; exact hf
        · exact h j (by omega))
      exact ⟨by omega, by omega, h3, by rcases h4 with h4 | h4; exact .inl (by omega); exact .inr h4⟩
    · rw [if_neg hf]
      exact ⟨Nat.le_refl _, by omega, h, .inr (by simpa using hf)⟩
theorem wideF_spec (t : List Nat) (row c most : Nat) : wideF t row c most ≤ most ∧ (∀ j, j < wideF t row c most → freeB t row (c + j) = true) ∧ (wideF t row c most = most ∨ freeB t row (c + wideF t row c most) = false) := by
  obtain ⟨_, h2, h3, h4⟩ := wideN_spec t row c most 0 (fun j h => by omega)
  unfold wideF
  exact ⟨by omega, h3, by rcases h4 with h4 | h4; exact .inl (by omega); exact .inr h4⟩
theorem wideF_eq {t : List Nat} {row c most d : Nat} (h1 : d ≤ most) (h2 : ∀ j, j < d → freeB t row (c + j) = true) (h3 : d = most ∨ freeB t row (c + d) = false) : wideF t row c most = d := by
  obtain ⟨g1, g2, g3⟩ := wideF_spec t row c most
  rcases Nat.lt_trichotomy (wideF t row c most) d with h | h | h
  · rcases g3 with g3 | g3
    · omega
    · rw [h2 _ h] at g3; cases g3
  · exact h
  · rcases h3 with h3 | h3
    · omega
    · rw [g2 _ h] at h3; cases h3
theorem wideF_pos {t : List Nat} {row c most : Nat} (h : 1 ≤ most) (hf : freeB t row c = true) : 1 ≤ wideF t row c most := by
  obtain ⟨g1, g2, g3⟩ := wideF_spec t row c most
  rcases Nat.lt_or_ge (wideF t row c most) 1 with h' | h'
  · have e : wideF t row c most = 0 := by omega
    rw [e] at g3
    rcases g3 with g3 | g3
    · omega
    · rw [Nat.add_zero, hf] at g3; cases g3
  · exact h'
/-- k columns from c on are taken up to row e -/
def takeN (t : List Nat) (c e : Nat) : Nat → List Nat
  | 0 => t
  | k + 1 => (if c + k = (takeN t c e k).length then takeN t c e k ++ [0] else takeN t c e k).set (c + k) e
theorem takeN_len (t : List Nat) (c e : Nat) (h : c ≤ t.length) : ∀ k, (takeN t c e k).length = max t.length (c + k)
  | 0 => by simp only [takeN]; omega
  | k + 1 => by
    have ih := takeN_len t c e h k
    unfold takeN
    split
    · simp only [List.length_set, List.length_append, List.length_cons, List.length_nil]; omega
    · simp only [List.length_set]; omega
theorem takeN_get (t : List Nat) (c e : Nat) (h : c ≤ t.length) : ∀ k j, (takeN t c e k)[j]? = if c ≤ j ∧ j < c + k then some e else t[j]?
  | 0, j => by rw [if_neg (by omega)]; rfl
  | k + 1, j => by
    have ih := takeN_get t c e h k j
    have hl := takeN_len t c e h k
    unfold takeN
    by_cases ej : j = c + k
    · subst ej
      have e1 : (if c ≤ c + k ∧ c + k < c + (k + 1) then some e else t[c + k]?) = some e := if_pos ⟨by omega, by omega⟩
      rw [e1, List.getElem?_set_self]
      split
      · simp only [List.length_append, List.length_cons, List.length_nil]; omega
      · omega
    · rw [List.getElem?_set_ne (fun e => ej e.symm)]
      have hi : (if c + k = (takeN t c e k).length then takeN t c e k ++ [0] else takeN t c e k)[j]? = (takeN t c e k)[j]? := by
        split
        · rename_i hq
          rcases Nat.lt_or_ge j (takeN t c e k).length with h' | h'
          · rw [List.getElem?_append_left h']
          · rw [List.getElem?_eq_none h', List.getElem?_eq_none (by simp; omega)]
        · rfl
      rw [hi, ih]
      by_cases h1 : c ≤ j ∧ j < c + k
      · rw [if_pos h1, if_pos (by omega)]
      · rw [if_neg h1, if_neg (by omega)]
end Go.Proofs.Ytcgnldcdcbnofaa

namespace Go.Proofs.Ytcgnldcdcbnofaa
open Go.RowKit Go.Shelf
set_option linter.unusedVariables false
attribute [local go_sem] Oper.semAt_some

/-- a cell: its node, how many columns and rows it wants -/
structure Sp where
  n : Int
  c : Int
  r : Int
def Sp.cells (x : Sp) : List Value := [.int .i64 x.n, .int .i64 x.c, .int .i64 x.r]
/-- a row of cells lies below B -/
def RowIn (B : Nat) (X : World) (v : Value) (xs : List Sp) : Prop :=
  xs.length ≤ 9223372036854775807 ∧ ((∃ a c, v = .slice a 0 c ∧ xs = []) ∨ ∃ b off c, v = .slice (some ⟨b, off, none⟩) xs.length c ∧ b < B ∧
    ∀ j x, xs[j]? = some x → X.cell? ⟨b, off + j * 3, none⟩ = some (.int .i64 x.n) ∧ X.cell? ⟨b, off + j * 3 + 1, none⟩ = some (.int .i64 x.c) ∧ X.cell? ⟨b, off + j * 3 + 2, none⟩ = some (.int .i64 x.r))
/-- rows of cells lie below B -/
def RowsIn (B : Nat) (X : World) (v : Value) (hv : Nat → Value) (rows : List (List Sp)) : Prop :=
  rows.length ≤ 9223372036854775807 ∧ ((∃ a c, v = .slice a 0 c ∧ rows = []) ∨ ∃ b off c, v = .slice (some ⟨b, off, none⟩) rows.length c ∧ b < B ∧
    ∀ i row, rows[i]? = some row → X.cell? ⟨b, off + i, none⟩ = some (hv i) ∧ RowIn B X (hv i) row)
theorem RowIn.keep {B : Nat} {X Y : World} {v : Value} {xs : List Sp} (h : RowIn B X v xs) (hb : ∀ k, k < B → Y.heap[k]? = X.heap[k]?) : RowIn B Y v xs := by
  refine ⟨h.1, h.2.imp id ?_⟩
  rintro ⟨b, off, c, e, hB, hc⟩
  refine ⟨b, off, c, e, hB, fun j x hx => ?_⟩
  obtain ⟨h1, h2, h3⟩ := hc j x hx
  have hq : ∀ o, Y.cell? ⟨b, o, none⟩ = X.cell? ⟨b, o, none⟩ := fun o => by simp only [World.cell?]; rw [hb b hB]
  rw [hq, hq, hq]
  exact ⟨h1, h2, h3⟩
theorem RowsIn.keep {B : Nat} {X Y : World} {v : Value} {hv : Nat → Value} {rows : List (List Sp)} (h : RowsIn B X v hv rows) (hb : ∀ k, k < B → Y.heap[k]? = X.heap[k]?) : RowsIn B Y v hv rows := by
  refine ⟨h.1, h.2.imp id ?_⟩
  rintro ⟨b, off, c, e, hB, hc⟩
  refine ⟨b, off, c, e, hB, fun i row hr => ?_⟩
  obtain ⟨h1, h2⟩ := hc i row hr
  exact ⟨by simp only [World.cell?] at h1 ⊢; rw [hb b hB]; exact h1, h2.keep hb⟩
theorem RowsIn.below {B : Nat} {X Y : World} {v : Value} {hv : Nat → Value} {rows : List (List Sp)} (h : RowsIn B X v hv rows) (hb : Below B X Y) : RowsIn B Y v hv rows := h.keep fun k hk => hb.block k hk
theorem RowIn.below {B : Nat} {X Y : World} {v : Value} {rows : List Sp} (h : RowIn B X v rows) (hb : Below B X Y) : RowIn B Y v rows := h.keep fun k hk => hb.block k hk
theorem RowsIn.mono {B C : Nat} {X : World} {v : Value} {hv : Nat → Value} {rows : List (List Sp)} (h : RowsIn B X v hv rows) (hb : B ≤ C) : RowsIn C X v hv rows := by
  refine ⟨h.1, h.2.imp id ?_⟩
  rintro ⟨b, off, c, e, hB, hc⟩
  refine ⟨b, off, c, e, by omega, fun i row hr => ?_⟩
  obtain ⟨h1, h2⟩ := hc i row hr
  refine ⟨h1, h2.1, h2.2.imp id ?_⟩
  rintro ⟨b', off', c', e', hB', hc'⟩
  exact ⟨b', off', c', e', by omega, hc'⟩
theorem RowsIn.form {B : Nat} {X : World} {v : Value} {hv : Nat → Value} {rows : List (List Sp)} (h : RowsIn B X v hv rows) : ∃ p c, v = .slice p rows.length c := by
  rcases h.2 with ⟨a, c, rfl, rfl⟩ | ⟨b, off, c, rfl, _⟩
  · exact ⟨_, _, rfl⟩
  · exact ⟨_, _, rfl⟩
theorem RowIn.form {B : Nat} {X : World} {v : Value} {rows : List Sp} (h : RowIn B X v rows) : ∃ p c, v = .slice p rows.length c := by
  rcases h.2 with ⟨a, c, rfl, rfl⟩ | ⟨b, off, c, rfl, _⟩
  · exact ⟨_, _, rfl⟩
  · exact ⟨_, _, rfl⟩
theorem RowsIn.at {B : Nat} {X : World} {p : Option Addr} {l c : Nat} {hv : Nat → Value} {rows : List (List Sp)} (h : RowsIn B X (.slice p l c) hv rows) (i : Nat) (row : List Sp) (hr : rows[i]? = some row) :
    ∃ b off, p = some ⟨b, off, none⟩ ∧ b < B ∧ X.cell? ⟨b, off + i, none⟩ = some (hv i) ∧ RowIn B X (hv i) row := by
  rcases h.2 with ⟨a, c', _, rfl⟩ | ⟨b, off, c', e, hB, hc⟩
  · simp at hr
  · injection e with e1 e2 e3
    exact ⟨b, off, e1, hB, hc i row hr⟩
theorem RowIn.at {B : Nat} {X : World} {p : Option Addr} {l c : Nat} {xs : List Sp} (h : RowIn B X (.slice p l c) xs) (j : Nat) (x : Sp) (hx : xs[j]? = some x) :
    ∃ b off, p = some ⟨b, off, none⟩ ∧ b < B ∧ X.cell? ⟨b, off + j * 3, none⟩ = some (.int .i64 x.n) ∧ X.cell? ⟨b, off + j * 3 + 1, none⟩ = some (.int .i64 x.c) ∧ X.cell? ⟨b, off + j * 3 + 2, none⟩ = some (.int .i64 x.r) := by
  rcases h.2 with ⟨a, c', _, rfl⟩ | ⟨b, off, c', e, hB, hc⟩
  · simp at hx
  · injection e with e1 e2 e3
    obtain ⟨h1, h2, h3⟩ := hc j x hx
    exact ⟨b, off, e1, hB, h1, h2, h3⟩
/-- all cells, each with its row, from row k on -/
def cellsF : Nat → List (List Sp) → List (Nat × Sp)
  | _, [] => []
  | k, row :: r => row.map (fun x => (k, x)) ++ cellsF (k + 1) r
theorem cellsF_drop (rows : List (List Sp)) (t : Nat) (row : List Sp) (h : rows[t]? = some row) : cellsF t (rows.drop t) = row.map (fun x => (t, x)) ++ cellsF (t + 1) (rows.drop (t + 1)) := by
  obtain ⟨hl, he⟩ := List.getElem?_eq_some_iff.1 h
  rw [List.drop_eq_getElem_cons hl, he]
  rfl
theorem cellsF_end (rows : List (List Sp)) (t : Nat) (h : rows.length ≤ t) : cellsF t (rows.drop t) = [] := by
  rw [List.drop_of_length_le h]; rfl
theorem map_drop (row : List Sp) (t j : Nat) (x : Sp) (h : row[j]? = some x) : (row.drop j).map (fun x => (t, x)) = (t, x) :: (row.drop (j + 1)).map (fun x => (t, x)) := by
  obtain ⟨hl, he⟩ := List.getElem?_eq_some_iff.1 h
  rw [List.drop_eq_getElem_cons hl, he]
  rfl
/-- the next cell -/
def nxtC (rows : List (List Sp)) (pre : List (Nat × Sp)) (x : Nat × Sp) : Prop := ∃ rest, cellsF 0 rows = pre ++ x :: rest
def encC (x : Nat × Sp) : Array Value := #[.int .i64 (x.1 : Int), .agg #[.int .i64 x.2.n, .int .i64 x.2.c, .int .i64 x.2.r]]
def KeepG (R : World → Prop) (V W : World) : Prop := V.heap.size ≤ W.heap.size ∧ (R V → R W)
theorem KeepG.trans {R : World → Prop} {U V W : World} (h : KeepG R U V) (k : KeepG R V W) : KeepG R U W := ⟨Nat.le_trans h.1 k.1, fun x => k.2 (h.2 x)⟩
/-- what the iterator reads: its box, and the rows, which lie below B -/
structure CellMem (B gb : Nat) (v : Value) (hv : Nat → Value) (rows : List (List Sp)) (X : World) : Prop where
  size : B ≤ X.heap.size
  lt : gb < X.heap.size
  box : X.cell? ⟨gb, 0, none⟩ = some v
  rows : RowsIn B X v hv rows
theorem CellMem.keep {B gb : Nat} {v : Value} {hv : Nat → Value} {rows : List (List Sp)} {X Y : World} (h : CellMem B gb v hv rows X) (hs : X.heap.size ≤ Y.heap.size) (hb : ∀ k, k < B → Y.heap[k]? = X.heap[k]?) (hg : Y.heap[gb]? = X.heap[gb]?) : CellMem B gb v hv rows Y :=
  ⟨Nat.le_trans h.size hs, Nat.lt_of_lt_of_le h.lt hs, by have := h.box; simp only [World.cell?] at this ⊢; rw [hg]; exact this, h.rows.keep hb⟩
theorem CellMem.below {B gb : Nat} {v : Value} {hv : Nat → Value} {rows : List (List Sp)} {X Y : World} (h : CellMem B gb v hv rows X) (hb : Below X.heap.size X Y) : CellMem B gb v hv rows Y :=
  h.keep hb.size (fun k hk => hb.block k (Nat.lt_of_lt_of_le hk h.size)) (hb.block gb h.lt)
theorem grown_of_below' {W W' : World} (hb : Below W.heap.size W W') : W.grownBy W' none := ⟨hb.os, hb.tape, hb.output, hb.size, fun k hk _ => hb.block k hk⟩
theorem abides_below' {β : Type} {B : Nat} {J : β → World → Prop} (h : AbidesFrom B J) {s : β} {W W' : World} (hs : J s W) (hb : Below W.heap.size W W') : J s W' :=
  h s W W' none hs (grown_of_below' hb) (fun r e => by cases e)
set_option maxRecDepth 100000 in
set_option maxHeartbeats 2000000 in
theorem gcells_in (n : Nat) (hn : 1 ≤ n) (l B gb m c : Nat) (p : Option Addr) (hv : Nat → Value) (rows : List (List Sp)) (hm : rows.length = m) (J Jx : List (Nat × Sp) → World → Prop)
    (hY : ∀ pre x W, J pre W → nxtC rows pre x → YieldAt Fence.wide (n - 1) Try.prog l (encC x) W fun e W' =>
      (e = .returned (.bool true) ∧ J (pre ++ [x]) W' ∧ KeepG (CellMem B gb (.slice p m c) hv rows) W W') ∨ (e = .returned (.bool false) ∧ Jx (pre ++ [x]) W'))
    (W : World) (hJ : AbidesFrom W.heap.size J) (hR : CellMem B gb (.slice p m c) hv rows W) (h0 : J [] W) :
    CallsIn Fence.wide n Try.prog 45 #[.func (.yield l) #[] #[], .pointer (some ⟨gb, 0, none⟩)] W fun e W' => (∃ v, e = .returned v) ∧
      ((∃ ys, ys = cellsF 0 rows ∧ J ys W') ∨ (∃ pre, True ∧ Jx pre W')) := by
  refine callsIn_of_wp Try.func45 rfl trivial ?_ rfl
  simp only [Try.ntmps45, List.size_toArray, List.length_cons, List.length_nil, Nat.reduceAdd, Nat.reduceSub, Array.replicate_succ, Array.replicate_zero, List.push_toArray, List.append_toArray, List.nil_append, List.cons_append]
  have HY := Lib.hid hY
  have HJ := Lib.hid hJ
  have HR0 := Lib.hid hR
  have H0 := Lib.hid h0
  have HM := Lib.hid hm
  have hmm : m ≤ 9223372036854775807 := by have := hR.rows.1; omega
  have bx := hR.box
  have lb := hR.lt
  clear hY hJ h0 hm hR
  refine wpIn_wide.2 (wp_scope_straight ((wpIn_wide (n := n)).1 ?_))
  gi_wp2
  refine wpIn_label ?_
  gi_wp2
  gi_loopw [9] (fun s9 X => ∃ (t : Nat) (pre : List (Nat × Sp)), t ≤ m ∧ s9 = .int .i64 t ∧ Hid (cellsF 0 rows = pre ++ cellsF t (rows.drop t)) ∧ Hid (J pre X) ∧ Hid (CellMem B gb (.slice p m c) hv rows X) ∧ Hid (W.heap.size ≤ X.heap.size)) (fun s9 _ => m - (intOf s9).toNat)
  case atStart => exact ⟨0, [], Nat.zero_le _, rfl, Lib.hid (by simp), H0, HR0, Lib.hid (Nat.le_refl _)⟩
  case round =>
    obtain ⟨t, pre, ht, rfl, HE, HJ1, HR, HZ⟩ := hrel
    clear bx lb
    by_cases hlt : t < m
    · obtain ⟨row, hrow⟩ : ∃ row, rows[t]? = some row := ⟨_, List.getElem?_eq_getElem (by rw [HM.out]; exact hlt)⟩
      obtain ⟨b, off, rfl, hbB, crow, hrin⟩ := HR.out.rows.at t row hrow
      obtain ⟨q, cq, hvt⟩ := hrin.form
      rw [hvt] at crow hrin
      have hk := hrin.1
      have HRW := Lib.hid hrow
      have hbs : b < wr.heap.size := by have := HR.out.size; omega
      have HRI := Lib.hid hrin
      obtain ⟨k, hkk⟩ : ∃ k, row.length = k := ⟨_, rfl⟩
      rw [hkk] at hk crow HRI hvt
      have HVT := Lib.hid hvt
      clear hvt
      have HK := Lib.hid hkk
      have HE2 := Lib.hid (HE.out.trans (by rw [cellsF_drop rows t row hrow]))
      clear hrow hrin hkk HE
      gi_wp2
      gi_loopw [16] (fun s16 X => ∃ (j : Nat) (pre : List (Nat × Sp)), j ≤ k ∧ s16 = .int .i64 j ∧ Hid (cellsF 0 rows = pre ++ ((row.drop j).map (fun x => (t, x)) ++ cellsF (t + 1) (rows.drop (t + 1)))) ∧ Hid (J pre X) ∧ Hid (CellMem B gb (.slice (some ⟨b, off, none⟩) m c) hv rows X) ∧ Hid (W.heap.size ≤ X.heap.size) ∧ Hid (RowIn B X (.slice q k cq) row)) (fun s16 _ => k - (intOf s16).toNat)
      case atStart => exact ⟨0, pre, Nat.zero_le _, rfl, Lib.hid (by simpa using HE2.out), HJ1, HR, HZ, HRI⟩
      case round =>
        clear HE2 HJ1 HR HZ HRI crow hbs
        obtain ⟨j, pre, hj, rfl, HE, HJ1, HR, HZ, HRI⟩ := hrel
        by_cases hjl : j < k
        · obtain ⟨x, hx⟩ : ∃ x, row[j]? = some x := ⟨_, List.getElem?_eq_getElem (by rw [HK.out]; exact hjl)⟩
          obtain ⟨b', off', rfl, hbB', c0, c1, c2⟩ := HRI.out.at j x hx
          have hbs' : b' < wr.heap.size := by have := HR.out.size; omega
          have hE3 := HE.out.trans (by rw [map_drop row t j x hx])
          obtain ⟨x1, x2, x3⟩ := x
          have HE3 := Lib.hid hE3
          clear hE3 hx HE
          obtain ⟨V, hV⟩ : ∃ V, wr.alloc (.cells #[.int .i64 x1, .int .i64 x2, .int .i64 x3] 48) = V := ⟨_, rfl⟩
          have kv := hV ▸ whole_new wr [.int .i64 x1, .int .i64 x2, .int .i64 x3] 48 _ rfl
          have bV : Below wr.heap.size wr V := hV ▸ (Below.refl _ wr).alloc (Nat.le_refl _) _
          have hJV := abides_below' HJ.out HJ1.out bV
          have hS : Hid (CellMem B gb (.slice (some ⟨b, off, none⟩) m c) hv rows V) := Lib.hid (HR.out.below bV)
          have hI : Hid (RowIn B V (.slice (some ⟨b', off', none⟩) k cq) row) := Lib.hid (HRI.out.below (bV.mono HR.out.size))
          have hZV : Hid (W.heap.size ≤ V.heap.size) := Lib.hid (Nat.le_trans HZ.out bV.size)
          have lV := kv.lt
          have f0 := kv.cellAt 0
          have f1 := kv.cellAt 1
          have f2 := kv.cellAt 2
          obtain ⟨fn, tmps, assign, body, hy, hRR⟩ := HY.out pre (t, ⟨x1, x2, x3⟩) V hJV ⟨_, HE3.out⟩
          dsimp only [encC] at hy
          have HRn := Lib.hid hRR
          clear hJV kv bV HRI HR HJ1 HZ hRR HY
          gi_wp2
          refine HRn.out.mono ?_
          rintro e W3 (⟨rfl, hJ3, hk3⟩ | ⟨rfl, hJx3⟩)
          · have H3 := Lib.hid hJ3
            have K3 := Lib.hid hk3
            clear hJ3 hk3 HRn hV c0 c1 c2 f0 f1 f2 hy
            have hI3 : Hid (RowIn B W3 (.slice (some ⟨b', off', none⟩) k cq) row) := Lib.hid ?hrow
            gi_wp2
            go_roundw
            case rel => exact ⟨j + 1, pre ++ [(t, ⟨x1, x2, x3⟩)], by omega, by go_num, Lib.hid (by rw [HE3.out]; simp), H3, Lib.hid (K3.out.2 hS.out), Lib.hid (Nat.le_trans hZV.out K3.out.1), hI3⟩
            case measure => simp [intOf]; omega
            case hrow =>
              obtain ⟨_, _, _, _, _, hr'⟩ := (K3.out.2 hS.out).rows.at t row HRW.out
              rw [HVT.out] at hr'
              exact hr'
          · have H3 := Lib.hid hJx3
            clear hJx3 HRn hV c0 c1 c2 f0 f1 f2 hy
            gi_wp2
            simp only [Exit.noGoto]
            go_end0
            exact ⟨⟨_, rfl⟩, .inr ⟨_, trivial, H3.out⟩⟩
        · have HE2 : Hid (cellsF 0 rows = pre ++ cellsF (t + 1) (rows.drop (t + 1))) := Lib.hid (by have := HE.out; rw [List.drop_of_length_le (by rw [HK.out]; omega)] at this; simpa using this)
          clear HE HRI
          gi_wp2
          go_roundw
          case rel => exact ⟨t + 1, pre, by omega, by go_num, HE2, HJ1, HR, HZ⟩
          case measure => simp [intOf]; omega
    · have HE2 : Hid (pre = cellsF 0 rows) := Lib.hid (by have := HE.out; rw [cellsF_end rows t (by rw [HM.out]; omega), List.append_nil] at this; exact this.symm)
      clear HE
      gi_wp2
      simp only [Exit.noGoto]
      go_end0
      exact ⟨⟨_, rfl⟩, .inl ⟨_, HE2.out, HJ1.out⟩⟩
theorem gcells_next (n : Nat) (hn : 1 ≤ n) (B gb : Nat) (v : Value) (hv : Nat → Value) (rows : List (List Sp)) (w : World) (hR : CellMem B gb v hv rows w) :
    SeqNext Fence.wide n Try.prog 45 #[.pointer (some ⟨gb, 0, none⟩)] encC (KeepG (CellMem B gb v hv rows)) (nxtC rows) (fun ys => ys = cellsF 0 rows) (fun _ => True) w := by
  obtain ⟨p, c, rfl⟩ := hR.rows.form
  exact fun l J Jx W hW hJ hY h0 => gcells_in n hn l _ gb rows.length c p hv rows rfl J Jx hY W hJ (hR.below hW) h0
theorem gcellsF_any (p1 : Option Addr) (l1 c1 : Nat) (w : World) :
    Calls Try.prog 26 #[.slice p1 l1 c1] w fun e w' => e = .returned (.func (.func 45) #[] #[.pointer (some ⟨w.heap.size, 0, none⟩)]) ∧
      w' = w.alloc (.cells #[.slice p1 l1 c1] 25) := by
  go_enter Try.func26, Try.ntmps26
  go_wp2
  go_ret
  exact ⟨rfl, rfl⟩
end Go.Proofs.Ytcgnldcdcbnofaa

namespace Go.Proofs.Ytcgnldcdcbnofaa
open Go.RowKit Go.Shelf
set_option linter.unusedVariables false
attribute [local go_sem] Oper.semAt_some

/-- numbers that are no less than 0, as the program's -/
def zz (t : List Nat) : List Int := t.map fun (n : Nat) => (n : Int)
theorem zz_get (t : List Nat) (c z : Nat) (h : t[c]? = some z) : (zz t)[c]?.getD 0 = (z : Int) := by simp [zz, h]
theorem zz_len (t : List Nat) : (zz t).length = t.length := by simp [zz]
theorem ints_at (W : World) (p : Option Addr) (l c : Nat) (t : List Nat) (h : Ints W (.slice p l c) (zz t)) (i z : Nat) (hz : t[i]? = some z) :
    ∃ b off, p = some ⟨b, off, none⟩ ∧ W.cell? ⟨b, off + i, none⟩ = some (.int .i64 (z : Int)) ∧ b < W.heap.size := by
  have hi := (List.getElem?_eq_some_iff.1 hz).1
  obtain ⟨_, ⟨a, c', e, h0⟩ | ⟨b, off, c', e, hc⟩⟩ := h
  · have := congrArg List.length h0
    rw [zz_len] at this; simp only [List.length_nil] at this; omega
  · injection e with e1 e2 e3
    have := hc i (by rw [zz_len]; exact hi)
    rw [zz_get t i z hz] at this
    exact ⟨b, off, e1, this, cell_lt this⟩
set_option maxHeartbeats 1000000 in
theorem free_any (p : Option Addr) (l c : Nat) (t : List Nat) (row col : Nat) (w : World) (hl : t.length = l) (hI : Ints w (.slice p l c) (zz t)) :
    Calls Try.prog 46 #[.slice p l c, .int .i64 row, .int .i64 col] w fun e w' => e = .returned (.bool (freeB t row col)) ∧ w = w' := by
  by_cases h : l ≤ col
  · have hb := Lib.hid (freeB_out (row := row) (t := t) (c := col) (by omega))
    have hd : decide ((col : Int) ≥ (l : Int)) = true := by simp; omega
    clear hI hl
    go_enter Try.func46, Try.ntmps46
    go_wp2
    go_ret
    exact ⟨by rw [hb.out]; first | rfl | (simp; done) | (simp; omega), rfl⟩
  · obtain ⟨z, hz⟩ : ∃ z, t[col]? = some z := ⟨_, List.getElem?_eq_getElem (by omega)⟩
    have hb := Lib.hid (freeB_at (row := row) hz)
    obtain ⟨b, off, rfl, cz, lb⟩ := ints_at w p l c t hI col z hz
    have hd : decide ((col : Int) ≥ (l : Int)) = false := by simp; omega
    clear hI hl hz
    go_enter Try.func46, Try.ntmps46
    go_wp2
    go_ret
    exact ⟨by rw [hb.out]; first | rfl | (simp; done) | (simp; omega), rfl⟩
def JG (p : Option Addr) (l c : Nat) (t : List Nat) (row col most : Nat) (w : World) : Act → World → Prop := fun a X =>
  ∃ (cc : Nat) (ci : Int) (x10 x11 x12 x13 x14 x15 x16 x17 x18 x19 x20 x21 x22 x23 x24 x25 x26 x27 x28 x29 : Value),
    a = { tmps := #[.slice p l c, .int .i64 row, .int .i64 ci, .int .i64 most, undef, undef, undef, undef, .int .i64 0, .int .i64 0, x10, x11, x12, x13, x14, x15, x16, x17, x18, x19, x20, x21, x22, x23, x24, x25, x26, x27, x28, x29], defers := [] } ∧ w = X ∧ ci = (cc : Int) ∧ Hid (firstF t row cc = firstF t row col ∧ cc ≤ l)
set_option maxRecDepth 100000 in
set_option maxHeartbeats 2000000 in
theorem gap_at (p : Option Addr) (l c : Nat) (t : List Nat) (row col most : Nat) (w : World) (hl : t.length = l) (hl2 : l ≤ 100000) (hc : col ≤ l) (hm : 1 ≤ most) (hm2 : most ≤ 100000) (hI : Ints w (.slice p l c) (zz t)) :
    Calls Try.prog 28 #[.slice p l c, .int .i64 row, .int .i64 col, .int .i64 most] w fun e w' => e = .returned (.tuple #[.int .i64 (firstF t row col : Nat), .int .i64 (wideF t row (firstF t row col) most : Nat)]) ∧ w = w' := by
  have HI := Lib.hid hI
  have HL := Lib.hid hl
  clear hI hl
  go_enter Try.func28, Try.ntmps28
  go_wp2
  refine wp_scope_jumps 0 (JG p l c t row col most w) (fun a _ => l - (intOf (a.tmps.getD 2 undef)).toNat) rfl ?first ?pass
  case first =>
    go_wp2
    refine wp_label ?_
    obtain ⟨cc, hcc⟩ : ∃ cc, cc = col := ⟨_, rfl⟩
    have HJ : Hid (firstF t row cc = firstF t row col ∧ cc ≤ l) := Lib.hid ⟨by rw [hcc], by omega⟩
    rw [← hcc]
    clear hcc
    go_wp2
    go_loopw [10] (fun s10 X => ∃ k : Nat, k ≤ most ∧ s10 = .int .i64 (k : Int) ∧ w = X ∧ Hid (∀ j, j < k → freeB t row (cc + j) = true)) (fun s10 _ => most - (intOf s10).toNat)
    case atStart => exact ⟨0, Nat.zero_le _, rfl, rfl, Lib.hid (fun j h => by omega)⟩
    case round =>
      obtain ⟨k, hk, rfl, rfl, HA⟩ := hrel
      have hccl := HJ.out.2
      have HF := Lib.hid (free_any p l c t row (cc + k) w HL.out HI.out)
      have ec : ((cc + k : Nat) : Int) = (cc : Int) + (k : Int) := by omega
      rw [ec] at HF
      clear ec
      by_cases hlt : k < most
      · cases hf : freeB t row (cc + k) with
        | true =>
          rw [hf] at HF
          have HA2 : Hid (∀ j, j < k + 1 → freeB t row (cc + j) = true) := Lib.hid fun j hj => by
            by_cases e : j = k
            · subst e; exact hf
            · exact HA.out j (by omega)
          clear hf HA
          go_wp2_with (go_at_call 46; refine HF.out.mono ?_; clear HF; rintro e w1 ⟨rfl, rfl⟩)
          go_roundw
          case rel => exact ⟨k + 1, by omega, by go_num, by first | rfl | trivial, HA2⟩
          case measure => simp [intOf]; omega
        | false =>
          rw [hf] at HF
          have HFF := Lib.hid hf
          clear hf
          by_cases hk0 : k = 0
          · subst hk0
            have HJ2 : Hid (firstF t row (cc + 1) = firstF t row col ∧ cc + 1 ≤ l) := Lib.hid ⟨by rw [← HJ.out.1]; exact (firstF_step HFF.out).symm, by have := freeB_lt HFF.out; have := HL.out; omega⟩
            clear HA HFF
            go_wp2_with (go_at_call 46; refine HF.out.mono ?_; clear HF; rintro e w1 ⟨rfl, rfl⟩)
            apply wp_goto
            exact ⟨rfl, cc + 1, _, _, _, _, _, _, _, _, _, _, _, _, _, _, _, _, _, _, _, _, _, rfl, rfl, by omega, HJ2⟩
          · have HE : Hid (firstF t row col = cc ∧ wideF t row cc most = k) := Lib.hid ⟨by rw [← HJ.out.1]; exact firstF_eq (Nat.le_refl _) (fun j h1 h2 => by omega) (HA.out 0 (by omega)), wideF_eq hk HA.out (.inr HFF.out)⟩
            clear HA HFF
            go_wp2_with (go_at_call 46; refine HF.out.mono ?_; clear HF; rintro e w1 ⟨rfl, rfl⟩)
            simp only [Exit.jump]
            refine bodyPost_ret (v := .tuple #[.int .i64 (cc : Int), .int .i64 (k : Int)]) (by simp [results, Try.results28, go_sem]) rfl ⟨?_, rfl⟩
            rw [HE.out.1, HE.out.2]
      · obtain rfl : k = most := by omega
        have HE : Hid (firstF t row col = cc ∧ wideF t row cc k = k) := Lib.hid ⟨by rw [← HJ.out.1]; exact firstF_eq (Nat.le_refl _) (fun j h1 h2 => by omega) (HA.out 0 (by omega)), wideF_eq (Nat.le_refl _) HA.out (.inl rfl)⟩
        have hk0 : ¬ k = 0 := by omega
        clear HA HF
        go_wp2
        simp only [Exit.jump]
        refine bodyPost_ret (v := .tuple #[.int .i64 (cc : Int), .int .i64 (k : Int)]) (by simp [results, Try.results28, go_sem]) rfl ⟨?_, rfl⟩
        rw [HE.out.1, HE.out.2]
  case pass =>
    rintro a X ⟨cc, ci, x10, x11, x12, x13, x14, x15, x16, x17, x18, x19, x20, x21, x22, x23, x24, x25, x26, x27, x28, x29, rfl, rfl, rfl, HJ⟩
    go_wp2
    go_loopw [10] (fun s10 X => ∃ k : Nat, k ≤ most ∧ s10 = .int .i64 (k : Int) ∧ w = X ∧ Hid (∀ j, j < k → freeB t row (cc + j) = true)) (fun s10 _ => most - (intOf s10).toNat)
    case atStart => exact ⟨0, Nat.zero_le _, rfl, rfl, Lib.hid (fun j h => by omega)⟩
    case round =>
      obtain ⟨k, hk, rfl, rfl, HA⟩ := hrel
      have hccl := HJ.out.2
      have HF := Lib.hid (free_any p l c t row (cc + k) w HL.out HI.out)
      have ec : ((cc + k : Nat) : Int) = (cc : Int) + (k : Int) := by omega
      rw [ec] at HF
      clear ec
      by_cases hlt : k < most
      · cases hf : freeB t row (cc + k) with
        | true =>
          rw [hf] at HF
          have HA2 : Hid (∀ j, j < k + 1 → freeB t row (cc + j) = true) := Lib.hid fun j hj => by
            by_cases e : j = k
            · subst e; exact hf
            · exact HA.out j (by omega)
          clear hf HA
          go_wp2_with (go_at_call 46; refine HF.out.mono ?_; clear HF; rintro e w1 ⟨rfl, rfl⟩)
          go_roundw
          case rel => exact ⟨k + 1, by omega, by go_num, by first | rfl | trivial, HA2⟩
          case measure => simp [intOf]; omega
        | false =>
          rw [hf] at HF
          have HFF := Lib.hid hf
          clear hf
          by_cases hk0 : k = 0
          · subst hk0
            have HJ2 : Hid (firstF t row (cc + 1) = firstF t row col ∧ cc + 1 ≤ l) := Lib.hid ⟨by rw [← HJ.out.1]; exact (firstF_step HFF.out).symm, by have := freeB_lt HFF.out; have := HL.out; omega⟩
            clear HA HFF
            go_wp2_with (go_at_call 46; refine HF.out.mono ?_; clear HF; rintro e w1 ⟨rfl, rfl⟩)
            apply wp_goto
            exact ⟨rfl, ⟨cc + 1, _, _, _, _, _, _, _, _, _, _, _, _, _, _, _, _, _, _, _, _, _, rfl, rfl, by omega, HJ2⟩, by have := HJ2.out.2; simp [intOf]; omega⟩
          · have HE : Hid (firstF t row col = cc ∧ wideF t row cc most = k) := Lib.hid ⟨by rw [← HJ.out.1]; exact firstF_eq (Nat.le_refl _) (fun j h1 h2 => by omega) (HA.out 0 (by omega)), wideF_eq hk HA.out (.inr HFF.out)⟩
            clear HA HFF
            go_wp2_with (go_at_call 46; refine HF.out.mono ?_; clear HF; rintro e w1 ⟨rfl, rfl⟩)
            simp only [Exit.jump]
            refine bodyPost_ret (v := .tuple #[.int .i64 (cc : Int), .int .i64 (k : Int)]) (by simp [results, Try.results28, go_sem]) rfl ⟨?_, rfl⟩
            rw [HE.out.1, HE.out.2]
      · obtain rfl : k = most := by omega
        have HE : Hid (firstF t row col = cc ∧ wideF t row cc k = k) := Lib.hid ⟨by rw [← HJ.out.1]; exact firstF_eq (Nat.le_refl _) (fun j h1 h2 => by omega) (HA.out 0 (by omega)), wideF_eq (Nat.le_refl _) HA.out (.inl rfl)⟩
        have hk0 : ¬ k = 0 := by omega
        clear HA HF
        go_wp2
        simp only [Exit.jump]
        refine bodyPost_ret (v := .tuple #[.int .i64 (cc : Int), .int .i64 (k : Int)]) (by simp [results, Try.results28, go_sem]) rfl ⟨?_, rfl⟩
        rw [HE.out.1, HE.out.2]
end Go.Proofs.Ytcgnldcdcbnofaa

namespace Go.Proofs.Ytcgnldcdcbnofaa
open Go.RowKit Go.Shelf
set_option linter.unusedVariables false
attribute [local go_sem] Oper.semAt_some

/-- a cell's place -/
structure Pl where
  n : Int
  r : Nat
  c : Nat
  h : Nat
  w : Nat
deriving DecidableEq
def Pl.cells (p : Pl) : List Value := [.int .i64 p.n, .int .i64 (p.r : Int), .int .i64 (p.c : Int), .int .i64 (p.h : Int), .int .i64 (p.w : Int)]
def highF (r : Int) (left : Nat) : Nat := if r = 0 then left else min r.toNat left
set_option maxHeartbeats 1000000 in
theorem high_any (x1 x2 x3 : Int) (left : Nat) (w : World) (hr : 0 ≤ x3) :
    Calls Try.prog 27 #[.agg #[.int .i64 x1, .int .i64 x2, .int .i64 x3], .int .i64 left] w fun e w' => e = .returned (.int .i64 (highF x3 left : Nat)) ∧ Below w.heap.size w w' := by
  obtain ⟨k, rfl⟩ : ∃ k : Nat, x3 = (k : Int) := ⟨x3.toNat, by omega⟩
  have hb : Hid (Below w.heap.size w (w.alloc (.cells #[.int .i64 x1, .int .i64 x2, .int .i64 (k : Int)] 48))) := Lib.hid ((Below.refl _ w).alloc (Nat.le_refl _) _)
  by_cases h : k = 0
  · subst h
    have e : Hid (highF ((0 : Nat) : Int) left = left) := Lib.hid rfl
    go_enter Try.func27, Try.ntmps27
    go_wp2
    go_ret
    exact ⟨by rw [e.out]; rfl, hb.out⟩
  · have hq : ((k : Int) == 0) = false := by simpa using h
    have e : Hid (highF (k : Int) left = min k left) := Lib.hid (by unfold highF; rw [if_neg (by omega)]; simp)
    have hm : ((min k left : Nat) : Int) = min (k : Int) (left : Int) := by omega
    go_enter Try.func27, Try.ntmps27
    go_wp2
    all_goals
      go_ret
      refine ⟨?_, hb.out⟩
      rw [e.out, hm]
      simp
      try omega
/-- the columns' list, as its owner holds it -/
def OwnT (base : Nat) (X : World) (v : Value) (t : List Nat) : Prop := X.ownsRow base 3 1 v t.length ((zz t).map (Value.int .i64))
theorem OwnT.form {base : Nat} {X : World} {v : Value} {t : List Nat} (h : OwnT base X v t) : ∃ p c, v = .slice p t.length c := by
  rcases h.2 with ⟨rfl, h0⟩ | ⟨g', cap, cur, rfl, _⟩
  · exact ⟨none, 0, by rw [h0]⟩
  · exact ⟨_, _, rfl⟩
theorem OwnT.ints {base : Nat} {X : World} {v : Value} {t : List Nat} (h : OwnT base X v t) (hl : t.length ≤ 1000000) : Ints X v (zz t) := by
  rcases h.2 with ⟨rfl, h0⟩ | ⟨g', cap, cur, rfl, hb, hg, _, _, hcs, htk⟩
  · refine ⟨by rw [zz_len]; omega, .inl ⟨none, 0, rfl, ?_⟩⟩
    have : t = [] := List.length_eq_zero_iff.1 h0
    rw [this]; rfl
  · refine ⟨by rw [zz_len]; omega, .inr ⟨g', 0, cap, by rw [zz_len], fun j hj => ?_⟩⟩
    rw [zz_len] at hj
    have hq := congrArg (fun l => l[j]?) htk
    simp only [Nat.mul_one] at hq
    rw [List.getElem?_take_of_lt hj] at hq
    rw [Nat.zero_add]
    simp only [World.cell?, hg]
    rw [← Array.getElem?_toList, hq]
    simp [zz, hj]
theorem zz_snoc (t : List Nat) (z : Nat) : (zz (t ++ [z])).map (Value.int .i64) = (zz t).map (Value.int .i64) ++ [.int .i64 (z : Int)] := by simp [zz]
theorem zz_set (t : List Nat) (i z : Nat) : (zz (t.set i z)).map (Value.int .i64) = ((zz t).map (Value.int .i64)).set i (.int .i64 (z : Int)) := by simp [zz, List.map_set]
/-- what a call leaves that may write a list of its caller's -/
structure Left (v : Value) (w X : World) (v' : Value) : Prop where
  grown : w.grownBy X v.ownBlock
  own : v'.ownBlock = v.ownBlock ∨ ∃ k, v'.ownBlock = some k ∧ w.heap.size ≤ k
theorem Left.step {v v1 v2 : Value} {w X Y : World} (h : Left v w X v1) (k : Left v1 X Y v2) : Left v w Y v2 := by
  refine ⟨h.grown.andThen k.grown fun j hj => ?_, ?_⟩
  · rcases h.own with h1 | ⟨k1, h1, h2⟩
    · exact .inr (by rw [← h1]; exact hj)
    · rw [h1] at hj; cases hj; exact .inl h2
  · rcases k.own with h1 | ⟨k1, h1, h2⟩
    · rw [h1]; exact h.own
    · exact .inr ⟨k1, h1, Nat.le_trans h.grown.size h2⟩
theorem Try.infoIntG : (Try.prog.info? 3).map (fun i => (i.zero, i.size, i.bytes)) = some (some (.int .i64 0), 1, 8) := by kernel_rfl
theorem lay_newG (w : World) (xs : List Value) (t g : Nat) (hg : g = w.heap.size) : ∀ j u, xs[j]? = some u → (w.alloc (.cells xs.toArray t)).cell? ((⟨g, 0, none⟩ : Addr).add j) = some u := by
  intro j u hj
  have h := (whole_new w xs t g hg).cellAt j
  rw [show (⟨g, 0, none⟩ : Addr).add j = ⟨g, j, none⟩ by unfold Addr.add; split <;> simp_all]
  exact h.trans hj
theorem Left.refl (v : Value) (w : World) : Left v w w v := ⟨World.grownBy.refl w _, .inl rfl⟩
theorem Left.alloc {v v1 : Value} {w X : World} (h : Left v w X v1) (o : Obj) : Left v w (X.alloc o) v1 := h.step ⟨World.grownBy_alloc X o _, .inl rfl⟩
set_option maxRecDepth 100000 in
set_option maxHeartbeats 2000000 in
theorem take_at (base : Nat) (v : Value) (t : List Nat) (x : Int) (row c h wd : Nat) (w : World) (hb : base ≤ w.heap.size) (hO : OwnT base w v t) (hc : c ≤ t.length) (ht : t.length ≤ 100000) (hw : wd ≤ 100000) (hr : row ≤ 100000) (hh : h ≤ 100000) :
    Calls Try.prog 29 #[v, .agg #[.int .i64 x, .int .i64 row, .int .i64 c, .int .i64 h, .int .i64 wd]] w fun e w' => ∃ v', e = .returned v' ∧ OwnT base w' v' (takeN t c (row + h) wd) ∧ Left v w w' v' := by
  obtain ⟨i0, hi0, hz0', hz1', hz2'⟩ := info_parts Try.infoIntG
  have HZ1 := Lib.hid hz0'
  have HZ2 := Lib.hid hz1'
  have HZ3 := Lib.hid hz2'
  obtain ⟨W1, hW1⟩ : ∃ W1, w.alloc (.cells #[.int .i64 x, .int .i64 row, .int .i64 c, .int .i64 h, .int .i64 wd] 52) = W1 := ⟨_, rfl⟩
  have k1 : Whole W1 w.heap.size 52 [.int .i64 x, .int .i64 row, .int .i64 c, .int .i64 h, .int .i64 wd] := hW1 ▸ whole_new w [.int .i64 x, .int .i64 row, .int .i64 c, .int .i64 h, .int .i64 wd] 52 _ rfl
  have l1 : Left v w W1 v := hW1 ▸ (Left.refl v w).alloc _
  have o1 : OwnT base W1 v t := hW1 ▸ World.ownsRow.alloc hO _
  have HS : Hid (OwnT base W1 v (takeN t c (row + h) 0) ∧ Left v w W1 v ∧ Whole W1 w.heap.size 52 [.int .i64 x, .int .i64 row, .int .i64 c, .int .i64 h, .int .i64 wd]) := Lib.hid ⟨o1, l1, k1⟩
  have HTL := Lib.hid (takeN_len t c (row + h) hc)
  have c4 := k1.cellAt 4
  have lw1 := k1.lt
  clear hz0' hz1' hz2' hO k1 l1 o1
  go_enter Try.func29, Try.ntmps29
  go_wp2
  go_loopw [0, 8] (fun s0 s8 X => ∃ k : Nat, k ≤ wd ∧ s8 = .int .i64 (k : Int) ∧ Hid (OwnT base X s0 (takeN t c (row + h) k) ∧ Left v w X s0 ∧ Whole X w.heap.size 52 [.int .i64 x, .int .i64 row, .int .i64 c, .int .i64 h, .int .i64 wd])) (fun _ s8 _ => wd - (intOf s8).toNat)
  case atStart => exact ⟨0, Nat.zero_le _, rfl, HS⟩
  case round =>
    obtain ⟨k, hk, rfl, HX⟩ := hrel
    clear HS c4 lw1 hW1
    by_cases hlt : k < wd
    · have hl := HTL.out k
      obtain ⟨tk, htk⟩ : ∃ tk, takeN t c (row + h) k = tk := ⟨_, rfl⟩
      have hnext : takeN t c (row + h) (k + 1) = (if c + k = tk.length then tk ++ [0] else tk).set (c + k) (row + h) := by rw [← htk]; rfl
      rw [htk] at hl HX
      have HN := Lib.hid hnext
      obtain ⟨p0, c0, rfl⟩ := OwnT.form HX.out.1
      obtain ⟨hO, hL, hP⟩ := HX.out
      obtain ⟨n, hn⟩ : ∃ n, tk.length = n := ⟨_, rfl⟩
      have e0 : Hid (tk.length = n) := Lib.hid hn
      rw [hn] at hl hL
      unfold OwnT at hO
      rw [hn] at hO ⊢
      have HO := Lib.hid hO
      have HL := Lib.hid hL
      have HP := Lib.hid hP
      have p1 := hP.cellAt 1
      have p2 := hP.cellAt 2
      have p3 := hP.cellAt 3
      have lp := hP.lt
      have hbx : base ≤ wr.heap.size := by have := hL.grown.size; omega
      have erh : ((row + h : Nat) : Int) = (row : Int) + (h : Int) := by omega
      have HERH := Lib.hid erh
      clear erh
      clear hO hL hP hnext htk HX hn
      by_cases hat : c + k = n
      · have hq : ((c : Int) + (k : Int) == (n : Int)) = true := by simp; omega
        have HF : Hid (∀ (w1 : World) (v1 : Value), w1.ownsRow base 3 1 v1 (n + 1) ((zz tk).map (Value.int .i64) ++ [.int .i64 0]) → (wr.alloc (.cells #[.int .i64 0] 3)).grownBy w1 (Value.slice p0 n c0).ownBlock → (v1.ownBlock = (Value.slice p0 n c0).ownBlock ∨ v1.ownBlock = some (wr.alloc (.cells #[.int .i64 0] 3)).heap.size) →
            ∃ g1 cap1, v1 = .slice (some ⟨g1, 0, none⟩) (n + 1) cap1 ∧ g1 < w1.heap.size ∧ w1.frozen? ⟨g1, c + k, none⟩ = false ∧ w1.cell? ⟨g1, c + k, none⟩ = some (.int .i64 0) ∧ Whole w1 w.heap.size 52 [.int .i64 x, .int .i64 row, .int .i64 c, .int .i64 h, .int .i64 wd] ∧
              Hid (OwnT base (w1.setCell ⟨g1, c + k, none⟩ (.int .i64 ((row : Int) + (h : Int)))) (.slice (some ⟨g1, 0, none⟩) (n + 1) cap1) (takeN t c (row + h) (k + 1)) ∧ Left v w (w1.setCell ⟨g1, c + k, none⟩ (.int .i64 ((row : Int) + (h : Int)))) (.slice (some ⟨g1, 0, none⟩) (n + 1) cap1) ∧
                Whole (w1.setCell ⟨g1, c + k, none⟩ (.int .i64 ((row : Int) + (h : Int)))) w.heap.size 52 [.int .i64 x, .int .i64 row, .int .i64 c, .int .i64 h, .int .i64 wd])) := Lib.hid fun w1 v1 hown hgrow hf => by
          obtain ⟨g1, cap1, rfl, hb1, hl1⟩ := hown.form (by omega)
          have hst := hown.stored (c + k) (.int .i64 ((row : Int) + (h : Int)))
          have hP1 := Whole.app HP.out HO.out (by decide) hgrow
          have hne : w.heap.size ≠ g1 := fun e => whole_own hP1 hown (by decide) (by rw [e]; rfl)
          refine ⟨g1, cap1, rfl, hl1, hown.frozenAt _, ?_, hP1, Lib.hid ⟨?_, ?_, hP1.other _ _ hne⟩⟩
          · rw [hown.cellAt _ (by omega), List.getElem?_append_right (by simp [zz, e0.out]; omega)]
            simp [zz, e0.out, hat]
          · rw [HN.out, if_pos (by rw [e0.out]; exact hat)]
            unfold OwnT
            rw [zz_set, zz_snoc, List.length_set, List.length_append, e0.out, HERH.out]
            exact hst.1
          · refine (HL.out.alloc (.cells #[.int .i64 0] 3)).step (Left.step (v1 := .slice (some ⟨g1, 0, none⟩) (n + 1) cap1) ⟨hgrow, ?_⟩ ⟨hst.2, .inl rfl⟩)
            rcases hf with hf | hf
            · exact .inl hf
            · exact .inr ⟨_, hf, Nat.le_refl _⟩
        clear HN HL HTL
        have hnn : n ≤ 200000 := by omega
        have hcn : c + k ≤ n := by omega
        clear hl hat
        go_wp2_with (at_builtin; refine wpList_append_own_at _ rfl _ _ 84 rfl base 3 i0 (.int .i64 0) 1 8 Try.underlying84 hi0 HZ1.out HZ2.out HZ3.out rfl (by decide) (.slice p0 n c0) n _ rfl (HO.out.alloc _) ⟨wr.heap.size, 0, none⟩ 1 1 [.int .i64 0] rfl rfl (lay_newG _ [.int .i64 0] 3 wr.heap.size rfl) (by simp [Value.oneCell']) (by unfold maxLen; omega) (by omega) (by simp; omega) ?_; intro v1 w1 hown1 hgrow1 _ hf1; obtain ⟨g1, cap1, rfl, lg1, fg1, cg1, hP1, HX1⟩ := HF.out w1 v1 hown1 hgrow1 hf1; have p1 := hP1.cellAt 1; have p2 := hP1.cellAt 2; have p3 := hP1.cellAt 3; have lp := hP1.lt; clear hown1 hgrow1 hf1 hP1 HF HO)
        go_roundw
        case rel => exact ⟨k + 1, by omega, by go_num, HX1⟩
        case measure => simp [intOf]; omega
      · have hq : ((c : Int) + (k : Int) == (n : Int)) = false := by simp; omega
        obtain ⟨g1, cap1, e1, hb1, hl1⟩ := HO.out.form (by omega)
        injection e1 with e1 e2 e3
        subst e1 e3
        clear e2
        have hst := HO.out.stored (c + k) (.int .i64 ((row : Int) + (h : Int)))
        have hne : w.heap.size ≠ g1 := fun e => whole_own HP.out HO.out (by decide) (by rw [e]; rfl)
        have HX1 : Hid (OwnT base (wr.setCell ⟨g1, c + k, none⟩ (.int .i64 ((row : Int) + (h : Int)))) (.slice (some ⟨g1, 0, none⟩) n c0) (takeN t c (row + h) (k + 1)) ∧ Left v w (wr.setCell ⟨g1, c + k, none⟩ (.int .i64 ((row : Int) + (h : Int)))) (.slice (some ⟨g1, 0, none⟩) n c0) ∧
                Whole (wr.setCell ⟨g1, c + k, none⟩ (.int .i64 ((row : Int) + (h : Int)))) w.heap.size 52 [.int .i64 x, .int .i64 row, .int .i64 c, .int .i64 h, .int .i64 wd]) := Lib.hid (by
          refine ⟨?_, HL.out.step ⟨hst.2, .inl rfl⟩, HP.out.other _ _ hne⟩
          rw [HN.out, if_neg (by rw [e0.out]; exact hat)]
          unfold OwnT
          rw [zz_set, List.length_set, e0.out, HERH.out]
          exact hst.1)
        have fg1 := HO.out.frozenAt (c + k)
        obtain ⟨old, cg1⟩ : ∃ old, wr.cell? ⟨g1, c + k, none⟩ = some old := by
          rw [HO.out.cellAt _ (by omega)]
          exact ⟨_, List.getElem?_eq_getElem (by simp [zz, e0.out]; omega)⟩
        have hcn : c + k < n := by omega
        have hnn : n ≤ 200000 := by omega
        clear HN HL HTL hst hne HO HP hl hat
        go_wp2
        go_roundw
        case rel => exact ⟨k + 1, by omega, by go_num, HX1⟩
        case measure => simp [intOf]; omega
    · obtain rfl : k = wd := by omega
      have p4 := HX.out.2.2.cellAt 4
      go_wp2
      go_ret
      exact ⟨_, rfl, HX.out.1, HX.out.2.1⟩
end Go.Proofs.Ytcgnldcdcbnofaa

namespace Go.Proofs.Ytcgnldcdcbnofaa
set_option linter.unusedVariables false

/-- where one is while cells are placed -/
structure LS where
  t : List Nat
  ps : List Pl
  last : Pl
def LS.zero : LS := ⟨[], [], ⟨0, 0, 0, 0, 0⟩⟩
def fromP (s : LS) (row : Nat) : Nat := if row = s.last.r then s.last.c + s.last.w else 0
def endP (ends : List Int) (row : Nat) : Nat := (ends[row]?.getD 0).toNat
def placeP (ends : List Int) (s : LS) (x : Nat × Sp) : Pl :=
  ⟨x.2.n, x.1, firstF s.t x.1 (fromP s x.1), highF x.2.r (endP ends x.1 - x.1), wideF s.t x.1 (firstF s.t x.1 (fromP s x.1)) x.2.c.toNat⟩
def stepP (ends : List Int) (s : LS) (x : Nat × Sp) : LS :=
  ⟨takeN s.t (placeP ends s x).c (x.1 + (placeP ends s x).h) (placeP ends s x).w, s.ps ++ [placeP ends s x], placeP ends s x⟩
def runP (ends : List Int) : List (Nat × Sp) → LS → Option LS
  | [], s => some s
  | x :: l, s => if 10000 < (stepP ends s x).t.length then none else runP ends l (stepP ends s x)
theorem runP_append (ends : List Int) : ∀ (l k : List (Nat × Sp)) (s : LS), runP ends (l ++ k) s = (runP ends l s).bind (runP ends k)
  | [], k, s => rfl
  | x :: l, k, s => by
    simp only [List.cons_append, runP]
    split
    · rfl
    · exact runP_append ends l k _
theorem runP_snoc (ends : List Int) (l : List (Nat × Sp)) (x : Nat × Sp) (s s' : LS) (h : runP ends l s = some s') : runP ends (l ++ [x]) s = if 10000 < (stepP ends s' x).t.length then none else some (stepP ends s' x) := by
  rw [runP_append, h]
  simp only [Option.bind_some, runP]
theorem runP_more (ends : List Int) (l k : List (Nat × Sp)) (s : LS) (h : runP ends l s = none) : runP ends (l ++ k) s = none := by
  rw [runP_append, h]; rfl
/-- what holds at every step -/
structure Okay (s : LS) : Prop where
  few : s.t.length ≤ 10000
  last : s.last.c + s.last.w ≤ s.t.length
theorem Okay.zero : Okay LS.zero := ⟨Nat.zero_le _, Nat.le_refl _⟩
theorem Okay.from (s : LS) (h : Okay s) (row : Nat) : fromP s row ≤ s.t.length := by
  unfold fromP; split
  · exact h.last
  · omega
theorem place_col {ends : List Int} {s : LS} (h : Okay s) (x : Nat × Sp) : (placeP ends s x).c ≤ s.t.length := firstF_le _ _ _ (h.from s _)
theorem Okay.step {ends : List Int} {s : LS} (h : Okay s) (x : Nat × Sp) (hl : ¬ 10000 < (stepP ends s x).t.length) : Okay (stepP ends s x) := by
  refine ⟨by omega, ?_⟩
  have := takeN_len s.t (placeP ends s x).c (x.1 + (placeP ends s x).h) (place_col h x) (placeP ends s x).w
  show (placeP ends s x).c + (placeP ends s x).w ≤ (takeN s.t (placeP ends s x).c (x.1 + (placeP ends s x).h) (placeP ends s x).w).length
  omega
theorem runP_okay (ends : List Int) : ∀ (l : List (Nat × Sp)) (s s' : LS), Okay s → runP ends l s = some s' → Okay s' ∧ s'.ps.length = s.ps.length + l.length
  | [], s, s', h, hr => by cases hr; exact ⟨h, rfl⟩
  | x :: l, s, s', h, hr => by
    simp only [runP] at hr
    split at hr
    · cases hr
    · rename_i hl
      obtain ⟨h1, h2⟩ := runP_okay ends l _ s' (h.step x hl) hr
      refine ⟨h1, ?_⟩
      rw [h2]
      show (s.ps ++ [placeP ends s x]).length + l.length = s.ps.length + (l.length + 1)
      simp; omega
def layP (rows : List (List Sp)) (ends : List Int) : Option LS := runP ends (cellsF 0 rows) LS.zero
/-- each cell comes with a row that there is -/
theorem cellsF_row : ∀ (k : Nat) (rows : List (List Sp)) (x : Nat × Sp), x ∈ cellsF k rows → k ≤ x.1 ∧ x.1 < k + rows.length
  | _, [], x, h => by simp [cellsF] at h
  | k, row :: r, x, h => by
    simp only [cellsF, List.mem_append, List.mem_map] at h
    rcases h with ⟨y, _, rfl⟩ | h
    · simp
    · have := cellsF_row (k + 1) r x h
      simp; omega
end Go.Proofs.Ytcgnldcdcbnofaa

namespace Go.Proofs.Ytcgnldcdcbnofaa
open Go.RowKit Go.Shelf
set_option linter.unusedVariables false

set_option maxHeartbeats 400000 in
theorem gout_any_k (n lo hi : Int) (a1 a2 : Addr) (w : World) (h1 : w.cell? a1 = some (.int .i64 lo)) (h2 : w.cell? a2 = some (.int .i64 hi)) :
    Calls Try.prog 60 #[.int .i64 n, .pointer (some a1), .pointer (some a2)] w fun e w' => e = .returned (.bool (outB lo hi n)) ∧ w = w' := by
  by_cases hl : n < lo
  · have hb := Lib.hid (outB_lo (hi := hi) hl)
    go_enter Try.func60, Try.ntmps60
    go_wp2
    go_ret
    exact ⟨by rw [hb.out]; first | rfl | (simp; done) | (simp; omega), rfl⟩
  · by_cases hh : hi < n
    · have hb := Lib.hid (outB_hi (lo := lo) hh)
      go_enter Try.func60, Try.ntmps60
      go_wp2
      go_ret
      exact ⟨by rw [hb.out]; first | rfl | (simp; done) | (simp; omega), rfl⟩
    · have hb := Lib.hid (outB_in (lo := lo) (hi := hi) (n := n) (by omega) (by omega))
      go_enter Try.func60, Try.ntmps60
      go_wp2
      go_ret
      exact ⟨by rw [hb.out]; first | rfl | (simp; done) | (simp; omega), rfl⟩
set_option maxHeartbeats 400000 in
theorem gidx_ints_k (b off cap : Nat) (zs : List Int) (lo hi : Int) (a1 a2 : Addr) (w : World) (hm : zs.length ≤ 9223372036854775807) (h1 : w.cell? a1 = some (.int .i64 lo)) (h2 : w.cell? a2 = some (.int .i64 hi))
    (hc : ∀ j, j < zs.length → w.cell? ⟨b, off + j, none⟩ = some (.int .i64 (zs[j]?.getD 0))) :
    Calls Try.prog 67 #[.slice (some ⟨b, off, none⟩) zs.length cap, .func (.func 60) #[] #[.pointer (some a1), .pointer (some a2)]] w (IdxPost (zs.any (outB lo hi)) w) := by
  have eg : ∀ args w, (callFunc 60 args).run Try.prog w = .ok (.enter 60 args) w := enters_of Try.func60 (by kernel_rfl) rfl
  have hout := fun n X => gout_any_k n lo hi a1 a2 X
  go_enter Try.func67, Try.ntmps67
  go_wp2
  go_loopg [5, 8] zs.length (fun gg _ s8 wr => ∃ kk : Nat, kk ≤ zs.length ∧ zs.length - kk ≤ gg ∧ s8 = .int .i64 kk ∧ w = wr ∧ Hid ((zs.take kk).any (outB lo hi) = false))
  case atStart => exact ⟨0, Nat.zero_le _, by omega, rfl, rfl, by simp [Lib.hid]⟩
  case round =>
    obtain ⟨kk, hkk, hg, rfl, rfl, A⟩ := hrel
    by_cases hlt : kk < zs.length
    · have hcell := hc kk hlt
      have hx : zs[kk]? = some (zs[kk]?.getD 0) := by simp [hlt]
      obtain ⟨y, hy⟩ : ∃ y, zs[kk]?.getD 0 = y := ⟨_, rfl⟩
      rw [hy] at hcell hx
      have HX := Lib.hid hx
      have HC := Lib.hid (hout y w h1 h2)
      clear hy hc hx hout
      cases hq : outB lo hi y with
      | true =>
        have R := Lib.hid (any_take_hit _ zs kk y hlt HX.out hq)
        have HC' := Lib.hid (hq ▸ HC.out)
        clear HC hq
        go_wp2_with (go_at_fn 60; refine HC'.out.mono ?_; rintro e w' ⟨rfl, rfl⟩)
        go_ret
        exact ⟨(kk : Int), rfl, by rw [R.out]; simp, rfl⟩
      | false =>
        have R := Lib.hid (any_take_step _ zs kk y hlt HX.out hq A.out)
        have HC' := Lib.hid (hq ▸ HC.out)
        clear HC hq
        go_wp2_with (go_at_fn 60; refine HC'.out.mono ?_; rintro e w' ⟨rfl, rfl⟩)
        go_roundg (zs.length - (kk + 1))
        case measure => omega
        case rel => exact ⟨kk + 1, by omega, by omega, by go_num, rfl, R⟩
    · have R := Lib.hid (show zs.any (outB lo hi) = false by have := A.out; rwa [List.take_of_length_le (by omega)] at this)
      go_wp2
      go_ret
      exact ⟨-1, rfl, by rw [R.out]; rfl, rfl⟩
set_option maxHeartbeats 400000 in
theorem gcontains_ints_k (sv : Value) (zs : List Int) (lo hi : Int) (a1 a2 : Addr) (w : World) (hI : Ints w sv zs) (h1 : w.cell? a1 = some (.int .i64 lo)) (h2 : w.cell? a2 = some (.int .i64 hi)) :
    Calls Try.prog 59 #[sv, .func (.func 60) #[] #[.pointer (some a1), .pointer (some a2)]] w fun e w' => e = .returned (.bool (zs.any (outB lo hi))) ∧ w = w' := by
  have hcall : Calls Try.prog 67 #[sv, .func (.func 60) #[] #[.pointer (some a1), .pointer (some a2)]] w (IdxPost (zs.any (outB lo hi)) w) := by
    obtain ⟨hm, ⟨a, cap, rfl, rfl⟩ | ⟨b, off, cap, rfl, hc⟩⟩ := hI
    · exact idx_ints_none_k _ _ _ _
    · exact gidx_ints_k b off cap zs lo hi a1 a2 w hm h1 h2 hc
  have HC := Lib.hid hcall
  clear hcall h1 h2 hI
  go_enter Try.func59, Try.ntmps59
  go_wp2_with fail
  refine HC.out.mono ?_
  rintro e w' ⟨i, rfl, hi, rfl⟩
  have HI := Lib.hid hi
  clear hi
  go_wp2
  go_ret
  exact ⟨by rw [← HI.out]; first | rfl | (simp; done), rfl⟩
set_option maxHeartbeats 400000 in
theorem gwithin_any_k (lo hi : Int) (sv : Value) (zs : List Int) (w : World) (hI : Ints w sv zs) :
    Calls Try.prog 44 #[.int .i64 lo, .int .i64 hi, sv] w fun e w' => e = .returned (.bool (!zs.any (outB lo hi))) ∧ Below w.heap.size w w' := by
  have hI' : Hid (Ints ((w.alloc (.cells #[.int .i64 lo] 3)).alloc (.cells #[.int .i64 hi] 3)) sv zs) := by
    have := hI.below (((Below.refl w.heap.size w).alloc (Nat.le_refl _) (.cells #[.int .i64 lo] 3)).alloc (by simp) (.cells #[.int .i64 hi] 3))
    exact Lib.hid this
  clear hI
  go_enter Try.func44, Try.ntmps44
  go_wp2_with fail
  refine (gcontains_ints_k sv zs lo hi _ _ _ hI'.out ?_ ?_).mono ?_
  · simp
  · simp
  rintro e w' ⟨rfl, rfl⟩
  go_wp2
  go_ret
  exact ⟨rfl, ((Below.refl _ _).alloc (Nat.le_refl _) _).alloc (by simp) _⟩
end Go.Proofs.Ytcgnldcdcbnofaa

namespace Go.Proofs.Ytcgnldcdcbnofaa
open Go.RowKit Go.Shelf
set_option linter.unusedVariables false
attribute [local go_sem] Oper.semAt_some

def okC (x : Sp) : Bool := (!([x.c].any (outB 1 1000))) && (!([x.r].any (outB 0 1000)))
def okE (m t : Nat) (e : Int) : Bool := !([e].any (outB ((t : Int) + 1) m))
/-- rows of cells and their ends are right -/
structure RightQ (rows : List (List Sp)) (ends : List Int) : Prop where
  many : rows.length ≤ 65536
  len : ends.length = rows.length
  ends : ∀ i e, ends[i]? = some e → okE rows.length i e = true
  cells : ∀ x ∈ cellsF 0 rows, okC x.2 = true
theorem kept_below {W W' : World} (h : Below W.heap.size W W') : KeepsOthers W W' := ⟨h.size, fun k o hk ho' => (h.block k (Array.getElem?_eq_some_iff.1 hk).1).trans hk⟩
theorem results_cell_bool4 {W : World} {g : Nat} {b : Bool} {tmps : Array Value} {fn : Func} (hf : fn.results = #[.cell 4 4]) (ht : tmps[4]? = some (.pointer (some ⟨g, 0, none⟩))) (h : Whole W g 4 [.bool b]) :
    (results fn tmps).run Try.prog W = .ok (.bool b) W := by
  have c0 := h.cellAt 0
  simp [results, hf, go_sem, ht, c0]
def RIg (g : Nat) (B : Nat) (w : World) (pre : List (Nat × Sp)) (W : World) : Prop := Whole W g 4 [.bool false] ∧ (∀ x ∈ pre, okC x.2 = true) ∧ Below B w W
def RX (bad : Prop) (g : Nat) (B : Nat) (w : World) (c : Code) (pre : List (Nat × Sp)) (W : World) : Prop := c = .ret ∧ bad ∧ Whole W g 4 [.bool false] ∧ Below B w W
theorem RIg.own (g B : Nat) (w : World) (K : Nat) (h1 : B ≤ w.heap.size) (h2 : B ≤ K) : OwnFrom K (RIg g B w) := fun pre X Y row ⟨ha, hp, hb⟩ hg hr =>
  ⟨ha.grown hg (ha.ne fun r e => (hr r e).2), hp, (ownFrom_below (β := Unit) h1 h2) () X Y row hb hg hr⟩
theorem RX.own (bad : Prop) (g B : Nat) (w : World) (K : Nat) (h1 : B ≤ w.heap.size) (h2 : B ≤ K) (c : Code) : OwnFrom K (RX bad g B w c) := fun pre X Y row ⟨hc, hz, hw, hb⟩ hg hr =>
  ⟨hc, hz, hw.grown hg (hw.ne fun r e => (hr r e).2), (ownFrom_below (β := Unit) h1 h2) () X Y row hb hg hr⟩
theorem okC_of (x : Sp) (d1 d2 : Bool) (h1 : (!([x.c].any (outB 1 1000))) = d1) (h2 : (!([x.r].any (outB 0 1000))) = d2) : okC x = (d1 && d2) := by unfold okC; rw [h1, h2]
set_option maxHeartbeats 1000000 in
theorem gright_bad (p q : Option Addr) (m c m' c' : Nat) (w : World) (h : 65536 < m ∨ m' ≠ m) :
    Calls Try.prog 25 #[.slice p m c, .slice q m' c'] w fun e W' => e = .returned (.bool false) ∧ Below w.heap.size w W' := by
  refine (callsIn_wide (n := 3)).1 (callsIn_of_wp_marks Try.func25 rfl trivial (wpIn_wide.2 ?_) rfl)
  simp only [Try.ntmps25, List.size_toArray, List.length_cons, List.length_nil, Nat.reduceAdd, Nat.reduceSub, Array.replicate_succ, Array.replicate_zero, List.push_toArray, List.append_toArray, List.nil_append, List.cons_append]
  have k4 := whole_new w [.bool false] 4 _ rfl
  have b4 : Below w.heap.size w (w.alloc (.cells #[.bool false] 4)) := (Below.refl _ w).alloc (Nat.le_refl _) _
  have HK := Lib.hid (And.intro k4 b4)
  clear k4 b4
  by_cases hm : 65536 < m
  · clear h
    go_wp2
    refine leaves_marks w.heap.size [] _ (Marks.nil _ _) (fun W' hck hbk => ⟨.bool false, results_cell_bool4 (g := w.heap.size) rfl rfl (hck _ _ HK.out.1 rfl), ⟨rfl, HK.out.2.trans hbk⟩⟩)
  · have hne : (m' != m) = true := by simp; omega
    have hne' : ((m' : Int) != (m : Int)) = true := by simp; omega
    have h3 : ¬ (m' : Int) = (m : Int) := by omega
    clear h
    go_wp2
    refine leaves_marks w.heap.size [] _ (Marks.nil _ _) (fun W' hck hbk => ⟨.bool false, results_cell_bool4 (g := w.heap.size) rfl rfl (hck _ _ HK.out.1 rfl), ⟨rfl, HK.out.2.trans hbk⟩⟩)
set_option maxRecDepth 100000 in
set_option maxHeartbeats 2000000 in
theorem gright_main (p q : Option Addr) (m c c' : Nat) (hv : Nat → Value) (rows : List (List Sp)) (ends : List Int) (w : World) (hm : m ≤ 65536) (hl : rows.length = m) (he : ends.length = m) (hR : RowsIn w.heap.size w (.slice p m c) hv rows) (hE : Ints w (.slice q m c') ends) :
    Calls Try.prog 25 #[.slice p m c, .slice q m c'] w fun e W' => ∃ b, e = .returned (.bool b) ∧ (b = true ↔ RightQ rows ends) ∧ Below w.heap.size w W' := by
  have HR := Lib.hid hR
  have HE := Lib.hid hE
  have HL := Lib.hid hl
  have HL2 := Lib.hid he
  have k4 := whole_new w [.bool false] 4 _ rfl
  have b4 : Below w.heap.size w (w.alloc (.cells #[.bool false] 4)) := (Below.refl _ w).alloc (Nat.le_refl _) _
  have HK := Lib.hid (And.intro k4 b4)
  clear hR hE hl he k4 b4
  refine (callsIn_wide (n := 3)).1 (callsIn_of_wp_marks Try.func25 rfl trivial (wpIn_wide.2 ?_) rfl)
  simp only [Try.ntmps25, List.size_toArray, List.length_cons, List.length_nil, Nat.reduceAdd, Nat.reduceSub, Array.replicate_succ, Array.replicate_zero, List.push_toArray, List.append_toArray, List.nil_append, List.cons_append]
  go_wp2
  go_loopw [21] (fun s21 X => ∃ t : Nat, t ≤ m ∧ s21 = .int .i64 t ∧ Hid (∀ i e, i < t → ends[i]? = some e → okE m i e = true) ∧ Hid (Whole X w.heap.size 4 [.bool false] ∧ Below w.heap.size w X)) (fun s21 _ => m - (intOf s21).toNat)
  case atStart => exact ⟨0, Nat.zero_le _, rfl, Lib.hid (fun i e h => by omega), HK⟩
  case round =>
    obtain ⟨t, ht, rfl, HA, HX⟩ := hrel
    clear HK
    by_cases hlt : t < m
    · obtain ⟨e, he⟩ : ∃ e, ends[t]? = some e := ⟨_, List.getElem?_eq_getElem (by rw [HL2.out]; exact hlt)⟩
      obtain ⟨_, ⟨_, _, _, hn⟩ | ⟨b, off, c2, h1, hce⟩⟩ := HE.out
      · rw [hn] at he; simp at he
      injection h1 with h1 h2 h3
      subst h1 h3
      clear h2
      have ce := hce t (by rw [HL2.out]; exact hlt)
      rw [he] at ce
      simp only [Option.getD_some] at ce
      have lb := cell_lt ce
      dsimp only at lb
      have ce2 := (HX.out.2.cell (p := ⟨b, off + t, none⟩) lb).trans ce
      have lb2 : b < wr.heap.size := by have := HX.out.2.size; omega
      have HEE := Lib.hid he
      have WI := Lib.hid (fun X sv h => gwithin_any_k ((t : Int) + 1) (m : Int) sv [e] X h)
      clear he hce ce
      cases hd : okE m t e with
      | false =>
        unfold okE at hd
        rw [hd] at WI
        have HB : Hid (¬ RightQ rows ends) := Lib.hid fun h => by
          have := h.ends t e HEE.out
          rw [HL.out] at this
          unfold okE at this
          rw [hd] at this; cases this
        clear hd
        go_wp2_with (go_at_call 44; refine (WI.out _ _ (Ints.whole (t := 3) (whole_new wr [.int .i64 e] 3 _ rfl) rfl (by simp))).mono ?_; rintro e w7 ⟨rfl, hb7⟩; have B7 := Lib.hid (((Below.refl _ wr).alloc (Nat.le_refl _) (.cells #[.int .i64 e] 3)).trans (hb7.mono (by simp))); have K7 := HX.out.1.below B7.out HX.out.1.lt; have f7 := K7.free 0; have c7 := K7.cellAt 0; have l7 := K7.lt; have HK7 := Lib.hid K7; clear hb7 K7 WI)
        refine leaves_marks w.heap.size [] _ (Marks.nil _ _) (fun W' hck hbk => ⟨.bool false, results_cell_bool4 (g := w.heap.size) rfl rfl (hck _ _ (HK7.out.set 0 _) rfl), ⟨false, rfl, by simp [HB.out], ?_⟩⟩)
        exact ((HX.out.2.trans (B7.out.mono HX.out.2.size)).setCell (p := ⟨w.heap.size, 0, none⟩) (Nat.le_refl _) _).trans hbk
      | true =>
        have HD := Lib.hid hd
        unfold okE at hd
        rw [hd] at WI
        clear hd
        go_wp2_with (go_at_call 44; refine (WI.out _ _ (Ints.whole (t := 3) (whole_new wr [.int .i64 e] 3 _ rfl) rfl (by simp))).mono ?_; rintro e w7 ⟨rfl, hb7⟩; have B7 := Lib.hid (((Below.refl _ wr).alloc (Nat.le_refl _) (.cells #[.int .i64 e] 3)).trans (hb7.mono (by simp))); have HX7 := Lib.hid (And.intro (HX.out.1.below B7.out HX.out.1.lt) (HX.out.2.trans (B7.out.mono HX.out.2.size))); clear hb7 WI)
        go_roundw
        case rel =>
          refine ⟨t + 1, by omega, by go_num, Lib.hid ?_, HX7⟩
          intro i e' hi he'
          by_cases hit : i = t
          · subst hit
            rw [HEE.out] at he'; cases he'
            exact HD.out
          · exact HA.out i e' (by omega) he'
        case measure => simp [intOf]; omega
    · obtain rfl : t = m := by omega
      have HCF := Lib.hid (fun X => gcellsF_any p t c X)
      have HX1 := HX.out.1
      have HX2 := HX.out.2
      obtain ⟨W1, hW1⟩ : ∃ W1, wr.alloc (.cells #[.slice p t c] 25) = W1 := ⟨_, rfl⟩
      have k1 : Whole W1 w.heap.size 4 [.bool false] := hW1 ▸ HX1.alloc _
      have kb : Whole W1 wr.heap.size 25 [.slice p t c] := hW1 ▸ whole_new wr [.slice p t c] 25 _ rfl
      have b1 : Below w.heap.size w W1 := hW1 ▸ HX2.alloc HX2.size _
      have hz1 : W1.heap.size = wr.heap.size + 1 := by rw [← hW1]; simp
      have hwr := HX1.lt
      have hcm : CellMem w.heap.size wr.heap.size (.slice p t c) hv rows W1 := ⟨b1.size, by omega, kb.cellAt 0, HR.out.below b1⟩
      have HK1 := Lib.hid (And.intro k1 b1)
      have HCM := Lib.hid hcm
      clear HX1 HX2 k1 b1 hcm kb
      have hno : decide ((t : Int) < (t : Int)) = false := by simp
      go_wp2_with (go_at_call 26; refine (HCF.out _).mono ?_; rintro e w' ⟨rfl, rfl⟩; rw [hW1]; clear hW1 HCF)
      refine (wpIn_wide (n := 3)).1 (range_next (F := Fence.wide) rfl (by omega) (gf := 45) (lb := #[.pointer (some ⟨wr.heap.size, 0, none⟩)]) rfl trivial (enters_of Try.func45 (by kernel_rfl) rfl)
        (Kp := KeepG (CellMem w.heap.size wr.heap.size (.slice p t c) hv rows)) (fun _ _ _ h k => h.trans k) (fun W l o h1 h2 => ⟨by simp, fun h => h.keep (by simp) (fun k hk => World.putObj_heap_other (by omega)) (World.putObj_heap_other (by omega))⟩) (gcells_next _ (by omega) w.heap.size wr.heap.size _ hv rows W1 HCM.out) (fun _ => rfl)
        (RIg w.heap.size w.heap.size w) (RX (¬ RightQ rows ends) w.heap.size w.heap.size w) (RIg.own _ _ _ _ (Nat.le_refl _) (by omega)) (fun c => RX.own _ _ _ _ _ (Nat.le_refl _) (by omega) c)
        ⟨HK1.out.1, (fun x h => by cases h), HK1.out.2⟩ ?round ?done ?stop)
      case round =>
        rintro l pre x V hl ⟨v1, hgood, hbV⟩ hnx
        have hmem : ∀ y, y = x → y ∈ cellsF 0 rows := fun y e => by obtain ⟨rest, h⟩ := hnx; rw [h, e]; simp
        obtain ⟨k, ⟨x1, x2, x3⟩⟩ := x
        apply Exists.intro
        apply Exists.intro
        refine ⟨?_, ?_, ?_, ?_⟩
        · intro K hK
          dsimp only [encC]
          gi_wp2
          exact hK
        · exact (KeepsOthers.alloc V _).from _
        · exact ⟨by simp, fun h => h.below ((Below.refl _ V).alloc (Nat.le_refl _) _)⟩
        · intro V₂ hgV hnc' hbl
          have kc : Whole V₂ V.heap.size 48 [.int .i64 x1, .int .i64 x2, .int .i64 x3] := Whole.grown (whole_new V [.int .i64 x1, .int .i64 x2, .int .i64 x3] 48 _ rfl) hgV (Whole.ne (whole_new V [.int .i64 x1, .int .i64 x2, .int .i64 x3] 48 _ rfl) hnc')
          have v1' := (v1.alloc (.cells #[.int .i64 x1, .int .i64 x2, .int .i64 x3] 48)).grown hgV ((v1.alloc _).ne hnc')
          have hbs := hbV.size
          have hb2 : Below w.heap.size w V₂ := (hbV.alloc hbs (.cells #[.int .i64 x1, .int .i64 x2, .int .i64 x3] 48)).grown hgV (by simp; omega) (fun k e => by cases e; omega)
          have q1 := kc.cellAt 1
          have q2 := kc.cellAt 2
          have lc := kc.lt
          have hz2 := hb2.size
          have WA := Lib.hid (fun X sv h => gwithin_any_k 1 1000 sv [x2] X h)
          have WB := Lib.hid (fun X sv h => gwithin_any_k 0 1000 sv [x3] X h)
          have hS := okC_of ⟨x1, x2, x3⟩ _ _ rfl rfl
          have hbad : okC ⟨x1, x2, x3⟩ = false → ¬ RightQ rows ends := fun h hq => by have := hq.cells _ (hmem _ rfl); rw [h] at this; cases this
          have KV := Lib.hid v1'
          have HB2 := Lib.hid hb2
          have HG := Lib.hid hgood
          clear v1 v1' hbV hgV hnc' hbl hgood hb2 kc hmem hnx
          dsimp only at hS
          generalize (!([x2].any (outB 1 1000))) = d1 at *
          generalize (!([x3].any (outB 0 1000))) = d2 at *
          cases d1 with
          | false =>
            have HX' := Lib.hid (hbad hS)
            clear hbad hS WB
            gi_wp2_with (refine ⟨trivial, ?_⟩; gi_at_call 44; refine (CallsIn.inRound l (callsIn_wide.2 (WA.out _ _ (Ints.whole (t := 3) (whole_new V₂ [.int .i64 x2] 3 _ rfl) rfl (by simp))))).mono ?_; rintro e w3 ⟨rfl, hb3⟩; have B3 := Lib.hid (((Below.refl _ V₂).alloc (Nat.le_refl _) (.cells #[.int .i64 x2] 3)).trans (hb3.mono (by simp))); have K3 := KV.out.below B3.out KV.out.lt; have HK3 := Lib.hid K3; have f3 := K3.free 0; have c3 := K3.cellAt 0; have l3 := K3.lt; clear hb3 K3)
            refine ⟨trivial, ?_⟩
            gi_wp2
            exact ⟨((kept_below B3.out).trans (KeepsOthers.setCell _ _ _)).from _, rfl, HX'.out, HK3.out.set 0 _, (HB2.out.trans (B3.out.mono hz2)).setCell (p := ⟨w.heap.size, 0, none⟩) (Nat.le_refl _) _⟩
          | true =>
            cases d2 with
            | false =>
              have HX' := Lib.hid (hbad hS)
              clear hbad hS
              gi_wp2_with (refine ⟨trivial, ?_⟩; first
                | (gi_at_call 44; refine (CallsIn.inRound l (callsIn_wide.2 (WA.out _ _ (Ints.whole (t := 3) (whole_new V₂ [.int .i64 x2] 3 _ rfl) rfl (by simp))))).mono ?_; clear WA; rintro e w3 ⟨rfl, hb3⟩; have B3 := Lib.hid (((Below.refl _ V₂).alloc (Nat.le_refl _) (.cells #[.int .i64 x2] 3)).trans (hb3.mono (by simp))); have hz3 := B3.out.size; have q3 := (B3.out.cell (p := ⟨V.heap.size, 2, none⟩) lc).trans q2; clear hb3)
                | (gi_at_call 44; refine (CallsIn.inRound l (callsIn_wide.2 (WB.out _ _ (Ints.whole (t := 3) (whole_new w3 [.int .i64 x3] 3 _ rfl) rfl (by simp))))).mono ?_; clear WB; rintro e w4 ⟨rfl, hb4⟩; have B4 := Lib.hid (B3.out.trans ((((Below.refl _ w3).alloc (Nat.le_refl _) (.cells #[.int .i64 x3] 3)).trans (hb4.mono (by simp))).mono hz3)); have K4 := KV.out.below B4.out KV.out.lt; have HK4 := Lib.hid K4; have f4 := K4.free 0; have c4 := K4.cellAt 0; have l4 := K4.lt; clear hb4 K4))
              exact ⟨((kept_below B4.out).trans (KeepsOthers.setCell _ _ _)).from _, rfl, HX'.out, HK4.out.set 0 _, (HB2.out.trans (B4.out.mono hz2)).setCell (p := ⟨w.heap.size, 0, none⟩) (Nat.le_refl _) _⟩
            | true =>
              have HX' : Hid (okC ⟨x1, x2, x3⟩ = true) := Lib.hid hS
              clear hbad hS
              gi_wp2_with (refine ⟨trivial, ?_⟩; first
                | (gi_at_call 44; refine (CallsIn.inRound l (callsIn_wide.2 (WA.out _ _ (Ints.whole (t := 3) (whole_new V₂ [.int .i64 x2] 3 _ rfl) rfl (by simp))))).mono ?_; clear WA; rintro e w3 ⟨rfl, hb3⟩; have B3 := Lib.hid (((Below.refl _ V₂).alloc (Nat.le_refl _) (.cells #[.int .i64 x2] 3)).trans (hb3.mono (by simp))); have hz3 := B3.out.size; have q3 := (B3.out.cell (p := ⟨V.heap.size, 2, none⟩) lc).trans q2; clear hb3)
                | (gi_at_call 44; refine (CallsIn.inRound l (callsIn_wide.2 (WB.out _ _ (Ints.whole (t := 3) (whole_new w3 [.int .i64 x3] 3 _ rfl) rfl (by simp))))).mono ?_; clear WB; rintro e w4 ⟨rfl, hb4⟩; have B4 := Lib.hid (B3.out.trans ((((Below.refl _ w3).alloc (Nat.le_refl _) (.cells #[.int .i64 x3] 3)).trans (hb4.mono (by simp))).mono hz3)); have K4 := KV.out.below B4.out KV.out.lt; have HK4 := Lib.hid K4; clear hb4 K4))
              refine ⟨(kept_below B4.out).from _, ⟨B4.out.size, fun h => h.below B4.out⟩, HK4.out, ?_, HB2.out.trans (B4.out.mono hz2)⟩
              intro x hx
              rcases List.mem_append.1 hx with hx | hx
              · exact HG.out x hx
              · obtain rfl := List.mem_singleton.1 hx; exact HX'.out
      case done =>
        rintro D xs V hD rfl ⟨v1, hgood, hbV⟩ hK
        have HQ : Hid (RightQ rows ends) := Lib.hid ⟨by rw [HL.out]; exact hm, by rw [HL2.out, HL.out], fun i e h => by
          rw [HL.out]
          exact HA.out i e (by have := (List.getElem?_eq_some_iff.1 h).1; rw [HL2.out] at this; exact this) h, hgood⟩
        have f1 := v1.free 0
        have c1 := v1.cellAt 0
        have l1 := v1.lt
        have HV := Lib.hid (And.intro v1 hbV)
        have HKK := Lib.hid hK
        clear v1 hgood hbV hK
        go_wp2
        refine leaves_marks w.heap.size [D] _ ((Marks.nil w.heap.size _).cons (D := D) (by omega) ((Below.heap_setCell V ⟨w.heap.size, 0, none⟩ _ D (by simp; omega)).trans HKK.out) (fun E hE => by cases hE)) (fun W' hck hbk => ⟨_, results_cell_bool4 (g := w.heap.size) rfl rfl (hck _ _ (HV.out.1.set 0 _) rfl), ⟨true, rfl, by simp [HQ.out], ?_⟩⟩)
        exact (HV.out.2.setCell (p := ⟨w.heap.size, 0, none⟩) (Nat.le_refl _) _).trans hbk
      case stop =>
        rintro D c pre V hD _ ⟨rfl, hbad, v1, hbV⟩ hK
        have HQ := Lib.hid hbad
        have HM := Lib.hid ((Marks.nil w.heap.size V).cons (D := D) (by omega) hK (fun E hE => by cases hE))
        have HV := Lib.hid (And.intro v1 hbV)
        clear v1 hbV hK hbad
        gi_wp2
        exact leaves_marks w.heap.size [D] _ HM.out (fun W' hck hbk => ⟨.bool false, results_cell_bool4 (g := w.heap.size) rfl rfl (hck _ _ HV.out.1 rfl), ⟨false, rfl, by simp [HQ.out], HV.out.2.trans hbk⟩⟩)
theorem gright_any (v ev : Value) (hv : Nat → Value) (rows : List (List Sp)) (ends : List Int) (w : World) (hR : RowsIn w.heap.size w v hv rows) (hE : Ints w ev ends) :
    Calls Try.prog 25 #[v, ev] w fun e W' => ∃ b, e = .returned (.bool b) ∧ (b = true ↔ RightQ rows ends) ∧ Below w.heap.size w W' := by
  obtain ⟨p, c, rfl⟩ := hR.form
  obtain ⟨q, c', rfl⟩ : ∃ q c', ev = .slice q ends.length c' := by
    obtain ⟨_, ⟨a, c', rfl, rfl⟩ | ⟨b, off, c', rfl, _⟩⟩ := hE
    · exact ⟨_, _, rfl⟩
    · exact ⟨_, _, rfl⟩
  by_cases h : 65536 < rows.length ∨ ends.length ≠ rows.length
  · refine (gright_bad p q _ c _ c' w h).mono ?_
    rintro e W' ⟨rfl, hb⟩
    refine ⟨false, rfl, ⟨(fun h => by cases h), fun hq => ?_⟩, hb⟩
    have := hq.many; have := hq.len; omega
  · have hm : ends.length = rows.length := by omega
    rw [hm] at hE ⊢
    exact gright_main p q rows.length c c' hv rows ends w (by omega) rfl hm hR hE
end Go.Proofs.Ytcgnldcdcbnofaa
