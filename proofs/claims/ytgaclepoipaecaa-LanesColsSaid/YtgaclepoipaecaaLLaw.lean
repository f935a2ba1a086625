/- What the statements of layer 6 share: rows and captions of a page that was cut. -/
import Derived.Test.YtgaclepoipaecaaLSame
import Derived.Test.YtgaclepoipaecaaTPre
import Derived.Test.YtgaclepoipaecaaLShown
import Derived.Test.YtgaclepoipaecaaTLaw
namespace Go.Proofs.Ytgaclepoipaecaa
open Go.RowKit Go.Shelf
set_option linter.unusedVariables false

theorem kf_link {ns : List Nd} (hO : PageOk ns) {p z : Int} (h : z ∈ kfOf ns p) : 0 ≤ z ∧ z < (ns.length : Int) := by
  obtain ⟨n, hn, hz⟩ := kf_mem h
  exact hO.link n (List.mem_iff_getElem?.2 ⟨_, hn⟩) z hz
theorem fnd_mem {ns : List Nd} {k : Int} {ps : List Int} {x : Int × Int} (h : x ∈ fndP ns k ps) : x.2 ∈ ps ∧ x.1 ∈ kfOf ns x.2 ∧ kdOf ns x.1.toNat = k := by
  obtain ⟨q, hq, hx⟩ := List.mem_flatMap.1 h
  obtain ⟨z, hz, rfl⟩ := List.mem_map.1 hx
  obtain ⟨h1, h2⟩ := List.mem_filter.1 hz
  exact ⟨hq, h1, by simpa using h2⟩
theorem first_mem {ns : List Nd} {k p z : Int} (h : z ∈ firstK ns k p) : z ∈ kfOf ns p ∧ kdOf ns z.toNat = k := by
  obtain ⟨h1, h2⟩ := List.mem_filter.1 (List.mem_of_mem_take h)
  exact ⟨h1, by simpa using h2⟩
theorem one_mem {ns : List Nd} {mv : List Int} {z : Int} {x : Int × Int} (h : x ∈ oneR ns mv z) :
    (x = (z, -1) ∧ kdOf ns z.toNat = 9) ∨ (x.2 = z ∧ x.1 ∈ kfOf ns z ∧ kdOf ns x.1.toNat = 9 ∧ (kdOf ns z.toNat = 6 ∨ kdOf ns z.toNat = 7 ∨ kdOf ns z.toNat = 8) ∧ (kdOf ns z.toNat = 7 ∨ z ∉ mv)) := by
  unfold oneR at h
  by_cases k9 : kdOf ns z.toNat = 9
  · rw [if_pos k9] at h
    exact .inl ⟨by simpa using h, k9⟩
  · rw [if_neg k9] at h
    by_cases k68 : kdOf ns z.toNat = 6 ∨ kdOf ns z.toNat = 8
    · rw [if_pos k68] at h
      by_cases hc : mv.contains z = true
      · rw [if_pos hc] at h; cases h
      · rw [if_neg hc] at h
        obtain ⟨h1, h2, h3⟩ := fnd_mem h
        have e : x.2 = z := by simpa using h1
        rw [e] at h2
        exact .inr ⟨e, h2, h3, by omega, .inr (by simpa using hc)⟩
    · rw [if_neg k68] at h
      by_cases k7 : kdOf ns z.toNat = 7
      · rw [if_pos k7] at h
        obtain ⟨h1, h2, h3⟩ := fnd_mem h
        have e : x.2 = z := by simpa using h1
        rw [e] at h2
        exact .inr ⟨e, h2, h3, by omega, .inl k7⟩
      · rw [if_neg k7] at h; cases h
/-- where a row comes from -/
theorem rows_mem {ns : List Nd} {p : Int} {x : Int × Int} (h : x ∈ rowsP ns p) :
    kdOf ns x.1.toNat = 9 ∧ ((x.2 = -1 ∧ x.1 ∈ kfOf ns p) ∨ (x.2 ∈ kfOf ns p ∧ (kdOf ns x.2.toNat = 6 ∨ kdOf ns x.2.toNat = 7 ∨ kdOf ns x.2.toNat = 8) ∧ x.1 ∈ kfOf ns x.2)) := by
  unfold rowsP at h
  rcases List.mem_append.1 h with h | h
  · rcases List.mem_append.1 h with h | h
    · obtain ⟨h1, h2, h3⟩ := fnd_mem h
      obtain ⟨h4, h5⟩ := first_mem h1
      exact ⟨h3, .inr ⟨h4, .inl h5, h2⟩⟩
    · obtain ⟨z, hz, hx⟩ := List.mem_flatMap.1 h
      rcases one_mem hx with ⟨rfl, h9⟩ | ⟨e, h2, h3, h4, _⟩
      · exact ⟨h9, .inl ⟨rfl, hz⟩⟩
      · exact ⟨h3, .inr ⟨by rw [e]; exact hz, by rw [e]; exact h4, by rw [e]; exact h2⟩⟩
  · obtain ⟨h1, h2, h3⟩ := fnd_mem h
    obtain ⟨h4, h5⟩ := first_mem h1
    exact ⟨h3, .inr ⟨h4, .inr (.inr h5), h2⟩⟩
theorem rows_in {ns : List Nd} (hO : PageOk ns) {p : Int} {x : Int × Int} (h : x ∈ rowsP ns p) : 0 ≤ x.1 ∧ x.1 < (ns.length : Int) ∧ -1 ≤ x.2 ∧ x.2 < (ns.length : Int) := by
  obtain ⟨_, ⟨h1, h2⟩ | ⟨h1, _, h2⟩⟩ := rows_mem h
  · have := kf_link hO h2; omega
  · have := kf_link hO h2; have := kf_link hO h1; omega
/-- the order of heads, bodies, feet -/
theorem ord_ok {A B C : List (Int × Int)} {f l : Int} (hA : ∀ x ∈ A, x.2 = f ∧ 0 ≤ f) (hB : ∀ x ∈ B, (0 ≤ f → x.2 ≠ f) ∧ (0 ≤ l → x.2 ≠ l)) (hC : ∀ x ∈ C, x.2 = l ∧ 0 ≤ l) (hne : 0 ≤ f → 0 ≤ l → f ≠ l) (i : Nat) (x y : Int × Int)
    (hx : (A ++ B ++ C)[i]? = some x) (hy : (A ++ B ++ C)[i + 1]? = some y) : ¬ (y.2 = f ∧ 0 ≤ f ∧ x.2 ≠ f) ∧ ¬ (x.2 = l ∧ 0 ≤ l ∧ y.2 ≠ l) := by
  have key : ∀ (j : Nat) (z : Int × Int), (A ++ B ++ C)[j]? = some z → (j < A.length ∧ z ∈ A) ∨ (A.length ≤ j ∧ j < A.length + B.length ∧ z ∈ B) ∨ (A.length + B.length ≤ j ∧ z ∈ C) := fun j z h => by
    by_cases h1 : j < A.length
    · rw [List.append_assoc, List.getElem?_append_left h1] at h
      exact .inl ⟨h1, List.mem_iff_getElem?.2 ⟨_, h⟩⟩
    · by_cases h2 : j < (A ++ B).length
      · rw [List.getElem?_append_left h2, List.getElem?_append_right (by omega)] at h
        exact .inr (.inl ⟨by omega, by simpa using h2, List.mem_iff_getElem?.2 ⟨_, h⟩⟩)
      · rw [List.getElem?_append_right (by omega)] at h
        exact .inr (.inr ⟨by simpa using h2, List.mem_iff_getElem?.2 ⟨_, h⟩⟩)
  constructor
  · rintro ⟨h1, h2, h3⟩
    rcases key _ _ hy with ⟨a, b⟩ | ⟨_, _, b⟩ | ⟨_, b⟩
    · rcases key _ _ hx with ⟨_, d⟩ | ⟨c, _⟩ | ⟨c, _⟩
      · exact h3 (hA x d).1
      · omega
      · omega
    · exact (hB y b).1 h2 h1
    · have := hC y b
      exact hne h2 this.2 (by omega)
  · rintro ⟨h1, h2, h3⟩
    rcases key _ _ hx with ⟨a, b⟩ | ⟨_, _, b⟩ | ⟨a, b⟩
    · have := hA x b
      exact hne this.2 h2 (by omega)
    · exact (hB x b).2 h2 h1
    · rcases key _ _ hy with ⟨c, _⟩ | ⟨_, c, _⟩ | ⟨_, d⟩
      · omega
      · omega
      · exact h3 (hC y d).1
theorem first_form (ns : List Nd) (k p : Int) : firstK ns k p = [] ∧ kindK ns k p = [] ∨ ∃ h t, kindK ns k p = h :: t ∧ firstK ns k p = [h] := by
  unfold firstK
  cases hk : kindK ns k p with
  | nil => exact .inl ⟨rfl, rfl⟩
  | cons h t => exact .inr ⟨h, t, rfl, rfl⟩
/-- the first of a kind, or -1 -/
def firstN (ns : List Nd) (k : Int) (l : List Int) : Int := ((l.filter fun z => decide (kdOf ns z.toNat = k)).head?).getD (-1)
theorem firstN_of (ns : List Nd) (k p : Int) : firstK ns k p = [] ∧ firstN ns k (kfOf ns p) = -1 ∨ firstK ns k p = [firstN ns k (kfOf ns p)] := by
  rcases first_form ns k p with ⟨h1, h2⟩ | ⟨h, t, h1, h2⟩
  · refine .inl ⟨h1, ?_⟩
    unfold kindK at h2
    unfold firstN; rw [h2]; rfl
  · refine .inr ?_
    unfold kindK at h1
    unfold firstN; rw [h1, h2]; rfl
theorem heads_ok {ns : List Nd} (hO : PageOk ns) (p : Int) (i : Nat) (x y : Int × Int) (hx : (rowsP ns p)[i]? = some x) (hy : (rowsP ns p)[i + 1]? = some y) :
    ¬ (y.2 = firstN ns 6 (kfOf ns p) ∧ 0 ≤ firstN ns 6 (kfOf ns p) ∧ x.2 ≠ firstN ns 6 (kfOf ns p)) ∧ ¬ (x.2 = firstN ns 8 (kfOf ns p) ∧ 0 ≤ firstN ns 8 (kfOf ns p) ∧ y.2 ≠ firstN ns 8 (kfOf ns p)) := by
  have hin : ∀ k, (firstK ns k p = [] ∧ firstN ns k (kfOf ns p) = -1) ∨ (firstK ns k p = [firstN ns k (kfOf ns p)] ∧ 0 ≤ firstN ns k (kfOf ns p) ∧ kdOf ns (firstN ns k (kfOf ns p)).toNat = k) := fun k => by
    rcases firstN_of ns k p with h | h
    · exact .inl h
    · obtain ⟨h1, h2⟩ := first_mem (ns := ns) (k := k) (p := p) (z := firstN ns k (kfOf ns p)) (by rw [h]; simp)
      exact .inr ⟨h, (kf_link hO h1).1, h2⟩
  unfold rowsP at hx hy
  refine ord_ok (f := firstN ns 6 (kfOf ns p)) (l := firstN ns 8 (kfOf ns p)) (fun x hx => ?_) (fun x hx => ?_) (fun x hx => ?_) (fun h1 h2 e => ?_) i x y hx hy
  · obtain ⟨h1, _⟩ := fnd_mem hx
    rcases hin 6 with ⟨h, _⟩ | ⟨h, h0, _⟩
    · rw [h] at h1; cases h1
    · rw [h] at h1; exact ⟨by simpa using h1, h0⟩
  · obtain ⟨z, hz, hx⟩ := List.mem_flatMap.1 hx
    have hz0 := (kf_link hO hz).1
    rcases one_mem hx with ⟨rfl, _⟩ | ⟨e, _, _, h4, h5⟩
    · exact ⟨fun h => by dsimp only; omega, fun h => by dsimp only; omega⟩
    · have hno : ∀ k, (k = 6 ∨ k = 8) → 0 ≤ firstN ns k (kfOf ns p) → x.2 ≠ firstN ns k (kfOf ns p) := fun k hk h0 hq => by
        rcases hin k with ⟨_, h⟩ | ⟨h, _, h2⟩
        · omega
        · rw [← hq, e] at h2
          rcases h5 with h5 | h5
          · omega
          · apply h5
            have : z ∈ firstK ns k p := by rw [h, ← hq, e]; simp
            rcases hk with rfl | rfl
            · exact List.mem_append_left _ this
            · exact List.mem_append_right _ this
      exact ⟨hno 6 (.inl rfl), hno 8 (.inr rfl)⟩
  · obtain ⟨h1, _⟩ := fnd_mem hx
    rcases hin 8 with ⟨h, _⟩ | ⟨h, h0, _⟩
    · rw [h] at h1; cases h1
    · rw [h] at h1; exact ⟨by simpa using h1, h0⟩
  · rcases hin 6 with ⟨_, h⟩ | ⟨_, _, h6⟩
    · omega
    · rcases hin 8 with ⟨_, h⟩ | ⟨_, _, h8⟩
      · omega
      · rw [e] at h6; omega
/-- kids of a tree's node are told apart -/
theorem Tr.kf_nodup {ns : List Nd} (h : Tr ns) (p : Int) : (kfOf ns p).Nodup := by
  rw [List.nodup_iff_count]
  intro y
  unfold kfOf
  cases hq : ns[p.toNat]? with
  | none => simp
  | some n => exact h.one hq y
theorem Tr.kf_up {ns : List Nd} (h : Tr ns) {p q y : Int} (hp : 0 ≤ p) (hq : 0 ≤ q) (h1 : y ∈ kfOf ns p) (h2 : y ∈ kfOf ns q) : p = q := by
  obtain ⟨n, hn, hy⟩ := kf_mem h1
  obtain ⟨n', hn', hy'⟩ := kf_mem h2
  have := h.up hn hn' hy hy'
  omega
theorem fnd_nodup {ns : List Nd} (h : Tr ns) (k p : Int) : (fndP ns k (firstK ns k p)).Nodup ∧ ∀ k', (fndP ns k' (firstK ns k p)).Nodup := by
  have : ∀ k', (fndP ns k' (firstK ns k p)).Nodup := fun k' => by
    rcases first_form ns k p with ⟨h1, _⟩ | ⟨z, t, _, h1⟩
    · rw [h1]; simp [fndP]
    · rw [h1]
      unfold fndP kindK
      simp only [List.flatMap_cons, List.flatMap_nil, List.append_nil]
      unfold List.Nodup
      rw [List.pairwise_map]
      exact (((h.kf_nodup z).filter _).imp fun {a b} hab e => hab (by injection e))
  exact ⟨this k, this⟩
theorem one_nodup {ns : List Nd} (h : Tr ns) (mv : List Int) (z : Int) : (oneR ns mv z).Nodup := by
  have hf : (fndP ns 9 [z]).Nodup := by
    unfold fndP kindK
    simp only [List.flatMap_cons, List.flatMap_nil, List.append_nil]
    unfold List.Nodup
    rw [List.pairwise_map]
    exact (((h.kf_nodup z).filter _).imp fun {a b} hab e => hab (by injection e))
  unfold oneR
  split
  · simp
  · split
    · split
      · simp
      · exact hf
    · split
      · exact hf
      · simp
theorem rows_nodup {ns : List Nd} (h : Tr ns) (hO : PageOk ns) (p : Int) : (rowsP ns p).Nodup := by
  unfold rowsP
  have hA := (fnd_nodup h 6 p).2 9
  have hC := (fnd_nodup h 8 p).2 9
  have hB : ((kfOf ns p).flatMap (oneR ns (firstK ns 6 p ++ firstK ns 8 p))).Nodup := by
    unfold List.Nodup
    rw [List.pairwise_flatMap]
    refine ⟨fun z _ => one_nodup h _ z, ?_⟩
    refine (h.kf_nodup p).imp_of_mem (fun {a b} ha hb hab x hx y hy e => hab ?_)
    have ha0 := (kf_link hO ha).1
    have hb0 := (kf_link hO hb).1
    subst e
    rcases one_mem hx with ⟨rfl, _⟩ | ⟨e1, _⟩ <;> rcases one_mem hy with ⟨e2, _⟩ | ⟨e2, _⟩
    · injection e2
    · dsimp only at e2; omega
    · rw [e2] at e1; dsimp only at e1; omega
    · omega
  have hmv : ∀ x ∈ (kfOf ns p).flatMap (oneR ns (firstK ns 6 p ++ firstK ns 8 p)), x.2 ∉ firstK ns 6 p ∧ x.2 ∉ firstK ns 8 p := fun x hx => by
    obtain ⟨z, hz, hx⟩ := List.mem_flatMap.1 hx
    rcases one_mem hx with ⟨rfl, _⟩ | ⟨e, _, _, h4, h5⟩
    · exact ⟨fun hm => by have := (kf_link hO (first_mem hm).1).1; dsimp only at this; omega, fun hm => by have := (kf_link hO (first_mem hm).1).1; dsimp only at this; omega⟩
    · rw [e]
      rcases h5 with h5 | h5
      · exact ⟨fun hm => by have := (first_mem hm).2; omega, fun hm => by have := (first_mem hm).2; omega⟩
      · exact ⟨fun hm => h5 (List.mem_append_left _ hm), fun hm => h5 (List.mem_append_right _ hm)⟩
  rw [List.nodup_append, List.nodup_append]
  refine ⟨⟨hA, hB, fun a ha b hb e => ?_⟩, hC, fun a ha b hb e => ?_⟩
  · subst e; exact (hmv a hb).1 (fnd_mem ha).1
  · subst e
    rcases List.mem_append.1 ha with ha | ha
    · have h1 := (first_mem (fnd_mem ha).1).2
      have h2 := (first_mem (fnd_mem hb).1).2
      omega
    · exact (hmv a ha).2 (fnd_mem hb).1
/-- each row is there once -/
theorem rows_once {ns : List Nd} (h : Tr ns) (hO : PageOk ns) {p : Nat} (hk : kdOf ns p = 2) (z : Int) : ((rowsP ns p).map Prod.fst).count z ≤ 1 := by
  have hn : ((rowsP ns p).map Prod.fst).Nodup := by
    unfold List.Nodup
    rw [List.pairwise_map]
    refine (rows_nodup h hO p).imp_of_mem (fun {a b} ha hb hab e => hab ?_)
    obtain ⟨_, ⟨a1, a2⟩ | ⟨a1, a3, a2⟩⟩ := rows_mem ha <;> obtain ⟨_, ⟨b1, b2⟩ | ⟨b1, b3, b2⟩⟩ := rows_mem hb
    · exact Prod.ext e (by rw [a1, b1])
    · rw [e] at a2
      have := h.kf_up (by omega) (kf_link hO b1).1 a2 b2
      rw [← this, Int.toNat_natCast, hk] at b3; omega
    · rw [← e] at b2
      have := h.kf_up (by omega) (kf_link hO a1).1 b2 a2
      rw [← this, Int.toNat_natCast, hk] at a3; omega
    · rw [e] at a2
      exact Prod.ext e (h.kf_up (kf_link hO a1).1 (kf_link hO b1).1 a2 b2)
  rw [List.nodup_iff_count] at hn
  exact hn z
/-- how many rows a kid has -/
def rowW (ns : List Nd) (z : Int) : Nat := if kdOf ns z.toNat = 9 then 1 else if 6 ≤ kdOf ns z.toNat ∧ kdOf ns z.toNat ≤ 8 then (kindK ns 9 z).length else 0
theorem one_len (ns : List Nd) (mv : List Int) (hmv : ∀ z ∈ mv, kdOf ns z.toNat = 6 ∨ kdOf ns z.toNat = 8) (z : Int) : (oneR ns mv z).length = if mv.contains z = true then 0 else rowW ns z := by
  have hf : (fndP ns 9 [z]).length = (kindK ns 9 z).length := by simp [fndP]
  unfold oneR rowW
  by_cases hc : mv.contains z = true
  · rw [if_pos hc]
    have := hmv z (by simpa using hc)
    rw [if_neg (show ¬ kdOf ns z.toNat = 9 by omega), if_pos this, if_pos hc]; rfl
  · simp only [if_neg hc]
    by_cases k9 : kdOf ns z.toNat = 9
    · rw [if_pos k9, if_pos k9]; rfl
    · rw [if_neg k9, if_neg k9]
      by_cases k68 : kdOf ns z.toNat = 6 ∨ kdOf ns z.toNat = 8
      · rw [if_pos k68, if_pos (show 6 ≤ kdOf ns z.toNat ∧ kdOf ns z.toNat ≤ 8 by omega), hf]
      · rw [if_neg k68]
        by_cases k7 : kdOf ns z.toNat = 7
        · rw [if_pos k7, if_pos (show 6 ≤ kdOf ns z.toNat ∧ kdOf ns z.toNat ≤ 8 by omega), hf]
        · rw [if_neg k7, if_neg (show ¬ (6 ≤ kdOf ns z.toNat ∧ kdOf ns z.toNat ≤ 8) by omega)]; rfl
def sumW (f : Int → Nat) : List Int → Nat
  | [] => 0
  | z :: l => f z + sumW f l
theorem sumW_append (f : Int → Nat) : ∀ (a b : List Int), sumW f (a ++ b) = sumW f a + sumW f b
  | [], b => by simp [sumW]
  | z :: a, b => by simp [sumW, sumW_append f a b]; omega
theorem sumW_not (f : Int → Nat) (h : Int) : ∀ (l : List Int), h ∉ l → sumW (fun z => if z = h then 0 else f z) l = sumW f l
  | [], _ => rfl
  | z :: l, hn => by
    simp only [List.mem_cons, not_or] at hn
    simp only [sumW]
    rw [if_neg (fun e => hn.1 e.symm), sumW_not f h l hn.2]
theorem sumW_out (f : Int → Nat) (h : Int) : ∀ (l : List Int), l.Nodup → h ∈ l → sumW f l = f h + sumW (fun z => if z = h then 0 else f z) l
  | [], _, hm => by cases hm
  | z :: l, hd, hm => by
    obtain ⟨h1, h2⟩ := List.nodup_cons.1 hd
    simp only [sumW]
    by_cases e : z = h
    · subst e
      rw [if_pos rfl, sumW_not f z l h1]; omega
    · rw [if_neg e, sumW_out f h l h2 (by rcases List.mem_cons.1 hm with h | h; exact absurd h.symm e; exact h)]; omega
theorem sumW_congr {f g : Int → Nat} : ∀ (l : List Int), (∀ z ∈ l, f z = g z) → sumW f l = sumW g l
  | [], _ => rfl
  | z :: l, h => by simp only [sumW]; rw [h z (by simp), sumW_congr l (fun y hy => h y (by simp [hy]))]
theorem flat_len {β : Type} (g : Int → List β) : ∀ (l : List Int), (l.flatMap g).length = sumW (fun z => (g z).length) l
  | [] => rfl
  | z :: l => by rw [List.flatMap_cons, List.length_append, flat_len g l]; rfl
theorem rows_len {ns : List Nd} (h : Tr ns) (p : Int) : (rowsP ns p).length = sumW (rowW ns) (kfOf ns p) := by
  have hd := h.kf_nodup p
  have hmv : ∀ z ∈ firstK ns 6 p ++ firstK ns 8 p, kdOf ns z.toNat = 6 ∨ kdOf ns z.toNat = 8 := fun z hz => by
    rcases List.mem_append.1 hz with hz | hz
    · exact .inl (first_mem hz).2
    · exact .inr (first_mem hz).2
  unfold rowsP
  rw [List.length_append, List.length_append, flat_len]
  rw [sumW_congr (g := fun z => if (firstK ns 6 p ++ firstK ns 8 p).contains z = true then 0 else rowW ns z) _ (fun z _ => one_len ns _ hmv z)]
  have hw : ∀ k z, (k = 6 ∨ k = 8) → kdOf ns z.toNat = k → (fndP ns 9 [z]).length = rowW ns z := fun k z hk hz => by
    unfold rowW
    rw [if_neg (by omega), if_pos (by omega)]
    simp [fndP]
  rcases first_form ns 6 p with ⟨h6, _⟩ | ⟨a, ta, _, h6⟩ <;> rcases first_form ns 8 p with ⟨h8, _⟩ | ⟨b, tb, _, h8⟩
  · rw [h6, h8]; simp [fndP]
  · have mb := first_mem (ns := ns) (k := 8) (p := p) (z := b) (by rw [h8]; simp)
    rw [h6, h8, hw 8 b (.inr rfl) mb.2, sumW_out (rowW ns) b _ hd mb.1]
    simp only [fndP, List.flatMap_nil, List.length_nil, List.nil_append, Nat.zero_add]
    rw [sumW_congr (g := fun z => if z = b then 0 else rowW ns z) _ (fun z _ => by by_cases e : z = b <;> simp [e])]
    omega
  · have ma := first_mem (ns := ns) (k := 6) (p := p) (z := a) (by rw [h6]; simp)
    rw [h6, h8, hw 6 a (.inl rfl) ma.2, sumW_out (rowW ns) a _ hd ma.1]
    simp only [fndP, List.flatMap_nil, List.length_nil, List.append_nil, Nat.add_zero]
    rw [sumW_congr (g := fun z => if z = a then 0 else rowW ns z) _ (fun z _ => by by_cases e : z = a <;> simp [e])]
  · have ma := first_mem (ns := ns) (k := 6) (p := p) (z := a) (by rw [h6]; simp)
    have mb := first_mem (ns := ns) (k := 8) (p := p) (z := b) (by rw [h8]; simp)
    have hab : b ≠ a := fun e => by rw [e] at mb; omega
    rw [h6, h8, hw 6 a (.inl rfl) ma.2, hw 8 b (.inr rfl) mb.2, sumW_out (rowW ns) a _ hd ma.1, sumW_out (fun z => if z = a then 0 else rowW ns z) b _ hd mb.1, if_neg hab]
    rw [sumW_congr (f := fun z => if ([a] ++ [b]).contains z = true then 0 else rowW ns z) (g := fun z => if z = b then 0 else if z = a then 0 else rowW ns z) _ (fun z _ => by by_cases e1 : z = a <;> by_cases e2 : z = b <;> simp [e1, e2])]
    omega
end Go.Proofs.Ytgaclepoipaecaa

namespace Go.Proofs.Ytgaclepoipaecaa
open Go.RowKit Go.Shelf
set_option linter.unusedVariables false

theorem kindK_ge (ns : List Nd) (p : Nat) {n : Nd} (hn : ns[p]? = some n) : kfOf ns (p : Int) = n.ks := by unfold kfOf; rw [Int.toNat_natCast, hn]; rfl
/-- what lies at a place of a page, as a law reads it -/
structure PlaceAt (W : World) (b off p : Nat) (n : Nd) (q : Option Addr) (kl c : Nat) : Prop where
  kv : n.kv = .slice q kl c
  len : n.ks.length = kl
  ck : W.cell? ⟨b, off + p * 34 + 1, none⟩ = some (.slice q kl c)
  ints : Ints W (.slice q kl c) n.ks
  lt : b < W.heap.size
theorem place_at {W : World} {b off m cap : Nat} {ns : List Nd} (hP : PageAt W (.slice (some ⟨b, off, none⟩) m cap) ns) {p : Nat} {n : Nd} (hn : ns[p]? = some n) : ∃ q kl c, PlaceAt W b off p n q kl c := by
  have hl := (List.getElem?_eq_some_iff.1 hn).1
  have hm : ns.length = m := by obtain ⟨q', c', e⟩ := hP.form; injection e with _ e; exact e.symm
  obtain ⟨b', off', e, _, hc⟩ := page_cells hP (by omega)
  injection e with e; injection e with e1 e2
  subst e1 e2
  obtain ⟨_, h1, h2, h3⟩ := hc p n hn
  obtain ⟨q, c, hq⟩ := h2.form
  exact ⟨q, n.ks.length, c, hq, rfl, by rw [← hq]; exact h1, by rw [← hq]; exact h2, h3⟩
theorem kd_at {W : World} {b off m cap : Nat} {ns : List Nd} (hP : PageAt W (.slice (some ⟨b, off, none⟩) m cap) ns) (j : Nat) (hj : j < m) : W.cell? ⟨b, off + j * 34, none⟩ = some (.int .i64 (kdOf ns j)) := by
  obtain ⟨b', off', e, h, _⟩ := kd_cell hP j hj
  injection e with e; injection e with e1 e2
  subst e1 e2
  exact h
theorem some_page {W : World} {q : Option Addr} {m cap : Nat} {ns : List Nd} (hP : PageAt W (.slice q m cap) ns) (hm : 1 ≤ m) : ∃ b off, q = some ⟨b, off, none⟩ := by
  obtain ⟨b, off, e, _⟩ := page_cells hP hm
  exact ⟨b, off, e⟩
/-- a list's kids, read one by one -/
theorem LanesAt.at {W : World} {q : Option Addr} {l c : Nat} {E : List (Int × Int)} (h : LanesAt W (.slice q l c) E) (i : Nat) (x : Int × Int) (hx : E[i]? = some x) : ∃ b off, q = some ⟨b, off, none⟩ ∧ W.cell? ⟨b, off + i * 2, none⟩ = some (.int .i64 x.1) ∧ W.cell? ⟨b, off + i * 2 + 1, none⟩ = some (.int .i64 x.2) ∧ b < W.heap.size := by
  obtain ⟨_, ⟨a, c', e, rfl⟩ | ⟨b, off, c', e, hc⟩⟩ := h
  · simp at hx
  · injection e with e1 e2 e3
    obtain ⟨h1, h2⟩ := hc i x hx
    exact ⟨b, off, e1, h1, h2, cell_lt h1⟩
end Go.Proofs.Ytgaclepoipaecaa
