/- Pages that a call makes itself: n nodes without anything, then kids laid in, node by node. -/
import Derived.Test.YtecnapecmioamaaTPages
namespace Go.Proofs.Ytecnapecmioamaa
open Go.RowKit Go.Shelf
set_option linter.unusedVariables false

theorem Try.infoNd2 : (Try.prog.info? 47).map (fun i => (i.zero, i.size, i.bytes)) = some (some (.agg Nd.zero.cells.toArray), 34, 288) := by kernel_rfl
/-- the cells of some nodes, one behind the other -/
def flatN (ns : List Nd) : List Value := ns.flatMap Nd.cells
theorem flatN_len (ns : List Nd) : (flatN ns).length = ns.length * 34 := by
  induction ns with
  | nil => rfl
  | cons a ns ih => unfold flatN at *; rw [List.flatMap_cons, List.length_append, ih, a.len, List.length_cons]; omega
theorem flat_at' (ns : List Nd) (k : Nat) (hk : k < ns.length * 34) : ∃ n, ns[k / 34]? = some n ∧ (flatN ns)[k]? = n.cells[k % 34]? := by
  have hi : k / 34 < ns.length := by omega
  refine ⟨ns[k / 34], List.getElem?_eq_getElem hi, ?_⟩
  have hj : k % 34 < (ns[k / 34]).cells.length := by rw [Nd.len]; omega
  have := flat_get ns (k / 34) ns[k / 34] (k % 34) _ (List.getElem?_eq_getElem hi) (List.getElem?_eq_getElem hj)
  rw [show k / 34 * 34 + k % 34 = k by omega] at this
  unfold flatN
  rw [this, List.getElem?_eq_getElem hj]
/-- one node's kids are laid in -/
theorem flat_set (ns : List Nd) (i : Nat) (n : Nd) (kv : Value) (ks : List Int) (hi : ns[i]? = some n) : (flatN ns).set (i * 34 + 1) kv = flatN (ns.set i { n with kv := kv, ks := ks }) := by
  have hil := (List.getElem?_eq_some_iff.1 hi).1
  apply List.ext_getElem?
  intro k
  by_cases hk : k < ns.length * 34
  · obtain ⟨a, ha, hb⟩ := flat_at' (ns.set i { n with kv := kv, ks := ks }) k (by simpa using hk)
    obtain ⟨a', ha', hb'⟩ := flat_at' ns k hk
    rw [hb]
    by_cases he : k = i * 34 + 1
    · subst he
      rw [List.getElem?_set_self (by rw [flatN_len]; omega)]
      rw [show (i * 34 + 1) / 34 = i by omega, List.getElem?_set_self hil] at ha
      injection ha with ha
      subst ha
      rw [show (i * 34 + 1) % 34 = 1 by omega]
      rfl
    · rw [List.getElem?_set_ne (by omega), hb']
      by_cases hd : k / 34 = i
      · rw [hd, List.getElem?_set_self hil] at ha
        rw [hd, hi] at ha'
        injection ha with ha; injection ha' with ha'
        subst ha ha'
        have hm : k % 34 ≠ 1 := by omega
        unfold Nd.cells ndCells
        dsimp only
        match hq : k % 34, hm with
        | 0, _ => rfl
        | j + 2, _ => rfl
      · rw [List.getElem?_set_ne (fun e => hd e.symm), ha'] at ha
        injection ha with ha
        rw [ha]
  · rw [List.getElem?_eq_none (by rw [List.length_set, flatN_len]; omega), List.getElem?_eq_none (by rw [flatN_len, List.length_set]; omega)]
theorem made_get (z : Array Value) (n k : Nat) (h : k < n) : (madeCells z n)[k]? = some (z[k % z.size]!) := by simp [madeCells, h]
theorem made_nodes (n : Nat) : madeCells (Value.agg Nd.zero.cells.toArray).cells (n * 34) = (flatN (List.replicate n Nd.zero)).toArray := by
  apply Array.ext_getElem?
  intro k
  by_cases h3 : k < n * 34
  · obtain ⟨a, ha, hb⟩ := flat_at' (List.replicate n Nd.zero) k (by simpa using h3)
    have : a = Nd.zero := by
      rw [List.getElem?_replicate] at ha
      split at ha
      · injection ha with ha; exact ha.symm
      · cases ha
    subst this
    have hm : k % 34 < Nd.zero.cells.length := by rw [Nd.len]; omega
    have hs : (Value.agg Nd.zero.cells.toArray).cells = Nd.zero.cells.toArray := rfl
    rw [made_get _ _ _ h3, List.getElem?_toArray, hb, hs]
    have hsz : Nd.zero.cells.toArray.size = 34 := nd_size0
    rw [hsz, getElem!_pos _ _ (by rw [hsz]; omega), List.getElem?_eq_getElem hm]
    rfl
  · rw [Array.getElem?_eq_none (by rw [size_madeCells]; omega), List.getElem?_toArray, List.getElem?_eq_none (by rw [flatN_len]; simp; omega)]
theorem make_nodes (n : Nat) (hn : n ≤ 1000000) (w : World) : (Instr.makeSlice 22 (.int .i64 n) (.int .i64 n)).run Try.prog w = .ok (.slice (some ⟨w.heap.size, 0, none⟩) n n) (w.alloc (.cells (flatN (List.replicate n Nd.zero)).toArray 47)) := by
  cases hi : Try.prog.info? 47 with
  | none => have := Try.infoNd2; rw [hi] at this; cases this
  | some i =>
    have h := Try.infoNd2
    rw [hi] at h
    simp only [Option.map_some, Option.some.injEq, Prod.mk.injEq] at h
    obtain ⟨hz, h1, h2⟩ := h
    have hr := run_make (P := Try.prog) w 22 47 i _ Try.underlying22 hi hz .i64 .i64 n n (by omega) (Int.le_refl _) (by rw [h2]; omega) (by omega)
    rw [hr, h1]
    simp only [Int.toNat_natCast]
    rw [made_nodes]
/-- numbers that lie, if there are any, elsewhere than in block L -/
def Apart (L : Nat) (v : Value) (zs : List Int) : Prop := zs = [] ∨ ∃ b off cap, v = .slice (some ⟨b, off, none⟩) zs.length cap ∧ b ≠ L
/-- a page without styles lies in a block -/
def ZAt (X : World) (L n : Nat) (kvf : Nat → Value) (ksf : Nat → List Int) : Prop := Whole X L 47 (flatN (zeroPg n kvf ksf)) ∧ ∀ i, i < n → Ints X (kvf i) (ksf i) ∧ CapOk (kvf i) ∧ Apart L (kvf i) (ksf i)
theorem ZAt.page {X : World} {L n cap : Nat} {kvf : Nat → Value} {ksf : Nat → List Int} (h : ZAt X L n kvf ksf) (hn : n ≤ 9223372036854775807) : PageAt X (.slice (some ⟨L, 0, none⟩) n cap) (zeroPg n kvf ksf) :=
  page_flat h.1 (zero_len _ _ _) hn fun nd hnd => by
    obtain ⟨i, hi, rfl⟩ := zero_mem hnd
    exact nd_kids_ok (h.2 i hi).1 (h.2 i hi).2.1
theorem ZAt.start (w : World) (n : Nat) : ZAt (w.alloc (.cells (flatN (List.replicate n Nd.zero)).toArray 47)) w.heap.size n (fun _ => .slice none 0 0) (fun _ => []) := by
  have e : zeroPg n (fun _ => .slice none 0 0) (fun _ => []) = List.replicate n Nd.zero := by
    unfold zeroPg
    rw [show (fun (i : Nat) => ndKids (.slice none 0 0) []) = fun _ => Nd.zero from rfl]
    simp [List.map_const']
  exact ⟨by rw [e]; exact whole_new w _ _ _ rfl, fun i _ => ⟨ints_nil _, capok_slice _ _ _ (by omega) (by omega), .inl rfl⟩⟩
theorem ZAt.below {X Y : World} {L n : Nat} {kvf : Nat → Value} {ksf : Nat → List Int} (h : ZAt X L n kvf ksf) (hb : Below X.heap.size X Y) : ZAt Y L n kvf ksf :=
  ⟨h.1.below hb h.1.lt, fun i hi => ⟨(h.2 i hi).1.below hb, (h.2 i hi).2⟩⟩
theorem Ints.setApart {X : World} {v : Value} {zs : List Int} (h : Ints X v zs) (a : Addr) (u : Value) (hne : Apart a.block v zs) : Ints (X.setCell a u) v zs := by
  obtain ⟨h1, h2 | ⟨b, off, cap, e, hc⟩⟩ := h
  · exact ⟨h1, .inl h2⟩
  · refine ⟨h1, .inr ⟨b, off, cap, e, fun j hj => ?_⟩⟩
    have hb : b ≠ a.block := by
      rcases hne with rfl | ⟨b', off', cap', e', hb⟩
      · simp at hj
      · rw [e] at e'; injection e' with e1; injection e1 with e1; injection e1 with e1; rw [e1]; exact hb
    exact (World.cell?_of_block (a := ⟨b, off + j, none⟩) (Below.heap_setCell X a u b hb)).trans (hc j hj)
def updF {α : Type} (f : Nat → α) (i : Nat) (v : α) : Nat → α := fun j => if j = i then v else f j
theorem zero_set (n : Nat) (kvf : Nat → Value) (ksf : Nat → List Int) (i : Nat) (hi : i < n) (kv : Value) (ks : List Int) : (zeroPg n kvf ksf).set i (ndKids kv ks) = zeroPg n (updF kvf i kv) (updF ksf i ks) := by
  apply List.ext_getElem?
  intro j
  by_cases hj : j < n
  · rw [zero_get _ _ _ _ hj]
    by_cases he : j = i
    · subst he; rw [List.getElem?_set_self (by rw [zero_len]; exact hj)]; simp [updF]
    · rw [List.getElem?_set_ne (by omega), zero_get _ _ _ _ hj]; simp [updF, he]
  · rw [List.getElem?_eq_none (by rw [List.length_set, zero_len]; omega), List.getElem?_eq_none (by rw [zero_len]; omega)]
theorem ZAt.put {X : World} {L n : Nat} {kvf : Nat → Value} {ksf : Nat → List Int} (h : ZAt X L n kvf ksf) (i : Nat) (hi : i < n) (kv : Value) (ks : List Int) (h1 : Ints X kv ks) (h2 : CapOk kv) (h3 : Apart L kv ks) :
    ZAt (X.setCell ⟨L, i * 34 + 1, none⟩ kv) L n (updF kvf i kv) (updF ksf i ks) := by
  refine ⟨?_, fun j hj => ?_⟩
  · have := h.1.set (i * 34 + 1) kv
    rw [flat_set _ i _ kv ks (zero_get n kvf ksf i hi)] at this
    rw [← zero_set n kvf ksf i hi kv ks]
    exact this
  · unfold updF
    by_cases he : j = i
    · rw [if_pos he, if_pos he]; exact ⟨h1.setApart _ _ h3, h2, h3⟩
    · rw [if_neg he, if_neg he]; exact ⟨(h.2 j hj).1.setApart _ _ (h.2 j hj).2.2, (h.2 j hj).2⟩
theorem ZAt.cell {X : World} {L n : Nat} {kvf : Nat → Value} {ksf : Nat → List Int} (h : ZAt X L n kvf ksf) (i : Nat) (hi : i < n) : X.cell? ⟨L, i * 34 + 1, none⟩ = some (kvf i) := by
  rw [h.1.cellAt]
  exact flat_get _ i _ 1 _ (zero_get n kvf ksf i hi) rfl
theorem zero_ks_le {n : Nat} {kvf : Nat → Value} {ksf : Nat → List Int} (h : ∀ i, i < n → (ksf i).length ≤ 70000) : ∀ nd ∈ zeroPg n kvf ksf, nd.ks.length ≤ 70000 := fun nd hn => by
  obtain ⟨i, hi, rfl⟩ := zero_mem hn
  exact h i hi
theorem zero_cong {n : Nat} {kvf : Nat → Value} {ksf ksg : Nat → List Int} (h : ∀ i, i < n → ksf i = ksg i) : zeroPg n kvf ksf = zeroPg n kvf ksg := by
  apply List.ext_getElem?
  intro j
  by_cases hj : j < n
  · rw [zero_get _ _ _ _ hj, zero_get _ _ _ _ hj, h j hj]
  · rw [List.getElem?_eq_none (by rw [zero_len]; omega), List.getElem?_eq_none (by rw [zero_len]; omega)]
theorem ZAt.cong {X : World} {L n : Nat} {kvf : Nat → Value} {ksf ksg : Nat → List Int} (h : ZAt X L n kvf ksf) (he : ∀ i, i < n → ksf i = ksg i) : ZAt X L n kvf ksg :=
  ⟨by rw [← zero_cong he]; exact h.1, fun i hi => by rw [← he i hi]; exact h.2 i hi⟩
end Go.Proofs.Ytecnapecmioamaa
