/- A row of nodes that grows: one node more, with room or without; a node's kids laid in anew. -/
import Derived.Test.YtecnapecmioamaaFPlain
namespace Go.Proofs.Ytecnapecmioamaa
open Go.RowKit Go.Shelf
set_option linter.unusedVariables false

theorem Ints.apart {V : World} {v : Value} {zs : List Int} (h : Ints V v zs) {L : Nat} (hL : V.heap.size ≤ L) : Apart L v zs := by
  by_cases hz : zs = []
  · exact .inl hz
  obtain ⟨h1, ⟨a, cap, rfl, rfl⟩ | ⟨b, off, cap, rfl, hc⟩⟩ := h
  · exact absurd rfl hz
  · refine .inr ⟨b, off, cap, rfl, ?_⟩
    have hp : 0 < zs.length := List.length_pos_iff.2 hz
    have : b < V.heap.size := cell_lt (hc 0 hp)
    omega
/-- numbers do not lie in a block of nodes -/
theorem Ints.apart_cells {V : World} {v : Value} {zs : List Int} {g e : Nat} {cur : Array Value} {L : Nat} (hv : v.ownBlock = some g ∨ v = .slice none 0 0) (hg : ∀ g, v.ownBlock = some g → ∃ cur, V.heap[g]? = some (.cells cur 3 (0, 0))) (h : Ints V v zs)
    (hL : ∃ cur, V.heap[L]? = some (.cells cur 47 (0, 0))) : Apart L v zs := by
  by_cases hz : zs = []
  · exact .inl hz
  obtain ⟨h1, ⟨a, cap, rfl, rfl⟩ | ⟨b, off, cap, rfl, hc⟩⟩ := h
  · exact absurd rfl hz
  · refine .inr ⟨b, off, cap, rfl, fun e => ?_⟩
    obtain ⟨c1, h2⟩ := hg b rfl
    obtain ⟨c2, h3⟩ := hL
    rw [e, h3] at h2
    cases h2
theorem Nd.ok.apart {n : Nd} {V : World} (h : n.ok V) {L : Nat} (hL : V.heap.size ≤ L) : Apart L n.kv n.ks ∧ Apart L n.wv n.ws := ⟨h.1.apart hL, h.2.1.apart hL⟩
theorem Laid.own {V : World} {L cap k : Nat} {ns : List Nd} (h : Laid V L cap k ns) {base : Nat} (hb : base ≤ L) (hk : k ≤ cap) (hc : cap ≤ maxLen) : V.ownsRow base 47 34 (.slice (some ⟨L, 0, none⟩) k cap) k (flatN ns) := by
  obtain ⟨⟨cur, h1, h2, h3⟩, h4, h5⟩ := h
  exact ⟨by rw [flatN_len, h4], .inr ⟨L, cap, cur, rfl, hb, h1, hk, hc, h2, h3⟩⟩
theorem laid_of {X : World} {g cap k : Nat} {cur : Array Value} {ns : List Nd} (h1 : X.heap[g]? = some (.cells cur 47 (0, 0))) (h2 : cur.size = cap * 34) (h3 : cur.toList.take (k * 34) = flatN ns) (h4 : ns.length = k)
    (h5 : ∀ n ∈ ns, n.ok X ∧ Apart g n.kv n.ks ∧ Apart g n.wv n.ws) : Laid X g cap k ns := ⟨⟨cur, h1, h2, h3⟩, h4, h5⟩
/-- one node more -/
theorem append_node (V : World) (L cap k : Nat) (ns : List Nd) (h : Laid V L cap k ns) (hk : k ≤ cap) (hcap : cap ≤ maxLen) (hkk : k ≤ 1000000) (nd : Nd) (hok : nd.ok V) (a1 : Apart L nd.kv nd.ks) (a2 : Apart L nd.wv nd.ws)
    (ad : Addr) (c : Nat) (hnews : ∀ j u, nd.cells[j]? = some u → V.cell? (ad.add j) = some u) (ty : TypeId) :
    ∃ L' cap' X, (Builtin.append_ #[22, 22] ty #[.slice (some ⟨L, 0, none⟩) k cap, .slice (some ad) 1 c]).run Try.prog V = .ok (.slice (some ⟨L', 0, none⟩) (k + 1) cap') X ∧
      Laid X L' cap' (k + 1) (ns ++ [nd]) ∧ k + 1 ≤ cap' ∧ cap' ≤ maxLen ∧ (L' = L ∨ L' = V.heap.size) ∧ V.grownBy X (some L) ∧ KeepsOthers V X ∧ (∀ j, j < k * 34 → X.cell? ⟨L, j, none⟩ = V.cell? ⟨L, j, none⟩) := by
  have hcells : Laid V L cap k ns := h
  obtain ⟨⟨cur, h1, h2, h3⟩, h4, h5⟩ := h
  cases hi0 : Try.prog.info? 47 with
  | none => have := Try.infoNd2; rw [hi0] at this; cases this
  | some i =>
  have hq := Try.infoNd2
  rw [hi0] at hq
  simp only [Option.map_some, Option.some.injEq, Prod.mk.injEq] at hq
  obtain ⟨hz, hs, hby⟩ := hq
  have hlL := (Array.getElem?_eq_some_iff.1 h1).1
  by_cases hroom : k + 1 ≤ cap
  · have hr := run_append_room (P := Try.prog) V 22 ty 47 i Try.underlying22 hi0 L k cap cur h1 ad 1 c nd.cells (by rw [hs, nd.len]) hnews
      (fun u hu => by have := nd_one nd V hok; rw [Array.all_eq_true_iff_forall_mem] at this; exact this u (by simpa using hu)) hroom (by rw [hs, nd.len, h2]; omega)
    rw [hs] at hr
    refine ⟨L, cap, _, hr, hcells.step h1 nd hok a1 a2 (by omega), hroom, hcap, .inl rfl, ⟨rfl, rfl, rfl, by simp, fun j _ hj => setRow_other V L j _ (fun e => hj (by rw [e]))⟩, ⟨by simp, fun j o hj ho => ?_⟩, fun j hj => ?_⟩
    · have : j ≠ L := fun e => by rw [e, h1] at hj; cases hj; cases ho
      exact (setRow_other V L j _ this).trans hj
    · simp only [World.cell?, setRow_heap V L cur _ _ _ h1, h1]
      rw [← Array.getElem?_toList, ← Array.getElem?_toList]
      have hsz : cur.toList.length = cap * 34 := by simpa using h2
      simp only [List.append_assoc]
      rw [List.getElem?_append_left (by rw [List.length_take, hsz]; omega), List.getElem?_take_of_lt hj]
  · have hfl : (flatN ns).length = k * i.size := by rw [flatN_len, h4, hs]
    have holds : ∀ j u, (flatN ns)[j]? = some u → V.cell? ((⟨L, 0, none⟩ : Addr).add j) = some u := fun j u hj => by
      rw [add_plain, Nat.zero_add]
      have hlt : j < k * 34 := by have := (List.getElem?_eq_some_iff.1 hj).1; rw [hfl, hs] at this; exact this
      rw [← h3, List.getElem?_take_of_lt hlt] at hj
      simp only [World.cell?, h1]
      rw [← Array.getElem?_toList]; exact hj
    have hr := run_append_grow (P := Try.prog) V 22 ty 47 i _ Try.underlying22 hi0 hz ⟨L, 0, none⟩ k cap (flatN ns) hfl holds ad 1 c nd.cells (by rw [hs, nd.len]) hnews (by omega) (by omega) (growslice_fits (by omega) (by rw [hby]; omega))
    have hge := grownCap_ge V (k + 1) cap 47
    have hcm := grownCap_le_maxLen V (k + 1) cap 47 (by unfold maxLen; omega)
    have hbV : Below V.heap.size V (V.drew.alloc (.cells ((flatN ns).toArray ++ nd.cells.toArray ++ Builtin.zeroCells (Value.agg Nd.zero.cells.toArray).cells (grownCap V (k + 1) cap 47 - (k + 1))) 47)) := ((Below.refl _ V).drew).alloc (Nat.le_refl _) _
    refine ⟨V.heap.size, _, _, hr, laid_of (heap_alloc_new V.drew _) ?_ ?_ (by simp [h4]) ?_, hge, hcm, .inr rfl, ⟨rfl, rfl, rfl, by simp, fun j hj _ => hbV.block j hj⟩, ⟨by simp, fun j o hj _ => (hbV.block j (Array.getElem?_eq_some_iff.1 hj).1).trans hj⟩, fun j hj => hbV.cell (p := ⟨L, j, none⟩) hlL⟩
    · simp only [Array.size_append, List.size_toArray, size_zeroCells, flatN_len, nd.len, h4]
      have : (Value.agg Nd.zero.cells.toArray).cells.size = 34 := nd_size0
      rw [this]
      omega
    · simp only [Array.toList_append, List.append_assoc]
      rw [← List.append_assoc, flatN_snoc', List.take_left']
      rw [List.length_append, flatN_len, nd.len, h4]; omega
    · intro n hn
      rcases List.mem_append.1 hn with hn | hn
      · exact ⟨(h5 n hn).1.below hbV, (h5 n hn).1.apart (Nat.le_refl _)⟩
      · obtain rfl : n = nd := by simpa using hn
        exact ⟨hok.below hbV, hok.apart (Nat.le_refl _)⟩
/-- a node's kids, laid in anew -/
theorem Laid.kids {V : World} {L cap k : Nat} {ns : List Nd} (h : Laid V L cap k ns) (i : Nat) (n : Nd) (hi : ns[i]? = some n) (kv : Value) (ks : List Int) (hI : Ints V kv ks) (hc : CapOk kv) (ha : Apart L kv ks) (hk : k ≤ cap) :
    Laid (V.setCell ⟨L, i * 34 + 1, none⟩ kv) L cap k (ns.set i { n with kv := kv, ks := ks }) := by
  obtain ⟨⟨cur, h1, h2, h3⟩, h4, h5⟩ := h
  have hil := (List.getElem?_eq_some_iff.1 hi).1
  have hw : Whole V L 47 cur.toList := by simpa [Whole] using h1
  have hw2 := hw.set (i * 34 + 1) kv
  refine ⟨⟨(cur.toList.set (i * 34 + 1) kv).toArray, hw2, by simpa using h2, ?_⟩, by simpa using h4, fun a hm => ?_⟩
  · simp only
    rw [List.take_set, h3, flat_set ns i n kv ks hi]
  · obtain ⟨j, hj⟩ := List.mem_iff_getElem?.1 hm
    by_cases hji : j = i
    · subst hji
      rw [List.getElem?_set_self hil] at hj
      injection hj with hj
      subst hj
      have o := h5 n (List.mem_iff_getElem?.2 ⟨_, hi⟩)
      exact ⟨⟨hI.setApart _ _ ha, o.1.2.1.setApart _ _ o.2.2, hc, o.1.2.2.2⟩, ha, o.2.2⟩
    · rw [List.getElem?_set_ne (fun e => hji e.symm)] at hj
      have o := h5 a (List.mem_iff_getElem?.2 ⟨_, hj⟩)
      exact ⟨⟨o.1.1.setApart _ _ o.2.1, o.1.2.1.setApart _ _ o.2.2, o.1.2.2⟩, o.2⟩
end Go.Proofs.Ytecnapecmioamaa
