/- What a copy of a node needs: a value laid into the middle of a block; numbers appended to nothing; a row of nodes with room. -/
/- A computed page: what Check asks of it is what it asked of the page; computed again it is the same. Plain data. -/
import Derived.Test.YtecnapecmioamaaTBuild
import Derived.Deep.MidRow
import Derived.Test.YtecnapecmioamaaTOrder
namespace Go.Proofs.Ytecnapecmioamaa
open Go.RowKit Go.Shelf
set_option linter.unusedVariables false

theorem whole_setCells {g t : Nat} : ∀ (vs A B C : List Value) (W : World), Whole W g t (A ++ B ++ C) → B.length = vs.length → Whole (W.setCells g A.length vs) g t (A ++ vs ++ C)
  | [], A, B, C, W, h, hl => by
    obtain rfl : B = [] := List.eq_nil_of_length_eq_zero hl
    exact h
  | v :: r, A, B, C, W, h, hl => by
    cases B with
    | nil => cases hl
    | cons b B =>
      have h1 := h.set A.length v
      have e : (A ++ (b :: B) ++ C).set A.length v = (A ++ [v]) ++ B ++ C := by
        rw [List.append_assoc, List.set_append_right _ _ (Nat.le_refl _), Nat.sub_self]; simp
      rw [e] at h1
      have h2 := whole_setCells r (A ++ [v]) B C _ h1 (by simpa using hl)
      rw [List.length_append] at h2
      have e2 : (A ++ [v]) ++ r ++ C = A ++ (v :: r) ++ C := by simp
      rw [e2] at h2
      exact h2
theorem below_setCells {B : Nat} {w : World} {g : Nat} (hg : B ≤ g) : ∀ (vs : List Value) (o : Nat) (W : World), Below B w W → Below B w (W.setCells g o vs)
  | [], _, _, h => h
  | v :: r, o, W, h => below_setCells hg r (o + 1) _ (h.setCell (p := ⟨g, o, none⟩) hg v)
theorem size_setCells {g : Nat} : ∀ (vs : List Value) (o : Nat) (W : World), (W.setCells g o vs).heap.size = W.heap.size
  | [], _, _ => rfl
  | v :: r, o, W => (size_setCells r (o + 1) _).trans (by simp)
/-- the style of a node that lies in a block of its own is laid anew -/
theorem whole_style {W : World} {g t : Nat} {n : Nd} (h : Whole W g t n.cells) (s : Sty) : Whole (W.setCells g 2 s.cells) g t ({ n with s := s } : Nd).cells := by
  have h1 : Whole W g t ([Value.int .i64 n.k, n.kv] ++ n.s.cells ++ [n.wv, .int .i64 n.b, .int .i64 n.h]) := by
    have e : n.cells = [Value.int .i64 n.k, n.kv] ++ n.s.cells ++ [n.wv, .int .i64 n.b, .int .i64 n.h] := by simp [Nd.cells, ndCells]
    rwa [e] at h
  have h2 := whole_setCells s.cells [Value.int .i64 n.k, n.kv] n.s.cells [n.wv, .int .i64 n.b, .int .i64 n.h] W h1 (by simp [Sty.cells, styCells])
  have e : ({ n with s := s } : Nd).cells = [Value.int .i64 n.k, n.kv] ++ s.cells ++ [n.wv, .int .i64 n.b, .int .i64 n.h] := by simp [Nd.cells, ndCells]
  rw [e]
  exact h2
theorem ints_own {X : World} {base k e : Nat} {v : Value} {zs : List Int} (h : X.ownsRow base e 1 v k (zs.map (Value.int .i64))) : Ints X v zs ∧ CapOk v ∧ ∀ L, L < base → Apart L v zs := by
  have hl : zs.length = k := by have := h.1; simpa using this
  have hc := fun g hg => h.cells (g := g) hg
  rcases h.2 with ⟨rfl, rfl⟩ | ⟨g, cap, cur, rfl, hb, hg, hnc, hcm, hcs, ht⟩
  · obtain rfl : zs = [] := List.eq_nil_of_length_eq_zero hl
    exact ⟨ints_nil _, capok_slice _ _ _ (by omega) (by omega), fun L _ => .inl rfl⟩
  · unfold maxLen at hcm
    refine ⟨⟨by omega, .inr ⟨g, 0, cap, by rw [hl], fun j hj => ?_⟩⟩, capok_slice _ _ _ hnc hcm, fun L hL => .inr ⟨g, 0, cap, by rw [hl], by omega⟩⟩
    have := hc g rfl j (.int .i64 (zs[j]?.getD 0)) (by simp [hj])
    rwa [add_plain] at this
/-- numbers appended to nothing: they lie anew, or there are none -/
theorem wpList_append_ints {w : World} {ops : Array Oper} {rest : List Oper} {o : Oper} {a : Act} {Q : Exit → Act → World → Prop} (hgd : o.guard = none) (s x : Operand) (t : TypeId)
    (ho : o.op = .call { callee := .builtin .append, args := #[s, x], argTypes := #[t, t] })
    (e : TypeId) (ht : Try.prog.underlying t = some (.slice e)) (hi : (Try.prog.info? e).map (fun i => (i.zero, i.size, i.bytes)) = some (some (.int .i64 0), 1, 8))
    (hs : a.eval s = .slice none 0 0) (v : Value) (zs : List Int) (hx : a.eval x = v) (hv : Ints w v zs) (hz : zs.length ≤ 70000)
    (h : ∀ v' w', Ints w' v' zs → CapOk v' → (∀ L, L < w.heap.size → Apart L v' zs) → Below w.heap.size w w' → wpList Try.prog ops Q rest (a.put o.dst v') w') :
    wpList Try.prog ops Q (o :: rest) a w := by
  obtain ⟨i, hi0, hz0, hz1, hz2⟩ := info_parts hi
  have hn : w.ownsRow w.heap.size e 1 (.slice none 0 0) 0 [] := World.ownsRow_nil _ _ _ _
  have key : ∀ (ad : Addr) (c : Nat), v = .slice (some ad) zs.length c → (∀ j u, (zs.map (Value.int .i64))[j]? = some u → w.cell? (ad.add j) = some u) → wpList Try.prog ops Q (o :: rest) a w := fun ad c hvv hcc => by
    refine wpList_append_own_at w hgd s x t ho w.heap.size e i (.int .i64 0) 1 8 ht hi0 hz0 hz1 hz2 rfl (by decide) _ 0 [] hs hn ad zs.length c (zs.map (Value.int .i64)) (hx.trans hvv) (by simp) hcc (by intro u hu; obtain ⟨z, _, rfl⟩ := List.mem_map.1 hu; rfl) (by unfold maxLen; omega) (by omega) (Nat.le_refl _) ?_
    intro v' w' hown hgrow _ _
    have ho' : w'.ownsRow w.heap.size e 1 v' zs.length (zs.map (Value.int .i64)) := by simpa using hown
    obtain ⟨h1, h2, h3⟩ := ints_own ho'
    exact h v' w' h1 h2 h3 ((Below.refl _ w).grown hgrow (Nat.le_refl _) (fun k e => by cases e))
  obtain ⟨hm, ⟨p, c, rfl, rfl⟩ | ⟨b, off, c, rfl, hc⟩⟩ := hv
  · cases p with
    | some ad => exact key ad c rfl (by intro j u hj; simp at hj)
    | none =>
      refine wpList_plain hgd fun K hK => ?_
      have hr : (Builtin.append_ #[t, t] o.type #[.slice none 0 0, .slice none 0 c]).run Try.prog w = .ok (.slice none 0 0) w := by
        simp [Builtin.append_, run_underlying ht, sizeOf, typeInfo, hi0, Builtin.lenOf, Builtin.firstCells]
      unfold Oper.wp
      simp [execOp, ho, resolve, invoke, builtin, hs, hx, hr, Result.andThen]
      exact hK _ _ (h _ _ (ints_nil _) (capok_slice _ _ _ (by omega) (by omega)) (fun L _ => .inl rfl) (Below.refl _ _))
  · refine key ⟨b, off, none⟩ c rfl fun j u hj => ?_
    rw [add_plain]
    rw [List.getElem?_map] at hj
    obtain ⟨z, hz', rfl⟩ := Option.map_eq_some_iff.1 hj
    have := hc j (List.getElem?_eq_some_iff.1 hz').1
    rw [hz'] at this
    exact this
theorem make_nodes0 (n : Nat) (hn : n ≤ 1000000) (w : World) : (Instr.makeSlice 22 (.int .i64 0) (.int .i64 n)).run Try.prog w = .ok (.slice (some ⟨w.heap.size, 0, none⟩) 0 n) (w.alloc (.cells (flatN (List.replicate n Nd.zero)).toArray 47)) := by
  cases hi : Try.prog.info? 47 with
  | none => have := Try.infoNd2; rw [hi] at this; cases this
  | some i =>
    have h := Try.infoNd2
    rw [hi] at h
    simp only [Option.map_some, Option.some.injEq, Prod.mk.injEq] at h
    obtain ⟨hz, h1, h2⟩ := h
    have hr := run_make (P := Try.prog) w 22 47 i _ Try.underlying22 hi hz .i64 .i64 0 n (by omega) (by omega) (by rw [h2]; omega) (by omega)
    rw [hr, h1]
    simp only [Int.toNat_natCast, Int.toNat_zero]
    rw [made_nodes]
theorem wpList_append_room' {P : Program} (w : World) {ops : Array Oper} {rest : List Oper} {o : Oper} {a : Act} {Q : Exit → Act → World → Prop} (hgd : o.guard = none) (s x : Operand) (t : TypeId)
    (ho : o.op = .call { callee := .builtin .append, args := #[s, x], argTypes := #[t, t] })
    (e : TypeId) (i : TypeInfo) (ht : P.underlying t = some (.slice e)) (hi : P.info? e = some i) (g sLen sCap : Nat) (cur : Array Value) (hs : a.eval s = .slice (some ⟨g, 0, none⟩) sLen sCap) (hg : w.heap[g]? = some (.cells cur e (0, 0)))
    (ad : Addr) (m c : Nat) (news : List Value) (hx : a.eval x = .slice (some ad) m c) (hl : news.length = m * i.size) (hnews : ∀ j u, news[j]? = some u → w.cell? (ad.add j) = some u) (h1 : ∀ u ∈ news, u.oneCell' = true)
    (hroom : sLen + m ≤ sCap) (hfit : sLen * i.size + news.length ≤ cur.size)
    (h : wpList P ops Q rest (a.put o.dst (.slice (some ⟨g, 0, none⟩) (sLen + m) sCap)) (w.setRow g (cur.toList.take (sLen * i.size) ++ news ++ cur.toList.drop (sLen * i.size + news.length)).toArray)) :
    wpList P ops Q (o :: rest) a w := by
  refine wpList_plain hgd fun K hK => ?_
  have hr := run_append_room (P := P) w t o.type e i ht hi g sLen sCap cur hg ad m c news hl hnews h1 hroom hfit
  unfold Oper.wp
  simp [execOp, ho, resolve, invoke, builtin, hs, hx, hr, Result.andThen]
  exact hK _ _ (by simpa using h)
theorem flatN_snoc' (ns : List Nd) (n : Nd) : flatN (ns ++ [n]) = flatN ns ++ n.cells := by simp [flatN]
/-- the row of nodes under way: k of m are laid in -/
structure Laid (X : World) (L m k : Nat) (ns' : List Nd) : Prop where
  row : ∃ cur : Array Value, X.heap[L]? = some (.cells cur 47 (0, 0)) ∧ cur.size = m * 34 ∧ cur.toList.take (k * 34) = flatN ns'
  len : ns'.length = k
  ok : ∀ n ∈ ns', n.ok X ∧ Apart L n.kv n.ks ∧ Apart L n.wv n.ws
theorem Laid.start (w : World) (m : Nat) : Laid (w.alloc (.cells (flatN (List.replicate m Nd.zero)).toArray 47)) w.heap.size m 0 [] :=
  ⟨⟨_, heap_alloc_new w _, by rw [List.size_toArray, flatN_len]; simp, by simp [flatN]⟩, rfl, fun n h => by cases h⟩
theorem Laid.below {X Y : World} {L m k : Nat} {ns' : List Nd} (h : Laid X L m k ns') (hL : L < X.heap.size) (hb : Below X.heap.size X Y) : Laid Y L m k ns' := by
  obtain ⟨⟨cur, h1, h2, h3⟩, h4, h5⟩ := h
  exact ⟨⟨cur, (hb.block L hL).trans h1, h2, h3⟩, h4, fun n hn => ⟨(h5 n hn).1.below hb, (h5 n hn).2⟩⟩
theorem Laid.page {X : World} {L m k c : Nat} {ns' : List Nd} (h : Laid X L m k ns') (hm : k ≤ 1000000) : PageAt X (.slice (some ⟨L, 0, none⟩) k c) ns' := by
  obtain ⟨⟨cur, h1, h2, h3⟩, h4, h5⟩ := h
  refine ⟨by omega, fun n hn => (h5 n hn).1, .inr ⟨L, 0, c, by rw [h4], fun i n hn j u hj => ?_⟩⟩
  have hg : (flatN ns')[i * 34 + j]? = some u := flat_get ns' i n j u hn hj
  rw [← h3] at hg
  have hlt : i * 34 + j < k * 34 := by
    have := (List.getElem?_eq_some_iff.1 hg).1
    simp at this; omega
  rw [List.getElem?_take_of_lt hlt] at hg
  simp only [World.cell?, h1]
  rw [show 0 + i * 34 + j = i * 34 + j by omega, ← Array.getElem?_toList]
  exact hg
theorem lay_new (w : World) (xs : List Value) (t g : Nat) (hg : g = w.heap.size) : ∀ j u, xs[j]? = some u → (w.alloc (.cells xs.toArray t)).cell? ((⟨g, 0, none⟩ : Addr).add j) = some u := by
  intro j u hj
  have h := (whole_new w xs t g hg).cellAt j
  rw [add_plain, Nat.zero_add]
  exact h.trans hj
theorem fill_row (z cs : Array Value) (h : z.size = cs.size) : Array.foldl (fun (a : Array Value) (x : Value × Nat) => a.setIfInBounds x.2 x.1) z cs.zipIdx 0 cs.size = cs := by
  have key : ∀ (l : List Value) (k : Nat) (a : Array Value), k + l.length ≤ a.size → ((l.zipIdx k).foldl (fun (a : Array Value) (x : Value × Nat) => a.setIfInBounds x.2 x.1) a).toList = a.toList.take k ++ l ++ a.toList.drop (k + l.length) := by
    intro l
    induction l with
    | nil => intro k a _; simp
    | cons v l ih =>
      intro k a hk
      simp only [List.zipIdx_cons, List.foldl_cons]
      rw [ih (k + 1) _ (by simp at hk ⊢; omega)]
      simp only [List.length_cons] at hk
      have hka : k < a.toList.length := by simp; omega
      simp only [Array.toList_setIfInBounds, List.length_cons]
      rw [List.take_add_one, List.getElem?_set_self hka, List.take_set_of_le (Nat.le_refl _), List.drop_set_of_lt (by omega)]
      simp [Nat.add_comm, Nat.add_left_comm]
  have h1 := key cs.toList 0 z (by simp; omega)
  apply Array.toList_inj.1
  have h2 : Array.foldl (fun (a : Array Value) (x : Value × Nat) => a.setIfInBounds x.2 x.1) z cs.zipIdx 0 cs.size = cs.zipIdx.toList.foldl (fun (a : Array Value) (x : Value × Nat) => a.setIfInBounds x.2 x.1) z := by
    rw [Array.foldl_toList]; congr 1; simp
  rw [h2, Array.toList_zipIdx, h1]
  simp; omega
theorem Ints.setRowApart {X : World} {L : Nat} {v : Value} {zs : List Int} (h : Ints X v zs) (cs : Array Value) (hne : Apart L v zs) : Ints (X.setRow L cs) v zs := by
  obtain ⟨h1, h2 | ⟨b, off, cap, e, hc⟩⟩ := h
  · exact ⟨h1, .inl h2⟩
  · refine ⟨h1, .inr ⟨b, off, cap, e, fun j hj => ?_⟩⟩
    have hb : b ≠ L := by
      rcases hne with rfl | ⟨b', off', cap', e', hb⟩
      · simp at hj
      · rw [e] at e'; injection e' with e1; injection e1 with e1; injection e1 with e1; rw [e1]; exact hb
    exact (World.cell?_of_block (a := ⟨b, off + j, none⟩) (setRow_other X L b cs hb)).trans (hc j hj)
theorem Laid.step {V : World} {L m k : Nat} {ns' : List Nd} (h : Laid V L m k ns') {cur : Array Value} (hcur : V.heap[L]? = some (.cells cur 47 (0, 0))) (n : Nd) (hok : n.ok V) (ha : Apart L n.kv n.ks) (hb : Apart L n.wv n.ws) (hk : k < m) :
    Laid (V.setRow L (cur.toList.take (k * 34) ++ n.cells ++ cur.toList.drop (k * 34 + n.cells.length)).toArray) L m (k + 1) (ns' ++ [n]) := by
  obtain ⟨⟨cur', h1, h2, h3⟩, h4, h5⟩ := h
  rw [hcur] at h1
  cases h1
  refine ⟨⟨_, setRow_heap _ _ cur _ _ _ hcur, ?_, ?_⟩, by simp [h4], fun a hm => ?_⟩
  · have hn := n.len
    have hs : cur.toList.length = m * 34 := by simpa using h2
    rw [List.size_toArray, List.length_append, List.length_append, List.length_take, List.length_drop, hn, hs]; omega
  · have hn := n.len
    have hs : cur.toList.length = m * 34 := by simpa using h2
    rw [h3, flatN_snoc']
    rw [List.take_append_of_le_length (by rw [List.length_append, flatN_len, hn, h4]; omega), List.take_of_length_le (by rw [List.length_append, flatN_len, hn, h4]; omega)]
  · rcases List.mem_append.1 hm with hm | hm
    · obtain ⟨⟨o1, o2, o3, o4⟩, a1, a2⟩ := h5 a hm
      exact ⟨⟨o1.setRowApart _ a1, o2.setRowApart _ a2, o3, o4⟩, a1, a2⟩
    · obtain rfl : a = n := by simpa using hm
      exact ⟨⟨hok.1.setRowApart _ ha, hok.2.1.setRowApart _ hb, hok.2.2⟩, ha, hb⟩
end Go.Proofs.Ytecnapecmioamaa

namespace Go.Proofs.Ytecnapecmioamaa
open Go.RowKit Go.Shelf
set_option linter.unusedVariables false

/-- n' is n, computed (its slices may lie elsewhere) -/
structure CompOf (n n' : Nd) : Prop where
  k : n'.k = n.k
  ks : n'.ks = n.ks
  s : n'.s = compS n.s
  ws : n'.ws = n.ws
  b : n'.b = n.b
  h : n'.h = n.h
structure CompPg (ns ns' : List Nd) : Prop where
  len : ns'.length = ns.length
  of : ∀ (i : Nat) (n n' : Nd), ns[i]? = some n → ns'[i]? = some n' → CompOf n n'
theorem CompPg.nil : CompPg [] [] := ⟨rfl, fun i n n' h => by simp at h⟩
theorem CompPg.snoc {ns ns' : List Nd} {n n' : Nd} (h : CompPg ns ns') (hn : CompOf n n') : CompPg (ns ++ [n]) (ns' ++ [n']) := by
  refine ⟨by simp [h.len], fun i a a' ha ha' => ?_⟩
  by_cases hi : i < ns.length
  · rw [List.getElem?_append_left hi] at ha
    rw [List.getElem?_append_left (by have := h.len; omega)] at ha'
    exact h.of i a a' ha ha'
  · rw [List.getElem?_append_right (by omega)] at ha
    rw [List.getElem?_append_right (by have := h.len; omega)] at ha'
    have e : i - ns.length = 0 := by have := (List.getElem?_eq_some_iff.1 ha).1; simp at this; omega
    rw [e] at ha
    rw [h.len, e] at ha'
    simp at ha ha'
    subst ha ha'
    exact hn
theorem CompPg.get {ns ns' : List Nd} (h : CompPg ns ns') (i : Nat) : (ns[i]? = none ∧ ns'[i]? = none) ∨ ∃ n n', ns[i]? = some n ∧ ns'[i]? = some n' ∧ CompOf n n' := by
  by_cases hi : i < ns.length
  · have h1 := List.getElem?_eq_getElem hi
    have h2 := List.getElem?_eq_getElem (show i < ns'.length by have := h.len; omega)
    exact .inr ⟨_, _, h1, h2, h.of i _ _ h1 h2⟩
  · exact .inl ⟨List.getElem?_eq_none (by omega), List.getElem?_eq_none (by have := h.len; omega)⟩
theorem CompPg.back {ns ns' : List Nd} (h : CompPg ns ns') {n' : Nd} (hn : n' ∈ ns') : ∃ n ∈ ns, CompOf n n' := by
  obtain ⟨i, hi⟩ := List.mem_iff_getElem?.1 hn
  rcases h.get i with ⟨_, h2⟩ | ⟨n, n'', h1, h2, h3⟩
  · rw [hi] at h2; cases h2
  · rw [hi] at h2; cases h2
    exact ⟨n, List.mem_iff_getElem?.2 ⟨i, h1⟩, h3⟩
theorem CompPg.kss {ns ns' : List Nd} (h : CompPg ns ns') : ns'.map Nd.ks = ns.map Nd.ks := by
  apply List.ext_getElem?
  intro i
  rw [List.getElem?_map, List.getElem?_map]
  rcases h.get i with ⟨h1, h2⟩ | ⟨n, n', h1, h2, h3⟩
  · rw [h1, h2]
  · rw [h1, h2]; simp [h3.ks]
theorem CompPg.kids {ns ns' : List Nd} (h : CompPg ns ns') : kidsOf ns' = kidsOf ns := by
  unfold kidsOf
  rw [List.flatMap_def, List.flatMap_def]
  exact congrArg List.flatten h.kss
theorem CompPg.kf {ns ns' : List Nd} (h : CompPg ns ns') : kfOf ns' = kfOf ns := by
  funext y
  unfold kfOf
  rcases h.get y.toNat with ⟨h1, h2⟩ | ⟨n, n', h1, h2, h3⟩
  · rw [h1, h2]
  · rw [h1, h2]; simp [h3.ks]
theorem CompPg.depths {ns ns' : List Nd} (h : CompPg ns ns') : depthsP ns' = depthsP ns := by
  unfold depthsP
  rw [h.kf, h.len]
theorem CompOf.wrong {n n' : Nd} (h : CompOf n n') (hw : wrongN n = false) : wrongN n' = false := by
  have hv : validS n.s = true := by
    unfold wrongN at hw
    cases hq : validS n.s with
    | true => rfl
    | false => rw [hq] at hw; simp at hw
  have hv' : validS n'.s = true := by rw [h.s]; exact comp_valid hv
  unfold wrongN at hw ⊢
  unfold hasT wrongT at hw ⊢
  rw [hv] at hw
  rw [hv', h.k, h.ks, h.ws, h.b, h.h]
  exact hw
theorem wrong_valid {n : Nd} (hw : wrongN n = false) : validS n.s = true := by
  unfold wrongN at hw
  cases hq : validS n.s with
  | true => rfl
  | false => rw [hq] at hw; simp at hw
theorem CompPg.fine {ns ns' : List Nd} (h : CompPg ns ns') (F : Fine ns) : Fine ns' := by
  refine ⟨by rw [h.len]; exact F.len1, by rw [h.len]; exact F.len2, ?_, ?_, by rw [h.len, h.kids, h.depths]; exact F.stray, by rw [h.depths]; exact F.deep⟩
  · rw [List.any_eq_false]
    intro n' hn'
    obtain ⟨n, hn, hc⟩ := h.back hn'
    have := F.wrong
    rw [List.any_eq_false] at this
    have hw : wrongN n = false := by simpa using this n hn
    simp [hc.wrong hw]
  · intro n' hn' z hz
    obtain ⟨n, hn, hc⟩ := h.back hn'
    rw [h.len]
    exact F.link n hn z (by rw [← hc.ks]; exact hz)
/-- two nodes, the same but for where their slices lie -/
structure SameNd (n n' : Nd) : Prop where
  k : n'.k = n.k
  ks : n'.ks = n.ks
  s : n'.s = n.s
  ws : n'.ws = n.ws
  b : n'.b = n.b
  h : n'.h = n.h
theorem CompPg.again {ns ns' ns'' : List Nd} (h : CompPg ns ns') (h' : CompPg ns' ns'') (F : Fine ns) : ns''.length = ns'.length ∧ ∀ (i : Nat) (a b : Nd), ns'[i]? = some a → ns''[i]? = some b → SameNd a b := by
  refine ⟨h'.len, fun i a b ha hb => ?_⟩
  have c2 := h'.of i a b ha hb
  obtain ⟨n, hn, c1⟩ := h.back (List.mem_iff_getElem?.2 ⟨i, ha⟩)
  have hw := F.wrong
  rw [List.any_eq_false] at hw
  have hv := wrong_valid (n := n) (by simpa using hw n hn)
  exact ⟨c2.k, c2.ks, by rw [c2.s, c1.s, comp_again hv], c2.ws, c2.b, c2.h⟩
end Go.Proofs.Ytecnapecmioamaa
