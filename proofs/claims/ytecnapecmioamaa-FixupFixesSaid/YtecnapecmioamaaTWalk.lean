/- Contract of the walk through a page (tree.walk), as an iterator: what it meets, in which order, how deep. -/
import Derived.Test.YtecnapecmioamaaTKeep
import Derived.Test.YtecnapecmioamaaTPlain
import Derived.Test.YtecnapecmioamaaTStray
import Derived.Test.YtecnapecmioamaaRound
import Derived.Maps.OwnIn
import Derived.Maps.AppendAt
import Derived.Sort.LoopGhostIn
import Derived.ScopeJumps
import Derived.WalkMore
namespace Go.Proofs.Ytecnapecmioamaa
open Go.RowKit Go.Shelf Go.Maps
set_option linter.unusedVariables false
attribute [local go_sem] Oper.semAt_some

theorem Try.infoTS : (Try.prog.info? 34).map (fun i => (i.zero, i.size, i.bytes)) = some (some (.slice none 0 0), 1, 24) := by kernel_rfl
theorem zeroUnit (w : World) : (zeroValue 93).run Try.prog w = .ok (.agg #[]) w := by kernel_rfl
theorem make_map (m : Nat) (w : World) : (Instr.makeMap 91 (some (.int .i64 m))).run Try.prog w = .ok (.map (some w.heap.size)) (w.alloc (.map #[] 0)) := by
  simp [Instr.makeMap, go_sem]
/-- numbers on the stack: in memory that stays -/
def SInts (E : List Nat) (N : Nat) (X : World) (u : Value) (ks : List Int) : Prop :=
  ∃ q c, u = .slice q ks.length c ∧ ks.length ≤ c ∧ c ≤ 9223372036854775807 ∧ (ks = [] ∨ ∃ qb qo, q = some ⟨qb, qo, none⟩ ∧ qb < N + 2 ∧ qb ≠ N ∧ qb ∉ E ∧ ∀ j, j < ks.length → X.cell? ⟨qb, qo + j, none⟩ = some (.int .i64 (ks[j]?.getD 0)))
theorem SInts.keep {E : List Nat} {N : Nat} {X Y : World} {u : Value} {ks : List Int} (h : SInts E N X u ks) (hk : ∀ k, k < N + 2 → k ≠ N → k ∉ E → Y.heap[k]? = X.heap[k]?) : SInts E N Y u ks := by
  obtain ⟨q, c, e, h1, h2, h3⟩ := h
  refine ⟨q, c, e, h1, h2, ?_⟩
  rcases h3 with h3 | ⟨qb, qo, e', a, b, d, hc⟩
  · exact .inl h3
  · exact .inr ⟨qb, qo, e', a, b, d, fun j hj => (World.cell?_of_block (a := ⟨qb, qo + j, none⟩) (hk qb a b d)).trans (hc j hj)⟩
/-- the rest of them -/
theorem SInts.drop {E : List Nat} {N : Nat} {X : World} {q : Option Addr} {c : Nat} {ks : List Int} (i : Nat) (hi : i < ks.length) (h : SInts E N X (.slice q ks.length c) ks) :
    ∃ qb qo, q = some ⟨qb, qo, none⟩ ∧ ∀ q2, (if c = i + 1 then some (⟨qb, qo, none⟩ : Addr) else some ⟨qb, qo + (i + 1), none⟩) = q2 → SInts E N X (.slice q2 (ks.length - (i + 1)) (c - (i + 1))) (ks.drop (i + 1)) := by
  obtain ⟨q', c', e, h1, h2, h3⟩ := h
  injection e with e1 e2 e3
  subst e1 e3
  rcases h3 with rfl | ⟨qb, qo, rfl, a, b, d, hc⟩
  · simp at hi
  · refine ⟨qb, qo, rfl, fun q2 hq2 => ?_⟩
    by_cases hcc : c = i + 1
    · rw [if_pos hcc] at hq2
      subst hq2
      exact ⟨_, _, by rw [List.length_drop], by rw [List.length_drop]; omega, by omega, .inl (List.drop_of_length_le (by omega))⟩
    · rw [if_neg hcc] at hq2
      subst hq2
      refine ⟨_, _, by rw [List.length_drop], by rw [List.length_drop]; omega, by omega, .inr ⟨qb, qo + (i + 1), rfl, a, b, d, fun j hj => ?_⟩⟩
      rw [List.length_drop] at hj
      have := hc (i + 1 + j) (by omega)
      rw [List.getElem?_drop, ← this, show qo + (i + 1) + j = qo + (i + 1 + j) by omega]
/-- the walk's own memory: the set of those met, the stack -/
structure WI (E : List Nat) (lv : Value) (B0 : Nat) (w0 : World) (g0 N : Nat) (vis : List Int) (st : List (List Int)) (v : Value) (X : World) : Prop where
  kept : ∀ k, k < B0 → X.heap[k]? = w0.heap[k]?
  box : X.cell? ⟨g0, 0, none⟩ = some lv
  map : X.ownsMap Try.prog 3 (unitElem (H := Unit)) N vis.length (setOf (.agg []) (vis.reverse.map (Lit.int .i64)))
  own : ∃ vs : List Value, X.ownsRow (N + 2) 34 1 v st.length vs ∧ ∀ (j : Nat) (u : Value) (ks : List Int), vs.reverse[j]? = some u → st[j]? = some ks → SInts E N X u ks
  size : N + 3 ≤ X.heap.size
theorem own_same {X Y : World} {base e n : Nat} {v : Value} {xs : List Value} (h : X.ownsRow base e 1 v n xs) (hk : ∀ g, v.ownBlock = some g → Y.heap[g]? = X.heap[g]?) : Y.ownsRow base e 1 v n xs := by
  refine ⟨h.1, ?_⟩
  rcases h.2 with hn | ⟨g, cap, cur, rfl, hb, hg, rest⟩
  · exact .inl hn
  · exact .inr ⟨g, cap, cur, rfl, hb, (hk g rfl).trans hg, rest⟩
theorem WI.keep {E : List Nat} {lv : Value} {B0 : Nat} {w0 : World} {g0 N : Nat} {vis : List Int} {st : List (List Int)} {v : Value} {X Y : World} (h : WI E lv B0 w0 g0 N vis st v X)
    (hE : ∀ e ∈ E, B0 ≤ e ∧ e < N ∧ e ≠ g0) (hg : g0 < N) (hB : B0 ≤ N) (hk : KeepBut E X Y) : WI E lv B0 w0 g0 N vis st v Y := by
  have hs := h.size
  refine ⟨fun k hk' => (hk.2 k (fun e => by have := hE k e; omega) (by omega)).trans (h.kept k hk'), (World.cell?_of_block (a := ⟨g0, 0, none⟩) (hk.2 g0 (fun e => (hE g0 e).2.2 rfl) (by omega))).trans h.box, ?_, ?_, Nat.le_trans hs hk.1⟩
  · obtain ⟨es, cl, hb, rest⟩ := h.map
    exact ⟨es, cl, (hk.2 N (fun e => by have := hE N e; omega) (by omega)).trans hb, rest⟩
  · obtain ⟨vs, ho, hv⟩ := h.own
    refine ⟨vs, own_same ho fun g e => ?_, fun j u ks hu hks => (hv j u ks hu hks).keep fun k h1 h2 h3 => hk.2 k h3 (by omega)⟩
    have := ho.lt g e
    exact hk.2 g (fun e => by have := hE g e; omega) this.2
theorem set_has (vis : List Int) (z : Int) : Maps.has (setOf (H := Unit) (.agg []) (vis.map (Lit.int .i64))) (.int .i64 z) = vis.contains z := by
  rw [has_setOf _ _ _ (fun y hy => by obtain ⟨_, _, rfl⟩ := List.mem_map.1 hy; trivial), List.any_map]
  induction vis with
  | nil => rfl
  | cons a r ih =>
    rw [List.any_cons, List.contains_cons, ih]
    congr 1
    show decide (IntKind.i64 = IntKind.i64 ∧ a = z) = (z == a)
    by_cases e : a = z
    · subst e; simp
    · have e' : ¬ z = a := fun h => e h.symm
      simp [e, e']
theorem own_shrink {X : World} {base e n : Nat} {g cap : Nat} {xs : List Value} {u : Value} (h : X.ownsRow base e 1 (.slice (some ⟨g, 0, none⟩) (n + 1) cap) (n + 1) (xs ++ [u])) : X.ownsRow base e 1 (.slice (some ⟨g, 0, none⟩) n cap) n xs := by
  obtain ⟨h1, h2⟩ := h
  have hx : xs.length = n := by simp at h1; omega
  rcases h2 with ⟨h', _⟩ | ⟨g', cap', cur, h', hb, hg, hnc, hcm, hcs, htake⟩
  · simp at h'
  · injection h' with e1 e2 e3
    injection e1 with e1
    injection e1 with e1
    subst e1 e3
    refine ⟨by omega, .inr ⟨g, cap, cur, rfl, hb, hg, by omega, hcm, hcs, ?_⟩⟩
    have := congrArg (List.take n) htake
    rw [List.take_take, List.take_left' hx, show min n ((n + 1) * 1) = n * 1 by omega] at this
    exact this
theorem own_open {X : World} {base e n : Nat} {v : Value} {xs : List Value} (h : X.ownsRow base e 1 v (n + 1) xs) : ∃ g cap ys u, v = .slice (some ⟨g, 0, none⟩) (n + 1) cap ∧ base ≤ g ∧ g < X.heap.size ∧ n + 1 ≤ cap ∧ cap ≤ maxLen ∧ xs = ys ++ [u] ∧ ys.length = n ∧
    X.cell? ⟨g, n, none⟩ = some u ∧ X.frozen? ⟨g, n, none⟩ = false := by
  obtain ⟨h1, h2⟩ := h
  rcases h2 with ⟨_, h'⟩ | ⟨g, cap, cur, rfl, hb, hg, hnc, hcm, hcs, htake⟩
  · omega
  · have hne : xs ≠ [] := by intro e; rw [e] at h1; simp at h1
    have hc : xs[n]? = some (xs.getLast hne) := by rw [List.getLast_eq_getElem, List.getElem?_eq_getElem (by omega)]; congr 1; congr 1; omega
    have hd := (List.dropLast_concat_getLast hne).symm
    obtain ⟨u, hu⟩ : ∃ u, xs.getLast hne = u := ⟨_, rfl⟩
    rw [hu] at hc hd
    refine ⟨g, cap, xs.dropLast, u, rfl, hb, (Array.getElem?_eq_some_iff.1 hg).1, hnc, hcm, hd, by simp [h1], ?_, by simp [World.frozen?, hg]⟩
    clear hd hu hne
    rw [← htake, List.getElem?_take_of_lt (by omega)] at hc
    simp only [World.cell?, hg]
    rw [← hc]; simp
theorem WI.start {E : List Nat} {lv : Value} {w0 W : World} {g0 N : Nat} (hN : W.heap.size = N) (hE : ∀ e ∈ E, w0.heap.size ≤ e ∧ e < N ∧ e ≠ g0) (hg : g0 < N) (hB : w0.heap.size ≤ N)
    (hk0 : ∀ k, k < w0.heap.size → W.heap[k]? = w0.heap[k]?) (hbox : W.cell? ⟨g0, 0, none⟩ = some lv) :
    WI E lv w0.heap.size w0 g0 N [] [[0]] (.slice (some ⟨N + 1 + 1, 0, none⟩) 1 1) (((W.alloc (.map #[] 0)).alloc (.cells #[.int .i64 0] 3)).alloc (.cells #[.slice (some ⟨N + 1, 0, none⟩) 1 1] 34)) := by
  subst hN
  have b1 : Below W.heap.size W (((W.alloc (.map #[] 0)).alloc (.cells #[.int .i64 0] 3)).alloc (.cells #[.slice (some ⟨W.heap.size + 1, 0, none⟩) 1 1] 34)) := (((Below.refl _ W).alloc (Nat.le_refl _) _).alloc (by simp) _).alloc (by simp; omega) _
  have k1 : Whole (((W.alloc (.map #[] 0)).alloc (.cells #[.int .i64 0] 3)).alloc (.cells #[.slice (some ⟨W.heap.size + 1, 0, none⟩) 1 1] 34)) (W.heap.size + 1) 3 [.int .i64 0] := (whole_new (W.alloc (.map #[] 0)) [.int .i64 0] 3 _ (by simp)).alloc _
  have k2 : Whole (((W.alloc (.map #[] 0)).alloc (.cells #[.int .i64 0] 3)).alloc (.cells #[.slice (some ⟨W.heap.size + 1, 0, none⟩) 1 1] 34)) (W.heap.size + 1 + 1) 34 [.slice (some ⟨W.heap.size + 1, 0, none⟩) 1 1] := whole_new ((W.alloc (.map #[] 0)).alloc (.cells #[.int .i64 0] 3)) [.slice (some ⟨W.heap.size + 1, 0, none⟩) 1 1] 34 _ (by simp)
  refine ⟨fun k hk => (b1.block k (by omega)).trans (hk0 k hk), (b1.cell (p := ⟨g0, 0, none⟩) hg).trans hbox, ((World.ownsMap_made W Try.prog 3 (unitElem (H := Unit))).alloc _).alloc _, ⟨[.slice (some ⟨W.heap.size + 1, 0, none⟩) 1 1], ⟨by simp, .inr ⟨W.heap.size + 1 + 1, 1, _, rfl, by omega, k2, by simp, by unfold maxLen; omega, by simp, by simp⟩⟩, fun j u ks hu hks => ?_⟩, by simp⟩
  match j, hu, hks with
  | 0, hu, hks =>
    simp at hu hks
    subst hu hks
    refine ⟨_, _, rfl, by simp, by omega, .inr ⟨W.heap.size + 1, 0, rfl, by omega, by omega, fun e => by have := hE _ e; omega, fun j hj => ?_⟩⟩
    obtain rfl : j = 0 := by simp at hj; omega
    exact k1.cellAt 0
theorem own_empty {X : World} {base e : Nat} {v : Value} {xs : List Value} (h : X.ownsRow base e 1 v 0 xs) : ∃ p c, v = .slice p 0 c := by
  rcases h.2 with ⟨rfl, _⟩ | ⟨g', cap, cur, rfl, _⟩ <;> exact ⟨_, _, rfl⟩
/-- what the walk's round finds on top of the stack -/
theorem WI.top {E : List Nat} {lv : Value} {B0 : Nat} {w0 : World} {g0 N : Nat} {vis ks : List Int} {st : List (List Int)} {v : Value} {X : World} (h : WI E lv B0 w0 g0 N vis (ks :: st) v X) (t kl : Nat) (ht : st.length = t) (hkl : ks.length = kl) :
    ∃ g cap ys q c, v = .slice (some ⟨g, 0, none⟩) (t + 1) cap ∧ N + 2 ≤ g ∧ g < X.heap.size ∧ t + 1 ≤ cap ∧ cap ≤ maxLen ∧ X.ownsRow (N + 2) 34 1 v (t + 1) (ys ++ [.slice q kl c]) ∧ ys.length = t ∧
      X.cell? ⟨g, t, none⟩ = some (.slice q kl c) ∧ X.frozen? ⟨g, t, none⟩ = false ∧ SInts E N X (.slice q kl c) ks ∧ (∀ (j : Nat) (u : Value) (k : List Int), ys.reverse[j]? = some u → st[j]? = some k → SInts E N X u k) ∧ kl ≤ c ∧ c ≤ 9223372036854775807 := by
  subst ht hkl
  obtain ⟨vs, ho, hv⟩ := h.own
  obtain ⟨g, cap, ys, u, rfl, h1, h2, h3, h4, rfl, h5, h6, h7⟩ := own_open ho
  have h0 := hv 0 u ks (by simp) (by simp)
  obtain ⟨q, c, rfl, h8, h9, h10⟩ := h0
  exact ⟨g, cap, ys, q, c, rfl, h1, h2, h3, h4, ho, h5, h6, h7, ⟨q, c, rfl, h8, h9, h10⟩, fun j u k hu hk => hv (j + 1) u k (by simpa using hu) (by simpa using hk), h8, h9⟩
theorem litwf64 {a : Int} (h1 : -9223372036854775808 ≤ a) (h2 : a ≤ 9223372036854775807) : (Lit.int .i64 a).wf = true := by
  have e1 : IntKind.i64.min = -9223372036854775808 := by decide
  have e2 : IntKind.i64.max = 9223372036854775807 := by decide
  simp [Lit.wf, e1, e2]; omega
theorem set_last (ys : List Value) (a b : Value) (t : Nat) (h : ys.length = t) : (ys ++ [a]).set t b = ys ++ [b] := by subst h; simp
theorem lawInt : Keyed Try.prog 3 := int_keyed Try.underlying3
theorem contains_rev (vis : List Int) (z : Int) : vis.reverse.contains z = vis.contains z := by
  rw [Bool.eq_iff_iff]; simp
/-- numbers of a node by its place -/
def kfOf (ns : List Nd) (z : Int) : List Int := (ns[z.toNat]?.map Nd.ks).getD []
def encT (x : Int × Nat) : Array Value := #[.int .i64 x.1, .int .i64 (x.2 : Int)]
def nxtT (kf : Int → List Int) (pre : List (Int × Nat)) (x : Int × Nat) : Prop := ∃ vis st st', Runs kf pre vis st ∧ nextD vis st = some (x.1, x.2, st')
set_option maxRecDepth 100000 in
set_option maxHeartbeats 4000000 in
theorem walkIn_any (n : Nat) (hn : 1 ≤ n) (l : Nat) (ns : List Nd) (b off cap m : Nat) (hm : ns.length = m) (hm0 : 1 ≤ m) (hm1 : m ≤ 65536) (E : List Nat) (w0 : World) (hP : PageAt w0 (.slice (some ⟨b, off, none⟩) m cap) ns)
    (hL : ∀ n ∈ ns, ∀ z ∈ n.ks, 1 ≤ z ∧ z < (m : Int)) (g0 N : Nat) (hE : ∀ e ∈ E, w0.heap.size ≤ e ∧ e < N ∧ e ≠ g0) (hg : g0 < N) (hB : w0.heap.size ≤ N) (J Jx : List (Int × Nat) → World → Prop)
    (hY : ∀ pre x W, J pre W → nxtT (kfOf ns) pre x → YieldAt Fence.wide (n - 1) Try.prog l (encT x) W fun e W' =>
      (e = .returned (.bool true) ∧ J (pre ++ [x]) W' ∧ KeepBut E W W') ∨ (e = .returned (.bool false) ∧ Jx (pre ++ [x]) W'))
    (W : World) (hN : W.heap.size = N) (hJ : ∀ s X Y, J s X → Below N X Y → J s Y) (hk0 : ∀ k, k < w0.heap.size → W.heap[k]? = w0.heap[k]?) (hbox : W.cell? ⟨g0, 0, none⟩ = some (.slice (some ⟨b, off, none⟩) m cap)) (h0 : J [] W) :
    CallsIn Fence.wide n Try.prog 60 #[.func (.yield l) #[] #[], .pointer (some ⟨g0, 0, none⟩)] W fun e W' => (∃ v, e = .returned v) ∧
      ((∃ ys, ys = walkL m (kfOf ns) ∧ J ys W') ∨ (∃ pre, True ∧ Jx pre W')) := by
  refine callsIn_of_wp Try.func60 rfl trivial ?_ rfl
  simp only [Try.ntmps60, List.size_toArray, List.length_cons, List.length_nil, Nat.reduceAdd, Nat.reduceSub, Array.replicate_succ, Array.replicate_zero, List.push_toArray, List.append_toArray, List.nil_append, List.cons_append]
  have hmk := make_map m
  have HY := Lib.hid hY
  have HJ := Lib.hid hJ
  have HP := Lib.hid hP
  have HL := Lib.hid hL
  have HE := Lib.hid hE
  have H0 := Lib.hid h0
  have HK0 := Lib.hid hk0
  have HM := Lib.hid hm
  clear hY hJ hP hL hE h0 hk0 hm
  refine wpIn_wide.2 (wp_scope_straight ((wpIn_wide (n := n)).1 ?_))
  gi_wp2
  refine wpIn_label ?_
  gi_wp2
  have HW0 := Lib.hid (WI.start hN HE.out hg hB HK0.out hbox)
  have HJ0 : Hid (J [] (((W.alloc (.map #[] 0)).alloc (.cells #[.int .i64 0] 3)).alloc (.cells #[.slice (some ⟨N + 1, 0, none⟩) 1 1] 34))) := Lib.hid (HJ.out _ _ _ H0.out (by rw [← hN]; exact (((Below.refl _ W).alloc (Nat.le_refl _) _).alloc (by simp) _).alloc (by simp; omega) _))
  clear hmk H0 HK0 hbox
  gi_loopg [4] (2 * m + 1) (fun gg s4 wr => ∃ (pre : List (Int × Nat)) (vis : List Int) (st : List (List Int)), 2 * (m - vis.length) + st.length ≤ gg ∧ Hid (J pre wr) ∧ Hid (∃ st0, Runs (kfOf ns) pre vis st0 ∧ nextD vis st0 = nextD vis st) ∧ Hid (Good m vis st) ∧ Hid (WI E (.slice (some ⟨b, off, none⟩) m cap) w0.heap.size w0 g0 N vis st s4 wr))
  case atStart => exact ⟨[], [], [[0]], by simp, HJ0, Lib.hid ⟨_, .nil, rfl⟩, Lib.hid (Good.start hm0), HW0⟩
  case round =>
    obtain ⟨pre, vis, st, hgg, HJp, HRu, HG, HW⟩ := hrel
    clear HW0 HJ0 hN
    cases st with
    | nil =>
      obtain ⟨vs, ho, -⟩ := HW.out.own
      obtain ⟨p, c, rfl⟩ := own_empty ho
      clear ho
      have HE2 : Hid (pre = walkL m (kfOf ns)) := Lib.hid (by
        obtain ⟨st0, hr, hn⟩ := HRu.out
        exact runs_end hr (hn.trans rfl) m (by rw [hr.len]; exact HG.out.vlen))
      gi_wp2
      simp only [Exit.noGoto]
      go_end0
      exact ⟨⟨_, rfl⟩, .inl ⟨_, HE2.out, HJp.out⟩⟩
    | cons ks st =>
      obtain ⟨t, ht⟩ : ∃ t, st.length = t := ⟨_, rfl⟩
      obtain ⟨kl, hkl⟩ : ∃ kl, ks.length = kl := ⟨_, rfl⟩
      obtain ⟨g, cap', ys, q, c, rfl, g1, g2, g3, g4, ho, hys, ct, ft, hks, hrest, hc1, hc2⟩ := HW.out.top t kl ht hkl
      have HO := Lib.hid ho
      have HKS := Lib.hid hks
      have HRE := Lib.hid hrest
      have HYS := Lib.hid hys
      have HT := Lib.hid ht
      have HKL := Lib.hid hkl
      have htm : t ≤ 65536 := by have h1 := HG.out.len; have h2 := HG.out.vlen; rw [List.length_cons] at h1; omega
      have hgg' : 2 * (m - vis.length) + (t + 1) ≤ gk := by rw [← ht]; simpa using hgg
      clear ho hks hrest hys ht hkl hgg
      have hklm : kl ≤ 9223372036854775807 := by omega
      gi_wp2
      obtain ⟨U, rfl⟩ : ∃ U, U = wr := ⟨_, rfl⟩
      gi_loopw [4, 26] (fun s4 s26 X => ∃ i : Nat, i ≤ kl ∧ s4 = .slice (some ⟨g, 0, none⟩) (t + 1) cap' ∧ s26 = .int .i64 i ∧ Hid (Below U.heap.size U X) ∧ Hid (∀ y ∈ ks.take i, vis.contains y = true)) (fun _ s26 _ => kl - (intOf s26).toNat)
      case atStart => exact ⟨0, Nat.zero_le _, rfl, rfl, Lib.hid (Below.refl _ _), Lib.hid (fun y h => by simp at h)⟩
      case round =>
        obtain ⟨i, hi, rfl, rfl, HB, HV⟩ := hrel
        have HWX := Lib.hid (HW.out.keep HE.out hg hB (KeepBut.of_below HB.out))
        have hUX := HB.out.size
        by_cases hlt : i < kl
        · obtain ⟨qb, qo, rfl, hd⟩ := SInts.drop i (by rw [HKL.out]; exact hlt) (by have h := HKS.out; rw [← HKL.out] at h; exact h)
          rw [HKL.out] at hd
          obtain ⟨q2, hq2⟩ : ∃ q2, (if c = i + 1 then some (⟨qb, qo, none⟩ : Addr) else some ⟨qb, qo + (i + 1), none⟩) = q2 := ⟨_, rfl⟩
          have HDR := Lib.hid (hd q2 hq2)
          obtain ⟨z, hz⟩ : ∃ z, ks[i]? = some z := ⟨_, List.getElem?_eq_getElem (by rw [HKL.out]; exact hlt)⟩
          have hzr := HG.out.rng ks (by simp) z (List.mem_iff_getElem?.2 ⟨i, hz⟩)
          obtain ⟨zn, rfl⟩ : ∃ zn : Nat, z = (zn : Int) := ⟨z.toNat, by omega⟩
          have cz : wr.cell? ⟨qb, qo + i, none⟩ = some (.int .i64 (zn : Int)) ∧ qb < wr.heap.size := by
            obtain ⟨q', c', e, h1, h2, h3 | ⟨qb', qo', e', a, b', d, hc⟩⟩ := HKS.out
            · subst h3; simp at hz
            · injection e with e1 e2 e3
              rw [e'] at e1; injection e1 with e1; injection e1 with e1 e4
              subst e1 e4
              have h := hc i (by rw [HKL.out]; exact hlt)
              rw [hz] at h
              exact ⟨(HB.out.cell (p := ⟨qb, qo + i, none⟩) (cell_lt h)).trans h, Nat.lt_of_lt_of_le (cell_lt h) hUX⟩
          obtain ⟨cz, lqb⟩ := cz
          have hkey : keyOf Try.prog 3 (.int .i64 (zn : Int)) = some (.int .i64 (zn : Int)) := keyOf_int_mk Try.underlying3 (litwf64 (by omega) (by omega))
          have hown := HWX.out.map
          have hhas := set_has vis.reverse (zn : Int)
          rw [contains_rev] at hhas
          have HZ := Lib.hid hz
          obtain ⟨D, hD⟩ : ∃ D, setOf (H := Unit) (.agg []) (vis.reverse.map (Lit.int .i64)) = D := ⟨_, rfl⟩
          rw [hD] at hown hhas
          have HD := Lib.hid hD
          clear hD hd hz
          cases hb : vis.contains (zn : Int) with
          | true =>
            rw [hb] at hhas
            have HV2 : Hid (∀ y ∈ ks.take (i + 1), vis.contains y = true) := Lib.hid fun y hy => by
              rw [List.take_add_one, HZ.out] at hy
              rcases List.mem_append.1 hy with h | h
              · exact HV.out y h
              · simp at h; rw [h]; exact hb
            clear hb
            gi_wp2_with (gi_at_lookup; refine wpListIn_lookup_own_unit _ rfl _ _ 91 rfl 3 93 lawInt Try.underlying91 (zeroUnit _) N vis.length D rfl hown _ _ rfl hkey ?_)
            go_roundw
            case rel => exact ⟨i + 1, by omega, rfl, by simp, Lib.hid (HB.out.alloc HB.out.size _), HV2⟩
            case measure => simp [intOf]; omega
          | false =>
            rw [hb] at hhas
            have HN : Hid (nextD vis (ks :: st) = some ((zn : Int), t + 1, ks.drop (i + 1) :: st)) := Lib.hid (by rw [nextD_hit HV.out HZ.out hb, HT.out])
            clear hb
            have HJX : Hid (J pre (wr.alloc (.cells #[] 93))) := Lib.hid (HJ.out _ _ _ HJp.out ((HB.out.mono (by omega)).alloc (by omega) _))
            obtain ⟨fn, tmps, assign, body, hy, hR⟩ := HY.out pre ((zn : Int), t + 1) _ HJX.out (by
              obtain ⟨st0, hr, hn⟩ := HRu.out
              exact ⟨vis, st0, _, hr, hn.trans HN.out⟩)
            dsimp only [encT] at hy
            push_cast at hy
            have HR := Lib.hid hR
            clear hR
            gi_wp2_with (gi_at_lookup; refine wpListIn_lookup_own_unit _ rfl _ _ 91 rfl 3 93 lawInt Try.underlying91 (zeroUnit _) N vis.length D rfl hown _ _ rfl hkey ?_)
            clear hy
            refine HR.out.mono ?_
            rintro e W3 (⟨rfl, hJ3, hk3⟩ | ⟨rfl, hJx3⟩)
            · have HJ3 := Lib.hid hJ3
              have HK : Hid (KeepBut E U W3) := Lib.hid ((KeepBut.of_below HB.out).trans ((KeepBut.of_below ((Below.refl _ wr).alloc (Nat.le_refl _) _)).trans hk3))
              clear hJ3 hk3 HR HY HJX
              have hEg : ∀ k, N ≤ k → k ∉ E := fun k hk e => by have := HE.out k e; omega
              have HW3 := Lib.hid (HW.out.keep HE.out hg hB HK.out)
              have hown3 := HW3.out.map
              rw [HD.out] at hown3
              have hsg := HK.out.2 g (hEg g (by omega)) g2
              have HO3 := Lib.hid (own_same HO.out (fun g' e => by cases e; exact hsg))
              have ct3 := (World.cell?_of_block (a := ⟨g, t, none⟩) hsg).trans ct
              have ft3 := (World.frozen?_of_block (a := ⟨g, t, none⟩) hsg).trans ft
              have l3 := Nat.lt_of_lt_of_le g2 HK.out.1
              have HEG := Lib.hid hEg
              clear hsg hEg
              have hmv : vis.length < maxLen := by have := HG.out.vlen; unfold maxLen; omega
              gi_wp2_with (gi_at_mapUpdate; refine wpListIn_mapUpdate_own _ rfl _ _ _ 91 rfl 3 93 lawInt Try.underlying91 (unitElem (H := Unit)) N vis.length D rfl hown3 hmv _ _ _ rfl rfl hkey _ [] unitElem_mk ?_)
              intro W4 hmap4 hgrow4
              have HM4 := Lib.hid hmap4
              have HG4 := Lib.hid hgrow4
              have hsg := hgrow4.block g (by omega) (by simp; omega)
              have HO4 := Lib.hid (own_same HO3.out (fun g' e => by cases e; exact hsg))
              have ct4 := (World.cell?_of_block (a := ⟨g, t, none⟩) hsg).trans ct3
              have ft4 := (World.frozen?_of_block (a := ⟨g, t, none⟩) hsg).trans ft3
              have l4 := Nat.lt_of_lt_of_le l3 hgrow4.size
              obtain ⟨nd, hnd⟩ : ∃ nd, ns[zn]? = some nd := ⟨_, List.getElem?_eq_getElem (by rw [HM.out]; omega)⟩
              have hB4 : ∀ k, k < w0.heap.size → W4.heap[k]? = w0.heap[k]? := fun k hk => (hgrow4.block k (by have := HW3.out.size; omega) (by simp; omega)).trans (HW3.out.kept k hk)
              have hbox4 : W4.cell? ⟨g0, 0, none⟩ = some (.slice (some ⟨b, off, none⟩) m cap) := (World.cell?_of_block (a := ⟨g0, 0, none⟩) (hgrow4.block g0 (by have := HW3.out.size; omega) (by simp; omega))).trans HW3.out.box
              have lg0 : g0 < W4.heap.size := by have := HW3.out.size; have := hgrow4.size; omega
              obtain ⟨p1, p2, p3⟩ := HP.out
              obtain ⟨kq, kc, hkv⟩ := (p2 nd (List.mem_iff_getElem?.2 ⟨zn, hnd⟩)).1.form
              have hcell0 : w0.cell? ⟨b, off + zn * 34 + 1, none⟩ = some (.slice kq nd.ks.length kc) := by
                rcases p3 with ⟨a, cap2, e, h⟩ | ⟨b2, off2, cap2, e, hc⟩
                · rw [h] at hnd; simp at hnd
                · injection e with e1 e2 e3
                  injection e1 with e1; injection e1 with e1 e4
                  subst e1 e4
                  exact hc zn nd hnd 1 _ (by rw [nd.c1, hkv])
              have hcell4 := (World.cell?_of_block (a := ⟨b, off + zn * 34 + 1, none⟩) (hB4 b (cell_lt hcell0))).trans hcell0
              have lb4 : b < W4.heap.size := by have := cell_lt hcell4; exact this
              have nb : b ≠ g := by have := cell_lt hcell0; dsimp only at this; omega
              have ng0 : g0 ≠ g := by omega
              have HND := Lib.hid hnd
              have HKV := Lib.hid hkv
              have HB4 := Lib.hid hB4
              clear hsg hmap4 hgrow4 hcell0 p1 p2 p3 hnd hkv hB4 ct3 ft3 hown3 ct ft l3
              obtain ⟨i0, hi0, hz0, hz1, hz2⟩ := info_parts Try.infoTS
              have hset : (ys ++ [Value.slice (some ⟨qb, qo, none⟩) kl c]).set t (.slice q2 (kl - (i + 1)) (c - (i + 1))) = ys ++ [.slice q2 (kl - (i + 1)) (c - (i + 1))] := set_last _ _ _ _ HYS.out
              have HO5 := Lib.hid (HO4.out.stored t (.slice q2 (kl - (i + 1)) (c - (i + 1))))
              rw [hset] at HO5
              clear hset
              gi_wp2_with (gi_at_builtin; refine wpListIn_append_own_at _ rfl _ _ 92 rfl (N + 2) 34 i0 (.slice none 0 0) 1 24 Try.underlying92 hi0 hz0 hz1 hz2 rfl (by decide) _ _ _ rfl (HO5.out.1.alloc _) ⟨W4.heap.size, 0, none⟩ 1 1 [.slice kq nd.ks.length kc] rfl rfl ?c1 ?c2 ?c3 ?c4 ?c5 ?_)
              case c1 =>
                intro j u hj
                have h := (whole_new (W4.setCell ⟨g, t, none⟩ (.slice q2 (kl - (i + 1)) (c - (i + 1)))) [.slice kq nd.ks.length kc] 34 W4.heap.size (by simp)).cellAt j
                rw [add_plain, Nat.zero_add]
                exact h.trans hj
              case c2 => intro u hu; simp at hu; subst hu; rfl
              case c3 => unfold maxLen; omega
              case c4 => omega
              case c5 => simp; omega
              intro v' W7 hown7 hgrow7 _ hat7
              have HO7 := Lib.hid hown7
              have hz4 := HG4.out.size
              have hz3 := HW3.out.size
              have hs7 : W4.heap.size + 1 ≤ W7.heap.size := by have := hgrow7.size; simpa using this
              have HS7 : Hid (∀ k, k ≠ N → k ≠ g → k < W3.heap.size → W7.heap[k]? = W3.heap[k]?) := Lib.hid fun k h1 h2 h3 => by
                have a1 := hgrow7.block k (by simp; omega) (by simp [Value.ownBlock]; omega)
                have a2 := Below.heap_alloc (W4.setCell ⟨g, t, none⟩ (.slice q2 (kl - (i + 1)) (c - (i + 1)))) (.cells #[.slice kq nd.ks.length kc] 34) k (by simp; omega)
                have a3 := Below.heap_setCell W4 ⟨g, t, none⟩ (.slice q2 (kl - (i + 1)) (c - (i + 1))) k (by simpa using h2)
                exact ((a1.trans a2).trans a3).trans (HG4.out.block k h3 (by simp; omega))
              have HM7 : Hid (W7.heap[N]? = W4.heap[N]?) := Lib.hid (by
                have a1 := hgrow7.block N (by simp; omega) (by simp [Value.ownBlock]; omega)
                have a2 := Below.heap_alloc (W4.setCell ⟨g, t, none⟩ (.slice q2 (kl - (i + 1)) (c - (i + 1)))) (.cells #[.slice kq nd.ks.length kc] 34) N (by simp; omega)
                have a3 := Below.heap_setCell W4 ⟨g, t, none⟩ (.slice q2 (kl - (i + 1)) (c - (i + 1))) N (by simp; omega)
                exact (a1.trans a2).trans a3)
              have HJ7 : Hid (J (pre ++ [((zn : Int), t + 1)]) W7) := Lib.hid (HJ.out _ _ _ HJ3.out (by
                have b1 := (Below.refl N W3).grown HG4.out (by omega) (fun k e => by cases e; omega)
                have b2 := b1.setCell (p := ⟨g, t, none⟩) (by dsimp only; omega) (.slice q2 (kl - (i + 1)) (c - (i + 1)))
                exact (b2.alloc (by simp; omega) _).grown hgrow7 (by simp; omega) (fun k e => by simp [Value.ownBlock] at e; omega)))
              have hkf : kfOf ns (zn : Int) = nd.ks := by unfold kfOf; simp [HND.out]
              have HKI : KidsIn m (kfOf ns) := fun y x hx => by
                unfold kfOf at hx
                cases hq : ns[y.toNat]? with
                | none => rw [hq] at hx; simp at hx
                | some nd' => rw [hq] at hx; simp at hx; have := HL.out nd' (List.mem_iff_getElem?.2 ⟨_, hq⟩) x hx; omega
              have HG7 : Hid (Good m ((zn : Int) :: vis) (nd.ks :: ks.drop (i + 1) :: st)) := Lib.hid (by have := HG.out.step HKI HN.out; rwa [hkf] at this)
              have HR7 : Hid (∃ st0, Runs (kfOf ns) (pre ++ [((zn : Int), t + 1)]) ((zn : Int) :: vis) st0 ∧ nextD ((zn : Int) :: vis) st0 = nextD ((zn : Int) :: vis) (nd.ks :: ks.drop (i + 1) :: st)) := Lib.hid (by
                obtain ⟨st0, hr, hn⟩ := HRu.out
                have := Runs.step hr (hn.trans HN.out)
                rw [hkf] at this
                exact ⟨_, this, rfl⟩)
              have HW7 : Hid (WI E (.slice (some ⟨b, off, none⟩) m cap) w0.heap.size w0 g0 N ((zn : Int) :: vis) (nd.ks :: ks.drop (i + 1) :: st) v' W7) := Lib.hid (by
                have hU3 : ∀ k, k < N + 2 → k ≠ N → k ∉ E → W7.heap[k]? = U.heap[k]? := fun k h1 h2 h3 =>
                  (HS7.out k h2 (by omega) (by omega)).trans (HK.out.2 k h3 (by have := HW.out.size; omega))
                refine ⟨fun k hk => (HS7.out k (by omega) (by omega) (by omega)).trans (HW3.out.kept k hk), (World.cell?_of_block (a := ⟨g0, 0, none⟩) (HS7.out g0 (by omega) ng0 (by omega))).trans HW3.out.box, ?_, ?_, by omega⟩
                · obtain ⟨es, cl, hb, F, hs, hD⟩ := HM4.out
                  refine ⟨es, cl, HM7.out.trans hb, F, hs, ?_⟩
                  rw [← hD, ← HD.out]
                  simp [setOf_snoc]
                · refine ⟨_, by have := HO7.out; simp only [List.length_cons, List.length_drop]; rw [HT.out]; exact this, fun j u k hu hk => ?_⟩
                  simp only [List.reverse_append, List.reverse_cons, List.reverse_nil, List.nil_append, List.cons_append] at hu
                  match j, hu, hk with
                  | 0, hu, hk =>
                    simp at hu hk
                    subst hu hk
                    obtain ⟨p1, p2, p3⟩ := HP.out
                    obtain ⟨⟨h1, h2⟩, -, ⟨cp, cl, cc, hcv, hcl, hcm⟩, -⟩ := p2 nd (List.mem_iff_getElem?.2 ⟨zn, HND.out⟩)
                    rw [HKV.out] at h2 hcv
                    injection hcv with f1 f2 f3
                    subst f1 f2 f3
                    refine ⟨_, _, rfl, hcl, hcm, ?_⟩
                    rcases h2 with ⟨a, cap2, e, h⟩ | ⟨b2, off2, cap2, e, hc⟩
                    · exact .inl h
                    · injection e with e1 e2 e3
                      by_cases hne : nd.ks = []
                      · exact .inl hne
                      · have hl0 : 0 < nd.ks.length := by cases hq : nd.ks with | nil => exact absurd hq hne | cons a r => simp
                        have hb2 := cell_lt (hc 0 hl0)
                        dsimp only at hb2
                        exact .inr ⟨b2, off2, e1, by omega, by omega, fun e => by have := HE.out b2 e; omega, fun j hj => (World.cell?_of_block (a := ⟨b2, off2 + j, none⟩) ((HS7.out b2 (by omega) (by omega) (by omega)).trans (HW3.out.kept b2 hb2))).trans (hc j hj)⟩
                  | 1, hu, hk =>
                    simp at hu hk
                    subst hu hk
                    exact HDR.out.keep hU3
                  | j + 2, hu, hk => exact (HRE.out j u k (by simpa using hu) (by simpa using hk)).keep hU3)
              have hvl := HG7.out.vlen
              simp only [List.length_cons] at hvl
              clear hown7 hgrow7 hat7 HKI hkf HO4 HO5 HM4 HG4 hs7 hz4 hz3
              gi_wp2
              gi_roundg (gk - 1)
              case measure => omega
              case rel =>
                refine ⟨_, _, _, ?_, HJ7, HR7, HG7, HW7⟩
                simp only [List.length_cons]
                rw [HT.out]
                omega
            · have HJX3 := Lib.hid hJx3
              clear hJx3
              gi_wp2
              simp only [Exit.noGoto]
              go_end0
              exact ⟨⟨_, rfl⟩, .inr ⟨_, trivial, HJX3.out⟩⟩
        · have HPOP : Hid (nextD vis (ks :: st) = nextD vis st) := Lib.hid (nextD_pop fun y hy => by
            have h := HV.out y
            rw [List.take_of_length_le (by rw [HKL.out]; omega)] at h
            exact h hy)
          have HR7 : Hid (∃ st0, Runs (kfOf ns) pre vis st0 ∧ nextD vis st0 = nextD vis st) := Lib.hid (by
            obtain ⟨st0, hr, hn⟩ := HRu.out
            exact ⟨st0, hr, hn.trans HPOP.out⟩)
          have HG7 := Lib.hid HG.out.pop
          have HJ7 : Hid (J pre wr) := Lib.hid (HJ.out _ _ _ HJp.out (HB.out.mono (by omega)))
          have hEg : ∀ k, N ≤ k → k ∉ E := fun k hk e => by have := HE.out k e; omega
          have HW7 : Hid (WI E (.slice (some ⟨b, off, none⟩) m cap) w0.heap.size w0 g0 N vis st (.slice (some ⟨g, 0, none⟩) t cap') wr) := Lib.hid (by
            refine ⟨HWX.out.kept, HWX.out.box, HWX.out.map, ⟨ys, ?_, fun j u k hu hk => (HRE.out j u k hu hk).keep fun k h1 h2 h3 => HB.out.block k (by have := HW.out.size; omega)⟩, HWX.out.size⟩
            rw [HT.out]
            exact own_shrink (own_same HO.out (fun g' e => by cases e; exact HB.out.block g g2)))
          clear hEg HWX HO HKS
          gi_wp2
          gi_roundg (gk - 1)
          case measure => omega
          case rel =>
            refine ⟨_, _, _, ?_, HJ7, HR7, HG7, HW7⟩
            rw [HT.out]
            omega
theorem walk_next (n : Nat) (hn : 1 ≤ n) (ns : List Nd) (b off cap m : Nat) (hm : ns.length = m) (hm0 : 1 ≤ m) (hm1 : m ≤ 65536) (E : List Nat) (w0 : World) (hP : PageAt w0 (.slice (some ⟨b, off, none⟩) m cap) ns)
    (hL : ∀ n ∈ ns, ∀ z ∈ n.ks, 1 ≤ z ∧ z < (m : Int)) (g0 : Nat) (w : World) (hE : ∀ e ∈ E, w0.heap.size ≤ e ∧ e < w.heap.size + 2 ∧ e ≠ g0) (hg : g0 < w.heap.size) (hb : Below w0.heap.size w0 w)
    (hbox : w.cell? ⟨g0, 0, none⟩ = some (.slice (some ⟨b, off, none⟩) m cap)) :
    SeqKeep Fence.wide n Try.prog 60 #[.pointer (some ⟨g0, 0, none⟩)] encT (KeepBut E) (nxtT (kfOf ns)) (fun ys => ys = walkL m (kfOf ns)) (fun _ => True) w := fun l J Jx W hW hz hJ hY h0 =>
  walkIn_any n hn l ns b off cap m hm hm0 hm1 E w0 hP hL g0 W.heap.size (fun e he => by have := hE e he; omega) (by omega) (by have := hb.size; omega) J Jx hY W rfl hJ
    (fun k hk => (hW.block k (by have := hb.size; omega)).trans (hb.block k hk)) ((hW.cell (p := ⟨g0, 0, none⟩) hg).trans hbox) h0
end Go.Proofs.Ytecnapecmioamaa
