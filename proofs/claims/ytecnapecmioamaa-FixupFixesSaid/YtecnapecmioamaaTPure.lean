/- Contract of purflingref04.Ints: are two lists of numbers the same? Written by program out of the text on purflingref01.Same: the code is the same. -/
/- The order that every statement of layer 4 asks for first is known. -/
/- Pages whose nodes are met in the order of their places: chains and fans: what Check says of them, as plain data. -/
import Derived.Test.YtecnapecmioamaaSBase
import Derived.Test.YtecnapecmioamaaRound
import Derived.Test.YtecnapecmioamaaTOrder
namespace Go.Proofs.Ytecnapecmioamaa
open Go.RowKit Go.Shelf
set_option linter.unusedVariables false

set_option maxHeartbeats 400000 in
theorem isame_lens (k : IntKind) (a b : Option Addr) (n m c d : Nat) (w : World) (h : n ≠ m) (hn : n ≤ 9223372036854775807) (hm : m ≤ 9223372036854775807) :
    Calls Try.prog 12 #[.slice a n c, .slice b m d] w fun e w' => e = .returned (.bool false) ∧ w = w' := by
  have h' : ((n : Int) == (m : Int)) = false := by simp; omega
  have h'' : ((n : Int) != (m : Int)) = true := by simp; omega
  go_enter Try.func12, Try.ntmps12
  go_wp2
  go_ret
  exact ⟨rfl, rfl⟩
theorem igetD_take_ne {xs ys : List Int} (h : xs.length = ys.length) (h' : xs ≠ ys) : ∃ k, k < xs.length ∧ xs[k]?.getD 0 ≠ ys[k]?.getD 0 := by
  apply Classical.byContradiction
  intro hn
  apply h'
  apply List.ext_getElem h
  intro i h1 h2
  apply Classical.byContradiction
  intro hd
  exact hn ⟨i, h1, by simpa [h1, h2] using hd⟩
set_option maxHeartbeats 400000 in
theorem isame_some (b off cap b' off' cap' : Nat) (xs ys : List Int) (w : World) (hm : xs.length ≤ 9223372036854775807) (hlen : xs.length = ys.length)
    (hx : ∀ j, j < xs.length → w.cell? ⟨b, off + j, none⟩ = some (.int .i64 (xs[j]?.getD 0)))
    (hy : ∀ j, j < xs.length → w.cell? ⟨b', off' + j, none⟩ = some (.int .i64 (ys[j]?.getD 0))) (same : Bool) (hs : Hid (decide (xs = ys) = same)) :
    Calls Try.prog 12 #[.slice (some ⟨b, off, none⟩) xs.length cap, .slice (some ⟨b', off', none⟩) xs.length cap'] w fun e w' => e = .returned (.bool same) ∧ ∃ n, w' = w.drewN n := by
  have HL := Lib.hid hlen
  clear hlen
  go_enter Try.func12, Try.ntmps12
  go_wp2
  go_loopw [5] (fun i wr => ∃ k n : Nat, k ≤ xs.length ∧ i = .int .i64 k ∧ Hid (∀ j, j < k → xs[j]?.getD 0 = ys[j]?.getD 0) ∧ wr = w.drewN n) (fun i _ => xs.length - (intOf i).toNat)
  case atStart => exact ⟨0, 0, Nat.zero_le _, rfl, fun j hj => by omega, rfl⟩
  case round =>
    obtain ⟨k, n, hk, rfl, hj, rfl⟩ := hrel
    by_cases hlt : k < xs.length
    · have hx' := hx k hlt
      have hy' := hy k hlt
      clear hx hy
      have HJ : xs[k]?.getD 0 = ys[k]?.getD 0 → Hid (∀ j, j < k + 1 → xs[j]?.getD 0 = ys[j]?.getD 0) := fun he j hj2 => by
        by_cases hjk : j < k
        · exact hj.out j hjk
        · rw [show j = k by omega]; exact he
      have HF : xs[k]?.getD 0 ≠ ys[k]?.getD 0 → same = false := fun he => by rw [← hs.out]; simp; exact fun h => he (by rw [h])
      obtain ⟨x, hx0⟩ : ∃ x, xs[k]?.getD 0 = x := ⟨_, rfl⟩
      obtain ⟨y, hy0⟩ : ∃ y, ys[k]?.getD 0 = y := ⟨_, rfl⟩
      rw [hx0] at hx' HJ HF; rw [hy0] at hy' HJ HF
      clear hx0 hy0
      by_cases he : x = y
      · have he' : (x != y) = false := by simp [he]
        have HJ' := HJ he
        clear he HJ HF
        go_wp2
        go_quiet (fail)
        go_wp2
        go_roundw
        case rel => exact ⟨k + 1, _, by omega, by go_num, HJ', rfl⟩
        case measure => simp [intOf]; omega
      · have he' : (x != y) = true := by simp [he]
        have hf := HF he
        clear he HJ HF hs
        subst hf
        go_wp2
        go_quiet (fail)
        go_wp2
        go_ret
        exact ⟨rfl, _, World.drewN_drewN ..⟩
    · have hke : k = xs.length := by omega
      have ht : same = true := by
        rw [← hs.out]; simp
        apply Classical.byContradiction; intro hne
        obtain ⟨i, hi, hne⟩ := igetD_take_ne HL.out hne
        exact hne (hj.out i (by omega))
      clear hk hx hy hke hs
      subst ht
      go_wp2
      go_ret
      exact ⟨rfl, n, rfl⟩
set_option maxHeartbeats 400000 in
theorem isame_none (u v : Option Addr) (c d : Nat) (w : World) : Calls Try.prog 12 #[.slice u 0 c, .slice v 0 d] w fun e w' => e = .returned (.bool true) ∧ ∃ n, w' = w.drewN n := by
  go_enter Try.func12, Try.ntmps12
  go_wp2
  go_loop [5] (fun i => i = .int .i64 0) (fun _ => 0)
  case atStart => exact rfl
  case round =>
    obtain rfl := hrel
    go_wp2
    go_ret
    exact ⟨rfl, 0, rfl⟩
theorem ints_any (x y : Value) (xs ys : List Int) (w : World) (hx : Ints w x xs) (hy : Ints w y ys) :
    Calls Try.prog 12 #[x, y] w fun e w' => e = .returned (.bool (decide (xs = ys))) ∧ ∃ n, w' = w.drewN n := by
  obtain ⟨hm, hx⟩ := hx
  obtain ⟨hm', hy⟩ := hy
  by_cases hl : xs.length = ys.length
  · rcases hx with ⟨a, c, rfl, rfl⟩ | ⟨b, off, cap, rfl, hc⟩
    · obtain rfl : ys = [] := by simpa using hl.symm
      rcases hy with ⟨a', c', rfl, _⟩ | ⟨b', off', cap', rfl, hc'⟩
      · exact isame_none a a' c c' w
      · exact isame_none a _ c cap' w
    · rcases hy with ⟨a', c', rfl, rfl⟩ | ⟨b', off', cap', rfl, hc'⟩
      · obtain rfl : xs = [] := by simpa using hl
        exact isame_none _ a' cap c' w
      · rw [← hl]
        exact isame_some b off cap b' off' cap' xs ys w hm hl hc (fun j hj => hc' j (by omega)) _ rfl
  · have hd : decide (xs = ys) = false := by simp; exact fun h => hl (by rw [h])
    rw [hd]
    rcases hx with ⟨a, c, rfl, rfl⟩ | ⟨b, off, cap, rfl, hc⟩ <;> rcases hy with ⟨a', c', rfl, rfl⟩ | ⟨b', off', cap', rfl, hc'⟩
    · exact absurd rfl hl
    · exact (isame_lens .i64 a _ 0 ys.length c cap' w hl (by omega) hm').mono fun e w' ⟨a, b⟩ => ⟨a, 0, b.symm⟩
    · exact (isame_lens .i64 _ a' xs.length 0 cap c' w hl hm (by omega)).mono fun e w' ⟨a, b⟩ => ⟨a, 0, b.symm⟩
    · exact (isame_lens .i64 _ _ xs.length ys.length cap cap' w hl hm hm').mono fun e w' ⟨a, b⟩ => ⟨a, 0, b.symm⟩
end Go.Proofs.Ytecnapecmioamaa

namespace Go.Proofs.Ytecnapecmioamaa
open Go.RowKit Go.Shelf
set_option linter.unusedVariables false
attribute [local go_sem] Oper.semAt_some

def ndKids (kv : Value) (ks : List Int) : Nd := { Nd.zero with kv := kv, ks := ks }
def shP (A B : Nat) : List Nd := [ndKids (.slice (some ⟨A, 0, none⟩) 2 2) [1, 2], Nd.zero, ndKids (.slice (some ⟨B, 0, none⟩) 1 1) [3], Nd.zero]
theorem sh_check (A B : Nat) : checkP (shP A B) = (0, 0) := by rfl
theorem sh_order (A B : Nat) : (walkL (shP A B).length (kfOf (shP A B))).map Prod.fst = [0, 1, 2, 3] := by rfl
theorem sh_depths (A B : Nat) : depthsP (shP A B) = [1, 2, 2, 3] := by rfl
theorem nil_page (W : World) : PageAt W (.slice none 0 0) [] := ⟨by simp, fun n h => by (cases h), .inl ⟨none, 0, rfl, rfl⟩⟩
theorem sh_kids (A B : Nat) : ∀ n ∈ shP A B, n.ks.length ≤ 70000 := fun n hn => by
  simp [shP, ndKids, Nd.zero] at hn
  rcases hn with rfl | rfl | rfl | rfl <;> simp
theorem capok_slice (p : Option Addr) (len cap : Nat) (h : len ≤ cap) (h2 : cap ≤ 9223372036854775807) : CapOk (.slice p len cap) := ⟨p, len, cap, rfl, h, h2⟩
theorem ints_nil (W : World) : Ints W (.slice none 0 0) [] := ⟨by simp, .inl ⟨none, 0, rfl, rfl⟩⟩
theorem nd_zero_ok (W : World) : Nd.zero.ok W := ⟨ints_nil W, ints_nil W, capok_slice _ _ _ (by omega) (by omega), capok_slice _ _ _ (by omega) (by omega)⟩
theorem nd_kids_ok {W : World} {kv : Value} {ks : List Int} (h : Ints W kv ks) (hc : CapOk kv) : (ndKids kv ks).ok W := ⟨h, ints_nil W, hc, capok_slice _ _ _ (by omega) (by omega)⟩
theorem flat_get : ∀ (ns : List Nd) (i : Nat) (n : Nd) (j : Nat) (v : Value), ns[i]? = some n → n.cells[j]? = some v → (ns.flatMap Nd.cells)[i * 34 + j]? = some v
  | [], i, n, j, v, h, _ => by simp at h
  | a :: ns, 0, n, j, v, h, hj => by
    simp at h; subst h
    have hl : j < a.cells.length := (List.getElem?_eq_some_iff.1 hj).1
    rw [List.flatMap_cons, Nat.zero_mul, Nat.zero_add, List.getElem?_append_left hl]
    exact hj
  | a :: ns, i + 1, n, j, v, h, hj => by
    rw [List.flatMap_cons, List.getElem?_append_right (by rw [a.len]; omega), a.len, show (i + 1) * 34 + j - 34 = i * 34 + j by omega]
    exact flat_get ns i n j v (by simpa using h) hj
theorem flat_at {X : World} {g t : Nat} {ns : List Nd} (h : Whole X g t (ns.flatMap Nd.cells)) : ∀ i n, ns[i]? = some n → NdAt X g (0 + i * 34) n := fun i n hn j v hj => by
  rw [Nat.zero_add, h.cellAt]; exact flat_get ns i n j v hn hj
theorem page_flat {X : World} {g t m cap : Nat} {ns : List Nd} (h : Whole X g t (ns.flatMap Nd.cells)) (hm : ns.length = m) (hm2 : m ≤ 9223372036854775807) (hok : ∀ n ∈ ns, n.ok X) : PageAt X (.slice (some ⟨g, 0, none⟩) m cap) ns := by
  subst hm
  exact ⟨hm2, hok, .inr ⟨g, 0, cap, rfl, flat_at h⟩⟩
theorem page_sh (w : World) : PageAt (((w.alloc (.cells #[.int .i64 1, .int .i64 2] 3)).alloc (.cells #[.int .i64 3] 3)).alloc (.cells ((shP w.heap.size (w.heap.size + 1)).flatMap Nd.cells).toArray 47)) (.slice (some ⟨w.heap.size + 1 + 1, 0, none⟩) 4 4) (shP w.heap.size (w.heap.size + 1)) := by
  have k1 : Whole (((w.alloc (.cells #[.int .i64 1, .int .i64 2] 3)).alloc (.cells #[.int .i64 3] 3)).alloc (.cells ((shP w.heap.size (w.heap.size + 1)).flatMap Nd.cells).toArray 47)) w.heap.size 3 [.int .i64 1, .int .i64 2] := ((whole_new w [.int .i64 1, .int .i64 2] 3 _ rfl).alloc _).alloc _
  have k2 : Whole (((w.alloc (.cells #[.int .i64 1, .int .i64 2] 3)).alloc (.cells #[.int .i64 3] 3)).alloc (.cells ((shP w.heap.size (w.heap.size + 1)).flatMap Nd.cells).toArray 47)) (w.heap.size + 1) 3 [.int .i64 3] := (whole_new (w.alloc (.cells #[.int .i64 1, .int .i64 2] 3)) [.int .i64 3] 3 _ (by simp)).alloc _
  refine page_flat (t := 47) (whole_new ((w.alloc (.cells #[.int .i64 1, .int .i64 2] 3)).alloc (.cells #[.int .i64 3] 3)) ((shP w.heap.size (w.heap.size + 1)).flatMap Nd.cells) 47 _ (by simp)) rfl (by omega) (fun n hn => ?_)
  simp only [shP, List.mem_cons, List.not_mem_nil, or_false] at hn
  rcases hn with rfl | rfl | rfl | rfl
  · exact nd_kids_ok (Ints.whole k1 rfl (by simp)) (capok_slice _ _ _ (by omega) (by omega))
  · exact nd_zero_ok _
  · exact nd_kids_ok (Ints.whole k2 rfl (by simp)) (capok_slice _ _ _ (by omega) (by omega))
  · exact nd_zero_ok _
end Go.Proofs.Ytecnapecmioamaa

namespace Go.Proofs.Ytecnapecmioamaa
open Go.RowKit Go.Shelf
set_option linter.unusedVariables false

theorem nextD_all {vis : List Int} : ∀ {st : List (List Int)}, (∀ ks ∈ st, ∀ z ∈ ks, vis.contains z = true) → nextD vis st = none
  | [], _ => rfl
  | ks :: st, h => by rw [nextD_pop (h ks (by simp))]; exact nextD_all (fun k hk => h k (by simp [hk]))
/-- the first k places, with depths d -/
def inOrder (d : Nat → Nat) (k : Nat) : List (Int × Nat) := (List.range k).map fun (i : Nat) => ((i : Int), d i)
theorem inOrder_succ (d : Nat → Nat) (k : Nat) : inOrder d (k + 1) = inOrder d k ++ [((k : Int), d k)] := by simp [inOrder, List.range_succ]
theorem inOrder_len (d : Nat → Nat) (k : Nat) : (inOrder d k).length = k := by simp [inOrder]
theorem vis_has {kf : Int → List Int} {d : Nat → Nat} {k : Nat} {vis : List Int} {st : List (List Int)} (h : Runs kf (inOrder d k) vis st) (z : Int) : vis.contains z = true ↔ 0 ≤ z ∧ z < k := by
  rw [h.vis]
  simp only [List.contains_iff_mem, List.mem_reverse, inOrder, List.map_map, List.mem_map, List.mem_range, Function.comp]
  constructor
  · rintro ⟨a, ha, rfl⟩; omega
  · intro hz; exact ⟨z.toNat, by omega, by omega⟩
theorem runs_done {kf : Int → List Int} {m : Nat} (hm : 1 ≤ m) (hk : KidsIn m kf) {d : Nat → Nat} {vis : List Int} {st : List (List Int)} (h : Runs kf (inOrder d m) vis st) : walkL m kf = inOrder d m :=
  (runs_end h (nextD_all fun ks hks z hz => (vis_has h z).2 ((h.good hm hk).rng ks hks z hz)) m (by rw [inOrder_len]; exact Nat.le_refl _)).symm
theorem depL_get (m : Nat) (d : Nat → Nat) (k : Nat) (hk : k ≤ m) (j : Nat) (hj : j < m) : (depL m (inOrder d k))[j]?.getD 0 = if j < k then (d j : Int) else 0 := by
  induction k with
  | zero => simp [depL, inOrder, hj]
  | succ k ih =>
    rw [inOrder_succ, depL_snoc]
    by_cases h : j = k
    · subst h
      rw [show ((j : Int)).toNat = j by omega, List.getElem?_set_self (by rw [depL_len]; exact hj)]
      simp
    · have : ((k : Int)).toNat ≠ j := by omega
      rw [List.getElem?_set_ne this, ih (by omega)]
      by_cases h2 : j < k
      · rw [if_pos h2, if_pos (by omega)]
      · rw [if_neg h2, if_neg (by omega)]
theorem depL_all (m : Nat) (d : Nat → Nat) : depL m (inOrder d m) = (List.range m).map (fun i => (d i : Int)) := by
  apply List.ext_getElem
  · rw [depL_len]; simp
  · intro j h1 h2
    rw [depL_len] at h1
    have := depL_get m d m (Nat.le_refl _) j h1
    rw [if_pos h1, List.getElem?_eq_getElem (by rw [depL_len]; exact h1)] at this
    simpa using this
/-- chains: each node's first kid is the next one -/
theorem chain_runs {kf : Int → List Int} {m : Nat} (h : ∀ i : Nat, i + 1 < m → ∃ t, kf (i : Int) = ((i + 1 : Nat) : Int) :: t) : ∀ k, k ≤ m → ∃ vis st, Runs kf (inOrder (· + 1) k) vis st ∧ st.length = k + 1 ∧ (k < m → ∃ t st', st = ((k : Int) :: t) :: st') := by
  intro k
  induction k with
  | zero => intro _; exact ⟨[], [[0]], by unfold inOrder; exact .nil, rfl, fun _ => ⟨[], [], rfl⟩⟩
  | succ k ih =>
    intro hk
    obtain ⟨vis, st, hr, hl, ht⟩ := ih (by omega)
    obtain ⟨t, st', rfl⟩ := ht (by omega)
    have hn : nextD vis (((k : Int) :: t) :: st') = some ((k : Int), st'.length + 1, t :: st') := by
      refine nextD_hit (i := 0) (fun y hy => by simp at hy) (by simp) ?_
      rw [Bool.eq_false_iff]
      intro hc
      have := (vis_has hr (k : Int)).1 hc
      omega
    have hr' := hr.step hn
    simp only [List.length_cons] at hl
    rw [show st'.length + 1 = k + 1 by omega] at hr'
    refine ⟨_, _, by rw [inOrder_succ]; exact hr', by simp; omega, fun hlt => ?_⟩
    obtain ⟨t', ht'⟩ := h k hlt
    exact ⟨t', _, by rw [ht']⟩
theorem chain_walk {kf : Int → List Int} {m : Nat} (hm : 1 ≤ m) (hk : KidsIn m kf) (h : ∀ i : Nat, i + 1 < m → ∃ t, kf (i : Int) = ((i + 1 : Nat) : Int) :: t) : walkL m kf = inOrder (· + 1) m := by
  obtain ⟨vis, st, hr, -⟩ := chain_runs h m (Nat.le_refl _)
  exact runs_done hm hk hr
/-- fans: all nodes are the root's kids -/
theorem fan_runs {kf : Int → List Int} {m : Nat} (h0 : kf 0 = (List.range' 1 (m - 1)).map Int.ofNat) (h : ∀ i : Nat, 1 ≤ i → i < m → kf (i : Int) = []) : ∀ k, 1 ≤ k → k ≤ m → ∃ vis st, Runs kf (inOrder (fun i => if i = 0 then 1 else 2) k) vis st ∧ nextD vis st = nextD vis [(List.range' k (m - k)).map Int.ofNat, []] := by
  intro k h1
  induction k with
  | zero => omega
  | succ k ih =>
    intro hk
    by_cases hk0 : k = 0
    · subst hk0
      have hr : Runs kf [((0 : Int), 1)] [0] (kf 0 :: [[]]) := Runs.step (pre := []) (z := 0) (d := 1) (st' := [[]]) .nil rfl
      refine ⟨_, _, by unfold inOrder; exact hr, ?_⟩
      rw [h0]
    · obtain ⟨vis, st, hr, hn⟩ := ih (by omega) (by omega)
      have hlt : k < m := by omega
      have hn2 : nextD vis [(List.range' k (m - k)).map Int.ofNat, []] = some ((k : Int), 2, [(List.range' (k + 1) (m - (k + 1))).map Int.ofNat, []]) := by
        rw [show m - k = (m - (k + 1)) + 1 by omega, List.range'_succ, List.map_cons]
        have := nextD_hit (vis := vis) (ks := Int.ofNat k :: (List.range' (k + 1) (m - (k + 1))).map Int.ofNat) (st := [[]]) (i := 0) (z := (k : Int)) (fun y hy => by simp at hy) (by simp) (by
          rw [Bool.eq_false_iff]
          intro hc
          have := (vis_has hr (k : Int)).1 hc
          omega)
        rw [this]; simp
      have hr' := hr.step (hn.trans hn2)
      refine ⟨_, _, by rw [inOrder_succ, if_neg hk0]; exact hr', ?_⟩
      rw [h k (by omega) hlt, nextD_pop (fun y hy => by cases hy)]
theorem fan_walk {kf : Int → List Int} {m : Nat} (hm : 1 ≤ m) (hk : KidsIn m kf) (h0 : kf 0 = (List.range' 1 (m - 1)).map Int.ofNat) (h : ∀ i : Nat, 1 ≤ i → i < m → kf (i : Int) = []) : walkL m kf = inOrder (fun i => if i = 0 then 1 else 2) m := by
  obtain ⟨vis, st, hr, -⟩ := fan_runs h0 h m hm (Nat.le_refl _)
  exact runs_done hm hk hr
end Go.Proofs.Ytecnapecmioamaa
