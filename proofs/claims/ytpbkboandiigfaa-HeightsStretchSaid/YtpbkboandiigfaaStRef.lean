/- The document's own Share: what is left goes to those ahead of all others, one by one. -/
import Derived.Test.YtpbkboandiigfaaStL
import Derived.Maps.AppendAt
namespace Go.Proofs.Ytpbkboandiigfaa
open Go.RowKit Go.Shelf Go.Sort Go.Lib
set_option linter.unusedVariables false
set_option linter.unusedSimpArgs false

set_option maxHeartbeats 1000000 in
theorem more_any (g n cap a b : Nat) (rs : List Int) (w : World) (hc : ∀ j, j < n → w.cell? ⟨g, j, none⟩ = some (.int .u64 (rs[j]?.getD 0))) (ha : a < n) (hb : b < n) (hn : n ≤ 10000) :
    Calls Try.prog 56 #[.slice (some ⟨g, 0, none⟩) n cap, .int .i64 a, .int .i64 b] w fun e w' => e = .returned (.bool (decide (ahead rs a b))) ∧ ∃ q, w' = w.drewN q := by
  have c1 := hc a ha
  have c2 := hc b hb
  have ha' : (a : Int) < n := by omega
  have hb' : (b : Int) < n := by omega
  obtain ⟨x, hx⟩ : ∃ x, rs[a]?.getD 0 = x := ⟨_, rfl⟩
  obtain ⟨y, hy⟩ : ∃ y, rs[b]?.getD 0 = y := ⟨_, rfl⟩
  have hd : decide (ahead rs a b) = decide (y < x ∨ x = y ∧ a < b) := by rw [decide_eq_decide]; unfold ahead; rw [hx, hy]
  rw [hx] at c1
  rw [hy] at c2
  rw [hd]
  clear hx hy hc hd
  by_cases he : x = y
  · subst he
    have hb1 : (x != x) = false := by simp
    have HD : Hid (decide (x < x ∨ x = x ∧ a < b) = decide ((a : Int) < (b : Int))) := Lib.hid (by rw [decide_eq_decide]; omega)
    go_enter Try.func56, Try.ntmps56
    go_wp2_with fail
    go_quiet (fail)
    go_wp2
    go_ret
    exact ⟨by rw [HD.out]; first | rfl | simp, _, rfl⟩
  · have hb1 : (x != y) = true := by simp [he]
    have HD : Hid (decide (y < x ∨ x = y ∧ a < b) = decide (y < x)) := Lib.hid (by rw [decide_eq_decide]; omega)
    have HE : Hid (¬ x = y) := Lib.hid he
    clear he
    go_enter Try.func56, Try.ntmps56
    go_wp2_with fail
    go_quiet (fail)
    go_wp2_with fail
    go_quiet (fail)
    go_wp2
    go_ret
    exact ⟨by rw [HD.out]; first | rfl | simp, _, by rw [World.drewN_drewN]⟩

/-- the best of those that have nothing yet, among the first i -/
def BestP (rs : List Int) (tk : List Nat) (i : Nat) (b : Int) : Prop :=
  (b = -1 ∧ ∀ j, j < i → j ∈ tk) ∨ ∃ m : Nat, b = m ∧ m < i ∧ m ∉ tk ∧ ∀ j, j < i → j ∉ tk → j = m ∨ ahead rs m j
theorem BestP.start (rs : List Int) (tk : List Nat) : BestP rs tk 0 (-1) := .inl ⟨rfl, fun j h => by omega⟩
theorem BestP.skip {rs : List Int} {tk : List Nat} {i : Nat} {b : Int} (h : BestP rs tk i b) (hi : i ∈ tk) : BestP rs tk (i + 1) b := by
  rcases h with ⟨h1, h2⟩ | ⟨m, h1, h2, h3, h4⟩
  · exact .inl ⟨h1, fun j hj => by by_cases e : j = i; subst e; exact hi; exact h2 j (by omega)⟩
  · exact .inr ⟨m, h1, by omega, h3, fun j hj hn => by by_cases e : j = i; subst e; exact absurd hi hn; exact h4 j (by omega) hn⟩
theorem BestP.first {rs : List Int} {tk : List Nat} {i : Nat} (h : BestP rs tk i (-1)) (hi : i ∉ tk) : BestP rs tk (i + 1) (i : Int) := by
  rcases h with ⟨h1, h2⟩ | ⟨m, h1, _⟩
  · exact .inr ⟨i, rfl, by omega, hi, fun j hj hn => by by_cases e : j = i; exact .inl e; exact absurd (h2 j (by omega)) hn⟩
  · omega
theorem BestP.more {rs : List Int} {tk : List Nat} {i m : Nat} (h : BestP rs tk i (m : Int)) (hi : i ∉ tk) (ha : ahead rs i m) : BestP rs tk (i + 1) (i : Int) := by
  rcases h with ⟨h1, h2⟩ | ⟨m', h1, h2, h3, h4⟩
  · omega
  · obtain rfl : m = m' := by omega
    exact .inr ⟨i, rfl, by omega, hi, fun j hj hn => by
      by_cases e : j = i
      · exact .inl e
      · rcases h4 j (by omega) hn with rfl | q
        · exact .inr ha
        · exact .inr (ahead_trans _ _ _ _ ha q)⟩
theorem BestP.less {rs : List Int} {tk : List Nat} {i m : Nat} (h : BestP rs tk i (m : Int)) (hi : i ∉ tk) (ha : ¬ ahead rs i m) : BestP rs tk (i + 1) (m : Int) := by
  rcases h with ⟨h1, h2⟩ | ⟨m', h1, h2, h3, h4⟩
  · omega
  · obtain rfl : m = m' := by omega
    exact .inr ⟨m, rfl, by omega, h3, fun j hj hn => by
      by_cases e : j = i
      · subst e
        rcases ahead_tot rs m j (by omega) with q | q
        · exact .inr q
        · exact absurd q ha
      · exact h4 j (by omega) hn⟩
theorem BestP.at {rs : List Int} {tk : List Nat} {i : Nat} {b : Int} (h : BestP rs tk i b) : b = -1 ∨ ∃ m : Nat, b = m ∧ m < i := by
  rcases h with ⟨h1, _⟩ | ⟨m, h1, h2, _⟩
  · exact .inl h1
  · exact .inr ⟨m, h1, h2⟩
theorem BestP.last {n k : Nat} {rs : List Int} {ord : List Nat} {b : Int} (ho : IsOrd n rs ord) (h : BestP rs (ord.take k) n b) (hk : k < n) : ∃ m, ord[k]? = some m ∧ b = (m : Int) ∧ m < n ∧ m ∉ ord.take k := by
  have hl := ho.length
  have hm : ord[k]? = some ord[k] := List.getElem?_eq_getElem (by omega)
  have hmn : ord[k] < n := ho.lt _ (List.getElem_mem _)
  have hnot : ord[k] ∉ ord.take k := fun hmem => by
    have hd : (ord.take k ++ ord.drop k).Nodup := by rw [List.take_append_drop]; exact ho.nodup
    refine (List.nodup_append.1 hd).2.2 _ hmem ord[k] ?_ rfl
    exact List.mem_of_getElem? (i := 0) (by rw [List.getElem?_drop, Nat.add_zero]; exact hm)
  rcases h with ⟨_, h2⟩ | ⟨m, h1, h2, h3, h4⟩
  · exact absurd (h2 _ hmn) hnot
  · rcases h4 _ hmn hnot with e | q
    · exact ⟨_, hm, by rw [h1, e], hmn, hnot⟩
    · exfalso
      have hmm : m ∈ ord := ho.perm.mem_iff.2 (by simpa using h2)
      obtain ⟨p, hp, e⟩ := List.mem_iff_getElem.1 hmm
      by_cases c : p < k
      · exact h3 (List.mem_iff_getElem.2 ⟨p, by rw [List.length_take]; omega, by rw [List.getElem_take]; exact e⟩)
      · by_cases c2 : p = k
        · subst c2; rw [e] at q; exact ahead_irr _ _ q
        · have := List.pairwise_iff_getElem.1 ho.srt k p (by omega) hp (by omega)
          rw [e] at this
          exact ahead_irr _ _ (ahead_trans _ _ _ _ this q)
/-- who has had one -/
def gvL (n : Nat) (tk : List Nat) : List Value := (List.range n).map fun i => Value.bool (decide (i ∈ tk))
theorem gvL_get (n : Nat) (tk : List Nat) (j : Nat) (h : j < n) : (gvL n tk)[j]? = some (.bool (decide (j ∈ tk))) := by simp [gvL, h]
theorem gvL_set (n : Nat) (tk : List Nat) (m : Nat) (h : m < n) : (gvL n tk).set m (.bool true) = gvL n (tk ++ [m]) := by
  apply List.ext_getElem
  · simp [gvL]
  · intro j h1 h2
    have hj : j < n := by simpa [gvL] using h2
    rw [List.getElem_set]
    simp only [gvL, List.getElem_map, List.getElem_range, List.mem_append, List.mem_singleton]
    by_cases e : m = j
    · subst e; simp
    · simp [e, Ne.symm e]
theorem gvL_nil (n : Nat) : gvL n [] = List.replicate n (.bool false) := by
  apply List.ext_getElem
  · simp [gvL]
  · intro j h1 h2; simp [gvL]
theorem take_succG (l : List Nat) (k m : Nat) (h : l[k]? = some m) : l.take (k + 1) = l.take k ++ [m] := by
  have hk := (List.getElem?_eq_some_iff.1 h).1
  rw [List.take_succ_eq_append_getElem hk]
  rw [List.getElem?_eq_getElem hk] at h; injection h with h; rw [h]
/-- a list of one's own, whole -/
theorem own_whole {W : World} {base E n : Nat} {v : Value} {xs : List Value} (h : W.ownsRow base E 1 v n xs) (h0 : 0 < n) : ∃ g cap tl, v = .slice (some ⟨g, 0, none⟩) n cap ∧ base ≤ g ∧ n ≤ cap ∧ cap ≤ 9223372036854775807 ∧ Whole W g E (xs ++ tl) := by
  rcases h.2 with ⟨rfl, hn⟩ | ⟨g, cap, cur, rfl, hb, hg, hnc, hcm, hcs, htk⟩
  · omega
  · unfold maxLen at hcm
    refine ⟨g, cap, cur.toList.drop n, rfl, hb, hnc, by omega, ?_⟩
    unfold Whole
    rw [hg, ← htk, Nat.mul_one, List.take_append_drop]
theorem Try.infoBool : (Try.prog.info? 4).map (fun i => (i.zero, i.size, i.bytes)) = some (some (.bool false), 1, 1) := by kernel_rfl

theorem sumZ_pre' (A : List Int) (h : ∀ z ∈ A, 0 ≤ z) (i : Nat) : 0 ≤ sumZ (A.take i) ∧ sumZ (A.take i) ≤ sumZ A := by
  have h1 := sumZ_nonneg (A.take i) fun z hz => h z (List.mem_of_mem_take hz)
  have h2 := sumZ_nonneg (A.drop i) fun z hz => h z (List.mem_of_mem_drop hz)
  have h3 : sumZ A = sumZ (A.take i) + sumZ (A.drop i) := by rw [← sumZ_append, List.take_append_drop]
  omega
/-- the two lists that Share makes -/
structure TwoL (W X : World) (t : Int) (zs : List Int) (k8 k9 : Nat) (v8 v9 : Value) : Prop where
  lo : Below W.heap.size W X
  o8 : X.ownsRow W.heap.size 2 1 v8 k8 (((baseL t zs).take k8).map (Value.int .i64))
  o9 : X.ownsRow W.heap.size 68 1 v9 k9 (((restL t zs).take k9).map (Value.int .u64))
  ne : ∀ g, v8.ownBlock = some g → v9.ownBlock ≠ some g
theorem TwoL.dn {W X : World} {t : Int} {zs : List Int} {k8 k9 : Nat} {v8 v9 : Value} (h : TwoL W X t zs k8 k9 v8 v9) (n : Nat) : TwoL W (X.drewN n) t zs k8 k9 v8 v9 :=
  ⟨h.lo.trans (below_dn _ _ _), h.o8, h.o9, h.ne⟩
theorem map_take_succ {l : List Int} {k : Nat} {z : Int} (f : Int → Value) (h : l[k]? = some z) : (l.take (k + 1)).map f = (l.take k).map f ++ [f z] := by
  have hk := (List.getElem?_eq_some_iff.1 h).1
  rw [List.take_succ_eq_append_getElem hk]
  rw [List.getElem?_eq_getElem hk] at h; injection h with h; rw [h]; simp
theorem TwoL.app8 {W X X1 : World} {t : Int} {zs : List Int} {k : Nat} {v8 v9 v' : Value} {q : Int} (h : TwoL W X t zs k k v8 v9) (o : Obj) (hq : (baseL t zs)[k]? = some q) (ho : X1.ownsRow W.heap.size 2 1 v' (k + 1) (((baseL t zs).take k).map (Value.int .i64) ++ [.int .i64 q]))
    (hg : (X.alloc o).grownBy X1 v8.ownBlock) (hat : v'.ownBlock = v8.ownBlock ∨ v'.ownBlock = some (X.alloc o).heap.size) : TwoL W X1 t zs (k + 1) k v' v9 := by
  have hs := h.lo.size
  refine ⟨(h.lo.alloc hs o).grown hg (by simp; omega) (fun j e => (h.o8.lt j e).1), by rw [map_take_succ _ hq]; exact ho, (h.o9.alloc o).kept hg ?_, fun g e => ?_⟩
  · cases hv : v9.ownBlock with
    | none => exact .inl rfl
    | some g9 =>
      right
      intro e
      exact h.ne g9 e.symm hv
  · rcases hat with e2 | e2
    · exact h.ne g (e2 ▸ e)
    · rw [e2] at e; injection e with e; subst e
      intro e3
      have := (h.o9.lt _ e3).2; simp at this; omega
theorem TwoL.app9 {W X X1 : World} {t : Int} {zs : List Int} {k : Nat} {v8 v9 v' : Value} {q : Int} (h : TwoL W X t zs (k + 1) k v8 v9) (o : Obj) (hq : (restL t zs)[k]? = some q) (ho : X1.ownsRow W.heap.size 68 1 v' (k + 1) (((restL t zs).take k).map (Value.int .u64) ++ [.int .u64 q]))
    (hg : (X.alloc o).grownBy X1 v9.ownBlock) (hat : v'.ownBlock = v9.ownBlock ∨ v'.ownBlock = some (X.alloc o).heap.size) : TwoL W X1 t zs (k + 1) (k + 1) v8 v' := by
  have hs := h.lo.size
  refine ⟨(h.lo.alloc hs o).grown hg (by simp; omega) (fun j e => (h.o9.lt j e).1), (h.o8.alloc o).kept hg ?_, by rw [map_take_succ _ hq]; exact ho, fun g e e2 => ?_⟩
  · cases hv : v8.ownBlock with
    | none => exact .inl rfl
    | some g8 =>
      right
      intro e
      exact h.ne g8 hv e.symm
  · rcases hat with e3 | e3
    · exact h.ne g e (e3 ▸ e2)
    · rw [e3] at e2; injection e2 with e2; subst e2
      have := (h.o8.lt _ e).2; simp at this; omega
/-- what lies in memory while what is left is given -/
structure St3 (W X : World) (g8 g9 gg n : Nat) (t : Int) (zs : List Int) (tl8 tl9 : List Value) (k : Nat) : Prop where
  lo : Below W.heap.size W X
  w8 : Whole X g8 2 ((incL (baseL t zs) ((ordS n (restL t zs)).take k)).map (Value.int .i64) ++ tl8)
  w9 : Whole X g9 68 ((restL t zs).map (Value.int .u64) ++ tl9)
  wg : Whole X gg 4 (gvL n ((ordS n (restL t zs)).take k))
theorem St3.dn {W X : World} {g8 g9 gg n : Nat} {t : Int} {zs : List Int} {tl8 tl9 : List Value} {k : Nat} (h : St3 W X g8 g9 gg n t zs tl8 tl9 k) (q : Nat) : St3 W (X.drewN q) g8 g9 gg n t zs tl8 tl9 k := ⟨h.lo.trans (below_dn _ _ _), h.w8, h.w9, h.wg⟩
theorem St3.give {W X : World} {g8 g9 gg n : Nat} {t : Int} {zs : List Int} {tl8 tl9 : List Value} {k m : Nat} {v : Int} (h : St3 W X g8 g9 gg n t zs tl8 tl9 k) (hm : (ordS n (restL t zs))[k]? = some m) (hmn : m < n) (hl : (baseL t zs).length = n) (hv : (incL (baseL t zs) ((ordS n (restL t zs)).take k))[m]?.getD 0 = v)
    (b8 : W.heap.size ≤ g8) (bg : W.heap.size ≤ gg) (n1 : g8 ≠ g9) (n2 : g8 ≠ gg) (n3 : g9 ≠ gg) : St3 W ((X.setCell ⟨gg, m, none⟩ (.bool true)).setCell ⟨g8, m, none⟩ (.int .i64 (v + 1))) g8 g9 gg n t zs tl8 tl9 (k + 1) := by
  refine ⟨(h.lo.setCell (p := ⟨gg, m, none⟩) bg _).setCell (p := ⟨g8, m, none⟩) b8 _, ?_, ?_, ?_⟩
  · have := ((h.w8.other ⟨gg, m, none⟩ (.bool true) n2).set m (.int .i64 (v + 1)))
    rw [List.set_append_left _ _ (by rw [List.length_map, incL_length, hl]; exact hmn)] at this
    rw [take_succG _ _ _ hm, incL_snoc, hv]
    rw [List.map_set]
    exact this
  · exact (h.w9.other ⟨gg, m, none⟩ (.bool true) n3).other ⟨g8, m, none⟩ _ (Ne.symm n1)
  · have := (h.wg.set m (.bool true)).other ⟨g8, m, none⟩ (.int .i64 (v + 1)) (Ne.symm n2)
    rw [gvL_set _ _ _ hmn, ← take_succG _ _ _ hm] at this
    exact this

set_option maxHeartbeats 1000000 in
theorem refShare_bad1 (a0 : Option Addr) (len cap : Nat) (t : Int) (w : World) (hm : len ≤ 9223372036854775807) (h : mayB t len = false) :
    Calls Try.prog 36 #[.int .i64 t, .slice a0 len cap] w fun e w' => e = .returned (.tuple #[.slice none 0 0, .int .i64 10]) ∧ w = w' := by
  go_enter Try.func36, Try.ntmps36
  go_wp2_with (go_at_call 52; refine (shared_any _ _ _).mono ?_; rintro e w' ⟨rfl, rfl⟩)
  go_ret2
  exact ⟨rfl, rfl⟩
set_option maxHeartbeats 2000000 in
theorem refShare_bad2 (b off cap n : Nat) (t : Int) (zs : List Int) (w : World) (hn : zs.length = n) (hc : ∀ j, j < n → w.cell? ⟨b, off + j, none⟩ = some (.int .i64 (zs[j]?.getD 0))) (h : mayB t n = true) (hno : ¬ OkW zs) :
    Calls Try.prog 36 #[.int .i64 t, .slice (some ⟨b, off, none⟩) n cap] w fun e w' => e = .returned (.tuple #[.slice none 0 0, .int .i64 10]) ∧ w = w' := by
  have hb : (n : Int) ≤ 10000 := by simp [mayB] at h; omega
  have HNO := Lib.hid hno
  have HC := Lib.hid hc
  have HM := Lib.hid h
  clear hno hc h
  go_enter Try.func36, Try.ntmps36
  go_wp2_with fail
  refine (shared_any _ _ _).mono ?_
  rintro e w' ⟨rfl, rfl⟩
  rw [HM.out]
  go_wp2
  go_loopw [6, 7] (fun s6 s7 X => ∃ i : Nat, i ≤ n ∧ s7 = .int .i64 (i : Int) ∧ s6 = .int .u64 (sumZ (zs.take i)) ∧ X = w ∧ Hid (OkW (zs.take i))) (fun _ s7 _ => n - (intOf s7).toNat)
  case atStart => exact ⟨0, Nat.zero_le _, rfl, rfl, rfl, Lib.hid (fun z hz => by simp at hz)⟩
  case round =>
    obtain ⟨i, hi, rfl, rfl, rfl, HO⟩ := hrel
    by_cases hlt : i < n
    · have hltz : (i : Int) < (n : Int) := by omega
      have hcell := HC.out i hlt
      have hsn := take_snoc zs i (by omega)
      obtain ⟨z, hz⟩ : ∃ z, zs[i]?.getD 0 = z := ⟨_, rfl⟩
      rw [hz] at hcell hsn
      have HSN := Lib.hid hsn
      clear hz hsn
      by_cases c1 : z < 0
      · go_wp2
        go_ret2
        exact ⟨rfl, rfl⟩
      · by_cases c2 : 1125899906842624 ≤ z
        · go_wp2
          go_ret2
          exact ⟨rfl, rfl⟩
        · have hO2 : OkW (zs.take (i + 1)) := by
            rw [HSN.out]; intro y hy
            rcases List.mem_append.1 hy with q | q
            · exact HO.out y q
            · rw [List.mem_singleton] at q; subst q; omega
          have hs1 := sumZ_bd _ HO.out
          have hl1 : (zs.take i).length ≤ 10000 := by rw [List.length_take]; omega
          have hsum : sumZ (zs.take (i + 1)) = sumZ (zs.take i) + z := by rw [HSN.out, sumZ_append]; simp [sumZ]
          obtain ⟨s, hs⟩ : ∃ s, sumZ (zs.take i) = s := ⟨_, rfl⟩
          rw [hs] at hs1 hsum ⊢
          have e1 : IntKind.u64.wrap z = z := by rw [IntKind.wrap_u64]; omega
          have e2 : IntKind.u64.wrap (s + z) = s + z := by rw [IntKind.wrap_u64]; omega
          have HS := Lib.hid hsum
          have HO2 := Lib.hid hO2
          clear hs hsum hO2 hs1 hl1 HO
          go_wp2
          go_roundw
          case rel => exact ⟨i + 1, by omega, by go_num, by rw [HS.out], (by first | rfl | trivial), HO2⟩
          case measure => simp [intOf]; omega
    · exact absurd (by have := HO.out; rwa [List.take_of_length_le (by omega)] at this) HNO.out
set_option maxHeartbeats 2000000 in
theorem refShare_zero (b off cap n : Nat) (t : Int) (zs : List Int) (w : World) (hn : zs.length = n) (hc : ∀ j, j < n → w.cell? ⟨b, off + j, none⟩ = some (.int .i64 (zs[j]?.getD 0))) (h : mayB t n = true) (hok : OkW zs) (h0 : sumZ zs = 0) :
    Calls Try.prog 36 #[.int .i64 t, .slice (some ⟨b, off, none⟩) n cap] w fun e w' => (∃ v, e = .returned (.tuple #[v, .int .i64 0]) ∧ Made .i64 2 w.heap.size w' v (evenL t n)) ∧ Below w.heap.size w w' := by
  have hb : 0 ≤ t ∧ t ≤ 1152921504606846975 ∧ (1 : Int) ≤ n ∧ (n : Int) ≤ 10000 := by simp [mayB] at h; omega
  obtain ⟨t0, t1, n0, n1⟩ := hb
  have HOK := Lib.hid hok
  have HC := Lib.hid hc
  have HM := Lib.hid h
  have HN := Lib.hid hn
  have H0 := Lib.hid h0
  clear hok hc h hn h0
  go_enter Try.func36, Try.ntmps36
  go_wp2_with fail
  refine (shared_any _ _ _).mono ?_
  rintro e w' ⟨rfl, rfl⟩
  rw [HM.out]
  go_wp2
  go_loopw [6, 7] (fun s6 s7 X => ∃ i : Nat, i ≤ n ∧ s7 = .int .i64 (i : Int) ∧ s6 = .int .u64 (sumZ (zs.take i)) ∧ w = X) (fun _ s7 _ => n - (intOf s7).toNat)
  case atStart => exact ⟨0, Nat.zero_le _, rfl, rfl, (by first | rfl | trivial)⟩
  case round =>
    obtain ⟨i, hi, rfl, rfl, rfl⟩ := hrel
    by_cases hlt : i < n
    · have hltz : (i : Int) < (n : Int) := by omega
      have hcell := HC.out i hlt
      have hsn := take_snoc zs i (by have := HN.out; omega)
      have hzk := HOK.out (zs[i]?.getD 0) (by have := HN.out; rw [List.getElem?_eq_getElem (by omega)]; exact List.getElem_mem _)
      obtain ⟨z, hz⟩ : ∃ z, zs[i]?.getD 0 = z := ⟨_, rfl⟩
      rw [hz] at hcell hsn hzk
      have hs1 := sumZ_bd (zs.take i) (fun y hy => HOK.out y (List.mem_of_mem_take hy))
      have hl1 : (zs.take i).length ≤ 10000 := by rw [List.length_take]; omega
      have hsum : sumZ (zs.take (i + 1)) = sumZ (zs.take i) + z := by rw [hsn, sumZ_append]; simp [sumZ]
      obtain ⟨s, hs⟩ : ∃ s, sumZ (zs.take i) = s := ⟨_, rfl⟩
      rw [hs] at hs1 hsum ⊢
      have e1 : IntKind.u64.wrap z = z := by rw [IntKind.wrap_u64]; omega
      have e2 : IntKind.u64.wrap (s + z) = s + z := by rw [IntKind.wrap_u64]; omega
      have c1 : ¬ z < 0 := by omega
      have c2 : ¬ 1125899906842624 ≤ z := by omega
      have HS := Lib.hid hsum
      clear hz hs hsum hs1 hl1 hsn hzk
      go_wp2
      go_roundw
      case rel => exact ⟨i + 1, by omega, by go_num, by rw [HS.out], (by first | rfl | trivial)⟩
      case measure => simp [intOf]; omega
    · have hltz : ¬ (i : Int) < (n : Int) := by omega
      have hall : zs.take i = zs := List.take_of_length_le (by have := HN.out; omega)
      rw [hall]
      clear hall
      rw [H0.out]
      have HE := Lib.hid (refEven_good t _ _ n w t0 t1 (by omega) (by omega) rfl rfl)
      go_wp2_with fail
      refine HE.out.mono ?_
      rintro e w2 ⟨⟨v, rfl, hv⟩, hb2⟩
      have HV := Lib.hid hv
      have HB2 := Lib.hid hb2
      clear hv hb2 HE
      go_wp2
      go_ret2
      exact ⟨⟨_, rfl, HV.out⟩, HB2.out⟩

set_option maxHeartbeats 8000000 in
set_option maxRecDepth 100000 in
theorem refShare_main (b off cap n : Nat) (t S : Int) (zs : List Int) (w : World) (hn : zs.length = n) (hc : ∀ j, j < n → w.cell? ⟨b, off + j, none⟩ = some (.int .i64 (zs[j]?.getD 0))) (h : mayB t n = true) (hok : OkW zs) (hS : sumZ zs = S) (hS0 : 0 < S) :
    Calls Try.prog 36 #[.int .i64 t, .slice (some ⟨b, off, none⟩) n cap] w fun e w' => (∃ v, e = .returned (.tuple #[v, .int .i64 0]) ∧ Nums .i64 w' v (shareL (ordS n) t zs)) ∧ Below w.heap.size w w' := by
  obtain ⟨i0, hnf0, hz0, hz1, hz2⟩ := info_parts Try.infoI64
  obtain ⟨i1, hi', hy0, hy1, hy2⟩ := info_parts Try.infoU64
  obtain ⟨i2, hi2, hx0, hx1, hx2⟩ := info_parts Try.infoBool
  have hb : 0 ≤ t ∧ t ≤ 1152921504606846975 ∧ (1 : Int) ≤ n ∧ (n : Int) ≤ 10000 := by simp [mayB] at h; omega
  obtain ⟨t0, t1, n0, n1⟩ := hb
  have hSb : S ≤ 11258999068426230000 := by have := (sumZ_bd zs hok).2; rw [hS] at this; omega
  have hle := le_sumZ zs (fun z hz => (hok z hz).1)
  rw [hS] at hle
  obtain ⟨L1, L2, L3⟩ := leftZ_eq t zs (by rw [hS]; exact hS0) (by omega)
  have HZ : Hid (∀ j, j < n → 0 ≤ zs[j]?.getD 0 ∧ zs[j]?.getD 0 ≤ S) := Lib.hid (fun j hj => by
    have hj' : j < zs.length := by omega
    simp only [hj', List.getElem?_eq_getElem, Option.getD_some]
    exact ⟨(hok _ (List.getElem_mem hj')).1, hle _ (List.getElem_mem hj')⟩)
  have HBL : Hid ((baseL t zs).length = n) := Lib.hid (by simp [baseL, hn])
  have HRL : Hid ((restL t zs).length = n) := Lib.hid (by simp [restL, hn])
  have HBK : Hid (∀ j, j < n → (baseL t zs)[j]? = some (t * (zs[j]?.getD 0) / S)) := Lib.hid (fun j hj => by
    have hj' : j < zs.length := by omega
    simp [baseL, hS, hj'])
  have HRK : Hid (∀ j, j < n → (restL t zs)[j]? = some (t * (zs[j]?.getD 0) % S)) := Lib.hid (fun j hj => by
    have hj' : j < zs.length := by omega
    simp [restL, hS, hj'])
  have HB0 : Hid (∀ z ∈ baseL t zs, 0 ≤ z ∧ z ≤ t) := Lib.hid (fun z hz => by
    obtain ⟨y, hy, rfl⟩ := List.mem_map.1 hz
    have hy1 := (hok y hy).1
    rw [hS]
    have hyS := hle y hy
    exact ⟨Int.ediv_nonneg (Int.mul_nonneg t0 hy1) (by omega), Int.ediv_le_of_le_mul hS0 (Int.mul_le_mul_of_nonneg_left hyS t0)⟩)
  have HPRE : Hid (∀ k, 0 ≤ sumZ ((baseL t zs).take k) ∧ sumZ ((baseL t zs).take k) ≤ t) := Lib.hid (fun k => by
    have := sumZ_pre' (baseL t zs) (fun z hz => (HB0.out z hz).1) k
    omega)
  have HORD : Hid (IsOrd n (restL t zs) (ordS n (restL t zs))) := Lib.hid (ordS_is n _)
  have HL1 := Lib.hid L1
  have HL2 : Hid (leftZ t zs < n) := Lib.hid (by omega)
  have HSH : Hid (shareL (ordS n) t zs = incL (baseL t zs) ((ordS n (restL t zs)).take (leftZ t zs))) := Lib.hid rfl
  have HOK := Lib.hid hok
  have HC := Lib.hid hc
  have HM := Lib.hid h
  have HN := Lib.hid hn
  have HSS := Lib.hid hS
  clear hok hc h hn hS hle L1 L2 L3
  go_enter Try.func36, Try.ntmps36
  go_wp2_with fail
  refine (shared_any _ _ _).mono ?_
  rintro e w' ⟨rfl, rfl⟩
  rw [HM.out]
  go_wp2
  go_loopw [6, 7] (fun s6 s7 X => ∃ i : Nat, i ≤ n ∧ s7 = .int .i64 (i : Int) ∧ s6 = .int .u64 (sumZ (zs.take i)) ∧ w = X) (fun _ s7 _ => n - (intOf s7).toNat)
  case atStart => exact ⟨0, Nat.zero_le _, rfl, rfl, (by first | rfl | trivial)⟩
  case round =>
    obtain ⟨i, hi, rfl, rfl, rfl⟩ := hrel
    by_cases hlt : i < n
    · have hltz : (i : Int) < (n : Int) := by omega
      have hcell := HC.out i hlt
      have hsn := take_snoc zs i (by have := HN.out; omega)
      have hzk := HOK.out (zs[i]?.getD 0) (by have := HN.out; rw [List.getElem?_eq_getElem (by omega)]; exact List.getElem_mem _)
      obtain ⟨z, hz⟩ : ∃ z, zs[i]?.getD 0 = z := ⟨_, rfl⟩
      rw [hz] at hcell hsn hzk
      have hs1 := sumZ_bd (zs.take i) (fun y hy => HOK.out y (List.mem_of_mem_take hy))
      have hl1 : (zs.take i).length ≤ 10000 := by rw [List.length_take]; omega
      have hsum : sumZ (zs.take (i + 1)) = sumZ (zs.take i) + z := by rw [hsn, sumZ_append]; simp [sumZ]
      obtain ⟨s, hs⟩ : ∃ s, sumZ (zs.take i) = s := ⟨_, rfl⟩
      rw [hs] at hs1 hsum ⊢
      have e1 : IntKind.u64.wrap z = z := by rw [IntKind.wrap_u64]; omega
      have e2 : IntKind.u64.wrap (s + z) = s + z := by rw [IntKind.wrap_u64]; omega
      have c1 : ¬ z < 0 := by omega
      have c2 : ¬ 1125899906842624 ≤ z := by omega
      have HS := Lib.hid hsum
      clear hz hs hsum hs1 hl1 hsn hzk
      go_wp2
      go_roundw
      case rel => exact ⟨i + 1, by omega, by go_num, by rw [HS.out], (by first | rfl | trivial)⟩
      case measure => simp [intOf]; omega
    · have hltz : ¬ (i : Int) < (n : Int) := by omega
      have hall : zs.take i = zs := List.take_of_length_le (by have := HN.out; omega)
      rw [hall]
      clear hall
      rw [HSS.out]
      have hSz : (S == 0) = false := by simp; omega
      clear hlt
      go_wp2
      go_loopw [8, 9, 10, 11] (fun s8 s9 s10 s11 X => ∃ k : Nat, k ≤ n ∧ s11 = .int .i64 (k : Int) ∧ s10 = .int .i64 (t - sumZ ((baseL t zs).take k)) ∧ Hid (TwoL w X t zs k k s8 s9)) (fun _ _ _ s11 _ => n - (intOf s11).toNat)
      case atStart => exact ⟨0, Nat.zero_le _, rfl, by congr 1; simp [sumZ], Lib.hid ⟨Below.refl _ _, World.ownsRow_nil _ _ _ _, World.ownsRow_nil _ _ _ _, fun g e => by cases e⟩⟩
      case round =>
        obtain ⟨k, hk, rfl, rfl, HT⟩ := hrel
        by_cases hlt : k < n
        · have hltz : (k : Int) < (n : Int) := by omega
          have hcell := (HT.out.lo.cell (p := ⟨b, off + k, none⟩) (cell_lt (HC.out k hlt))).trans (HC.out k hlt)
          have hq := HBK.out k hlt
          have hr := HRK.out k hlt
          have hzz := HZ.out k hlt
          obtain ⟨z, hz⟩ : ∃ z, zs[k]?.getD 0 = z := ⟨_, rfl⟩
          rw [hz] at hcell hq hr hzz
          obtain ⟨hza, hzb⟩ := hzz
          have hdiv := Int.mul_ediv_add_emod (t * z) 18446744073709551616
          have hL0 : 0 ≤ t * z % 18446744073709551616 ∧ t * z % 18446744073709551616 < 18446744073709551616 := by omega
          have hP0 : 0 ≤ t * z := Int.mul_nonneg t0 hza
          have hP1 : t * z ≤ 1152921504606846975 * S := Int.le_trans (Int.mul_le_mul_of_nonneg_right t1 hza) (Int.mul_le_mul_of_nonneg_left hzb (by omega))
          have hq0 : 0 ≤ t * z / S := Int.ediv_nonneg hP0 (by omega)
          have hq1 : t * z / S ≤ t := (HB0.out _ (List.mem_of_getElem? hq)).2
          have hr0 : 0 ≤ t * z % S := Int.emod_nonneg _ (by omega)
          have hr1 : t * z % S < S := Int.emod_lt_of_pos _ hS0
          have hsum : sumZ ((baseL t zs).take (k + 1)) = sumZ ((baseL t zs).take k) + t * z / S := by
            have hkl := (List.getElem?_eq_some_iff.1 hq).1
            rw [take_snoc _ k hkl, sumZ_append, hq]; simp [sumZ]
          have hpr := HPRE.out (k + 1)
          have hpr0 := HPRE.out k
          have M1 := Lib.hid (fun X => mul64_of t z (t * z / 18446744073709551616) (t * z % 18446744073709551616) X t0 (by omega) hza (by omega) rfl rfl)
          have M2 := Lib.hid (fun X => div64_of (t * z / 18446744073709551616) (t * z % 18446744073709551616) S (t * z / S) (t * z % S) X (by omega) (by omega) (by omega) hL0.1 hL0.2 (by rw [show t * z / 18446744073709551616 * 18446744073709551616 + t * z % 18446744073709551616 = t * z by omega]) (by rw [show t * z / 18446744073709551616 * 18446744073709551616 + t * z % 18446744073709551616 = t * z by omega]))
          generalize t * z / 18446744073709551616 = H at *
          generalize t * z % 18446744073709551616 = Lo at *
          generalize t * z / S = q at *
          generalize t * z % S = r at *
          rw [hsum] at hpr
          generalize sumZ ((baseL t zs).take k) = sp at *
          have x1 : IntKind.u64.wrap t = t := by rw [IntKind.wrap_u64]; omega
          have x2 : IntKind.u64.wrap z = z := by rw [IntKind.wrap_u64]; omega
          have x3 : IntKind.i64.wrap q = q := by rw [IntKind.wrap_i64]; omega
          have x4 : IntKind.i64.wrap (t - sp - q) = t - sp - q := by rw [IntKind.wrap_i64]; omega
          have HQ := Lib.hid hq
          have HR := Lib.hid hr
          have HSUM := Lib.hid hsum
          clear hq hr hz hsum hpr hpr0 hdiv hL0 hP0 hP1 hr1 hq1
          go_wp2_with fail
          refine (M1.out _).mono ?_
          rintro e w' ⟨rfl, rfl⟩
          go_wp2_with fail
          refine (M2.out _).mono ?_
          rintro e w' ⟨rfl, nd, rfl⟩
          have HT1 := Lib.hid (HT.out.dn nd)
          clear HT M1 M2 hcell
          generalize wr.drewN nd = w1 at HT1 ⊢
          have hsz := HT1.out.lo.size
          go_wp2_with (at_builtin; refine Hid.out ?_)
          refine Lib.hid ?_
          refine wpList_append_own_at _ rfl _ _ 22 rfl w.heap.size 2 i0 (.int .i64 0) 1 8 Try.underlying22 hnf0 hz0 hz1 hz2 rfl (by decide) _ k _ rfl (HT1.out.o8.alloc _) ⟨w1.heap.size, 0, none⟩ 1 1 [.int .i64 q] rfl rfl (cell_one_new _ _ _) (by simp [Value.oneCell']) (by unfold maxLen; omega) (by omega) (by simp; omega) ?_
          intro v8' X1 ho hg _ hat
          have HT2 := Lib.hid (HT1.out.app8 _ HQ.out ho hg hat)
          clear HT1 ho hg hat hsz
          have hsz := HT2.out.lo.size
          go_wp2_with (at_builtin; refine Hid.out ?_)
          refine Lib.hid ?_
          refine wpList_append_own_at _ rfl _ _ 70 rfl w.heap.size 68 i1 (.int .u64 0) 1 8 Try.underlying70 hi' hy0 hy1 hy2 rfl (by decide) _ k _ rfl (HT2.out.o9.alloc _) ⟨X1.heap.size, 0, none⟩ 1 1 [.int .u64 r] rfl rfl (cell_one_new _ _ _) (by simp [Value.oneCell']) (by unfold maxLen; omega) (by omega) (by simp; omega) ?_
          intro v9' X2 ho hg _ hat
          have HT3 := Lib.hid (HT2.out.app9 _ HR.out ho hg hat)
          clear HT2 ho hg hat hsz
          go_wp2
          go_roundw
          case rel => exact ⟨k + 1, by omega, by go_num, by rw [HSUM.out]; congr 1; omega, HT3⟩
          case measure => simp [intOf]; omega
        · have hkn : n = k := by omega
          subst hkn
          have hT := HT.out
          have h8 := hT.o8
          have h9 := hT.o9
          rw [List.take_of_length_le (by rw [HBL.out]; exact Nat.le_refl _)] at h8 ⊢
          rw [List.take_of_length_le (by rw [HRL.out]; exact Nat.le_refl _)] at h9
          obtain ⟨g8, c8, tl8, rfl, hb8, hc8, hc8x, hw8⟩ := own_whole h8 (by omega)
          obtain ⟨g9, c9, tl9, rfl, hb9, hc9, hc9x, hw9⟩ := own_whole h9 (by omega)
          have hne : g8 ≠ g9 := fun e => hT.ne g8 rfl (by rw [e]; rfl)
          have hlo := hT.lo
          rw [← HL1.out]
          have hsz := hlo.size
          have H8 := Lib.hid hw8
          have H9 := Lib.hid hw9
          have HLO := Lib.hid hlo
          have hg8l := hw8.lt
          have hg9l := hw9.lt
          clear HT hT h8 h9 hw8 hw9 hlo hlt hltz
          go_wp2_with (at_make; refine wpList_make_full _ rfl _ _ 74 rfl w.heap.size 4 i2 (.bool false) 1 Try.underlying74 hi2 hx0 hx1 .i64 .i64 _ _ n rfl rfl rfl rfl (by rw [hx2]; omega) (by unfold maxLen; omega) (by omega) ?_; intro w2 hown2 hgrow2)
          have e2 : (madeCells (Value.bool false).cells (n * 1)).toList = gvL n [] := by
            rw [show (Value.bool false).cells = #[Value.bool false] from rfl, toList_madeCells_one, gvL_nil]; simp
          rw [e2] at hown2
          have hwg := Whole.made hown2
          have h3 : St3 w w2 g8 g9 wr.heap.size n t zs tl8 tl9 0 := ⟨HLO.out.grown hgrow2 hsz (fun z e => by cases e), Whole.grownC H8.out hgrow2 (fun r e => by cases e), Whole.grownC H9.out hgrow2 (fun r e => by cases e), hwg⟩
          have H3 := Lib.hid h3
          obtain ⟨gg, hgg⟩ : ∃ gg, wr.heap.size = gg := ⟨_, rfl⟩
          rw [hgg] at H3 hg8l hg9l hsz ⊢
          clear e2 hown2 hgrow2 hwg h3 H8 H9 HLO hgg
          obtain ⟨Lf, hLf⟩ : ∃ Lf, leftZ t zs = Lf := ⟨_, rfl⟩
          rw [hLf] at HL2 HSH ⊢
          have hLn := HL2.out
          clear hLf HL1 HPRE HBK HRK
          go_wp2
          go_loopw [10] (fun s10 X => ∃ k : Nat, k ≤ Lf ∧ s10 = .int .i64 ((Lf : Int) - (k : Int)) ∧ Hid (St3 w X g8 g9 gg n t zs tl8 tl9 k)) (fun s10 _ => (intOf s10).toNat)
          case atStart => exact ⟨0, Nat.zero_le _, by simp, H3⟩
          case round =>
            clear H3
            obtain ⟨k, hk, rfl, H3⟩ := hrel
            by_cases hlt : k < Lf
            · have hltz : (0 : Int) < (Lf : Int) - (k : Int) := by omega
              go_wp2
              go_loopw [17, 18] (fun s17 s18 X => ∃ (i : Nat) (bst : Int), i ≤ n ∧ s18 = .int .i64 (i : Int) ∧ s17 = .int .i64 bst ∧ Hid (BestP (restL t zs) ((ordS n (restL t zs)).take k) i bst) ∧ Hid (St3 w X g8 g9 gg n t zs tl8 tl9 k)) (fun _ s18 _ => n - (intOf s18).toNat)
              case atStart => exact ⟨0, -1, Nat.zero_le _, rfl, rfl, Lib.hid (BestP.start _ _), H3⟩
              case round =>
                clear H3
                obtain ⟨i, bst, hi, rfl, rfl, HBP, H3⟩ := hrel
                by_cases hin : i < n
                · have hinz : (i : Int) < (n : Int) := by omega
                  have cg := (H3.out.wg.cellAt i).trans (gvL_get n _ i hin)
                  by_cases hmem : i ∈ (ordS n (restL t zs)).take k
                  · rw [decide_eq_true hmem] at cg
                    have HS := Lib.hid (HBP.out.skip hmem)
                    clear hmem
                    go_wp2
                    go_roundw
                    case rel => exact ⟨i + 1, bst, by omega, by go_num, rfl, HS, H3⟩
                    case measure => simp [intOf]; omega
                  · rw [decide_eq_false hmem] at cg
                    have HME := Lib.hid hmem
                    clear hmem
                    rcases HBP.out.at with rfl | ⟨m, rfl, hmi⟩
                    · have HS := Lib.hid (HBP.out.first HME.out)
                      go_wp2
                      go_roundw
                      case rel => exact ⟨i + 1, i, by omega, by go_num, rfl, HS, H3⟩
                      case measure => simp [intOf]; omega
                    · have hmn : ¬ (m : Int) < 0 := by omega
                      have hmore := fun X (h : St3 w X g8 g9 gg n t zs tl8 tl9 k) => more_any g9 n c9 i m (restL t zs) X (fun j hj => by
                        rw [h.w9.cellAt, List.getElem?_append_left (by rw [List.length_map, HRL.out]; exact hj), List.getElem?_map]
                        have hj' : j < (restL t zs).length := by rw [HRL.out]; exact hj
                        simp [hj']) hin (by omega) (by omega)
                      have HMO := Lib.hid hmore
                      clear hmore
                      by_cases hah : ahead (restL t zs) i m
                      · have HS := Lib.hid (HBP.out.more HME.out hah)
                        rw [decide_eq_true hah] at HMO
                        clear hah
                        go_wp2_with fail
                        refine (HMO.out _ H3.out).mono ?_
                        rintro e w5 ⟨rfl, nd, rfl⟩
                        have H4 := Lib.hid (H3.out.dn nd)
                        clear H3 HMO cg
                        generalize wr.drewN nd = w5 at H4 ⊢
                        go_wp2
                        go_roundw
                        case rel => exact ⟨i + 1, i, by omega, by go_num, rfl, HS, H4⟩
                        case measure => simp [intOf]; omega
                      · have HS := Lib.hid (HBP.out.less HME.out hah)
                        rw [decide_eq_false hah] at HMO
                        clear hah
                        go_wp2_with fail
                        refine (HMO.out _ H3.out).mono ?_
                        rintro e w5 ⟨rfl, nd, rfl⟩
                        have H4 := Lib.hid (H3.out.dn nd)
                        clear H3 HMO cg
                        generalize wr.drewN nd = w5 at H4 ⊢
                        go_wp2
                        go_roundw
                        case rel => exact ⟨i + 1, m, by omega, by go_num, rfl, HS, H4⟩
                        case measure => simp [intOf]; omega
                · have hni : n = i := by omega
                  subst hni
                  obtain ⟨m, hm, rfl, hmn, hmt⟩ := BestP.last HORD.out HBP.out (by omega)
                  have hinz : (m : Int) < (n : Int) := by omega
                  have hlen : (incL (baseL t zs) ((ordS n (restL t zs)).take k)).length = n := by rw [incL_length]; exact HBL.out
                  obtain ⟨v, hv⟩ : ∃ v, (incL (baseL t zs) ((ordS n (restL t zs)).take k))[m]?.getD 0 = v := ⟨_, rfl⟩
                  have hvb : 0 ≤ v ∧ v ≤ 1152921504606856975 := by
                    have hmem : v ∈ incL (baseL t zs) ((ordS n (restL t zs)).take k) := by
                      have : m < (incL (baseL t zs) ((ordS n (restL t zs)).take k)).length := by rw [hlen]; exact hmn
                      rw [← hv]; simp only [this, List.getElem?_eq_getElem, Option.getD_some]; exact List.getElem_mem _
                    have hb2 := incL_bd (baseL t zs) ((ordS n (restL t zs)).take k) 0 t HB0.out v hmem
                    have hl2 : ((ordS n (restL t zs)).take k).length ≤ k := by rw [List.length_take]; omega
                    omega
                  have c8 : wr.cell? ⟨g8, m, none⟩ = some (.int .i64 v) := by
                    rw [H3.out.w8.cellAt, List.getElem?_append_left (by rw [List.length_map, hlen]; exact hmn), List.getElem?_map]
                    have : m < (incL (baseL t zs) ((ordS n (restL t zs)).take k)).length := by rw [hlen]; exact hmn
                    rw [← hv]; simp [this]
                  have cg : wr.cell? ⟨gg, m, none⟩ = some (.bool false) := by rw [H3.out.wg.cellAt, gvL_get n _ m hmn, decide_eq_false hmt]
                  have f8 := H3.out.w8.free m
                  have fg := H3.out.wg.free m
                  have c8' : (wr.setCell ⟨gg, m, none⟩ (.bool true)).cell? ⟨g8, m, none⟩ = some (.int .i64 v) := by
                    rw [World.cell?_setCell_other _ _ _ _ (by intro e; simp only [Addr.mk.injEq] at e; omega)]; exact c8
                  have H4 := Lib.hid (H3.out.give hm hmn HBL.out hv (by omega) (by omega) hne (by omega) (by omega))
                  have e1 : IntKind.i64.wrap (v + 1) = v + 1 := by rw [IntKind.wrap_i64]; omega
                  have e2 : IntKind.i64.wrap ((Lf : Int) - (k : Int) - 1) = (Lf : Int) - (k : Int) - 1 := by rw [IntKind.wrap_i64]; omega
                  clear hv hlen H3 HBP hm hmt hvb
                  go_wp2
                  go_roundw
                  case rel => exact ⟨k + 1, by omega, by congr 1; omega, H4⟩
                  case measure => simp [intOf]; omega
            · have hlk : Lf = k := by omega
              subst hlk
              have hltz : ¬ (0 : Int) < (Lf : Int) - (Lf : Int) := by omega
              go_wp2
              go_ret2
              refine ⟨⟨_, rfl, ?_⟩, H3.out.lo⟩
              rw [HSH.out]
              have hlen : (incL (baseL t zs) ((ordS n (restL t zs)).take Lf)).length = n := by rw [incL_length]; exact HBL.out
              refine ⟨by rw [hlen]; omega, .inr ⟨g8, 0, c8, by rw [hlen]; rfl, by rw [hlen]; exact hc8, hc8x, fun j hj => ?_⟩⟩
              rw [Nat.zero_add, H3.out.w8.cellAt, List.getElem?_append_left (by rw [List.length_map]; exact hj), List.getElem?_map]
              simp [hj]
end Go.Proofs.Ytpbkboandiigfaa
