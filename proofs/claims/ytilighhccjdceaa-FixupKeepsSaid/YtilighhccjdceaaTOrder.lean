/- Contracts of tree.Order and tree.Depths. -/
import Derived.Test.YtilighhccjdceaaTCheck
namespace Go.Proofs.Ytilighhccjdceaa
open Go.RowKit Go.Shelf
set_option linter.unusedVariables false
attribute [local go_sem] Oper.semAt_some

theorem wpListIn_append_room {F : Fence} {nF : Nat} {P : Program} (w : World) {ops : Array Oper} {rest : List Oper} {o : Oper} {a : Act} {Q : Exit → Act → World → Prop} (hgd : o.guard = none) (s x : Operand) (t : TypeId)
    (ho : o.op = .call { callee := .builtin .append, args := #[s, x], argTypes := #[t, t] })
    (e : TypeId) (i : TypeInfo) (ht : P.underlying t = some (.slice e)) (hi : P.info? e = some i) (g sLen sCap : Nat) (cur : Array Value) (hs : a.eval s = .slice (some ⟨g, 0, none⟩) sLen sCap) (hg : w.heap[g]? = some (.cells cur e (0, 0)))
    (ad : Addr) (m c : Nat) (news : List Value) (hx : a.eval x = .slice (some ad) m c) (hl : news.length = m * i.size) (hnews : ∀ j u, news[j]? = some u → w.cell? (ad.add j) = some u) (h1 : ∀ u ∈ news, u.oneCell' = true)
    (hroom : sLen + m ≤ sCap) (hfit : sLen * i.size + news.length ≤ cur.size)
    (h : wpListIn F nF P ops Q rest (a.put o.dst (.slice (some ⟨g, 0, none⟩) (sLen + m) sCap)) (w.setRow g (cur.toList.take (sLen * i.size) ++ news ++ cur.toList.drop (sLen * i.size + news.length)).toArray)) :
    wpListIn F nF P ops Q (o :: rest) a w := by
  refine wpListIn_plain hgd fun K hK => ?_
  have hr := run_append_room (P := P) w t o.type e i ht hi g sLen sCap cur hg ad m c news hl hnews h1 hroom hfit
  unfold Oper.wpIn
  refine ⟨by simp [Oper.about, ho, resolve, Target.leads, Sem.run_pure], ?_⟩
  rw [Oper.semAt_plain F _ _ (by rw [ho]; intro c hc'; cases hc')]
  simp [execOp, ho, resolve, invoke, builtin, hs, hx, hr, Result.andThen]
  exact hK _ _ (by simpa using h)
theorem make_room (m : Nat) (hm : m ≤ 1000000000) (w : World) : (Instr.makeSlice 29 (.int .i64 0) (.int .i64 m)).run Try.prog w = .ok (.slice (some ⟨w.heap.size, 0, none⟩) 0 m) (w.alloc (.cells ((List.replicate m (0 : Int)).map (Value.int .i64)).toArray 3)) := by
  cases hi : Try.prog.info? 3 with
  | none => have := Try.infoInt; rw [hi] at this; cases this
  | some i =>
    have h := Try.infoInt
    rw [hi] at h
    simp only [Option.map_some, Option.some.injEq, Prod.mk.injEq] at h
    obtain ⟨hz, h1, h2⟩ := h
    have hr := run_make (P := Try.prog) w 29 3 i (.int .i64 0) Try.underlying29 hi hz .i64 .i64 0 m (by omega) (by omega) (by rw [h2]; omega) (by omega)
    rw [hr, h1]
    simp only [Int.toNat_natCast, Int.toNat_zero]
    rw [show (madeCells (Value.int IntKind.i64 0).cells (m * 1)) = ((List.replicate m (0 : Int)).map (Value.int .i64)).toArray from by
      apply Array.toList_inj.1
      rw [show (Value.int IntKind.i64 0).cells = #[Value.int .i64 0] from rfl, toList_madeCells_one]; simp]
theorem at_worldIn {F : Fence} {nF : Nat} {P : Program} {ops : Array Oper} {rest : List Oper} {a : Act} {W : World} {Q : Exit → Act → World → Prop} (p : World → Prop) (h : p W) (k : ∀ X, p X → wpListIn F nF P ops Q rest a X) : wpListIn F nF P ops Q rest a W := k W h
theorem row_room (cur : Array Value) (k m : Nat) (z : Value) (zs : List Value) (h1 : cur.size = m) (h2 : k < m) (h3 : cur.toList.take k = zs) :
    (cur.toList.take (k * 1) ++ [z] ++ cur.toList.drop (k * 1 + 1)).toArray.size = m ∧ (cur.toList.take (k * 1) ++ [z] ++ cur.toList.drop (k * 1 + 1)).take (k + 1) = zs ++ [z] := by
  subst h1
  have hl : zs.length = k := by rw [← h3]; simp; omega
  constructor
  · simp; omega
  · rw [Nat.mul_one, h3]
    rw [List.take_append_of_le_length (by simp [hl]), List.take_of_length_le (by simp [hl])]
/-- a page that Check lets be -/
structure Fine (ns : List Nd) : Prop where
  len1 : 1 ≤ ns.length
  len2 : ns.length ≤ 65536
  wrong : ns.any wrongN = false
  link : ∀ n ∈ ns, ∀ z ∈ n.ks, 1 ≤ z ∧ z < (ns.length : Int)
  stray : ((tms ns.length (kidsOf ns)).zip (depthsP ns)).any strayB = false
  deep : (depthsP ns).any deepB = false
theorem fine_of {ns : List Nd} (h : (checkP ns).2 = 0) : Fine ns := by
  unfold checkP at h
  by_cases h1 : ¬ (1 ≤ ns.length ∧ ns.length ≤ 65536)
  · rw [if_pos h1] at h; simp at h
  rw [if_neg h1] at h
  by_cases h2 : 0 ≤ idxI wrongN ns
  · rw [if_pos h2] at h; simp at h
  rw [if_neg h2] at h
  by_cases h3 : 0 ≤ idxI (unlinkedN ns.length) ns
  · rw [if_pos h3] at h; simp at h
  rw [if_neg h3] at h
  by_cases h4 : 0 ≤ strayP ns
  · rw [if_pos h4] at h; simp at h
  rw [if_neg h4] at h
  by_cases h5 : 0 ≤ idxI deepB (depthsP ns)
  · rw [if_pos h5] at h; simp at h
  exact ⟨by omega, by omega, (idxI_neg _ _).1 (by omega), linked (by omega), (idxI_neg _ _).1 (by unfold strayP at h4; omega), (idxI_neg _ _).1 (by omega)⟩
theorem fine_check {ns : List Nd} (h : Fine ns) : checkP ns = (0, 0) := by
  have h3 : ns.any (unlinkedN ns.length) = false := by
    rw [List.any_eq_false]
    intro n hn
    unfold unlinkedN
    rw [Bool.not_eq_true, List.any_eq_false]
    intro z hz
    have := h.link n hn z hz
    rw [outB_in (by omega) (by omega)]; simp
  have e2 := idxI_none _ _ h.wrong
  have e3 := idxI_none _ _ h3
  have e4 : strayP ns = -1 := idxI_none _ _ h.stray
  have e5 := idxI_none _ _ h.deep
  unfold checkP
  rw [if_neg (by have := h.len1; have := h.len2; omega), e2, e3, e4, e5]
  rfl
set_option maxHeartbeats 400000 in
theorem depths_bad (p : Option Addr) (m cap : Nat) (w : World) (a b : Int) (hb : b ≠ 0) (H : Hid (Calls Try.prog 8 #[.slice p m cap] w fun e W' => e = .returned (.tuple #[.int .i64 a, .int .i64 b]) ∧ Below w.heap.size w W')) :
    Calls Try.prog 12 #[.slice p m cap] w fun e W' => e = .returned (.tuple #[.slice none 0 0, .int .i64 b]) ∧ Below w.heap.size w W' := by
  have hb' : (b != 0) = true := by simpa using hb
  go_enter Try.func12, Try.ntmps12
  go_wp2_with (go_at_call 8; refine H.out.mono ?_; rintro e w1 ⟨rfl, hb1⟩)
  refine bodyPost_ret (v := .tuple #[.slice none 0 0, .int .i64 b]) (by simp [results, Try.results12, go_sem]) rfl ⟨rfl, hb1⟩
set_option maxHeartbeats 400000 in
theorem depths_ok (p : Option Addr) (m cap : Nat) (w : World) (zs : List Value) (H : Hid (Calls Try.prog 8 #[.slice p m cap] w fun e W' => e = .returned (.tuple #[.int .i64 0, .int .i64 0]) ∧ Below w.heap.size w W'))
    (H4 : Hid (∀ X : World, Below w.heap.size w X → Calls Try.prog 31 #[.slice p m cap] X fun e W' => e = .returned (.slice (some ⟨X.heap.size, 0, none⟩) m m) ∧ Whole W' X.heap.size 3 zs ∧ Below X.heap.size X W')) :
    Calls Try.prog 12 #[.slice p m cap] w fun e W' => (∃ g, e = .returned (.tuple #[.slice (some ⟨g, 0, none⟩) m m, .int .i64 0]) ∧ Whole W' g 3 zs) ∧ Below w.heap.size w W' := by
  go_enter Try.func12, Try.ntmps12
  go_wp2_with (first
    | (go_at_call 8; refine H.out.mono ?_; clear H; rintro e w1 ⟨rfl, hb1⟩; have B1 := Lib.hid hb1; clear hb1)
    | (go_at_call 31; refine (H4.out _ B1.out).mono ?_; clear H4; rintro e w4 ⟨rfl, hd4, hb4⟩; have B4 := Lib.hid (B1.out.trans (hb4.mono B1.out.size)); have K4 := Lib.hid hd4; clear hb4 hd4))
  refine bodyPost_ret (v := .tuple #[.slice (some ⟨w1.heap.size, 0, none⟩) m m, .int .i64 0]) (by simp [results, Try.results12, go_sem]) rfl ⟨⟨_, rfl, K4.out⟩, B4.out⟩
/-- what the calls that list something answer -/
def ListPost (b : Int) (zs : List Int) (w : World) (e : Ending) (W' : World) : Prop :=
  (if b = 0 then ∃ v, e = .returned (.tuple #[v, .int .i64 0]) ∧ Ints W' v zs else e = .returned (.tuple #[.slice none 0 0, .int .i64 b])) ∧ Below w.heap.size w W'
theorem depthsF_any (lv : Value) (ns : List Nd) (w : World) (hP : PageAt w lv ns) (hK : ∀ n ∈ ns, n.ks.length ≤ 70000) : Calls Try.prog 12 #[lv] w (ListPost (checkP ns).2 (depthsP ns) w) := by
  obtain ⟨p, cap, rfl⟩ := hP.form
  have H := check_at p _ cap ns w rfl hP hK
  by_cases hb : (checkP ns).2 = 0
  · have F := fine_of hb
    rw [fine_check F] at H
    obtain ⟨b, off, rfl, hc⟩ := page_some hP F.len1
    refine (depths_ok _ _ cap w ((depthsP ns).map (Value.int .i64)) (Lib.hid H) (Lib.hid fun X hX => ?_)).mono ?_
    · exact depths_any b off cap _ ns rfl F.len1 F.len2 X (hP.below hX) F.link
    · rintro e W' ⟨⟨g, rfl, hg⟩, hb'⟩
      refine ⟨?_, hb'⟩
      rw [if_pos hb]
      exact ⟨_, rfl, depthsP_ints rfl F.len2 hg⟩
  · refine (depths_bad p _ cap w _ _ hb (Lib.hid H)).mono ?_
    rintro e W' ⟨rfl, hb'⟩
    exact ⟨by rw [if_neg hb], hb'⟩
/-- the order so far -/
def OI (m O : Nat) (w : World) (pre : List (Int × Nat)) (X : World) : Prop :=
  (∃ cur, X.heap[O]? = some (.cells cur 3 (0, 0)) ∧ cur.size = m ∧ cur.toList.take pre.length = (pre.map Prod.fst).map (Value.int .i64)) ∧ Whole X (O + 1) 29 [.slice (some ⟨O, 0, none⟩) pre.length m] ∧ Below O w X
theorem OI.below {m O : Nat} {w : World} {pre : List (Int × Nat)} {X Y : World} {B : Nat} (h : OI m O w pre X) (hb : Below B X Y) (hB : O + 2 ≤ B) : OI m O w pre Y := by
  obtain ⟨⟨cur, h1, h2⟩, h3, h4⟩ := h
  exact ⟨⟨cur, (hb.block O (by omega)).trans h1, h2⟩, h3.below hb (by omega), h4.trans (hb.mono (by omega))⟩
theorem nxt_room {kf : Int → List Int} {m : Nat} (hm : 1 ≤ m) (hk : KidsIn m kf) {pre : List (Int × Nat)} {x : Int × Nat} (h : nxtT kf pre x) : pre.length < m := by
  obtain ⟨vis, st, st', hr, hn⟩ := h
  have g := (hr.good hm hk).step hk hn
  have := g.vlen
  rw [hr.len]
  simp at this; omega
set_option maxHeartbeats 400000 in
theorem order_bad (p : Option Addr) (m cap : Nat) (w : World) (a b : Int) (hb : b ≠ 0) (H : Hid (Calls Try.prog 8 #[.slice p m cap] w fun e W' => e = .returned (.tuple #[.int .i64 a, .int .i64 b]) ∧ Below w.heap.size w W')) :
    Calls Try.prog 11 #[.slice p m cap] w fun e W' => e = .returned (.tuple #[.slice none 0 0, .int .i64 b]) ∧ Below w.heap.size w W' := by
  have hb' : (b != 0) = true := by simpa using hb
  refine (callsIn_wide (n := 3)).1 (callsIn_of_wp_marks Try.func11 rfl trivial (wpIn_wide.2 ?_) rfl)
  simp only [Try.ntmps11, List.size_toArray, List.length_cons, List.length_nil, Nat.reduceAdd, Nat.reduceSub, Array.replicate_succ, Array.replicate_zero, List.push_toArray, List.append_toArray, List.nil_append, List.cons_append]
  go_wp2_with (go_at_call 8; refine H.out.mono ?_; rintro e w1 ⟨rfl, hb1⟩)
  refine leaves_marks w.heap.size [] _ (Marks.nil _ _) (fun W' hck hbk => ⟨.tuple #[.slice none 0 0, .int .i64 b], by simp [results, Try.results11, go_sem], rfl, hb1.trans hbk⟩)
set_option maxRecDepth 100000 in
set_option maxHeartbeats 2000000 in
theorem order_ok (b off cap m : Nat) (ns : List Nd) (hm : ns.length = m) (hm0 : 1 ≤ m) (hm1 : m ≤ 65536) (w : World) (hP : PageAt w (.slice (some ⟨b, off, none⟩) m cap) ns) (hL : ∀ n ∈ ns, ∀ z ∈ n.ks, 1 ≤ z ∧ z < (m : Int))
    (H : Hid (Calls Try.prog 8 #[.slice (some ⟨b, off, none⟩) m cap] w fun e W' => e = .returned (.tuple #[.int .i64 0, .int .i64 0]) ∧ Below w.heap.size w W')) :
    Calls Try.prog 11 #[.slice (some ⟨b, off, none⟩) m cap] w fun e W' => (∃ v, e = .returned (.tuple #[v, .int .i64 0]) ∧ Ints W' v ((walkL m (kfOf ns)).map Prod.fst)) ∧ Below w.heap.size w W' := by
  have hmk := make_room m (by omega)
  have h00 : ∀ w : World, OI m w.heap.size w [] ((w.alloc (.cells ((List.replicate m (0 : Int)).map (Value.int .i64)).toArray 3)).alloc (.cells #[.slice (some ⟨w.heap.size, 0, none⟩) 0 m] 29)) := fun w =>
    ⟨⟨_, (Below.heap_alloc (w.alloc (.cells ((List.replicate m (0 : Int)).map (Value.int .i64)).toArray 3)) (.cells #[.slice (some ⟨w.heap.size, 0, none⟩) 0 m] 29) w.heap.size (by simp)).trans (World.alloc_heap_new w _), by simp, by simp⟩, whole_new (w.alloc (.cells ((List.replicate m (0 : Int)).map (Value.int .i64)).toArray 3)) [.slice (some ⟨w.heap.size, 0, none⟩) 0 m] 29 _ (by simp), ((Below.refl _ w).alloc (Nat.le_refl _) _).alloc (by simp) _⟩
  obtain ⟨zc, hzc⟩ : ∃ zc, ((List.replicate m (0 : Int)).map (Value.int .i64)).toArray = zc := ⟨_, rfl⟩
  rw [hzc] at hmk h00
  have H00 := Lib.hid h00
  have HP := Lib.hid hP
  have HL := Lib.hid hL
  have HM := Lib.hid hm
  clear hzc h00 hP hL hm
  refine (callsIn_wide (n := 3)).1 (callsIn_of_wp_marks Try.func11 rfl trivial (wpIn_wide.2 ?_) rfl)
  simp only [Try.ntmps11, List.size_toArray, List.length_cons, List.length_nil, Nat.reduceAdd, Nat.reduceSub, Array.replicate_succ, Array.replicate_zero, List.push_toArray, List.append_toArray, List.nil_append, List.cons_append]
  go_wp2_with (first
    | (go_at_call 8; refine H.out.mono ?_; clear H; rintro e w1 ⟨rfl, hb1⟩; have B1 := Lib.hid hb1; clear hb1)
    | (go_at_call 39; refine (walkF_any _ _ _ _).mono ?_; rintro e w' ⟨rfl, rfl⟩))
  obtain ⟨W2, hW2⟩ : ∃ W2, ((w1.alloc (.cells zc 3)).alloc (.cells #[.slice (some ⟨w1.heap.size, 0, none⟩) 0 m] 29)).alloc (.cells #[.slice (some ⟨b, off, none⟩) m cap] 22) = W2 := ⟨_, rfl⟩
  have hz2 : W2.heap.size = w1.heap.size + 3 := by rw [← hW2]; simp
  have k2 : Whole W2 (w1.heap.size + 2) 22 [.slice (some ⟨b, off, none⟩) m cap] := by rw [← hW2]; exact whole_new ((w1.alloc (.cells zc 3)).alloc (.cells #[.slice (some ⟨w1.heap.size, 0, none⟩) 0 m] 29)) [.slice (some ⟨b, off, none⟩) m cap] 22 _ (by simp)
  have hb2 : Below w1.heap.size w1 W2 := by rw [← hW2]; exact (((Below.refl _ w1).alloc (Nat.le_refl _) _).alloc (by simp) _).alloc (by simp; omega) _
  have d2 : OI m w1.heap.size w1 [] W2 := by rw [← hW2]; exact (H00.out w1).below ((Below.refl _ _).alloc (Nat.le_refl _) _) (by simp)
  have hKI := kids_in HL.out
  rw [hW2]
  clear hW2 hmk H00
  refine (wpIn_wide (n := 3)).1 (range_keep (F := Fence.wide) rfl (by omega) (gf := 56) (lb := #[.pointer (some ⟨w1.heap.size + 1 + 1, 0, none⟩)]) rfl trivial (enters_of Try.func56 (by kernel_rfl) rfl)
    (Kp := KeepBut [w1.heap.size, w1.heap.size + 1, W2.heap.size, W2.heap.size + 1]) (fun _ _ _ h k => h.trans k) (fun W o _ => KeepBut.put W _ o (by simp))
    (walk_next _ (by omega) ns b off cap m HM.out hm0 hm1 [w1.heap.size, w1.heap.size + 1, W2.heap.size, W2.heap.size + 1] w1 (HP.out.below B1.out) HL.out (w1.heap.size + 1 + 1) W2 (fun e he => by simp at he; omega) (by omega) hb2 (k2.cellAt 0)) (fun _ => rfl)
    (OI m w1.heap.size w1) (fun _ _ _ => False) (fun s X Y h hb => h.below hb (by omega)) (fun c s X Y h hb => h) d2 ?round ?done ?stop)
  case round =>
    rintro l pre x V hl hI hx
    obtain ⟨zn, hzn, hlt⟩ := nxt_rng hm0 hKI hx
    have hroom := nxt_room hm0 hKI hx
    obtain ⟨z, d⟩ := x
    dsimp only at hzn
    subst hzn
    have hz := hI.2.2.size
    have hq := hI.2.1.lt
    refine ⟨{ tmps := #[.slice (some ⟨b, off, none⟩) m cap, undef, .slice none 0 0, .int .i64 0, .int .i64 0, .int .i64 0, .pointer (some ⟨w1.heap.size + 1, 0, none⟩), .int .i64 (zn : Int), .tuple #[.int .i64 0, .int .i64 0], .slice (some ⟨b, off, none⟩) m cap, .tuple #[.int .i64 0, .int .i64 0], .int .i64 0, .int .i64 0, .int .i64 0, .bool false, undef, .slice (some ⟨b, off, none⟩) m cap, .int .i64 (m : Int), .slice (some ⟨w1.heap.size, 0, none⟩) 0 m, .slice (some ⟨b, off, none⟩) m cap, .func (.func 56) #[] #[.pointer (some ⟨w1.heap.size + 1 + 1, 0, none⟩)], .int .i64 (zn : Int), .int .i64 (d : Int), undef, undef, undef, undef, undef], defers := [] }, V, ?_, KeepsFrom.refl _ _, KeepBut.refl _ _, ?_⟩
    · intro K hK
      dsimp only [encT]
      gi_wp2
      exact hK
    · intro V₂ hgV hnc' hbl
      obtain ⟨⟨cur, o1, o2, o3⟩, o4, o5⟩ := hI
      have q1 : V₂.heap[w1.heap.size]? = some (.cells cur 3 (0, 0)) := (hgV.block _ (by omega) (fun e => by injection e with e; omega)).trans o1
      have q4 := o4.grown hgV (fun e => by injection e with e; omega)
      have q5 : Below w1.heap.size w1 V₂ := o5.grown hgV (by omega) (fun k e => by injection e with e; omega)
      have cb := q4.cellAt 0
      have lb := q4.lt
      obtain ⟨i0, hi0, hz0, hz1, hz2⟩ := info_parts Try.infoInt
      obtain ⟨k, hk⟩ : ∃ k, pre.length = k := ⟨_, rfl⟩
      rw [hk] at o3 cb hroom
      have hw1 : w1.heap.size < V₂.heap.size := by omega
      have Q4 := Lib.hid q4
      have Q5 := Lib.hid q5
      have O3 := Lib.hid o3
      have O2 := Lib.hid o2
      have HKK := Lib.hid hk
      clear o1 o2 o3 o4 o5 q4 q5 hbl hgV hnc' d2 k2 hb2 hKI hx hk
      have HRR := Lib.hid (row_room cur k m (.int .i64 (zn : Int)) _ O2.out hroom O3.out)
      have HPC : Hid (∀ X : World, V₂.alloc (.cells #[.int .i64 (zn : Int)] 3) = X → ∀ cur' : Array Value, cur'.size = m → cur'.toList.take (k + 1) = ((pre ++ [((zn : Int), d)]).map Prod.fst).map (Value.int .i64) →
          ((X.setRow w1.heap.size cur').heap[w1.heap.size]? = some (.cells cur' 3 (0, 0)) ∧ cur'.size = m ∧ cur'.toList.take (k + 1) = ((pre ++ [((zn : Int), d)]).map Prod.fst).map (Value.int .i64)) ∧ Whole (X.setRow w1.heap.size cur') (w1.heap.size + 1) 29 [.slice (some ⟨w1.heap.size, 0, none⟩) k m] ∧ Below w1.heap.size w1 (X.setRow w1.heap.size cur') ∧
          KeepBut [w1.heap.size, w1.heap.size + 1, W2.heap.size, W2.heap.size + 1] V₂ (X.setRow w1.heap.size cur') ∧ KeepsOthers V₂ (X.setRow w1.heap.size cur')) := Lib.hid fun X hX cur' h1 h2 => by
        subst hX
        refine ⟨⟨setRow_heap _ _ cur _ _ _ ((Below.heap_alloc _ _ _ hw1).trans q1), h1, h2⟩, by have := Q4.out; rw [HKK.out] at this; exact whole_row_other (this.alloc _) _ _ (by omega), (Q5.out.alloc (by omega) _).trans (below_row _ _ _ (Nat.le_refl _)), ⟨by simp, fun j hj hl => ?_⟩, ?_⟩
        · simp only [List.mem_cons, List.not_mem_nil, or_false, not_or] at hj
          exact (setRow_other _ _ j _ hj.1).trans (Below.heap_alloc _ _ _ hl)
        · refine ⟨by simp, fun j o hj ho => ?_⟩
          have hjn : j ≠ w1.heap.size := fun e => by rw [e, q1] at hj; cases hj; cases ho
          exact (setRow_other _ _ j _ hjn).trans ((Below.heap_alloc _ _ _ (Array.getElem?_eq_some_iff.1 hj).1).trans hj)
      gi_wp2_with (gi_at_builtin; refine wpListIn_append_room _ rfl _ _ 29 rfl 3 i0 Try.underlying29 hi0 w1.heap.size k m cur rfl ((Below.heap_alloc _ _ _ hw1).trans q1) ⟨V₂.heap.size, 0, none⟩ 1 1 [.int .i64 (zn : Int)] rfl (by rw [hz1]; rfl) (cell_one_new _ _ _) (by intro u hu; simp at hu; subst hu; rfl) (by omega) (by rw [hz1, O2.out]; simp; omega) ?_; refine at_worldIn (fun X => (∃ cur', X.heap[w1.heap.size]? = some (.cells cur' 3 (0, 0)) ∧ cur'.size = m ∧ cur'.toList.take (k + 1) = ((pre ++ [((zn : Int), d)]).map Prod.fst).map (Value.int .i64)) ∧ Whole X (w1.heap.size + 1) 29 [.slice (some ⟨w1.heap.size, 0, none⟩) k m] ∧ Below w1.heap.size w1 X ∧
          KeepBut [w1.heap.size, w1.heap.size + 1, W2.heap.size, W2.heap.size + 1] V₂ X ∧ KeepsOthers V₂ X) (by rw [hz1]; have h := HPC.out _ rfl _ HRR.out.1 (by rw [List.map_append, List.map_append]; exact HRR.out.2); exact ⟨⟨_, h.1⟩, h.2⟩) (fun X hX => ?_); obtain ⟨x1, x2, x3, x4, x5⟩ := hX; have cx := x2.cellAt 0; have fx := x2.free 0; have lx := x2.lt; have X1 := Lib.hid x1; have X2 := Lib.hid x2; have X3 := Lib.hid x3; have X4 := Lib.hid x4; have X5 := Lib.hid x5; clear x1 x2 x3 x4 x5 HPC HRR cb)
      have hlen : (pre ++ [((zn : Int), d)]).length = k + 1 := by rw [List.length_append, HKK.out]; rfl
      refine ⟨(X5.out.trans (KeepsOthers.setCell _ _ _)).from _, X4.out.trans ⟨by simp, fun j hj _ => Below.heap_setCell _ _ _ j (by simp only [List.mem_cons, List.not_mem_nil, or_false, not_or] at hj; exact hj.2.1)⟩, ?_⟩
      obtain ⟨cur', c1, c2, c3⟩ := X1.out
      refine ⟨⟨cur', (Below.heap_setCell _ _ _ _ (by simp)).trans c1, c2, by rw [hlen]; exact c3⟩, ?_, X3.out.setCell (p := ⟨w1.heap.size + 1, 0, none⟩) (by simp) _⟩
      rw [hlen]
      exact X2.out.set 0 _
  case done =>
    rintro D xs V hD hS hI hmk
    have HS := Lib.hid hS
    have HMK := Lib.hid hmk
    have cb := hI.2.1.cellAt 0
    have lb := hI.2.1.lt
    have HI := Lib.hid hI
    clear hI hmk d2 k2 hb2 hKI hS
    go_wp2
    refine leaves_marks w1.heap.size [D] _ ((Marks.nil w1.heap.size _).cons (D := D) (by omega) HMK.out (fun E hE => by cases hE)) (fun W' hck hbk => ⟨.tuple #[.slice (some ⟨w1.heap.size, 0, none⟩) xs.length m, .int .i64 0], ?_, ⟨_, rfl, ?_⟩, ?_⟩)
    · simp [results, Try.results11, go_sem]
    · obtain ⟨⟨cur, h1, h2, h3⟩, h4, h5⟩ := HI.out
      have h1' := hck _ _ h1 rfl
      have hxm : xs.length ≤ m := by
        have := congrArg List.length h3
        simp at this; omega
      rw [← HS.out]
      refine ⟨by simp; omega, .inr ⟨w1.heap.size, 0, m, by simp, fun j hj => ?_⟩⟩
      have h4 := congrArg (fun l => l[j]?) h3
      simp at hj
      simp only [List.getElem?_take_of_lt hj] at h4
      simp only [World.cell?, h1', Nat.zero_add]
      rw [← Array.getElem?_toList, h4]
      simp [hj]
    · exact B1.out.trans ((HI.out.2.2.trans hbk).mono B1.out.size)
  case stop =>
    rintro D c pre V hD _ h
    exact h.elim
theorem orderF_any (lv : Value) (ns : List Nd) (w : World) (hP : PageAt w lv ns) (hK : ∀ n ∈ ns, n.ks.length ≤ 70000) : Calls Try.prog 11 #[lv] w (ListPost (checkP ns).2 ((walkL ns.length (kfOf ns)).map Prod.fst) w) := by
  obtain ⟨p, cap, rfl⟩ := hP.form
  have H := check_at p _ cap ns w rfl hP hK
  by_cases hb : (checkP ns).2 = 0
  · have F := fine_of hb
    rw [fine_check F] at H
    obtain ⟨b, off, rfl, hc⟩ := page_some hP F.len1
    refine (order_ok b off cap _ ns rfl F.len1 F.len2 w hP F.link (Lib.hid H)).mono ?_
    rintro e W' ⟨⟨v, rfl, hv⟩, hb'⟩
    refine ⟨?_, hb'⟩
    rw [if_pos hb]
    exact ⟨v, rfl, hv⟩
  · refine (order_bad p _ cap w _ _ hb (Lib.hid H)).mono ?_
    rintro e W' ⟨rfl, hb'⟩
    exact ⟨by rw [if_neg hb], hb'⟩
end Go.Proofs.Ytilighhccjdceaa
