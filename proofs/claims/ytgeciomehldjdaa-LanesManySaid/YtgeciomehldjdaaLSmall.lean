/- Contracts of the small functions of layer 6 (lanes): isTable, check, rowsOf, firstOf, Captions; slices.Concat of two rows of numbers. -/
import Derived.Test.YtgeciomehldjdaaLFound
import Derived.Test.YtgeciomehldjdaaTCheck
import Derived.Test.YtgeciomehldjdaaShelf
import Derived.Deep.Upon
namespace Go.Proofs.Ytgeciomehldjdaa
open Go.RowKit Go.Shelf Go.Maps
set_option linter.unusedVariables false
attribute [local go_sem] Oper.semAt_some

def isTab (ns : List Nd) (p : Int) : Bool := decide (0 ≤ p) && (decide (p < (ns.length : Int)) && (kdOf ns p.toNat == 2))
/-- what lanes.check answers -/
def lchkP (ns : List Nd) (p : Int) : Int := if (checkP ns).2 = 0 then (if isTab ns p = true then 0 else 2) else (checkP ns).2
theorem kd_cell {W : World} {q : Option Addr} {m c : Nat} {ns : List Nd} (h : PageAt W (.slice q m c) ns) (j : Nat) (hj : j < m) : ∃ b off, q = some ⟨b, off, none⟩ ∧ W.cell? ⟨b, off + j * 34, none⟩ = some (.int .i64 (kdOf ns j)) ∧ b < W.heap.size := by
  obtain ⟨b, off, e, hl, hc⟩ := page_cells h (by omega)
  have hj' := List.getElem?_eq_getElem (show j < ns.length by omega)
  obtain ⟨h1, _, _, h2⟩ := hc j _ hj'
  refine ⟨b, off, e, ?_, h2⟩
  unfold kdOf
  rw [hj']
  exact h1
set_option maxHeartbeats 1000000 in
theorem tab_any (q : Option Addr) (m cap : Nat) (p : Int) (ns : List Nd) (w : World) (hP : PageAt w (.slice q m cap) ns) :
    Calls Try.prog 13 #[.slice q m cap, .int .i64 p] w fun e W' => e = .returned (.bool (isTab ns p)) ∧ W' = w := by
  have hl : ns.length = m := by obtain ⟨q', c', e⟩ := hP.form; injection e with _ e; exact e.symm
  by_cases h0 : 0 ≤ p
  · by_cases h1 : p < (m : Int)
    · obtain ⟨j, rfl⟩ : ∃ j : Nat, p = (j : Int) := ⟨p.toNat, by omega⟩
      obtain ⟨b, off, rfl, hc, hb⟩ := kd_cell hP j (by omega)
      have hjm : j < m := by omega
      have hr : isTab ns j = (kdOf ns j == 2) := by simp [isTab, hl, hjm]
      rw [hr]
      clear hP hr
      have d0 : decide ((j : Int) ≥ 0) = true := by simp
      have d1 : decide ((j : Int) < (m : Int)) = true := by simpa using hjm
      go_enter Try.func13, Try.ntmps13
      go_wp2
      go_ret
      exact ⟨rfl, rfl⟩
    · have hr : isTab ns p = false := by simp [isTab, hl]; omega
      rw [hr]
      clear hP hr
      have d0 : decide (p ≥ 0) = true := by simpa using h0
      have d1 : decide (p < (m : Int)) = false := by simpa using h1
      go_enter Try.func13, Try.ntmps13
      go_wp2
      go_ret
      exact ⟨rfl, rfl⟩
  · have hr : isTab ns p = false := by simp [isTab]; omega
    rw [hr]
    clear hP hr
    have d0 : decide (p ≥ 0) = false := by simpa using h0
    go_enter Try.func13, Try.ntmps13
    go_wp2
    go_ret
    exact ⟨rfl, rfl⟩
set_option maxHeartbeats 1000000 in
theorem lchk_at (q : Option Addr) (m cap : Nat) (p : Int) (w : World) (x c r : Int) (t : Bool) (hr : r = if c = 0 then (if t = true then 0 else 2) else c)
    (H : Hid (Calls Try.prog 25 #[.slice q m cap] w fun e W' => e = .returned (.tuple #[.int .i64 x, .int .i64 c]) ∧ Below w.heap.size w W'))
    (HT : Hid (∀ X, Below w.heap.size w X → Calls Try.prog 13 #[.slice q m cap, .int .i64 p] X fun e W' => e = .returned (.bool t) ∧ W' = X)) :
    Calls Try.prog 19 #[.slice q m cap, .int .i64 p] w fun e W' => e = .returned (.int .i64 r) ∧ Below w.heap.size w W' := by
  by_cases hc : c = 0
  · subst hc
    cases t with
    | true =>
      have hr0 : r = 0 := by simpa using hr
      clear hr
      subst hr0
      go_enter Try.func19, Try.ntmps19
      go_wp2_with (first
        | (go_at_call 25; refine H.out.mono ?_; clear H; rintro e w1 ⟨rfl, hb1⟩; have HB1 := Lib.hid hb1; clear hb1)
        | (go_at_call 13; refine (HT.out _ HB1.out).mono ?_; clear HT; rintro e w2 ⟨rfl, rfl⟩))
      go_ret
      exact ⟨rfl, HB1.out⟩
    | false =>
      have hr0 : r = 2 := by simpa using hr
      clear hr
      subst hr0
      go_enter Try.func19, Try.ntmps19
      go_wp2_with (first
        | (go_at_call 25; refine H.out.mono ?_; clear H; rintro e w1 ⟨rfl, hb1⟩; have HB1 := Lib.hid hb1; clear hb1)
        | (go_at_call 13; refine (HT.out _ HB1.out).mono ?_; clear HT; rintro e w2 ⟨rfl, rfl⟩))
      go_ret
      exact ⟨rfl, HB1.out⟩
  · have hc' : (c == 0) = false := by simpa using hc
    rw [if_neg hc] at hr
    subst hr
    clear HT
    go_enter Try.func19, Try.ntmps19
    go_wp2_with (first
      | (go_at_call 25; refine H.out.mono ?_; clear H; rintro e w1 ⟨rfl, hb1⟩; have HB1 := Lib.hid hb1; clear hb1))
    go_ret
    exact ⟨rfl, HB1.out⟩
theorem lchk_any (lv : Value) (p : Int) (ns : List Nd) (w : World) (hP : PageAt w lv ns) (hK : ∀ n ∈ ns, n.ks.length ≤ 70000) :
    Calls Try.prog 19 #[lv, .int .i64 p] w fun e W' => e = .returned (.int .i64 (lchkP ns p)) ∧ Below w.heap.size w W' := by
  have H := check_any lv ns w hP hK
  obtain ⟨q, cap, rfl⟩ := hP.form
  exact lchk_at q _ cap p w _ _ _ (isTab ns p) rfl (Lib.hid H) (Lib.hid fun X hX => tab_any q _ cap p ns X (hP.below hX))
/-- what a call of found leaves -/
def OwnL (base : Nat) (X : World) (v : Value) (E : List (Int × Int)) : Prop := X.ownsRow base 49 2 v E.length (E.flatMap encL)
theorem encI_map (E : List (Int × Int)) : E.flatMap encI = (E.map Prod.fst).map (Value.int .i64) := by
  induction E with
  | nil => rfl
  | cons x E ih => rw [List.flatMap_cons, ih]; rfl
set_option maxHeartbeats 1000000 in
theorem rowsOf_at (lv gv : Value) (w : World) (E : List (Int × Int)) (H : Hid (Calls Try.prog 28 #[lv, .int .i64 9, .func (.func 29) #[] #[], gv] w fun e W' => ∃ v, e = .returned v ∧ OwnL w.heap.size W' v E ∧ Below w.heap.size w W')) :
    Calls Try.prog 22 #[lv, gv] w fun e W' => ∃ v, e = .returned v ∧ OwnL w.heap.size W' v E ∧ Below w.heap.size w W' := by
  go_enter Try.func22, Try.ntmps22
  go_wp2_with (go_at_call 28; refine H.out.mono ?_; clear H; rintro e w1 ⟨v, rfl, ho, hb1⟩; have HB1 := Lib.hid hb1; have HO := Lib.hid ho; clear hb1 ho)
  go_ret
  exact ⟨v, rfl, HO.out, HB1.out⟩
/-- pages that are looked into -/
structure PageOk (ns : List Nd) : Prop where
  len : ns.length ≤ 65536
  few : ∀ n ∈ ns, n.ks.length ≤ 70000
  link : ∀ n ∈ ns, ∀ z ∈ n.ks, 0 ≤ z ∧ z < (ns.length : Int)
theorem rowsOf_any (b off m cap : Nat) (ns : List Nd) (gv : Value) (ps : List Int) (w : World) (hm : ns.length = m) (hO : PageOk ns) (hP : PageAt w (.slice (some ⟨b, off, none⟩) m cap) ns) (hps : Ints w gv ps) (hpm : ps.length ≤ 10000000) (hpr : ∀ p ∈ ps, 0 ≤ p ∧ p < (m : Int)) :
    Calls Try.prog 22 #[.slice (some ⟨b, off, none⟩) m cap, gv] w fun e W' => ∃ v, e = .returned v ∧ OwnL w.heap.size W' v (fndP ns 9 ps) ∧ Below w.heap.size w W' := by
  obtain ⟨q, pc, rfl⟩ := hps.form
  exact rowsOf_at _ _ w _ (Lib.hid (foundL_ok b off cap m 9 q _ pc ns ps w hm (by have := hO.len; omega) hO.few hP (fun n hn z hz => by have := hO.link n hn z hz; omega) hps rfl hpm hpr))
theorem fnd_one (ns : List Nd) (k p : Int) : (fndP ns k [p]).map Prod.fst = kindK ns k p := by
  unfold fndP
  simp only [List.flatMap_cons, List.flatMap_nil, List.append_nil, List.map_map]
  rw [show (Prod.fst ∘ fun z : Int => (z, p)) = id from rfl, List.map_id]
/-- new numbers -/
def OwnN (base : Nat) (X : World) (v : Value) (zs : List Int) : Prop := X.ownsRow base 3 1 v zs.length (zs.map (Value.int .i64))
theorem foundI_one (b off m cap : Nat) (k : Int) (ns : List Nd) (p : Nat) (w : World) (hm : ns.length = m) (hO : PageOk ns) (hP : PageAt w (.slice (some ⟨b, off, none⟩) m cap) ns) (hp : p < m) :
    Calls Try.prog 35 #[.slice (some ⟨b, off, none⟩) m cap, .int .i64 k, .func (.func 36) #[] #[], .slice (some ⟨w.heap.size, 0, none⟩) 1 1] (w.alloc (.cells #[.int .i64 (p : Int)] 3)) fun e W' => ∃ v, e = .returned v ∧ OwnN w.heap.size W' v (kindK ns k p) ∧ Below w.heap.size w W' := by
  have hB : Below w.heap.size w (w.alloc (.cells #[.int .i64 (p : Int)] 3)) := (Below.refl _ w).alloc (Nat.le_refl _) _
  have hI : Ints (w.alloc (.cells #[.int .i64 (p : Int)] 3)) (.slice (some ⟨w.heap.size, 0, none⟩) 1 1) [(p : Int)] := Ints.whole (t := 3) (whole_new w [.int .i64 (p : Int)] 3 _ rfl) rfl (by simp)
  refine (foundI_ok b off cap m k (some ⟨w.heap.size, 0, none⟩) 1 1 ns [(p : Int)] _ hm (by have := hO.len; omega) hO.few (hP.below hB) (fun n hn z hz => by have := hO.link n hn z hz; omega) hI rfl (by omega) (fun z hz => by simp at hz; omega)).mono ?_
  rintro e W' ⟨v, rfl, ho, hb⟩
  refine ⟨v, rfl, ?_, hB.trans (hb.mono (by simp))⟩
  unfold OwnN
  rw [encI_map, fnd_one] at ho
  have e1 : (fndP ns k [(p : Int)]).length = (kindK ns k p).length := by rw [← fnd_one ns k p, List.length_map]
  rw [e1] at ho
  exact own_from ho (by simp)
theorem ints_prefix {W : World} {q : Option Addr} {l c : Nat} {zs : List Int} (h : Ints W (.slice q l c) zs) (k : Nat) (hk : k ≤ zs.length) : Ints W (.slice q k c) (zs.take k) := by
  obtain ⟨h1, ⟨a, cap, e, rfl⟩ | ⟨b, off, cap, e, hc⟩⟩ := h
  · injection e with e1 e2 e3
    obtain rfl : k = 0 := by simpa using hk
    exact ⟨by simp, .inl ⟨q, c, rfl, by simp⟩⟩
  · injection e with e1 e2 e3
    subst e1 e3
    have hl : (zs.take k).length = k := by rw [List.length_take]; omega
    refine ⟨by omega, .inr ⟨b, off, c, by rw [hl], fun j hj => ?_⟩⟩
    rw [hl] at hj
    rw [hc j (by omega), List.getElem?_take_of_lt hj]
set_option maxHeartbeats 1000000 in
theorem firstOf_at (lv : Value) (p : Nat) (k : Int) (w : World) (zs : List Int) (hz : zs.length ≤ 70000) (H : Hid (Calls Try.prog 35 #[lv, .int .i64 k, .func (.func 36) #[] #[], .slice (some ⟨w.heap.size, 0, none⟩) 1 1] (w.alloc (.cells #[.int .i64 (p : Int)] 3)) fun e W' => ∃ v, e = .returned v ∧ OwnN w.heap.size W' v zs ∧ Below w.heap.size w W')) :
    Calls Try.prog 20 #[lv, .int .i64 p, .int .i64 k] w fun e W' => ∃ v, e = .returned v ∧ Ints W' v (zs.take 1) ∧ CapOk v ∧ Below w.heap.size w W' := by
  by_cases hn0 : zs.length = 0
  · have e0 : zs = [] := List.eq_nil_of_length_eq_zero hn0
    subst e0
    go_enter Try.func20, Try.ntmps20
    go_wp2_with (go_at_call 35; refine H.out.mono ?_; clear H; rintro e w1 ⟨v, rfl, ho, hb1⟩; have HB1 := Lib.hid hb1; obtain ⟨hi, hck, _⟩ := ints_own ho; obtain ⟨q, c, rfl⟩ := hi.form; obtain ⟨_, _, _, e0, hlc, hcc⟩ := hck; injection e0 with e1 e2 e3; subst e1 e2 e3; have HI := Lib.hid hi; clear hb1 ho hi)
    go_ret
    exact ⟨_, rfl, ⟨by simp, .inl ⟨_, _, rfl, rfl⟩⟩, ⟨_, _, _, rfl, by omega, by omega⟩, HB1.out⟩
  · obtain ⟨nl, hnl⟩ : ∃ nl, zs.length = nl + 1 := ⟨zs.length - 1, by omega⟩
    have HNL := Lib.hid hnl
    have hz' : nl ≤ 70000 := by omega
    clear hnl hn0
    go_enter Try.func20, Try.ntmps20
    go_wp2_with (go_at_call 35; refine H.out.mono ?_; clear H; rintro e w1 ⟨v, rfl, ho, hb1⟩; have HB1 := Lib.hid hb1; obtain ⟨hi, hck, _⟩ := ints_own ho; obtain ⟨q, c, rfl⟩ := hi.form; obtain ⟨_, _, _, e0, hlc, hcc⟩ := hck; injection e0 with e1 e2 e3; subst e1 e2 e3; rw [HNL.out] at hlc; have HI := Lib.hid hi; clear hb1 ho hi; rw [HNL.out])
    go_ret
    have e1 : (min 1 ((nl : Int) + 1)).toNat = 1 := by omega
    rw [e1]
    refine ⟨_, rfl, ?_, ⟨_, _, _, rfl, by omega, by omega⟩, HB1.out⟩
    have := ints_prefix HI.out 1 (by rw [HNL.out]; omega)
    exact this
/-- an append onto a row of one's own, of a slice that may be nil -/
theorem run_append_any {w : World} (base t ty e : Nat) (i : TypeInfo) (z : Value) (size bytes : Nat) (ht : Try.prog.underlying t = some (.slice e)) (hi : Try.prog.info? e = some i) (hz : i.zero = some z)
    (hsize : i.size = size) (hby : i.bytes = bytes) (hzs : z.cells.size = size) (hsz : 0 < size) (v : Value) (n : Nat) (xs : List Value) (hown : w.ownsRow base e size v n xs)
    (q : Option Addr) (m c : Nat) (news : List Value) (hl : news.length = m * size) (hq : q = none → m = 0) (hnews : ∀ a, q = some a → ∀ j u, news[j]? = some u → w.cell? (a.add j) = some u) (h1 : ∀ u ∈ news, u.oneCell' = true)
    (h63 : n + m ≤ maxLen) (hbytes : (n + m) * bytes ≤ 140737488355328) (hbase : base ≤ w.heap.size) :
    ∃ v' w', (Builtin.append_ #[t, t] ty #[v, .slice q m c]).run Try.prog w = .ok v' w' ∧ w'.ownsRow base e size v' (n + m) (xs ++ news) ∧ w.grownBy w' v.ownBlock ∧ (v'.ownBlock = v.ownBlock ∨ v'.ownBlock = some w.heap.size) := by
  cases q with
  | some a =>
    obtain ⟨v', w', a1, a2, a3, _, a4⟩ := run_append_own_at (P := Try.prog) w base t ty e i z size bytes ht hi hz hsize hby hzs hsz v n xs hown a m c news hl (hnews a rfl) h1 h63 hbytes hbase
    exact ⟨v', w', a1, a2, a3, a4⟩
  | none =>
    have hm := hq rfl
    subst hm
    have hn : news = [] := List.eq_nil_of_length_eq_zero (by simpa using hl)
    subst hn
    have key : ∃ b l k, v = .slice b l k ∧ l ≤ k := by
      rcases hown.2 with ⟨rfl, _⟩ | ⟨g, cap, cur, rfl, _, _, hnc, _⟩
      · exact ⟨_, _, _, rfl, Nat.le_refl _⟩
      · exact ⟨_, _, _, rfl, hnc⟩
    obtain ⟨b, l, k, rfl, hlk⟩ := key
    exact ⟨_, w, run_append_nothing w t t ty e i ht hi b l k hlk _ (Src.ofNil _ ht c), by simpa using hown, ⟨rfl, rfl, rfl, Nat.le_refl _, fun _ _ _ => rfl⟩, .inl rfl⟩
theorem wpList_append_any {w : World} {ops : Array Oper} {rest : List Oper} {o : Oper} {a : Act} {Q : Exit → Act → World → Prop} (hgd : o.guard = none) (s x : Operand) (t : TypeId)
    (ho : o.op = .call { callee := .builtin .append, args := #[s, x], argTypes := #[t, t] })
    (base e : Nat) (i : TypeInfo) (z : Value) (size bytes : Nat) (ht : Try.prog.underlying t = some (.slice e)) (hi : Try.prog.info? e = some i) (hz : i.zero = some z)
    (hsize : i.size = size) (hby : i.bytes = bytes) (hzs : z.cells.size = size) (hsz : 0 < size) (v : Value) (n : Nat) (xs : List Value) (hs : a.eval s = v) (hown : w.ownsRow base e size v n xs)
    (q : Option Addr) (m c : Nat) (news : List Value) (hx : a.eval x = .slice q m c) (hl : news.length = m * size) (hq : q = none → m = 0) (hnews : ∀ a, q = some a → ∀ j u, news[j]? = some u → w.cell? (a.add j) = some u) (h1 : ∀ u ∈ news, u.oneCell' = true)
    (h63 : n + m ≤ maxLen) (hbytes : (n + m) * bytes ≤ 140737488355328) (hbase : base ≤ w.heap.size)
    (h : ∀ v' w', w'.ownsRow base e size v' (n + m) (xs ++ news) → w.grownBy w' v.ownBlock → (v'.ownBlock = v.ownBlock ∨ v'.ownBlock = some w.heap.size) → wpList Try.prog ops Q rest (a.put o.dst v') w') :
    wpList Try.prog ops Q (o :: rest) a w := by
  obtain ⟨v', w', hr, h2, h3, h4⟩ := run_append_any base t o.type e i z size bytes ht hi hz hsize hby hzs hsz v n xs hown q m c news hl hq hnews h1 h63 hbytes hbase
  refine wpList_plain hgd fun K hK => ?_
  exact wp_append_run s x t ho _ _ _ hs hx hr (hK _ _ (h v' w' h2 h3 h4))
theorem ints_src {W : World} {v : Value} {zs : List Int} (h : Ints W v zs) : ∃ q c, v = .slice q zs.length c ∧ (q = none → zs.length = 0) ∧ ∀ a, q = some a → ∀ j u, (zs.map (Value.int .i64))[j]? = some u → W.cell? (a.add j) = some u := by
  obtain ⟨h1, ⟨a, cap, e, rfl⟩ | ⟨b, off, cap, e, hc⟩⟩ := h
  · exact ⟨a, cap, e, fun _ => rfl, fun _ _ j u hj => by simp at hj⟩
  · refine ⟨some ⟨b, off, none⟩, cap, e, fun h => (by cases h), fun a ha j u hj => ?_⟩
    injection ha with ha
    subst ha
    rw [List.getElem?_map] at hj
    obtain ⟨z, hz, rfl⟩ := Option.map_eq_some_iff.1 hj
    have hl := (List.getElem?_eq_some_iff.1 hz).1
    have := hc j hl
    rw [hz] at this
    rw [add_plain]
    exact this
theorem ints_one (zs : List Int) : ∀ u ∈ zs.map (Value.int .i64), u.oneCell' = true := fun u hu => by obtain ⟨z, _, rfl⟩ := List.mem_map.1 hu; rfl
theorem grow_any (n : Nat) (hn : n ≤ 200000) (w : World) : Calls Try.prog 37 #[.slice none 0 0, .int .i64 n] w fun e W' => ∃ v, e = .returned v ∧ OwnN w.heap.size W' v [] ∧ Below w.heap.size w W' := by
  by_cases h0 : n = 0
  · subst h0
    refine (Any8.slices_Grow_room Try.growI none 0 0 0 w (by omega) (by omega) (by omega) (by omega)).mono ?_
    rintro e w' ⟨rfl, rfl⟩
    exact ⟨_, rfl, World.ownsRow_nil _ _ _ _, Below.refl _ _⟩
  · obtain ⟨i0, hi0, hz0, hz1, hz2⟩ := info_parts Try.infoInt
    refine (Any8.slices_Grow_grow Try.growI i0 (.int .i64 0) hi0 hz0 (by rw [hz1]; omega) none 0 0 n [] w (by omega) (by omega) (by rw [hz2]; omega) (by omega) (by simp) (fun _ => rfl) (fun a h => by cases h)).mono ?_
    rintro e w' ⟨rfl, rfl⟩
    refine ⟨_, rfl, ⟨by simp, .inr ⟨w.heap.size, _, _, rfl, Nat.le_refl _, heap_alloc_new w.drew _, Nat.zero_le _, grownCap_le_maxLen w (0 + n) 0 _ (by unfold maxLen; omega), ?_, by simp⟩⟩, ?_⟩
    · have hge := grownCap_ge w (0 + n) 0 3
      have hge' : 0 + n ≤ grownCap w (0 + n) 0 (Try.growI_ren.t 25) := grownCap_ge w (0 + n) 0 _
      simp only [Array.size_append, List.size_toArray, List.length_nil, size_zeroCells]
      rw [show (Value.int IntKind.i64 0).cells.size = 1 from rfl]
      omega
    · exact (show Below w.heap.size w w.drew from below_dn _ w 1).alloc (Nat.le_refl _) _
set_option maxRecDepth 100000 in
set_option maxHeartbeats 2000000 in
theorem concat_any (g : Nat) (a b : Value) (xs ys : List Int) (w : World) (hg : Whole w g 32 [a, b]) (ha : Ints w a xs) (hb : Ints w b ys) (hx : xs.length ≤ 70000) (hy : ys.length ≤ 70000) :
    Calls Try.prog 21 #[.slice (some ⟨g, 0, none⟩) 2 2] w fun e W' => ∃ v, e = .returned v ∧ OwnN w.heap.size W' v (xs ++ ys) ∧ Below w.heap.size w W' := by
  obtain ⟨qa, ca, rfl, za, na⟩ := ints_src ha
  obtain ⟨qb, cb, rfl, zb, nb⟩ := ints_src hb
  obtain ⟨lx, hlx⟩ : ∃ lx, xs.length = lx := ⟨_, rfl⟩
  obtain ⟨ly, hly⟩ : ∃ ly, ys.length = ly := ⟨_, rfl⟩
  rw [hlx] at hx hg ha za
  rw [hly] at hy hg hb zb
  have HLX := Lib.hid hlx
  have HLY := Lib.hid hly
  have NA := Lib.hid na
  have NB := Lib.hid nb
  have HGW := Lib.hid hg
  have lg := hg.lt
  have cg0 : w.cell? ⟨g, 0, none⟩ = some (.slice qa lx ca) := hg.cellAt 0
  have cg1 : w.cell? ⟨g, 1, none⟩ = some (.slice qb ly cb) := hg.cellAt 1
  have hlc : ∀ (ad : Addr) (u : Value), w.cell? ad = some u → ad.block < w.heap.size := fun ad u h => cell_lt h
  have HGR := Lib.hid (fun X => grow_any (lx + ly) (by omega) X)
  have n1 : ¬ (lx : Int) < 0 := by omega
  have n2 : ¬ ((lx : Int) + (ly : Int)) < 0 := by omega
  have d1 : decide ((lx : Int) < 0) = false := by simp
  have d2 : decide ((lx : Int) + (ly : Int) < 0) = false := by simp; omega
  obtain ⟨i0, hi0, hz0', hz1', hz2'⟩ := info_parts Try.infoInt
  have HZ1 := Lib.hid hz0'
  have HZ2 := Lib.hid hz1'
  have HZ3 := Lib.hid hz2'
  clear ha hb na nb hlx hly hg hz0' hz1' hz2'
  go_enter Try.func21, Try.ntmps21
  go_wp2
  go_loopw [3, 5, 11] (fun s3 _ s11 X => w = X ∧ ((s11 = .int .i64 0 ∧ s3 = .int .i64 0) ∨ (s11 = .int .i64 1 ∧ s3 = .int .i64 lx) ∨ (s11 = .int .i64 2 ∧ s3 = .int .i64 ((lx : Int) + (ly : Int))))) (fun _ _ s11 _ => 2 - (intOf s11).toNat)
  case atStart => exact ⟨rfl, .inl ⟨rfl, rfl⟩⟩
  case round =>
    obtain ⟨rfl, ⟨rfl, rfl⟩ | ⟨rfl, rfl⟩ | ⟨rfl, rfl⟩⟩ := hrel
    · go_wp2
      go_roundw
      case rel => exact ⟨by trivial, .inr (.inl ⟨by go_num, by go_num⟩)⟩
      case measure => simp [intOf]
    · go_wp2
      go_roundw
      case rel => exact ⟨by trivial, .inr (.inr ⟨by go_num, by go_num⟩)⟩
      case measure => simp [intOf]
    · go_wp2_with (go_at_call 37; refine (HGR.out _).mono ?_; clear HGR; rintro e w1 ⟨v0, rfl, ho, hb1⟩; have HO := Lib.hid ho; have HB1 := Lib.hid hb1; clear ho hb1)
      clear lg cg0 cg1
      go_loopw [6, 8, 27] (fun s6 _ s27 X => ∃ zs, ((s27 = .int .i64 0 ∧ zs = []) ∨ (s27 = .int .i64 1 ∧ zs = xs) ∨ (s27 = .int .i64 2 ∧ zs = xs ++ ys)) ∧ Hid (OwnN w.heap.size X s6 zs) ∧ Hid (Below w.heap.size w X)) (fun _ _ s27 _ => 2 - (intOf s27).toNat)
      case atStart => exact ⟨[], .inl ⟨rfl, rfl⟩, HO, HB1⟩
      case round =>
        obtain ⟨zs, hcase, HOX, HBX⟩ := hrel
        have cg0 : wr.cell? ⟨g, 0, none⟩ = some (.slice qa lx ca) := (HBX.out.cell (p := ⟨g, 0, none⟩) HGW.out.lt).trans (HGW.out.cellAt 0)
        have cg1 : wr.cell? ⟨g, 1, none⟩ = some (.slice qb ly cb) := (HBX.out.cell (p := ⟨g, 1, none⟩) HGW.out.lt).trans (HGW.out.cellAt 1)
        have lg : g < wr.heap.size := by have := HGW.out.lt; have := HBX.out.size; omega
        obtain ⟨rfl, rfl⟩ | ⟨rfl, rfl⟩ | ⟨rfl, rfl⟩ := hcase
        · go_wp2_with (at_builtin; refine wpList_append_any rfl _ _ 32 rfl w.heap.size 3 i0 (.int .i64 0) 1 8 Try.underlying32 hi0 HZ1.out HZ2.out HZ3.out rfl (by decide) _ _ _ rfl HOX.out qa lx ca (xs.map (Value.int .i64)) rfl (by rw [List.length_map, HLX.out]; omega) za (fun a h j u hj => (HBX.out.cell (p := a.add j) (cell_lt (NA.out a h j u hj))).trans (NA.out a h j u hj)) (ints_one _) (by simp only [List.length_nil, maxLen]; omega) (by simp only [List.length_nil]; omega) HBX.out.size ?_; intro v2 w2 ho2 hg2 _; have HO2 := Lib.hid ho2; have HG2 := Lib.hid hg2; clear ho2 hg2)
          go_roundw
          case rel => exact ⟨xs, .inr (.inl ⟨by go_num, rfl⟩), Lib.hid (by have := HO2.out; rw [← HLX.out] at this; simpa [OwnN] using this), Lib.hid (HBX.out.grown HG2.out HBX.out.size (fun g e => (HOX.out.lt g e).1))⟩
          case measure => simp [intOf]
        · go_wp2_with (at_builtin; refine wpList_append_any rfl _ _ 32 rfl w.heap.size 3 i0 (.int .i64 0) 1 8 Try.underlying32 hi0 HZ1.out HZ2.out HZ3.out rfl (by decide) _ _ _ rfl HOX.out qb ly cb (ys.map (Value.int .i64)) rfl (by rw [List.length_map, HLY.out]; omega) zb (fun a h j u hj => (HBX.out.cell (p := a.add j) (cell_lt (NB.out a h j u hj))).trans (NB.out a h j u hj)) (ints_one _) (by rw [HLX.out]; simp only [maxLen]; omega) (by rw [HLX.out]; omega) HBX.out.size ?_; intro v2 w2 ho2 hg2 _; have HO2 := Lib.hid ho2; have HG2 := Lib.hid hg2; clear ho2 hg2)
          go_roundw
          case rel => exact ⟨zs ++ ys, .inr (.inr ⟨by go_num, rfl⟩), Lib.hid (by have := HO2.out; rw [← HLY.out] at this; simpa [OwnN] using this), Lib.hid (HBX.out.grown HG2.out HBX.out.size (fun g e => (HOX.out.lt g e).1))⟩
          case measure => simp [intOf]
        · go_wp2
          go_ret
          exact ⟨_, rfl, HOX.out, HBX.out⟩
theorem kind_few {ns : List Nd} (hO : PageOk ns) (k p : Int) : (kindK ns k p).length ≤ 70000 := by
  unfold kindK
  refine Nat.le_trans (List.length_filter_le _ _) ?_
  unfold kfOf
  cases hq : ns[p.toNat]? with
  | none => simp
  | some n => exact hO.few n (List.mem_iff_getElem?.2 ⟨_, hq⟩)
theorem contains_any (v : Value) (zs : List Int) (x : Int) (w : World) (h : Ints w v zs) : Calls Try.prog 24 #[v, .int .i64 x] w fun e w' => e = .returned (.bool (zs.contains x)) ∧ w' = w := by
  obtain ⟨h1, ⟨a, cap, rfl, rfl⟩ | ⟨b, off, cap, rfl, hc⟩⟩ := h
  · exact Try.slices_Contains_int_empty a cap x w
  · have := Try.slices_Contains_int b off zs.length cap zs x w (Nat.le_refl _) h1 (fun j hj => by rw [hc j hj, List.getD_eq_getElem?_getD])
    rwa [List.take_of_length_le (Nat.le_refl _)] at this
end Go.Proofs.Ytgeciomehldjdaa
