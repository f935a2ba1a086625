/- Contracts of the small functions of layer 6 (lanes): isTable, check, rowsOf, firstOf, Captions; slices.Concat of two rows of numbers. -/
/- Contract of lanes.Rows: the rows of a table. -/
/- Contract of purflingref06.Same: are two lists of lanes the same? -/
import Derived.Test.YtgaclepoipaecaaLFound
import Derived.Test.YtgaclepoipaecaaTCheck
import Derived.Test.YtgaclepoipaecaaShelf
import Derived.Deep.Upon
import Derived.Test.YtgaclepoipaecaaSComp
import Derived.Test.YtgaclepoipaecaaTInts
import Derived.Test.YtgaclepoipaecaaTOrder
namespace Go.Proofs.Ytgaclepoipaecaa
open Go.RowKit Go.Shelf Go.Maps
set_option linter.unusedVariables false
attribute [local go_sem] Oper.semAt_some

def isTab (ns : List Nd) (p : Int) : Bool := decide (0 ≤ p) && (decide (p < (ns.length : Int)) && (kdOf ns p.toNat == 2))
/-- what lanes.check answers -/
def lchkP (ns : List Nd) (p : Int) : Int := if (checkP ns).2 = 0 then (if isTab ns p = true then 0 else 2) else (checkP ns).2
theorem kd_cell {W : World} {q : Option Addr} {m c : Nat} {ns : List Nd} (h : PageAt W (.slice q m c) ns) (j : Nat) (hj : j < m) : ∃ b off, q = some ⟨b, off, none⟩ ∧ W.cell? ⟨b, off + j * 34, none⟩ = some (.int .i64 (kdOf ns j)) ∧ b < W.heap.size := by
  obtain ⟨b, off, e, hl, hc⟩ := page_cells h (by omega)
  have hj' := List.getElem?_eq_getElem (show j < ns.length by omega)
  obtain ⟨h1, _, _, h2⟩ := hc j _ hj'
  refine ⟨b, off, e, ?_, h2⟩
  unfold kdOf
  rw [hj']
  exact h1
set_option maxHeartbeats 1000000 in
theorem tab_any (q : Option Addr) (m cap : Nat) (p : Int) (ns : List Nd) (w : World) (hP : PageAt w (.slice q m cap) ns) :
    Calls Try.prog 12 #[.slice q m cap, .int .i64 p] w fun e W' => e = .returned (.bool (isTab ns p)) ∧ W' = w := by
  have hl : ns.length = m := by obtain ⟨q', c', e⟩ := hP.form; injection e with _ e; exact e.symm
  by_cases h0 : 0 ≤ p
  · by_cases h1 : p < (m : Int)
    · obtain ⟨j, rfl⟩ : ∃ j : Nat, p = (j : Int) := ⟨p.toNat, by omega⟩
      obtain ⟨b, off, rfl, hc, hb⟩ := kd_cell hP j (by omega)
      have hjm : j < m := by omega
      have hr : isTab ns j = (kdOf ns j == 2) := by simp [isTab, hl, hjm]
      rw [hr]
      clear hP hr
      have d0 : decide ((j : Int) ≥ 0) = true := by simp
      have d1 : decide ((j : Int) < (m : Int)) = true := by simpa using hjm
      go_enter Try.func12, Try.ntmps12
      go_wp2
      go_ret
      exact ⟨rfl, rfl⟩
    · have hr : isTab ns p = false := by simp [isTab, hl]; omega
      rw [hr]
      clear hP hr
      have d0 : decide (p ≥ 0) = true := by simpa using h0
      have d1 : decide (p < (m : Int)) = false := by simpa using h1
      go_enter Try.func12, Try.ntmps12
      go_wp2
      go_ret
      exact ⟨rfl, rfl⟩
  · have hr : isTab ns p = false := by simp [isTab]; omega
    rw [hr]
    clear hP hr
    have d0 : decide (p ≥ 0) = false := by simpa using h0
    go_enter Try.func12, Try.ntmps12
    go_wp2
    go_ret
    exact ⟨rfl, rfl⟩
set_option maxHeartbeats 1000000 in
theorem lchk_at (q : Option Addr) (m cap : Nat) (p : Int) (w : World) (x c r : Int) (t : Bool) (hr : r = if c = 0 then (if t = true then 0 else 2) else c)
    (H : Hid (Calls Try.prog 24 #[.slice q m cap] w fun e W' => e = .returned (.tuple #[.int .i64 x, .int .i64 c]) ∧ Below w.heap.size w W'))
    (HT : Hid (∀ X, Below w.heap.size w X → Calls Try.prog 12 #[.slice q m cap, .int .i64 p] X fun e W' => e = .returned (.bool t) ∧ W' = X)) :
    Calls Try.prog 18 #[.slice q m cap, .int .i64 p] w fun e W' => e = .returned (.int .i64 r) ∧ Below w.heap.size w W' := by
  by_cases hc : c = 0
  · subst hc
    cases t with
    | true =>
      have hr0 : r = 0 := by simpa using hr
      clear hr
      subst hr0
      go_enter Try.func18, Try.ntmps18
      go_wp2_with (first
        | (go_at_call 24; refine H.out.mono ?_; clear H; rintro e w1 ⟨rfl, hb1⟩; have HB1 := Lib.hid hb1; clear hb1)
        | (go_at_call 12; refine (HT.out _ HB1.out).mono ?_; clear HT; rintro e w2 ⟨rfl, rfl⟩))
      go_ret
      exact ⟨rfl, HB1.out⟩
    | false =>
      have hr0 : r = 2 := by simpa using hr
      clear hr
      subst hr0
      go_enter Try.func18, Try.ntmps18
      go_wp2_with (first
        | (go_at_call 24; refine H.out.mono ?_; clear H; rintro e w1 ⟨rfl, hb1⟩; have HB1 := Lib.hid hb1; clear hb1)
        | (go_at_call 12; refine (HT.out _ HB1.out).mono ?_; clear HT; rintro e w2 ⟨rfl, rfl⟩))
      go_ret
      exact ⟨rfl, HB1.out⟩
  · have hc' : (c == 0) = false := by simpa using hc
    rw [if_neg hc] at hr
    subst hr
    clear HT
    go_enter Try.func18, Try.ntmps18
    go_wp2_with (first
      | (go_at_call 24; refine H.out.mono ?_; clear H; rintro e w1 ⟨rfl, hb1⟩; have HB1 := Lib.hid hb1; clear hb1))
    go_ret
    exact ⟨rfl, HB1.out⟩
theorem lchk_any (lv : Value) (p : Int) (ns : List Nd) (w : World) (hP : PageAt w lv ns) (hK : ∀ n ∈ ns, n.ks.length ≤ 70000) :
    Calls Try.prog 18 #[lv, .int .i64 p] w fun e W' => e = .returned (.int .i64 (lchkP ns p)) ∧ Below w.heap.size w W' := by
  have H := check_any lv ns w hP hK
  obtain ⟨q, cap, rfl⟩ := hP.form
  exact lchk_at q _ cap p w _ _ _ (isTab ns p) rfl (Lib.hid H) (Lib.hid fun X hX => tab_any q _ cap p ns X (hP.below hX))
/-- what a call of found leaves -/
def OwnL (base : Nat) (X : World) (v : Value) (E : List (Int × Int)) : Prop := X.ownsRow base 48 2 v E.length (E.flatMap encL)
theorem encI_map (E : List (Int × Int)) : E.flatMap encI = (E.map Prod.fst).map (Value.int .i64) := by
  induction E with
  | nil => rfl
  | cons x E ih => rw [List.flatMap_cons, ih]; rfl
set_option maxHeartbeats 1000000 in
theorem rowsOf_at (lv gv : Value) (w : World) (E : List (Int × Int)) (H : Hid (Calls Try.prog 27 #[lv, .int .i64 9, .func (.func 28) #[] #[], gv] w fun e W' => ∃ v, e = .returned v ∧ OwnL w.heap.size W' v E ∧ Below w.heap.size w W')) :
    Calls Try.prog 21 #[lv, gv] w fun e W' => ∃ v, e = .returned v ∧ OwnL w.heap.size W' v E ∧ Below w.heap.size w W' := by
  go_enter Try.func21, Try.ntmps21
  go_wp2_with (go_at_call 27; refine H.out.mono ?_; clear H; rintro e w1 ⟨v, rfl, ho, hb1⟩; have HB1 := Lib.hid hb1; have HO := Lib.hid ho; clear hb1 ho)
  go_ret
  exact ⟨v, rfl, HO.out, HB1.out⟩
/-- pages that are looked into -/
structure PageOk (ns : List Nd) : Prop where
  len : ns.length ≤ 65536
  few : ∀ n ∈ ns, n.ks.length ≤ 70000
  link : ∀ n ∈ ns, ∀ z ∈ n.ks, 0 ≤ z ∧ z < (ns.length : Int)
theorem rowsOf_any (b off m cap : Nat) (ns : List Nd) (gv : Value) (ps : List Int) (w : World) (hm : ns.length = m) (hO : PageOk ns) (hP : PageAt w (.slice (some ⟨b, off, none⟩) m cap) ns) (hps : Ints w gv ps) (hpm : ps.length ≤ 10000000) (hpr : ∀ p ∈ ps, 0 ≤ p ∧ p < (m : Int)) :
    Calls Try.prog 21 #[.slice (some ⟨b, off, none⟩) m cap, gv] w fun e W' => ∃ v, e = .returned v ∧ OwnL w.heap.size W' v (fndP ns 9 ps) ∧ Below w.heap.size w W' := by
  obtain ⟨q, pc, rfl⟩ := hps.form
  exact rowsOf_at _ _ w _ (Lib.hid (foundL_ok b off cap m 9 q _ pc ns ps w hm (by have := hO.len; omega) hO.few hP (fun n hn z hz => by have := hO.link n hn z hz; omega) hps rfl hpm hpr))
theorem fnd_one (ns : List Nd) (k p : Int) : (fndP ns k [p]).map Prod.fst = kindK ns k p := by
  unfold fndP
  simp only [List.flatMap_cons, List.flatMap_nil, List.append_nil, List.map_map]
  rw [show (Prod.fst ∘ fun z : Int => (z, p)) = id from rfl, List.map_id]
/-- new numbers -/
def OwnN (base : Nat) (X : World) (v : Value) (zs : List Int) : Prop := X.ownsRow base 3 1 v zs.length (zs.map (Value.int .i64))
theorem foundI_one (b off m cap : Nat) (k : Int) (ns : List Nd) (p : Nat) (w : World) (hm : ns.length = m) (hO : PageOk ns) (hP : PageAt w (.slice (some ⟨b, off, none⟩) m cap) ns) (hp : p < m) :
    Calls Try.prog 34 #[.slice (some ⟨b, off, none⟩) m cap, .int .i64 k, .func (.func 35) #[] #[], .slice (some ⟨w.heap.size, 0, none⟩) 1 1] (w.alloc (.cells #[.int .i64 (p : Int)] 3)) fun e W' => ∃ v, e = .returned v ∧ OwnN w.heap.size W' v (kindK ns k p) ∧ Below w.heap.size w W' := by
  have hB : Below w.heap.size w (w.alloc (.cells #[.int .i64 (p : Int)] 3)) := (Below.refl _ w).alloc (Nat.le_refl _) _
  have hI : Ints (w.alloc (.cells #[.int .i64 (p : Int)] 3)) (.slice (some ⟨w.heap.size, 0, none⟩) 1 1) [(p : Int)] := Ints.whole (t := 3) (whole_new w [.int .i64 (p : Int)] 3 _ rfl) rfl (by simp)
  refine (foundI_ok b off cap m k (some ⟨w.heap.size, 0, none⟩) 1 1 ns [(p : Int)] _ hm (by have := hO.len; omega) hO.few (hP.below hB) (fun n hn z hz => by have := hO.link n hn z hz; omega) hI rfl (by omega) (fun z hz => by simp at hz; omega)).mono ?_
  rintro e W' ⟨v, rfl, ho, hb⟩
  refine ⟨v, rfl, ?_, hB.trans (hb.mono (by simp))⟩
  unfold OwnN
  rw [encI_map, fnd_one] at ho
  have e1 : (fndP ns k [(p : Int)]).length = (kindK ns k p).length := by rw [← fnd_one ns k p, List.length_map]
  rw [e1] at ho
  exact own_from ho (by simp)
theorem ints_prefix {W : World} {q : Option Addr} {l c : Nat} {zs : List Int} (h : Ints W (.slice q l c) zs) (k : Nat) (hk : k ≤ zs.length) : Ints W (.slice q k c) (zs.take k) := by
  obtain ⟨h1, ⟨a, cap, e, rfl⟩ | ⟨b, off, cap, e, hc⟩⟩ := h
  · injection e with e1 e2 e3
    obtain rfl : k = 0 := by simpa using hk
    exact ⟨by simp, .inl ⟨q, c, rfl, by simp⟩⟩
  · injection e with e1 e2 e3
    subst e1 e3
    have hl : (zs.take k).length = k := by rw [List.length_take]; omega
    refine ⟨by omega, .inr ⟨b, off, c, by rw [hl], fun j hj => ?_⟩⟩
    rw [hl] at hj
    rw [hc j (by omega), List.getElem?_take_of_lt hj]
set_option maxHeartbeats 1000000 in
theorem firstOf_at (lv : Value) (p : Nat) (k : Int) (w : World) (zs : List Int) (hz : zs.length ≤ 70000) (H : Hid (Calls Try.prog 34 #[lv, .int .i64 k, .func (.func 35) #[] #[], .slice (some ⟨w.heap.size, 0, none⟩) 1 1] (w.alloc (.cells #[.int .i64 (p : Int)] 3)) fun e W' => ∃ v, e = .returned v ∧ OwnN w.heap.size W' v zs ∧ Below w.heap.size w W')) :
    Calls Try.prog 19 #[lv, .int .i64 p, .int .i64 k] w fun e W' => ∃ v, e = .returned v ∧ Ints W' v (zs.take 1) ∧ CapOk v ∧ Below w.heap.size w W' := by
  by_cases hn0 : zs.length = 0
  · have e0 : zs = [] := List.eq_nil_of_length_eq_zero hn0
    subst e0
    go_enter Try.func19, Try.ntmps19
    go_wp2_with (go_at_call 34; refine H.out.mono ?_; clear H; rintro e w1 ⟨v, rfl, ho, hb1⟩; have HB1 := Lib.hid hb1; obtain ⟨hi, hck, _⟩ := ints_own ho; obtain ⟨q, c, rfl⟩ := hi.form; obtain ⟨_, _, _, e0, hlc, hcc⟩ := hck; injection e0 with e1 e2 e3; subst e1 e2 e3; have HI := Lib.hid hi; clear hb1 ho hi)
    go_ret
    exact ⟨_, rfl, ⟨by simp, .inl ⟨_, _, rfl, rfl⟩⟩, ⟨_, _, _, rfl, by omega, by omega⟩, HB1.out⟩
  · obtain ⟨nl, hnl⟩ : ∃ nl, zs.length = nl + 1 := ⟨zs.length - 1, by omega⟩
    have HNL := Lib.hid hnl
    have hz' : nl ≤ 70000 := by omega
    clear hnl hn0
    go_enter Try.func19, Try.ntmps19
    go_wp2_with (go_at_call 34; refine H.out.mono ?_; clear H; rintro e w1 ⟨v, rfl, ho, hb1⟩; have HB1 := Lib.hid hb1; obtain ⟨hi, hck, _⟩ := ints_own ho; obtain ⟨q, c, rfl⟩ := hi.form; obtain ⟨_, _, _, e0, hlc, hcc⟩ := hck; injection e0 with e1 e2 e3; subst e1 e2 e3; rw [HNL.out] at hlc; have HI := Lib.hid hi; clear hb1 ho hi; rw [HNL.out])
    go_ret
    have e1 : (min 1 ((nl : Int) + 1)).toNat = 1 := by omega
    rw [e1]
    refine ⟨_, rfl, ?_, ⟨_, _, _, rfl, by omega, by omega⟩, HB1.out⟩
    have := ints_prefix HI.out 1 (by rw [HNL.out]; omega)
    exact this
/-- an append onto a row of one's own, of a slice that may be nil -/
theorem run_append_any {w : World} (base t ty e : Nat) (i : TypeInfo) (z : Value) (size bytes : Nat) (ht : Try.prog.underlying t = some (.slice e)) (hi : Try.prog.info? e = some i) (hz : i.zero = some z)
    (hsize : i.size = size) (hby : i.bytes = bytes) (hzs : z.cells.size = size) (hsz : 0 < size) (v : Value) (n : Nat) (xs : List Value) (hown : w.ownsRow base e size v n xs)
    (q : Option Addr) (m c : Nat) (news : List Value) (hl : news.length = m * size) (hq : q = none → m = 0) (hnews : ∀ a, q = some a → ∀ j u, news[j]? = some u → w.cell? (a.add j) = some u) (h1 : ∀ u ∈ news, u.oneCell' = true)
    (h63 : n + m ≤ maxLen) (hbytes : (n + m) * bytes ≤ 140737488355328) (hbase : base ≤ w.heap.size) :
    ∃ v' w', (Builtin.append_ #[t, t] ty #[v, .slice q m c]).run Try.prog w = .ok v' w' ∧ w'.ownsRow base e size v' (n + m) (xs ++ news) ∧ w.grownBy w' v.ownBlock ∧ (v'.ownBlock = v.ownBlock ∨ v'.ownBlock = some w.heap.size) := by
  cases q with
  | some a =>
    obtain ⟨v', w', a1, a2, a3, _, a4⟩ := run_append_own_at (P := Try.prog) w base t ty e i z size bytes ht hi hz hsize hby hzs hsz v n xs hown a m c news hl (hnews a rfl) h1 h63 hbytes hbase
    exact ⟨v', w', a1, a2, a3, a4⟩
  | none =>
    have hm := hq rfl
    subst hm
    have hn : news = [] := List.eq_nil_of_length_eq_zero (by simpa using hl)
    subst hn
    have key : ∃ b l k, v = .slice b l k ∧ l ≤ k := by
      rcases hown.2 with ⟨rfl, _⟩ | ⟨g, cap, cur, rfl, _, _, hnc, _⟩
      · exact ⟨_, _, _, rfl, Nat.le_refl _⟩
      · exact ⟨_, _, _, rfl, hnc⟩
    obtain ⟨b, l, k, rfl, hlk⟩ := key
    exact ⟨_, w, run_append_nothing w t t ty e i ht hi b l k hlk _ (Src.ofNil _ ht c), by simpa using hown, ⟨rfl, rfl, rfl, Nat.le_refl _, fun _ _ _ => rfl⟩, .inl rfl⟩
theorem wpList_append_any {w : World} {ops : Array Oper} {rest : List Oper} {o : Oper} {a : Act} {Q : Exit → Act → World → Prop} (hgd : o.guard = none) (s x : Operand) (t : TypeId)
    (ho : o.op = .call { callee := .builtin .append, args := #[s, x], argTypes := #[t, t] })
    (base e : Nat) (i : TypeInfo) (z : Value) (size bytes : Nat) (ht : Try.prog.underlying t = some (.slice e)) (hi : Try.prog.info? e = some i) (hz : i.zero = some z)
    (hsize : i.size = size) (hby : i.bytes = bytes) (hzs : z.cells.size = size) (hsz : 0 < size) (v : Value) (n : Nat) (xs : List Value) (hs : a.eval s = v) (hown : w.ownsRow base e size v n xs)
    (q : Option Addr) (m c : Nat) (news : List Value) (hx : a.eval x = .slice q m c) (hl : news.length = m * size) (hq : q = none → m = 0) (hnews : ∀ a, q = some a → ∀ j u, news[j]? = some u → w.cell? (a.add j) = some u) (h1 : ∀ u ∈ news, u.oneCell' = true)
    (h63 : n + m ≤ maxLen) (hbytes : (n + m) * bytes ≤ 140737488355328) (hbase : base ≤ w.heap.size)
    (h : ∀ v' w', w'.ownsRow base e size v' (n + m) (xs ++ news) → w.grownBy w' v.ownBlock → (v'.ownBlock = v.ownBlock ∨ v'.ownBlock = some w.heap.size) → wpList Try.prog ops Q rest (a.put o.dst v') w') :
    wpList Try.prog ops Q (o :: rest) a w := by
  obtain ⟨v', w', hr, h2, h3, h4⟩ := run_append_any base t o.type e i z size bytes ht hi hz hsize hby hzs hsz v n xs hown q m c news hl hq hnews h1 h63 hbytes hbase
  refine wpList_plain hgd fun K hK => ?_
  exact wp_append_run s x t ho _ _ _ hs hx hr (hK _ _ (h v' w' h2 h3 h4))
theorem ints_src {W : World} {v : Value} {zs : List Int} (h : Ints W v zs) : ∃ q c, v = .slice q zs.length c ∧ (q = none → zs.length = 0) ∧ ∀ a, q = some a → ∀ j u, (zs.map (Value.int .i64))[j]? = some u → W.cell? (a.add j) = some u := by
  obtain ⟨h1, ⟨a, cap, e, rfl⟩ | ⟨b, off, cap, e, hc⟩⟩ := h
  · exact ⟨a, cap, e, fun _ => rfl, fun _ _ j u hj => by simp at hj⟩
  · refine ⟨some ⟨b, off, none⟩, cap, e, fun h => (by cases h), fun a ha j u hj => ?_⟩
    injection ha with ha
    subst ha
    rw [List.getElem?_map] at hj
    obtain ⟨z, hz, rfl⟩ := Option.map_eq_some_iff.1 hj
    have hl := (List.getElem?_eq_some_iff.1 hz).1
    have := hc j hl
    rw [hz] at this
    rw [add_plain]
    exact this
theorem ints_one (zs : List Int) : ∀ u ∈ zs.map (Value.int .i64), u.oneCell' = true := fun u hu => by obtain ⟨z, _, rfl⟩ := List.mem_map.1 hu; rfl
theorem grow_any (n : Nat) (hn : n ≤ 200000) (w : World) : Calls Try.prog 36 #[.slice none 0 0, .int .i64 n] w fun e W' => ∃ v, e = .returned v ∧ OwnN w.heap.size W' v [] ∧ Below w.heap.size w W' := by
  by_cases h0 : n = 0
  · subst h0
    refine (Any8.slices_Grow_room Try.growI none 0 0 0 w (by omega) (by omega) (by omega) (by omega)).mono ?_
    rintro e w' ⟨rfl, rfl⟩
    exact ⟨_, rfl, World.ownsRow_nil _ _ _ _, Below.refl _ _⟩
  · obtain ⟨i0, hi0, hz0, hz1, hz2⟩ := info_parts Try.infoInt
    refine (Any8.slices_Grow_grow Try.growI i0 (.int .i64 0) hi0 hz0 (by rw [hz1]; omega) none 0 0 n [] w (by omega) (by omega) (by rw [hz2]; omega) (by omega) (by simp) (fun _ => rfl) (fun a h => by cases h)).mono ?_
    rintro e w' ⟨rfl, rfl⟩
    refine ⟨_, rfl, ⟨by simp, .inr ⟨w.heap.size, _, _, rfl, Nat.le_refl _, heap_alloc_new w.drew _, Nat.zero_le _, grownCap_le_maxLen w (0 + n) 0 _ (by unfold maxLen; omega), ?_, by simp⟩⟩, ?_⟩
    · have hge := grownCap_ge w (0 + n) 0 3
      have hge' : 0 + n ≤ grownCap w (0 + n) 0 (Try.growI_ren.t 25) := grownCap_ge w (0 + n) 0 _
      simp only [Array.size_append, List.size_toArray, List.length_nil, size_zeroCells]
      rw [show (Value.int IntKind.i64 0).cells.size = 1 from rfl]
      omega
    · exact (show Below w.heap.size w w.drew from below_dn _ w 1).alloc (Nat.le_refl _) _
set_option maxRecDepth 100000 in
set_option maxHeartbeats 2000000 in
theorem concat_any (g : Nat) (a b : Value) (xs ys : List Int) (w : World) (hg : Whole w g 32 [a, b]) (ha : Ints w a xs) (hb : Ints w b ys) (hx : xs.length ≤ 70000) (hy : ys.length ≤ 70000) :
    Calls Try.prog 20 #[.slice (some ⟨g, 0, none⟩) 2 2] w fun e W' => ∃ v, e = .returned v ∧ OwnN w.heap.size W' v (xs ++ ys) ∧ Below w.heap.size w W' := by
  obtain ⟨qa, ca, rfl, za, na⟩ := ints_src ha
  obtain ⟨qb, cb, rfl, zb, nb⟩ := ints_src hb
  obtain ⟨lx, hlx⟩ : ∃ lx, xs.length = lx := ⟨_, rfl⟩
  obtain ⟨ly, hly⟩ : ∃ ly, ys.length = ly := ⟨_, rfl⟩
  rw [hlx] at hx hg ha za
  rw [hly] at hy hg hb zb
  have HLX := Lib.hid hlx
  have HLY := Lib.hid hly
  have NA := Lib.hid na
  have NB := Lib.hid nb
  have HGW := Lib.hid hg
  have lg := hg.lt
  have cg0 : w.cell? ⟨g, 0, none⟩ = some (.slice qa lx ca) := hg.cellAt 0
  have cg1 : w.cell? ⟨g, 1, none⟩ = some (.slice qb ly cb) := hg.cellAt 1
  have hlc : ∀ (ad : Addr) (u : Value), w.cell? ad = some u → ad.block < w.heap.size := fun ad u h => cell_lt h
  have HGR := Lib.hid (fun X => grow_any (lx + ly) (by omega) X)
  have n1 : ¬ (lx : Int) < 0 := by omega
  have n2 : ¬ ((lx : Int) + (ly : Int)) < 0 := by omega
  have d1 : decide ((lx : Int) < 0) = false := by simp
  have d2 : decide ((lx : Int) + (ly : Int) < 0) = false := by simp; omega
  obtain ⟨i0, hi0, hz0', hz1', hz2'⟩ := info_parts Try.infoInt
  have HZ1 := Lib.hid hz0'
  have HZ2 := Lib.hid hz1'
  have HZ3 := Lib.hid hz2'
  clear ha hb na nb hlx hly hg hz0' hz1' hz2'
  go_enter Try.func20, Try.ntmps20
  go_wp2
  go_loopw [3, 5, 11] (fun s3 _ s11 X => w = X ∧ ((s11 = .int .i64 0 ∧ s3 = .int .i64 0) ∨ (s11 = .int .i64 1 ∧ s3 = .int .i64 lx) ∨ (s11 = .int .i64 2 ∧ s3 = .int .i64 ((lx : Int) + (ly : Int))))) (fun _ _ s11 _ => 2 - (intOf s11).toNat)
  case atStart => exact ⟨rfl, .inl ⟨rfl, rfl⟩⟩
  case round =>
    obtain ⟨rfl, ⟨rfl, rfl⟩ | ⟨rfl, rfl⟩ | ⟨rfl, rfl⟩⟩ := hrel
    · go_wp2
      go_roundw
      case rel => exact ⟨by trivial, .inr (.inl ⟨by go_num, by go_num⟩)⟩
      case measure => simp [intOf]
    · go_wp2
      go_roundw
      case rel => exact ⟨by trivial, .inr (.inr ⟨by go_num, by go_num⟩)⟩
      case measure => simp [intOf]
    · go_wp2_with (go_at_call 36; refine (HGR.out _).mono ?_; clear HGR; rintro e w1 ⟨v0, rfl, ho, hb1⟩; have HO := Lib.hid ho; have HB1 := Lib.hid hb1; clear ho hb1)
      clear lg cg0 cg1
      go_loopw [6, 8, 27] (fun s6 _ s27 X => ∃ zs, ((s27 = .int .i64 0 ∧ zs = []) ∨ (s27 = .int .i64 1 ∧ zs = xs) ∨ (s27 = .int .i64 2 ∧ zs = xs ++ ys)) ∧ Hid (OwnN w.heap.size X s6 zs) ∧ Hid (Below w.heap.size w X)) (fun _ _ s27 _ => 2 - (intOf s27).toNat)
      case atStart => exact ⟨[], .inl ⟨rfl, rfl⟩, HO, HB1⟩
      case round =>
        obtain ⟨zs, hcase, HOX, HBX⟩ := hrel
        have cg0 : wr.cell? ⟨g, 0, none⟩ = some (.slice qa lx ca) := (HBX.out.cell (p := ⟨g, 0, none⟩) HGW.out.lt).trans (HGW.out.cellAt 0)
        have cg1 : wr.cell? ⟨g, 1, none⟩ = some (.slice qb ly cb) := (HBX.out.cell (p := ⟨g, 1, none⟩) HGW.out.lt).trans (HGW.out.cellAt 1)
        have lg : g < wr.heap.size := by have := HGW.out.lt; have := HBX.out.size; omega
        obtain ⟨rfl, rfl⟩ | ⟨rfl, rfl⟩ | ⟨rfl, rfl⟩ := hcase
        · go_wp2_with (at_builtin; refine wpList_append_any rfl _ _ 32 rfl w.heap.size 3 i0 (.int .i64 0) 1 8 Try.underlying32 hi0 HZ1.out HZ2.out HZ3.out rfl (by decide) _ _ _ rfl HOX.out qa lx ca (xs.map (Value.int .i64)) rfl (by rw [List.length_map, HLX.out]; omega) za (fun a h j u hj => (HBX.out.cell (p := a.add j) (cell_lt (NA.out a h j u hj))).trans (NA.out a h j u hj)) (ints_one _) (by simp only [List.length_nil, maxLen]; omega) (by simp only [List.length_nil]; omega) HBX.out.size ?_; intro v2 w2 ho2 hg2 _; have HO2 := Lib.hid ho2; have HG2 := Lib.hid hg2; clear ho2 hg2)
          go_roundw
          case rel => exact ⟨xs, .inr (.inl ⟨by go_num, rfl⟩), Lib.hid (by have := HO2.out; rw [← HLX.out] at this; simpa [OwnN] using this), Lib.hid (HBX.out.grown HG2.out HBX.out.size (fun g e => (HOX.out.lt g e).1))⟩
          case measure => simp [intOf]
        · go_wp2_with (at_builtin; refine wpList_append_any rfl _ _ 32 rfl w.heap.size 3 i0 (.int .i64 0) 1 8 Try.underlying32 hi0 HZ1.out HZ2.out HZ3.out rfl (by decide) _ _ _ rfl HOX.out qb ly cb (ys.map (Value.int .i64)) rfl (by rw [List.length_map, HLY.out]; omega) zb (fun a h j u hj => (HBX.out.cell (p := a.add j) (cell_lt (NB.out a h j u hj))).trans (NB.out a h j u hj)) (ints_one _) (by rw [HLX.out]; simp only [maxLen]; omega) (by rw [HLX.out]; omega) HBX.out.size ?_; intro v2 w2 ho2 hg2 _; have HO2 := Lib.hid ho2; have HG2 := Lib.hid hg2; clear ho2 hg2)
          go_roundw
          case rel => exact ⟨zs ++ ys, .inr (.inr ⟨by go_num, rfl⟩), Lib.hid (by have := HO2.out; rw [← HLY.out] at this; simpa [OwnN] using this), Lib.hid (HBX.out.grown HG2.out HBX.out.size (fun g e => (HOX.out.lt g e).1))⟩
          case measure => simp [intOf]
        · go_wp2
          go_ret
          exact ⟨_, rfl, HOX.out, HBX.out⟩
theorem kind_few {ns : List Nd} (hO : PageOk ns) (k p : Int) : (kindK ns k p).length ≤ 70000 := by
  unfold kindK
  refine Nat.le_trans (List.length_filter_le _ _) ?_
  unfold kfOf
  cases hq : ns[p.toNat]? with
  | none => simp
  | some n => exact hO.few n (List.mem_iff_getElem?.2 ⟨_, hq⟩)
theorem contains_any (v : Value) (zs : List Int) (x : Int) (w : World) (h : Ints w v zs) : Calls Try.prog 23 #[v, .int .i64 x] w fun e w' => e = .returned (.bool (zs.contains x)) ∧ w' = w := by
  obtain ⟨h1, ⟨a, cap, rfl, rfl⟩ | ⟨b, off, cap, rfl, hc⟩⟩ := h
  · exact Try.slices_Contains_int_empty a cap x w
  · have := Try.slices_Contains_int b off zs.length cap zs x w (Nat.le_refl _) h1 (fun j hj => by rw [hc j hj, List.getD_eq_getElem?_getD])
    rwa [List.take_of_length_le (Nat.le_refl _)] at this
end Go.Proofs.Ytgaclepoipaecaa

namespace Go.Proofs.Ytgaclepoipaecaa
open Go.RowKit Go.Shelf Go.Maps
set_option linter.unusedVariables false
attribute [local go_sem] Oper.semAt_some

/-- the rows of one kid -/
def oneR (ns : List Nd) (mv : List Int) (z : Int) : List (Int × Int) :=
  if kdOf ns z.toNat = 9 then [(z, -1)]
  else if kdOf ns z.toNat = 6 ∨ kdOf ns z.toNat = 8 then (if mv.contains z = true then [] else fndP ns 9 [z])
  else if kdOf ns z.toNat = 7 then fndP ns 9 [z] else []
def firstK (ns : List Nd) (k p : Int) : List Int := (kindK ns k p).take 1
theorem first_few (ns : List Nd) (k p : Int) : (firstK ns k p).length ≤ 70000 := by unfold firstK; rw [List.length_take]; omega
theorem first_in {ns : List Nd} {m : Nat} (hm : ns.length = m) (hO : PageOk ns) (k p : Int) : ∀ z ∈ firstK ns k p, 0 ≤ z ∧ z < (m : Int) := fun z hz => by
  have h1 : z ∈ kfOf ns p := (List.mem_filter.1 (List.mem_of_mem_take hz)).1
  unfold kfOf at h1
  cases hq : ns[p.toNat]? with
  | none => rw [hq] at h1; cases h1
  | some n => rw [hq] at h1; rw [← hm]; exact hO.link n (List.mem_iff_getElem?.2 ⟨_, hq⟩) z h1
def rowsP (ns : List Nd) (p : Int) : List (Int × Int) :=
  fndP ns 9 (firstK ns 6 p) ++ (kfOf ns p).flatMap (oneR ns (firstK ns 6 p ++ firstK ns 8 p)) ++ fndP ns 9 (firstK ns 8 p)
theorem fnd_one_few {ns : List Nd} (hO : PageOk ns) (z : Int) : (fndP ns 9 [z]).length ≤ 70000 := by
  have := fnd_len ns 9 hO.few [z] 1 (by simp)
  omega
theorem fnd_first_few {ns : List Nd} (hO : PageOk ns) (k p : Int) : (fndP ns 9 (firstK ns k p)).length ≤ 70000 := by
  have := fnd_len ns 9 hO.few (firstK ns k p) 1 (by unfold firstK; rw [List.length_take]; omega)
  omega
theorem one_few {ns : List Nd} (hO : PageOk ns) (mv : List Int) : ∀ (zs : List Int) (l : Nat), zs.length ≤ l → (zs.flatMap (oneR ns mv)).length ≤ 70000 * l
  | [], l, _ => by simp
  | z :: zs, 0, h => by simp at h
  | z :: zs, l + 1, h => by
    have ih := one_few hO mv zs l (by simpa using h)
    rw [List.flatMap_cons, List.length_append]
    have h1 : (oneR ns mv z).length ≤ 70000 := by
      have h2 := fnd_one_few hO z
      unfold oneR
      split
      · simp
      · split
        · split
          · simp
          · exact h2
        · split
          · exact h2
          · simp
    omega
theorem wpListIn_append_run {F : Fence} {nF : Nat} {P : Program} {w X : World} {ops : Array Oper} {rest : List Oper} {o : Oper} {a : Act} {Q : Exit → Act → World → Prop} (hgd : o.guard = none) (s x : Operand) (t : TypeId)
    (ho : o.op = .call { callee := .builtin .append, args := #[s, x], argTypes := #[t, t] }) (v v2 r : Value) (hs : a.eval s = v) (hx : a.eval x = v2) (hr : (Builtin.append_ #[t, t] o.type #[v, v2]).run P w = .ok r X)
    (h : wpListIn F nF P ops Q rest (a.put o.dst r) X) : wpListIn F nF P ops Q (o :: rest) a w := by
  refine wpListIn_plain hgd fun K hK => ?_
  unfold Oper.wpIn
  refine ⟨by simp [Oper.about, ho, resolve, Target.leads, Sem.run_pure], ?_⟩
  rw [Oper.semAt_plain F _ _ (by rw [ho]; intro c hc'; cases hc')]
  simp [execOp, ho, resolve, invoke, builtin, hs, hx, hr, Result.andThen]
  exact hK _ _ h
/-- numbers that lie below a block -/
def IntsB (base : Nat) (X : World) (v : Value) (zs : List Int) : Prop := Ints X v zs ∧ (zs = [] ∨ ∃ b off c, v = .slice (some ⟨b, off, none⟩) zs.length c ∧ b < base)
theorem Ints.low {X : World} {v : Value} {zs : List Int} (h : Ints X v zs) : IntsB X.heap.size X v zs := by
  refine ⟨h, ?_⟩
  obtain ⟨h1, ⟨a, cap, rfl, rfl⟩ | ⟨b, off, cap, rfl, hc⟩⟩ := h
  · exact .inl rfl
  · by_cases hz : zs = []
    · exact .inl hz
    · exact .inr ⟨b, off, cap, rfl, cell_lt (hc 0 (List.length_pos_iff.2 hz))⟩
theorem IntsB.moved {base : Nat} {X Y : World} {v : Value} {zs : List Int} (h : IntsB base X v zs) (hc : ∀ (a : Addr) (u : Value), X.cell? a = some u → a.block < base → Y.cell? a = some u) : IntsB base Y v zs := by
  obtain ⟨⟨h1, h2⟩, h3⟩ := h
  refine ⟨⟨h1, ?_⟩, h3⟩
  rcases h3 with rfl | ⟨b, off, c, rfl, hb⟩
  · rcases h2 with h2 | ⟨b, off, c, e, _⟩
    · exact .inl h2
    · exact .inl ⟨_, _, e, rfl⟩
  · refine .inr ?_
    rcases h2 with ⟨a, c', e, rfl⟩ | ⟨b', off', c', e, hcc⟩
    · exact ⟨b, off, c, rfl, fun j hj => by simp at hj⟩
    · injection e with e1 e2 e3
      injection e1 with e1; injection e1 with e1 e4
      subst e1 e4
      exact ⟨_, _, c, rfl, fun j hj => hc _ _ (hcc j hj) hb⟩
theorem IntsB.grownN {base : Nat} {X Y : World} {row : Option Nat} {v : Value} {zs : List Int} (h : IntsB base X v zs) (hg : X.grownBy Y row) (hr : NoCells X row) : IntsB base Y v zs := ⟨h.1.grownN hg hr, h.2⟩
theorem encL_one (E : List (Int × Int)) : ∀ u ∈ E.flatMap encL, u.oneCell' = true := fun u hu => by
  obtain ⟨x, _, hx⟩ := List.mem_flatMap.1 hu
  simp [encL] at hx
  rcases hx with rfl | rfl <;> rfl
theorem encL_len (E : List (Int × Int)) : (E.flatMap encL).length = E.length * 2 := by
  induction E with
  | nil => rfl
  | cons x E ih => rw [List.flatMap_cons, List.length_append, ih]; simp [encL]; omega
theorem own_src {X : World} {base : Nat} {v : Value} {E : List (Int × Int)} (h : OwnL base X v E) : ∃ q c, v = .slice q E.length c ∧ (q = none → E.length = 0) ∧ ∀ a, q = some a → ∀ j u, (E.flatMap encL)[j]? = some u → X.cell? (a.add j) = some u := by
  have h' := h
  obtain ⟨hl, ⟨rfl, hn⟩ | ⟨g, cap, cur, rfl, hb, hg, hnc, hcm, hcs, htk⟩⟩ := h
  · exact ⟨none, 0, by rw [hn], fun _ => hn, fun a e => (by cases e)⟩
  · exact ⟨some ⟨g, 0, none⟩, cap, rfl, fun e => (by cases e), fun a e j u hj => by injection e with e; subst e; exact h'.cells (g := g) rfl j u hj⟩
/-- the memory of a range that grows a list of lanes in a box -/
structure RowW (NL NM NR base : Nat) (lv mv fv : Value) (moved foot : List Int) (R : World → Prop) (w : World) (v : Value) (E : List (Int × Int)) (X : World) : Prop where
  lb : Whole X NR 25 [v]
  own : OwnL base X v E
  cl : X.cell? ⟨NL, 0, none⟩ = some lv
  cm : X.cell? ⟨NM, 0, none⟩ = some mv
  im : IntsB base X mv moved
  ift : IntsB base X fv foot
  run : R X
  low : Below w.heap.size w X
  av : ∀ g, v.ownBlock = some g → g < NR ∨ NR + 3 ≤ g
  sz : NR + 3 ≤ X.heap.size
theorem RowW.grownN {NL NM NR base B : Nat} {lv mv fv : Value} {moved foot : List Int} {R : World → Prop} {w : World} {v : Value} {E : List (Int × Int)} {X Y : World} {row : Option Nat} (h : RowW NL NM NR base lv mv fv moved foot R w v E X) (hg : X.grownBy Y row) (hr : ∀ r, row = some r → B ≤ r ∧ ∃ o : Obj, X.heap[r]? = some o ∧ o.isCells = false) (hB : w.heap.size ≤ B) (hR : R Y) : RowW NL NM NR base lv mv fv moved foot R w v E Y := by
  have hnc : NoCells X row := fun r e => (hr r e).2
  exact ⟨h.lb.grown hg (h.lb.ne hnc), own_grown h.own hg hnc, cell_grown hg hnc h.cl, cell_grown hg hnc h.cm, h.im.grownN hg hnc, h.ift.grownN hg hnc, hR, (ownFrom_below (β := Unit) (Nat.le_refl _) hB) () X Y row h.low hg hr, h.av, by have := h.sz; have := hg.size; omega⟩
/-- more rows are found: the append, and the store -/
theorem RowW.step {NL NM NR base : Nat} {lv mv fv : Value} {moved foot : List Int} {R : World → Prop} {w : World} {v : Value} {E : List (Int × Int)} {V Z : World} (h : RowW NL NM NR base lv mv fv moved foot R w v E V) (hz : Below V.heap.size V Z) (h1 : w.heap.size ≤ NL ∧ NL < base ∧ NM < base ∧ base ≤ NR)
    (E2 : List (Int × Int)) (q : Option Addr) (c : Nat) (hq : q = none → E2.length = 0) (hc : ∀ a, q = some a → ∀ j u, (E2.flatMap encL)[j]? = some u → Z.cell? (a.add j) = some u) (hE : E.length + E2.length ≤ 4000000000000)
    (hR : ∀ Y : World, V.heap.size ≤ Y.heap.size → (∀ (a : Addr) (u : Value), V.cell? a = some u → (a.block < base ∨ (NR < a.block ∧ a.block < NR + 3)) → Y.cell? a = some u) → R Y) :
    ∃ v' X2, (Builtin.append_ #[25, 25] 25 #[v, .slice q E2.length c]).run Try.prog Z = .ok v' X2 ∧ (∃ p2 k2 c2, v' = .slice p2 k2 c2) ∧ Whole X2 NR 25 [v] ∧ X2.cell? ⟨NL, 0, none⟩ = some lv ∧ (X2.setCell ⟨NR, 0, none⟩ v').cell? ⟨NL, 0, none⟩ = some lv ∧
      RowW NL NM NR base lv mv fv moved foot R w v' (E ++ E2) (X2.setCell ⟨NR, 0, none⟩ v') ∧ KeepsOthers V (X2.setCell ⟨NR, 0, none⟩ v') := by
  have hZl : Whole Z NR 25 [v] := h.lb.below hz h.lb.lt
  have hZo : Z.ownsRow base 48 2 v E.length (E.flatMap encL) := own_belowN h.own hz
  have hsz := h.sz
  have hNV : base ≤ Z.heap.size := by have := hz.size; omega
  obtain ⟨i0, hi0, hz0, hz1, hz2⟩ := info_parts Try.infoLane
  obtain ⟨v', X2, hr, ho, hg, hv⟩ := run_append_any (w := Z) base 25 25 48 i0 _ 2 16 Try.underlying25 hi0 hz0 hz1 hz2 rfl (by decide) v E.length (E.flatMap encL) hZo q E2.length c (E2.flatMap encL) (encL_len E2) hq hc (encL_one E2) (by unfold maxLen; omega) (by omega) hNV
  have hlb : Whole X2 NR 25 [v] := hZl.grown hg (whole_own hZl hZo (by decide))
  have hgs := hg.size
  have hzs := hz.size
  have hob : ∀ g, g < base ∨ (NR < g ∧ g < NR + 3) → v.ownBlock ≠ some g := fun g hg' e => by
    have := (hZo.lt g e).1
    have := h.av g e
    omega
  have hcell : ∀ (a : Addr) (u : Value), V.cell? a = some u → (a.block < base ∨ (NR < a.block ∧ a.block < NR + 3)) → X2.cell? a = some u ∧ (X2.setCell ⟨NR, 0, none⟩ v').cell? a = some u := fun a u hau hab => by
    have e1 : Z.cell? a = some u := (hz.cell (p := a) (cell_lt hau)).trans hau
    have e2 := hg.cell e1 (fun e => hob _ hab e.symm)
    exact ⟨e2, by rw [World.cell?_setCell_other _ _ _ _ (fun e => by rw [← e] at hab; dsimp only at hab; omega)]; exact e2⟩
  have ko : KeepsOthers V (X2.setCell ⟨NR, 0, none⟩ v') := (⟨hz.size, fun j o hj _ => (hz.block j (Array.getElem?_eq_some_iff.1 hj).1).trans hj⟩ : KeepsOthers V Z).trans ((own_keeps hZo hg).trans (KeepsOthers.setCell _ _ _))
  refine ⟨v', X2, hr, own_slice ho, hlb, (hcell ⟨NL, 0, none⟩ _ h.cl (.inl h1.2.1)).1, (hcell ⟨NL, 0, none⟩ _ h.cl (.inl h1.2.1)).2, ⟨hlb.set 0 v', ?_, (hcell ⟨NL, 0, none⟩ _ h.cl (.inl h1.2.1)).2, (hcell ⟨NM, 0, none⟩ _ h.cm (.inl h1.2.2.1)).2,
    h.im.moved fun a u hau hab => (hcell a u hau (.inl hab)).2, h.ift.moved fun a u hau hab => (hcell a u hau (.inl hab)).2, hR _ (by simp; omega) fun a u hau hab => (hcell a u hau hab).2, ?_, fun g hg' => ?_, by simp; omega⟩, ko⟩
  · have h2 := own_setCell (o := 0) (u := v') ho (whole_own hlb ho (by decide))
    unfold OwnL
    rw [List.length_append, List.flatMap_append]
    exact h2
  · have := (h.low.trans (hz.mono (by have := h.low.size; omega))).grown hg (by have := h.low.size; omega) (fun g e => by have := (hZo.lt g e).1; omega)
    exact this.setCell (p := ⟨NR, 0, none⟩) (show w.heap.size ≤ NR by omega) _
  · rcases hv with hv | hv
    · exact h.av g (hv ▸ hg')
    · rw [hv] at hg'; injection hg' with hg'; omega
def RI (NL NM NR base : Nat) (lv mv fv : Value) (moved foot : List Int) (R : World → Prop) (w : World) (acc : List (Int × Int)) (one : Int → List (Int × Int)) (ks : List Int) (pre : List (Int × Int)) (X : World) : Prop :=
  ∃ v, RowW NL NM NR base lv mv fv moved foot R w v (acc ++ (ks.take pre.length).flatMap one) X
set_option maxRecDepth 100000 in
set_option maxHeartbeats 2000000 in
theorem rows_bad (q : Option Addr) (m cap : Nat) (p : Int) (w : World) (c : Int) (hc : c ≠ 0) (H : Hid (∀ X, Below w.heap.size w X → Calls Try.prog 18 #[.slice q m cap, .int .i64 p] X fun e W' => e = .returned (.int .i64 c) ∧ Below X.heap.size X W')) :
    Calls Try.prog 10 #[.slice q m cap, .int .i64 p] w fun e W' => e = .returned (.tuple #[.slice none 0 0, .int .i64 c]) ∧ Below w.heap.size w W' := by
  have hc' : (c != 0) = true := by simpa using hc
  refine (callsIn_wide (n := 3)).1 (callsIn_of_wp_marks Try.func10 rfl trivial (wpIn_wide.2 ?_) rfl)
  simp only [Try.ntmps10, List.size_toArray, List.length_cons, List.length_nil, Nat.reduceAdd, Nat.reduceSub, Array.replicate_succ, Array.replicate_zero, List.push_toArray, List.append_toArray, List.nil_append, List.cons_append]
  have HB0 := Lib.hid ((Below.refl w.heap.size w).alloc (Nat.le_refl _) (.cells #[.slice q m cap] 22))
  go_wp2_with (go_at_call 18; refine (H.out _ HB0.out).mono ?_; clear H; rintro e w1 ⟨rfl, hb1⟩; have HB1 := Lib.hid (HB0.out.trans (hb1.mono HB0.out.size)); clear hb1)
  refine leaves_marks w.heap.size [] _ (Marks.nil _ _) (fun W' hck hbk => ⟨.tuple #[.slice none 0 0, .int .i64 c], by simp [results, Try.results10, go_sem], rfl, HB1.out.trans hbk⟩)
set_option maxRecDepth 100000 in
set_option maxHeartbeats 4000000 in
theorem rows_ok (b off cap m p : Nat) (ns : List Nd) (w : World) (hm : ns.length = m) (hO : PageOk ns) (hP : PageAt w (.slice (some ⟨b, off, none⟩) m cap) ns) (hp : p < m)
    (H : Hid (∀ X, Below w.heap.size w X → Calls Try.prog 18 #[.slice (some ⟨b, off, none⟩) m cap, .int .i64 p] X fun e W' => e = .returned (.int .i64 0) ∧ Below X.heap.size X W')) :
    Calls Try.prog 10 #[.slice (some ⟨b, off, none⟩) m cap, .int .i64 p] w fun e W' => ∃ v, e = .returned (.tuple #[v, .int .i64 0]) ∧ OwnL w.heap.size W' v (rowsP ns p) ∧ Below w.heap.size w W' := by
  refine (callsIn_wide (n := 3)).1 (callsIn_of_wp_marks Try.func10 rfl trivial (wpIn_wide.2 ?_) rfl)
  simp only [Try.ntmps10, List.size_toArray, List.length_cons, List.length_nil, Nat.reduceAdd, Nat.reduceSub, Array.replicate_succ, Array.replicate_zero, List.push_toArray, List.append_toArray, List.nil_append, List.cons_append]
  obtain ⟨N, hN⟩ : ∃ N, w.heap.size = N := ⟨_, rfl⟩
  have HNN := Lib.hid hN
  have HM := Lib.hid hm
  have HO := Lib.hid hO
  have HP := Lib.hid hP
  have HB0 := Lib.hid ((Below.refl w.heap.size w).alloc (Nat.le_refl _) (.cells #[.slice (some ⟨b, off, none⟩) m cap] 22))
  have HW0 := Lib.hid (whole_new w [.slice (some ⟨b, off, none⟩) m cap] 22 _ rfl)
  have hm2 : m ≤ 65536 := by rw [← hm]; exact hO.len
  have HFI := Lib.hid (fun (k : Int) (X : World) (hX : Below w.heap.size w X) => firstOf_at (.slice (some ⟨b, off, none⟩) m cap) p k X (kindK ns k p) (kind_few hO k p) (Lib.hid (foundI_one b off m cap k ns p X hm hO (hP.below hX) hp)))
  clear hm hO hP hN
  go_wp2_with (go_at_call 18; refine (H.out _ HB0.out).mono ?_; clear H; rintro e w1 ⟨rfl, hb1⟩; have HB1 := Lib.hid (HB0.out.trans (hb1.mono HB0.out.size)); have HW1 := Lib.hid (HW0.out.below hb1 HW0.out.lt); clear hb1 HB0 HW0; have c1 := HW1.out.cellAt 0; have l1 := HW1.out.lt)
  refine region_held_np (S := fun X => Hid (Below w.heap.size w X ∧ Whole X w.heap.size 22 [.slice (some ⟨b, off, none⟩) m cap])) (by kernel_rfl) (fun W6 hW6 => ?_)
  have SV : Hid (Below w.heap.size w W6 ∧ Whole W6 w.heap.size 22 [.slice (some ⟨b, off, none⟩) m cap]) := Lib.hid (by rw [← hW6]; exact ⟨HB1.out.trans (below_dn _ w1 1), HW1.out⟩)
  clear hW6 HB1 HW1 c1 l1
  have ST : ∀ X : World, Hid (Below w.heap.size w X ∧ Whole X w.heap.size 22 [.slice (some ⟨b, off, none⟩) m cap]) → X.cell? ⟨w.heap.size, 0, none⟩ = some (.slice (some ⟨b, off, none⟩) m cap) ∧ w.heap.size < X.heap.size := fun X hX => ⟨hX.out.2.cellAt 0, hX.out.2.lt⟩
  refine wpAnyH_take (i := 0) (v := .slice (some ⟨b, off, none⟩) m cap) rfl (by kernel_rfl) (by kernel_rfl) (by kernel_rfl) (fun _ _ _ h => h) (Or.inl ⟨by rfl, ?_⟩) SV ?_
  · intro X hX; obtain ⟨hX1, hX2⟩ := ST X hX; go_simp
  refine wpAnyH_take (i := 1) (v := .int .i64 p) rfl (by kernel_rfl) (by kernel_rfl) (by kernel_rfl) (fun _ _ _ h => h) (Or.inl ⟨by rfl, ?_⟩) SV ?_
  · intro X hX; go_simp
  refine wpAnyH_take (i := 3) (v := .slice (some ⟨b, off, none⟩) m cap) rfl (by kernel_rfl) (by kernel_rfl) (by kernel_rfl) (fun _ _ _ h => h) (Or.inl ⟨by rfl, ?_⟩) SV ?_
  · intro X hX; obtain ⟨hX1, hX2⟩ := ST X hX; go_simp
  refine wpAnyH_take (i := 4) (v := .int .i64 p) rfl (by kernel_rfl) (by kernel_rfl) (by kernel_rfl) (fun _ _ _ h => h) (Or.inl ⟨by rfl, ?_⟩) SV ?_
  · intro X hX; go_simp
  refine wpAnyH_all (rs := [2]) (by kernel_rfl) (by simp) ?_
  intro i2 hi2; obtain rfl : i2 = 2 := by simpa using hi2
  refine wpOp_step rfl (fun K hK => ?_)
  go_simp
  refine (HFI.out 6 _ SV.out.1).mono ?_
  rintro e W7 ⟨hv, rfl, hhi, hhc, hb7⟩
  have S7 : Hid (Below w.heap.size w W7 ∧ Whole W7 w.heap.size 22 [.slice (some ⟨b, off, none⟩) m cap]) := Lib.hid ⟨SV.out.1.trans (hb7.mono SV.out.1.size), SV.out.2.below hb7 SV.out.2.lt⟩
  refine hK _ _ ⟨S7, ?_⟩
  have HHI := Lib.hid hhi
  have HHC := Lib.hid hhc
  clear hK K hi2 hb7 hhi hhc SV
  refine wpAnyH_all (rs := [5]) (by kernel_rfl) (by simp) ?_
  intro i2 hi2; obtain rfl : i2 = 5 := by simpa using hi2
  refine wpOp_step rfl (fun K hK => ?_)
  go_simp
  refine (HFI.out 8 _ S7.out.1).mono ?_
  rintro e W8 ⟨fv, rfl, hfi, hfc, hb8⟩
  have S8 : Hid (Below w.heap.size w W8 ∧ Whole W8 w.heap.size 22 [.slice (some ⟨b, off, none⟩) m cap]) := Lib.hid ⟨S7.out.1.trans (hb8.mono S7.out.1.size), S7.out.2.below hb8 S7.out.2.lt⟩
  refine hK _ _ ⟨S8, ?_⟩
  have HFV := Lib.hid hfi
  have HFC := Lib.hid hfc
  have HHV := Lib.hid (HHI.out.below hb8)
  clear hK K hi2 hb8 hfi hfc S7 HFI HHI
  refine wpAnyH_all (rs := [6]) (by kernel_rfl) (by simp) ?_
  intro i2 hi2; obtain rfl : i2 = 6 := by simpa using hi2
  refine wpOp_step rfl (fun K hK => ?_)
  go_simp
  refine hK _ _ ⟨S8, ?_⟩
  clear hK K hi2
  refine wpAnyH_all (rs := [7]) (by kernel_rfl) (by simp) ?_
  intro i2 hi2; obtain rfl : i2 = 7 := by simpa using hi2
  refine wpOp_step rfl (fun K hK => ?_)
  go_simp
  refine hK _ _ ⟨S8, ?_⟩
  clear hK K hi2 ST
  refine wpAnyH_done (by kernel_rfl) ?_ _
  simp only [noPan]
  -- moved
  have b9 : Below W8.heap.size W8 (W8.alloc (.cells #[hv, fv] 32)) := (Below.refl _ W8).alloc (Nat.le_refl _) _
  have HCN := Lib.hid (concat_any W8.heap.size hv fv (firstK ns 6 p) (firstK ns 8 p) (W8.alloc (.cells #[hv, fv] 32)) (whole_new W8 [hv, fv] 32 _ rfl) (HHV.out.below b9) (HFV.out.below b9) (first_few ns 6 p) (first_few ns 8 p))
  have HB9 := Lib.hid b9
  clear b9
  obtain ⟨hq, hl, hcp, rfl⟩ : ∃ q l c, hv = .slice q l c := by obtain ⟨q, l, c, e, _⟩ := HHC.out; exact ⟨q, l, c, e⟩
  obtain ⟨fq, fl, fcp, rfl⟩ : ∃ q l c, fv = .slice q l c := by obtain ⟨q, l, c, e, _⟩ := HFC.out; exact ⟨q, l, c, e⟩
  obtain ⟨X9, hX9⟩ : ∃ X9, W8.alloc (.cells #[.slice hq hl hcp, .slice fq fl fcp] 32) = X9 := ⟨_, rfl⟩
  rw [hX9] at HCN HB9
  have HS8 := Lib.hid S8.out
  have LE8 := S8.out.1.size
  clear S8
  have HRW := Lib.hid (fun (gv : Value) (ps : List Int) (X : World) (hX : Below w.heap.size w X) (hi : Ints X gv ps) (hl : ps.length ≤ 10000000) (hr : ∀ z ∈ ps, 0 ≤ z ∧ z < (m : Int)) => rowsOf_any b off m cap ns gv ps X HM.out HO.out (HP.out.below hX) hi hl hr)
  have HKF := Lib.hid (fun Y => kidsF_any (some ⟨b, off, none⟩) m cap (p : Int) Y)
  go_wp2_with fail
  refine HCN.out.mono ?_
  clear HCN
  rintro e W10 ⟨mv, rfl, hmo, hb10⟩
  obtain ⟨mq, ml, mc, rfl⟩ := own_slice hmo
  have B10 := Lib.hid (HB9.out.trans (hb10.mono HB9.out.size))
  have HMI := Lib.hid (ints_own hmo).1
  clear hb10 hmo HB9 hX9
  have L10 := HS8.out.2.below B10.out HS8.out.2.lt
  have c10 := L10.cellAt 0
  have l10 := L10.lt
  have HL10 := Lib.hid L10
  clear L10
  obtain ⟨X11, hX11⟩ : ∃ X11, W10.alloc (.cells #[.slice mq ml mc] 32) = X11 := ⟨_, rfl⟩
  have b11 : Below W10.heap.size W10 X11 := by rw [← hX11]; exact (Below.refl _ W10).alloc (Nat.le_refl _) _
  have BW11 := Lib.hid ((HS8.out.1.trans (B10.out.mono LE8)).trans (b11.mono (Nat.le_of_lt l10)))
  have B811 := Lib.hid (B10.out.trans (b11.mono B10.out.size))
  have HM11 := Lib.hid (show Whole X11 W10.heap.size 32 [.slice mq ml mc] by rw [← hX11]; exact whole_new W10 [.slice mq ml mc] 32 _ rfl)
  have HMI11 := Lib.hid (HMI.out.below b11)
  have HL11 := Lib.hid (HL10.out.below b11 HL10.out.lt)
  have HCR := Lib.hid (HRW.out (.slice hq hl hcp) (firstK ns 6 p) X11 BW11.out ((HHV.out.below B811.out)) (by have := first_few ns 6 p; omega) (first_in HM.out HO.out 6 p))
  have c11 := HL11.out.cellAt 0
  have l11 := HL11.out.lt
  clear b11 HMI c10 l10
  go_wp2_with fail
  try rw [hX11]
  refine HCR.out.mono ?_
  clear HCR
  rintro e W12 ⟨v0, rfl, ho12, hb12⟩
  obtain ⟨vp, vk, vc, rfl⟩ := own_slice ho12
  have B12 := Lib.hid hb12
  have HO12 := Lib.hid ho12
  clear hX11 hb12 ho12 c11 l11
  have c12 := (HL11.out.below B12.out HL11.out.lt).cellAt 0
  have l12 := (HL11.out.below B12.out HL11.out.lt).lt
  go_wp2_with (go_at_call 22; refine (HKF.out _).mono ?_; rintro e w' ⟨rfl, rfl⟩)
  obtain ⟨n, hn⟩ : ∃ n, ns[p]? = some n := ⟨_, List.getElem?_eq_getElem (by rw [HM.out]; exact hp)⟩
  have hmem : n ∈ ns := List.mem_iff_getElem?.2 ⟨p, hn⟩
  have hkf : kfOf ns (p : Int) = n.ks := by unfold kfOf; rw [Int.toNat_natCast, hn]; rfl
  obtain ⟨NM, hNM⟩ : ∃ NM, W10.heap.size = NM := ⟨_, rfl⟩
  obtain ⟨NR, hNR⟩ : ∃ NR, W12.heap.size = NR := ⟨_, rfl⟩
  obtain ⟨base, hbase⟩ : ∃ base, X11.heap.size = base := ⟨_, rfl⟩
  obtain ⟨W13, hW13⟩ : ∃ W13, W12.alloc (.cells #[.slice vp vk vc] 25) = W13 := ⟨_, rfl⟩
  obtain ⟨W3, hW3⟩ : ∃ W3, (W13.alloc (.cells #[.slice (some ⟨b, off, none⟩) m cap] 22)).alloc (.cells #[.int .i64 (p : Int)] 3) = W3 := ⟨_, rfl⟩
  have s13 : W13.heap.size = NR + 1 := by rw [← hW13]; simp [hNR]
  have s3 : W3.heap.size = NR + 3 := by rw [← hW3]; simp [s13]
  have hbR : base ≤ NR := by rw [← hbase, ← hNR]; exact B12.out.size
  have hwN : w.heap.size < NM := by rw [← hNM]; exact HL10.out.lt
  have hNb : NM < base := by rw [← hNM, ← hbase]; exact HM11.out.lt
  have b13 : Below NR W12 W13 := by rw [← hW13]; exact (Below.refl NR W12).alloc (by omega) _
  have b33 : Below NR W13 W3 := by rw [← hW3]; exact ((Below.refl NR W13).alloc (by omega) _).alloc (by simp; omega) _
  have b123 : Below NR W12 W3 := b13.trans b33
  have bx3 : Below base X11 W3 := (by have := B12.out; rw [hbase] at this; exact this.trans (b123.mono hbR))
  have bw3' : Below w.heap.size w W3 := BW11.out.trans (bx3.mono (by omega))
  have y0 : Whole W3 (NR + 1) 22 [.slice (some ⟨b, off, none⟩) m cap] := by rw [← hW3]; exact (whole_new W13 [.slice (some ⟨b, off, none⟩) m cap] 22 _ s13.symm).alloc _
  have y1 : Whole W3 (NR + 2) 3 [.int .i64 (p : Int)] := by rw [← hW3]; exact whole_new (W13.alloc (.cells #[.slice (some ⟨b, off, none⟩) m cap] 22)) [.int .i64 (p : Int)] 3 _ (by simp [s13])
  have y2 : Whole W3 NR 25 [.slice vp vk vc] := by
    rw [← hW3, ← hW13]
    exact ((whole_new W12 [.slice vp vk vc] 25 _ hNR.symm).alloc _).alloc _
  obtain ⟨b', off', e, _, hcs⟩ := page_cells HP.out (by omega)
  injection e with e; injection e with e1 e2
  subst e1 e2
  obtain ⟨cn0, cn1, hIk, hbw0⟩ := hcs p n hn
  have HLOW : Hid (b < base ∧ (n.ks = [] ∨ ∀ qb qo c, n.kv = .slice (some ⟨qb, qo, none⟩) n.ks.length c → qb < base)) := Lib.hid (by
    refine ⟨by omega, ?_⟩
    by_cases hz : n.ks = []
    · exact .inl hz
    · refine .inr fun qb qo c e => ?_
      obtain ⟨_, ⟨a, cap', e', hz'⟩ | ⟨b', o', cap', e', hc⟩⟩ := hIk
      · exact absurd hz' hz
      · rw [e] at e'
        injection e' with e1; injection e1 with e1; injection e1 with e1 e4
        have : b' < w.heap.size := cell_lt (hc 0 (List.length_pos_iff.2 hz))
        omega)
  have hRun : KidM (NR + 3) (NR + 1) (NR + 2) b off m cap p n.kv n.ks (kdOf ns) W3 := by
    refine ⟨by omega, by omega, y0.cellAt 0, y1.cellAt 0, (bw3'.cell (p := ⟨b, off + p * 34 + 1, none⟩) hbw0).trans cn1, hIk.below bw3', ?_, fun j hj => ?_⟩
    · obtain ⟨_, ⟨a, cap', e, hz⟩ | ⟨b', o', cap', e, hc⟩⟩ := hIk
      · exact .inl hz
      · by_cases hz : n.ks = []
        · exact .inl hz
        · refine .inr ⟨b', o', cap', e, ?_⟩
          have : b' < w.heap.size := cell_lt (hc 0 (List.length_pos_iff.2 hz))
          omega
    · have hj' := List.getElem?_eq_getElem (show j < ns.length by rw [HM.out]; exact hj)
      have := (hcs j _ hj').1
      unfold kdOf
      rw [hj']
      exact (bw3'.cell (p := ⟨b, off + j * 34, none⟩) hbw0).trans this
  have hlinkn : ∀ z ∈ n.ks, 0 ≤ z ∧ z < (m : Int) := fun z hz => by rw [← HM.out]; exact HO.out.link n hmem z hz
  have hcapn : CapOk n.kv := (HP.out.2.1 n hmem).2.2.1
  have hkfew := HO.out.few n hmem
  have HRI : Hid (RI w.heap.size NM NR base (.slice (some ⟨b, off, none⟩) m cap) (.slice mq ml mc) (.slice fq fl fcp) (firstK ns 6 p ++ firstK ns 8 p) (firstK ns 8 p) (KidM (NR + 3) (NR + 1) (NR + 2) b off m cap p n.kv n.ks (kdOf ns)) w (fndP ns 9 (firstK ns 6 p)) (oneR ns (firstK ns 6 p ++ firstK ns 8 p)) n.ks [] W3) := Lib.hid (by
    refine ⟨.slice vp vk vc, y2, ?_, ?_, ?_, ?_, ?_, hRun, bw3', fun g e => .inl ?_, by omega⟩
    · simp only [List.length_nil, List.take_zero, List.flatMap_nil, List.append_nil]
      have := HO12.out
      rw [hbase] at this
      exact own_belowN this (by rw [hNR]; exact b123)
    · exact (bx3.cell (p := ⟨w.heap.size, 0, none⟩) (show w.heap.size < base by omega)).trans (HL11.out.cellAt 0)
    · rw [← hNM]; exact (bx3.cell (p := ⟨W10.heap.size, 0, none⟩) (show W10.heap.size < base by omega)).trans (HM11.out.cellAt 0)
    · have := HMI11.out.low
      rw [hbase] at this
      exact this.moved fun a u hau hab => (bx3.cell (p := a) hab).trans hau
    · have := (HFV.out.below B811.out).low
      rw [hbase] at this
      exact this.moved fun a u hau hab => (bx3.cell (p := a) hab).trans hau
    · have := (HO12.out.lt g e).2
      omega)
  have HN := Lib.hid hn
  have HKFF := Lib.hid hkf
  rw [hNR, hNM, hW13, hW3]
  clear hW13 hW3 hNM hNR hbase s13 b13 b33 b123 bx3 bw3' y0 y1 y2 cn0 cn1 hIk hbw0 hcs HO12 HL11 HM11 HMI11 HFV HHV B811 BW11 B12 B10 HS8 HL10 c12 l12 HKF hn hkf hmem HHC HFC LE8
  refine (wpIn_wide (n := 3)).1 (range_next (F := Fence.wide) rfl (by omega) (gf := 37) (lb := #[.pointer (some ⟨NR + 1, 0, none⟩), .pointer (some ⟨NR + 1 + 1, 0, none⟩)]) rfl trivial (enters_of Try.func37 (by kernel_rfl) rfl)
    (Kp := KeepR (KidM (NR + 3) (NR + 1) (NR + 2) b off m cap p n.kv n.ks (kdOf ns))) (fun _ _ _ h k => h.trans k) (fun W l o h1 h2 => ⟨by simp, fun hr => hr.below (below_put W o (by omega) h2)⟩)
    (lkids_next _ (by omega) (NR + 3) (NR + 1) (NR + 2) b off m cap p n.kv n.ks (kdOf ns) hcapn (by omega) hp hlinkn W3 hRun s3.symm) (fun x => rfl)
    (RI w.heap.size NM NR base (.slice (some ⟨b, off, none⟩) m cap) (.slice mq ml mc) (.slice fq fl fcp) (firstK ns 6 p ++ firstK ns 8 p) (firstK ns 8 p) (KidM (NR + 3) (NR + 1) (NR + 2) b off m cap p n.kv n.ks (kdOf ns)) w (fndP ns 9 (firstK ns 6 p)) (oneR ns (firstK ns 6 p ++ firstK ns 8 p)) n.ks) (fun _ _ _ => False) ?own (fun _ _ _ _ _ hs _ _ => hs)
    HRI.out ?round ?done ?stop)
  case own =>
    rintro pre X1 Y1 row ⟨v1, g⟩ hg hr
    exact ⟨v1, g.grownN hg (B := W3.heap.size) hr (by omega) (g.run.grownN hg fun r e => (hr r e).2)⟩
  case stop =>
    rintro D c pre V hD _ hF hmk
    exact hF.elim
  case round =>
    rintro l pre ⟨z, kz⟩ V hlq hI ⟨hz1, hz2⟩
    dsimp only at hz1 hz2
    subst hz2
    have hzr := hlinkn z (List.mem_iff_getElem?.2 ⟨pre.length, hz1⟩)
    obtain ⟨zn, rfl⟩ : ∃ zn : Nat, z = (zn : Int) := ⟨z.toNat, by omega⟩
    rw [Int.toNat_natCast]
    have htl : pre.length < n.ks.length := (List.getElem?_eq_some_iff.1 hz1).1
    refine ⟨{ tmps := #[.slice (some ⟨b, off, none⟩) m cap, .int .i64 p, .pointer (some ⟨w.heap.size, 0, none⟩), undef, .slice none 0 0, .int .i64 0, .int .i64 0, .slice hq hl hcp, .slice fq fl fcp, .pointer (some ⟨NM, 0, none⟩), .pointer (some ⟨NR, 0, none⟩), .int .i64 zn, .int .i64 (kdOf ns zn), .slice (some ⟨b, off, none⟩) m cap, .int .i64 p, .int .i64 0, .int .i64 0, .bool false, undef, .slice (some ⟨b, off, none⟩) m cap, .int .i64 p, .slice hq hl hcp, .slice (some ⟨b, off, none⟩) m cap, .int .i64 p, .slice fq fl fcp, .slice hq hl hcp, .slice fq fl fcp, .slice (some ⟨W8.heap.size, 0, none⟩) 2 2, .slice mq ml mc, .slice (some ⟨b, off, none⟩) m cap, .slice hq hl hcp, .slice vp vk vc, .slice (some ⟨b, off, none⟩) m cap, .int .i64 p, .func (.func 37) #[] #[.pointer (some ⟨NR + 1, 0, none⟩), .pointer (some ⟨NR + 1 + 1, 0, none⟩)], .int .i64 zn, .int .i64 (kdOf ns zn), undef, undef, undef, undef, undef, undef, undef, undef, undef, undef, undef, undef, undef, undef, undef, undef, undef, undef, undef, undef, undef, undef, undef, undef, undef, undef, undef], defers := [] }, V, ?_, KeepsFrom.refl _ _, ⟨Nat.le_refl _, id⟩, ?_⟩
    · intro K hK
      dsimp only [encK]
      gi_wp2
      exact hK
    · intro V₂ hgV hnc' hbl
      obtain ⟨v1, g⟩ := hI
      have q := g.grownN hgV (B := W3.heap.size) (fun r' e => by injection e with e; exact ⟨by omega, hnc' r' (by rw [e])⟩) (by omega) (g.run.grownN hgV hnc')
      have cN := q.lb.cellAt 0
      have lN := q.lb.lt
      have cM := q.cm
      have lM : NM < V₂.heap.size := by have := q.sz; omega
      have cL := q.cl
      have lL : w.heap.size < V₂.heap.size := by omega
      have HCT := Lib.hid ((contains_any (.slice mq ml mc) _ (zn : Int) V₂ q.im.1).mono (fun e w' h => (⟨h.1, h.2.symm⟩ : e = .returned (.bool ((firstK ns 6 p ++ firstK ns 8 p).contains (zn : Int))) ∧ V₂ = w')))
      have Q := Lib.hid q
      have htk : n.ks.take (pre.length + 1) = n.ks.take pre.length ++ [(zn : Int)] := by rw [List.take_add_one, hz1]; rfl
      have HTK := Lib.hid htk
      have HE : Hid (((fndP ns 9 (firstK ns 6 p)) ++ (n.ks.take pre.length).flatMap (oneR ns (firstK ns 6 p ++ firstK ns 8 p))).length ≤ 70000 + 70000 * 70000) := Lib.hid (by
        rw [List.length_append]
        have h1 : (fndP ns 9 (firstK ns 6 p)).length ≤ 70000 := fnd_first_few HO.out 6 (p : Int)
        have h2 := one_few HO.out (firstK ns 6 p ++ firstK ns 8 p) (n.ks.take pre.length) 70000 (by rw [List.length_take]; omega)
        omega)
      clear g q hgV hnc' hbl HRI hz1 htk hRun
      have hskip : oneR ns (firstK ns 6 p ++ firstK ns 8 p) (zn : Int) = [] → RI w.heap.size NM NR base (.slice (some ⟨b, off, none⟩) m cap) (.slice mq ml mc) (.slice fq fl fcp) (firstK ns 6 p ++ firstK ns 8 p) (firstK ns 8 p) (KidM (NR + 3) (NR + 1) (NR + 2) b off m cap p n.kv n.ks (kdOf ns)) w (fndP ns 9 (firstK ns 6 p)) (oneR ns (firstK ns 6 p ++ firstK ns 8 p)) n.ks (pre ++ [((zn : Int), kdOf ns zn)]) V₂ := fun h => ⟨v1, by
        rw [List.length_append, List.length_singleton, HTK.out, List.flatMap_append]
        have e1 : [(zn : Int)].flatMap (oneR ns (firstK ns 6 p ++ firstK ns 8 p)) = [] := by rw [List.flatMap_cons, List.flatMap_nil, List.append_nil]; exact h
        rw [e1, List.append_nil]
        exact Q.out⟩
      have HSK := Lib.hid hskip
      clear hskip
      by_cases k9 : kdOf ns zn = 9
      · have d9 : (kdOf ns zn == 9) = true := by simpa using k9
        have HONE : Hid (oneR ns (firstK ns 6 p ++ firstK ns 8 p) (zn : Int) = [((zn : Int), -1)]) := Lib.hid (by unfold oneR; rw [Int.toNat_natCast, if_pos k9])
        have hz : Below V₂.heap.size V₂ (V₂.alloc (.cells #[.int .i64 (zn : Int), .int .i64 (-1)] 48)) := (Below.refl _ V₂).alloc (Nat.le_refl _) _
        obtain ⟨v', X2, hr7, ⟨p2, k2, c2, rfl⟩, hlb, a4, a5, a6, a7⟩ := Q.out.step hz (by omega) [((zn : Int), -1)] (some ⟨V₂.heap.size, 0, none⟩) 1 (fun e => by cases e) (fun a e j u hj => by injection e with e; subst e; exact lay_new V₂ [.int .i64 (zn : Int), .int .i64 (-1)] 48 _ rfl j u hj) (by have := HE.out; rw [List.length_singleton]; omega) (fun Y hY hc => Q.out.run.moved (N := base) (by have := Q.out.sz; omega) (by omega) (by omega) (fun a u hau hab => hc a u hau (by rcases hab with h | h | h <;> omega)) HLOW.out.1 HLOW.out.2)
        have c7 := hlb.cellAt 0
        have f7 := hlb.free 0
        have l7 := hlb.lt
        have A6 := Lib.hid a6
        have A7 := Lib.hid a7
        obtain ⟨vq, vl, vcc, rfl⟩ := own_slice Q.out.own
        clear a4 a5 a6 a7 k9 hz HCT
        gi_wp2_with (gi_at_builtin; refine wpListIn_append_run rfl _ _ 25 rfl _ _ _ rfl rfl hr7 ?_)
        refine ⟨A7.out.from _, ⟨A7.out.size, fun _ => A6.out.run⟩, .slice p2 k2 c2, ?_⟩
        rw [List.length_append, List.length_singleton, HTK.out, List.flatMap_append, ← List.append_assoc]
        have e1 : [(zn : Int)].flatMap (oneR ns (firstK ns 6 p ++ firstK ns 8 p)) = [((zn : Int), -1)] := by rw [List.flatMap_cons, List.flatMap_nil, List.append_nil]; exact HONE.out
        rw [e1]
        exact A6.out
      · have d9 : (kdOf ns zn == 9) = false := by simpa using k9
        by_cases hmv : (kdOf ns zn = 6 ∨ kdOf ns zn = 8) ∧ (firstK ns 6 p ++ firstK ns 8 p).contains (zn : Int) = true
        · have HNO : Hid (oneR ns (firstK ns 6 p ++ firstK ns 8 p) (zn : Int) = []) := Lib.hid (by unfold oneR; rw [Int.toNat_natCast, if_neg k9, if_pos hmv.1, if_pos hmv.2])
          have HI := Lib.hid (HSK.out HNO.out)
          rw [hmv.2] at HCT
          clear HSK HNO k9
          rcases hmv.1 with k6 | k8
          · have d6 : (kdOf ns zn == 6) = true := by simpa using k6
            clear hmv k6
            gi_wp2_with (refine ⟨trivial, ?_⟩; gi_at_call 23; refine (CallsIn.inRound l (callsIn_wide.2 HCT.out)).mono ?_; rintro e w' ⟨rfl, rfl⟩)
            exact ⟨KeepsFrom.refl _ _, ⟨Nat.le_refl _, id⟩, HI.out⟩
          · have d6 : (kdOf ns zn == 6) = false := by rw [k8]; rfl
            have d8 : (kdOf ns zn == 8) = true := by simpa using k8
            clear hmv k8
            gi_wp2_with (refine ⟨trivial, ?_⟩; gi_at_call 23; refine (CallsIn.inRound l (callsIn_wide.2 HCT.out)).mono ?_; rintro e w' ⟨rfl, rfl⟩)
            exact ⟨KeepsFrom.refl _ _, ⟨Nat.le_refl _, id⟩, HI.out⟩
        · by_cases hgo : kdOf ns zn = 6 ∨ kdOf ns zn = 8 ∨ kdOf ns zn = 7
          · have HONE : Hid (fndP ns 9 [(zn : Int)] = oneR ns (firstK ns 6 p ++ firstK ns 8 p) (zn : Int)) := Lib.hid (by
              unfold oneR
              rw [Int.toNat_natCast, if_neg k9]
              rcases hgo with h | h | h
              · rw [if_pos (.inl h), if_neg (fun hc => hmv ⟨.inl h, hc⟩)]
              · rw [if_pos (.inr h), if_neg (fun hc => hmv ⟨.inr h, hc⟩)]
              · rw [if_neg (show ¬ (kdOf ns zn = 6 ∨ kdOf ns zn = 8) by omega), if_pos h])
            have HONE := Lib.hid HONE.out.symm
            have hcf : kdOf ns zn = 6 ∨ kdOf ns zn = 8 → (firstK ns 6 p ++ firstK ns 8 p).contains (zn : Int) = false := fun h => by
              cases hc : (firstK ns 6 p ++ firstK ns 8 p).contains (zn : Int) with
              | false => rfl
              | true => exact absurd ⟨h, hc⟩ hmv
            clear hmv k9 HSK
            rcases hgo with k6 | k8 | k7
            · have d6 : (kdOf ns zn == 6) = true := by simpa using k6
              rw [hcf (.inl k6)] at HCT
              clear hcf k6
              gi_wp2_with (refine ⟨trivial, ?_⟩; gi_at_call 23; refine (CallsIn.inRound l (callsIn_wide.2 HCT.out)).mono ?_; rintro e w' ⟨rfl, rfl⟩; clear HCT)
              refine wpIn_round_held (S := fun X => X.cell? ⟨w.heap.size, 0, none⟩ = some (.slice (some ⟨b, off, none⟩) m cap)) (by kernel_rfl) (by kernel_rfl) (by simp only [LetsOut, Exit.inBlock]; rintro ⟨x, y, h⟩; exact h) ?_
              obtain ⟨V3, hV3⟩ : ∃ V3, V₂.drew = V3 := ⟨_, rfl⟩
              have SV : Hid (Below V₂.heap.size V₂ V3) := Lib.hid (by rw [← hV3]; exact below_dn _ V₂ 1)
              have sV3 : V3.heap.size ≤ V₂.heap.size ∧ V₂.heap.size ≤ V3.heap.size := by rw [← hV3]; exact ⟨Nat.le_refl _, Nat.le_refl _⟩
              have w1 : V3.cell? ⟨w.heap.size, 0, none⟩ = some (.slice (some ⟨b, off, none⟩) m cap) := (SV.out.cell (p := ⟨w.heap.size, 0, none⟩) lL).trans cL
              have w3 : V3.cell? ⟨NR, 0, none⟩ = some v1 := (SV.out.cell (p := ⟨NR, 0, none⟩) lN).trans cN
              rw [hV3]
              clear hV3 cN cM lM cL
              have lL3 : w.heap.size < V3.heap.size := by omega
              have lN3 : NR < V3.heap.size := by omega
              have bw3 : Below w.heap.size w V3 := Q.out.low.trans (SV.out.mono (by have := Q.out.low.size; omega))
              have HCALL := Lib.hid (HRW.out (.slice (some ⟨V3.heap.size, 0, none⟩) 1 1) [(zn : Int)] (V3.alloc (.cells #[.int .i64 (zn : Int)] 3)) (bw3.alloc (by omega) _) (Ints.whole (t := 3) (whole_new V3 [.int .i64 (zn : Int)] 3 _ rfl) rfl (by simp)) (by simp) (by intro z hz; simp at hz; omega))
              have HSB : ∀ U : World, Below V3.heap.size V3 U → Hid (U.cell? ⟨w.heap.size, 0, none⟩ = some (.slice (some ⟨b, off, none⟩) m cap) ∧ U.cell? ⟨NR, 0, none⟩ = some v1 ∧ NR < U.heap.size) := fun U hU => Lib.hid ⟨(hU.cell (p := ⟨w.heap.size, 0, none⟩) lL3).trans w1, (hU.cell (p := ⟨NR, 0, none⟩) lN3).trans w3, by have := hU.size; omega⟩
              have TL : ∀ U : World, Below V3.heap.size V3 U → ∀ (E2 : List (Int × Int)) (qq : Option Addr) (qc : Nat), (qq = none → E2.length = 0) → (∀ a, qq = some a → ∀ j u, (E2.flatMap encL)[j]? = some u → U.cell? (a.add j) = some u) → E2 = fndP ns 9 [(zn : Int)] → Hid (∃ v' X2, (Builtin.append_ #[25, 25] 25 #[v1, .slice qq E2.length qc]).run Try.prog U = .ok v' X2 ∧ (∃ p2 k2 c2, v' = .slice p2 k2 c2) ∧ Whole X2 NR 25 [v1] ∧ X2.cell? ⟨w.heap.size, 0, none⟩ = some (.slice (some ⟨b, off, none⟩) m cap) ∧ (X2.setCell ⟨NR, 0, none⟩ v').cell? ⟨w.heap.size, 0, none⟩ = some (.slice (some ⟨b, off, none⟩) m cap) ∧
                  ownPostG W3.heap.size (KeepR (KidM (NR + 3) (NR + 1) (NR + 2) b off m cap p n.kv n.ks (kdOf ns))) (RI w.heap.size NM NR base (.slice (some ⟨b, off, none⟩) m cap) (.slice mq ml mc) (.slice fq fl fcp) (firstK ns 6 p ++ firstK ns 8 p) (firstK ns 8 p) (KidM (NR + 3) (NR + 1) (NR + 2) b off m cap p n.kv n.ks (kdOf ns)) w (fndP ns 9 (firstK ns 6 p)) (oneR ns (firstK ns 6 p ++ firstK ns 8 p)) n.ks) (fun _ _ _ => False) (pre ++ [((zn : Int), kdOf ns zn)]) V₂ .normal { tmps := #[], defers := [] } (X2.setCell ⟨NR, 0, none⟩ v')) := fun U hU E2 qq qc h1 h2 h3 => by
                have hUV : Below V₂.heap.size V₂ U := SV.out.trans (hU.mono (by omega))
                have hE2 : E2.length ≤ 70000 := by rw [h3]; exact fnd_one_few HO.out (zn : Int)
                obtain ⟨v', X2, a1, a2, a3, a4, a5, a6, a7⟩ := Q.out.step hUV (by omega) E2 qq qc h1 h2 (by have := HE.out; omega) (fun Y hY hc => Q.out.run.moved (N := base) (by have := Q.out.sz; omega) (by omega) (by omega) (fun a u hau hab => hc a u hau (by rcases hab with h | h | h <;> omega)) HLOW.out.1 HLOW.out.2)
                refine Lib.hid ⟨v', X2, a1, a2, a3, a4, a5, a7.from _, ⟨a7.size, fun _ => a6.run⟩, v', ?_⟩
                rw [List.length_append, List.length_singleton, HTK.out, List.flatMap_append, ← List.append_assoc]
                have e1 : [(zn : Int)].flatMap (oneR ns (firstK ns 6 p ++ firstK ns 8 p)) = E2 := by rw [List.flatMap_cons, List.flatMap_nil, List.append_nil, h3]; exact HONE.out
                rw [e1]
                exact a6
              obtain ⟨vq, vl, vcc, rfl⟩ := own_slice Q.out.own
              clear Q HE
              refine wpAnyH_take (i := 1) (v := .slice (some ⟨b, off, none⟩) m cap) rfl (by kernel_rfl) (by kernel_rfl) (by kernel_rfl) (fun _ _ _ h => h) (Or.inl ⟨by rfl, ?_⟩) w1 ?_
              · intro X hX; go_simp
              refine wpAnyH_take (i := 2) (v := .int .i64 zn) rfl (by kernel_rfl) (by kernel_rfl) (by kernel_rfl) (fun _ _ _ h => h) (Or.inl ⟨by rfl, ?_⟩) w1 ?_
              · intro X hX; go_simp
              refine wpAnyH_all (rs := [0, 3]) (by kernel_rfl) (by simp) ?_
              intro i2 hi2
              rcases (show i2 = 0 ∨ i2 = 3 by simpa using hi2) with rfl | rfl
              · refine wpOp_step rfl (fun K hK => ?_)
                go_simp
                refine hK _ _ ⟨w1, ?_⟩
                clear hK K hi2
                refine wpAnyH_all (rs := [3]) (by kernel_rfl) (by simp) ?_
                intro i2 hi2; obtain rfl : i2 = 3 := by simpa using hi2
                refine wpOp_step rfl (fun K hK => ?_)
                go_simp
                have y1 := (HSB (V3.alloc (.cells #[.int .i64 (zn : Int)] 3)) ((Below.refl _ V3).alloc (Nat.le_refl _) _)).out
                obtain ⟨ys, y3, y4⟩ := y1
                refine hK _ _ ⟨ys, ?_⟩
                clear hK K hi2
                refine wpAnyH_all (rs := [4]) (by kernel_rfl) (by simp) ?_
                intro i2 hi2; obtain rfl : i2 = 4 := by simpa using hi2
                refine wpOp_step rfl (fun K hK => ?_)
                go_simp
                refine HCALL.out.mono ?_
                rintro e U ⟨u0, rfl, ho, bU⟩
                have BU := Lib.hid (((Below.refl V3.heap.size V3).alloc (Nat.le_refl _) (.cells #[.int .i64 (zn : Int)] 3)).trans (bU.mono (by simp)))
                obtain ⟨us, u3, u4⟩ := (HSB U BU.out).out
                refine hK _ _ ⟨us, ?_⟩
                clear hK K hi2
                obtain ⟨qq, qc, rfl, hqq, hqs⟩ := own_src ho
                obtain ⟨v', X2, hr7, ⟨p2, k2, c2, rfl⟩, hlb, f1, f2, hend⟩ := (TL U BU.out _ qq qc hqq hqs rfl).out
                have c7 := hlb.cellAt 0
                have f7 := hlb.free 0
                have l7 := hlb.lt
                refine wpAnyH_all (rs := [5]) (by kernel_rfl) (by simp) ?_
                intro i2 hi2; obtain rfl : i2 = 5 := by simpa using hi2
                refine wpOp_step rfl (fun K hK => ?_)
                refine wp_append_run _ _ _ rfl _ _ _ rfl rfl hr7 ?_
                refine hK _ _ ⟨f1, ?_⟩
                clear hK K hi2
                refine wpAnyH_all (rs := [6]) (by kernel_rfl) (by simp) ?_
                intro i2 hi2; obtain rfl : i2 = 6 := by simpa using hi2
                refine wpOp_step rfl (fun K hK => ?_)
                go_simp
                refine hK _ _ ⟨f2, ?_⟩
                clear hK K hi2
                refine wpAnyH_done (by kernel_rfl) ?_ _
                gi_wp2
                exact hend
              · refine wpOp_step rfl (fun K hK => ?_)
                go_simp
                have y1 := (HSB (V3.alloc (.cells #[.int .i64 (zn : Int)] 3)) ((Below.refl _ V3).alloc (Nat.le_refl _) _)).out
                obtain ⟨ys, y3, y4⟩ := y1
                refine hK _ _ ⟨ys, ?_⟩
                clear hK K hi2
                refine wpAnyH_all (rs := [0, 4]) (by kernel_rfl) (by simp) ?_
                intro i2 hi2
                rcases (show i2 = 0 ∨ i2 = 4 by simpa using hi2) with rfl | rfl
                · refine wpOp_step rfl (fun K hK => ?_)
                  go_simp
                  refine hK _ _ ⟨ys, ?_⟩
                  clear hK K hi2
                  refine wpAnyH_all (rs := [4]) (by kernel_rfl) (by simp) ?_
                  intro i2 hi2; obtain rfl : i2 = 4 := by simpa using hi2
                  refine wpOp_step rfl (fun K hK => ?_)
                  go_simp
                  refine HCALL.out.mono ?_
                  rintro e U ⟨u0, rfl, ho, bU⟩
                  have BU := Lib.hid (((Below.refl V3.heap.size V3).alloc (Nat.le_refl _) (.cells #[.int .i64 (zn : Int)] 3)).trans (bU.mono (by simp)))
                  obtain ⟨us, u3, u4⟩ := (HSB U BU.out).out
                  refine hK _ _ ⟨us, ?_⟩
                  clear hK K hi2
                  obtain ⟨qq, qc, rfl, hqq, hqs⟩ := own_src ho
                  obtain ⟨v', X2, hr7, ⟨p2, k2, c2, rfl⟩, hlb, f1, f2, hend⟩ := (TL U BU.out _ qq qc hqq hqs rfl).out
                  have c7 := hlb.cellAt 0
                  have f7 := hlb.free 0
                  have l7 := hlb.lt
                  refine wpAnyH_all (rs := [5]) (by kernel_rfl) (by simp) ?_
                  intro i2 hi2; obtain rfl : i2 = 5 := by simpa using hi2
                  refine wpOp_step rfl (fun K hK => ?_)
                  refine wp_append_run _ _ _ rfl _ _ _ rfl rfl hr7 ?_
                  refine hK _ _ ⟨f1, ?_⟩
                  clear hK K hi2
                  refine wpAnyH_all (rs := [6]) (by kernel_rfl) (by simp) ?_
                  intro i2 hi2; obtain rfl : i2 = 6 := by simpa using hi2
                  refine wpOp_step rfl (fun K hK => ?_)
                  go_simp
                  refine hK _ _ ⟨f2, ?_⟩
                  clear hK K hi2
                  refine wpAnyH_done (by kernel_rfl) ?_ _
                  gi_wp2
                  exact hend
                · refine wpOp_step rfl (fun K hK => ?_)
                  go_simp
                  refine HCALL.out.mono ?_
                  rintro e U ⟨u0, rfl, ho, bU⟩
                  have BU := Lib.hid (((Below.refl V3.heap.size V3).alloc (Nat.le_refl _) (.cells #[.int .i64 (zn : Int)] 3)).trans (bU.mono (by simp)))
                  obtain ⟨us, u3, u4⟩ := (HSB U BU.out).out
                  refine hK _ _ ⟨us, ?_⟩
                  clear hK K hi2
                  refine wpAnyH_all (rs := [0]) (by kernel_rfl) (by simp) ?_
                  intro i2 hi2; obtain rfl : i2 = 0 := by simpa using hi2
                  refine wpOp_step rfl (fun K hK => ?_)
                  go_simp
                  refine hK _ _ ⟨us, ?_⟩
                  clear hK K hi2
                  obtain ⟨qq, qc, rfl, hqq, hqs⟩ := own_src ho
                  obtain ⟨v', X2, hr7, ⟨p2, k2, c2, rfl⟩, hlb, f1, f2, hend⟩ := (TL U BU.out _ qq qc hqq hqs rfl).out
                  have c7 := hlb.cellAt 0
                  have f7 := hlb.free 0
                  have l7 := hlb.lt
                  refine wpAnyH_all (rs := [5]) (by kernel_rfl) (by simp) ?_
                  intro i2 hi2; obtain rfl : i2 = 5 := by simpa using hi2
                  refine wpOp_step rfl (fun K hK => ?_)
                  refine wp_append_run _ _ _ rfl _ _ _ rfl rfl hr7 ?_
                  refine hK _ _ ⟨f1, ?_⟩
                  clear hK K hi2
                  refine wpAnyH_all (rs := [6]) (by kernel_rfl) (by simp) ?_
                  intro i2 hi2; obtain rfl : i2 = 6 := by simpa using hi2
                  refine wpOp_step rfl (fun K hK => ?_)
                  go_simp
                  refine hK _ _ ⟨f2, ?_⟩
                  clear hK K hi2
                  refine wpAnyH_done (by kernel_rfl) ?_ _
                  gi_wp2
                  exact hend

            · have d6 : (kdOf ns zn == 6) = false := by rw [k8]; rfl
              have d8 : (kdOf ns zn == 8) = true := by simpa using k8
              rw [hcf (.inr k8)] at HCT
              clear hcf k8
              gi_wp2_with (refine ⟨trivial, ?_⟩; gi_at_call 23; refine (CallsIn.inRound l (callsIn_wide.2 HCT.out)).mono ?_; rintro e w' ⟨rfl, rfl⟩; clear HCT)
              refine wpIn_round_held (S := fun X => X.cell? ⟨w.heap.size, 0, none⟩ = some (.slice (some ⟨b, off, none⟩) m cap)) (by kernel_rfl) (by kernel_rfl) (by simp only [LetsOut, Exit.inBlock]; rintro ⟨x, y, h⟩; exact h) ?_
              obtain ⟨V3, hV3⟩ : ∃ V3, V₂.drew = V3 := ⟨_, rfl⟩
              have SV : Hid (Below V₂.heap.size V₂ V3) := Lib.hid (by rw [← hV3]; exact below_dn _ V₂ 1)
              have sV3 : V3.heap.size ≤ V₂.heap.size ∧ V₂.heap.size ≤ V3.heap.size := by rw [← hV3]; exact ⟨Nat.le_refl _, Nat.le_refl _⟩
              have w1 : V3.cell? ⟨w.heap.size, 0, none⟩ = some (.slice (some ⟨b, off, none⟩) m cap) := (SV.out.cell (p := ⟨w.heap.size, 0, none⟩) lL).trans cL
              have w3 : V3.cell? ⟨NR, 0, none⟩ = some v1 := (SV.out.cell (p := ⟨NR, 0, none⟩) lN).trans cN
              rw [hV3]
              clear hV3 cN cM lM cL
              have lL3 : w.heap.size < V3.heap.size := by omega
              have lN3 : NR < V3.heap.size := by omega
              have bw3 : Below w.heap.size w V3 := Q.out.low.trans (SV.out.mono (by have := Q.out.low.size; omega))
              have HCALL := Lib.hid (HRW.out (.slice (some ⟨V3.heap.size, 0, none⟩) 1 1) [(zn : Int)] (V3.alloc (.cells #[.int .i64 (zn : Int)] 3)) (bw3.alloc (by omega) _) (Ints.whole (t := 3) (whole_new V3 [.int .i64 (zn : Int)] 3 _ rfl) rfl (by simp)) (by simp) (by intro z hz; simp at hz; omega))
              have HSB : ∀ U : World, Below V3.heap.size V3 U → Hid (U.cell? ⟨w.heap.size, 0, none⟩ = some (.slice (some ⟨b, off, none⟩) m cap) ∧ U.cell? ⟨NR, 0, none⟩ = some v1 ∧ NR < U.heap.size) := fun U hU => Lib.hid ⟨(hU.cell (p := ⟨w.heap.size, 0, none⟩) lL3).trans w1, (hU.cell (p := ⟨NR, 0, none⟩) lN3).trans w3, by have := hU.size; omega⟩
              have TL : ∀ U : World, Below V3.heap.size V3 U → ∀ (E2 : List (Int × Int)) (qq : Option Addr) (qc : Nat), (qq = none → E2.length = 0) → (∀ a, qq = some a → ∀ j u, (E2.flatMap encL)[j]? = some u → U.cell? (a.add j) = some u) → E2 = fndP ns 9 [(zn : Int)] → Hid (∃ v' X2, (Builtin.append_ #[25, 25] 25 #[v1, .slice qq E2.length qc]).run Try.prog U = .ok v' X2 ∧ (∃ p2 k2 c2, v' = .slice p2 k2 c2) ∧ Whole X2 NR 25 [v1] ∧ X2.cell? ⟨w.heap.size, 0, none⟩ = some (.slice (some ⟨b, off, none⟩) m cap) ∧ (X2.setCell ⟨NR, 0, none⟩ v').cell? ⟨w.heap.size, 0, none⟩ = some (.slice (some ⟨b, off, none⟩) m cap) ∧
                  ownPostG W3.heap.size (KeepR (KidM (NR + 3) (NR + 1) (NR + 2) b off m cap p n.kv n.ks (kdOf ns))) (RI w.heap.size NM NR base (.slice (some ⟨b, off, none⟩) m cap) (.slice mq ml mc) (.slice fq fl fcp) (firstK ns 6 p ++ firstK ns 8 p) (firstK ns 8 p) (KidM (NR + 3) (NR + 1) (NR + 2) b off m cap p n.kv n.ks (kdOf ns)) w (fndP ns 9 (firstK ns 6 p)) (oneR ns (firstK ns 6 p ++ firstK ns 8 p)) n.ks) (fun _ _ _ => False) (pre ++ [((zn : Int), kdOf ns zn)]) V₂ .normal { tmps := #[], defers := [] } (X2.setCell ⟨NR, 0, none⟩ v')) := fun U hU E2 qq qc h1 h2 h3 => by
                have hUV : Below V₂.heap.size V₂ U := SV.out.trans (hU.mono (by omega))
                have hE2 : E2.length ≤ 70000 := by rw [h3]; exact fnd_one_few HO.out (zn : Int)
                obtain ⟨v', X2, a1, a2, a3, a4, a5, a6, a7⟩ := Q.out.step hUV (by omega) E2 qq qc h1 h2 (by have := HE.out; omega) (fun Y hY hc => Q.out.run.moved (N := base) (by have := Q.out.sz; omega) (by omega) (by omega) (fun a u hau hab => hc a u hau (by rcases hab with h | h | h <;> omega)) HLOW.out.1 HLOW.out.2)
                refine Lib.hid ⟨v', X2, a1, a2, a3, a4, a5, a7.from _, ⟨a7.size, fun _ => a6.run⟩, v', ?_⟩
                rw [List.length_append, List.length_singleton, HTK.out, List.flatMap_append, ← List.append_assoc]
                have e1 : [(zn : Int)].flatMap (oneR ns (firstK ns 6 p ++ firstK ns 8 p)) = E2 := by rw [List.flatMap_cons, List.flatMap_nil, List.append_nil, h3]; exact HONE.out
                rw [e1]
                exact a6
              obtain ⟨vq, vl, vcc, rfl⟩ := own_slice Q.out.own
              clear Q HE
              refine wpAnyH_take (i := 1) (v := .slice (some ⟨b, off, none⟩) m cap) rfl (by kernel_rfl) (by kernel_rfl) (by kernel_rfl) (fun _ _ _ h => h) (Or.inl ⟨by rfl, ?_⟩) w1 ?_
              · intro X hX; go_simp
              refine wpAnyH_take (i := 2) (v := .int .i64 zn) rfl (by kernel_rfl) (by kernel_rfl) (by kernel_rfl) (fun _ _ _ h => h) (Or.inl ⟨by rfl, ?_⟩) w1 ?_
              · intro X hX; go_simp
              refine wpAnyH_all (rs := [0, 3]) (by kernel_rfl) (by simp) ?_
              intro i2 hi2
              rcases (show i2 = 0 ∨ i2 = 3 by simpa using hi2) with rfl | rfl
              · refine wpOp_step rfl (fun K hK => ?_)
                go_simp
                refine hK _ _ ⟨w1, ?_⟩
                clear hK K hi2
                refine wpAnyH_all (rs := [3]) (by kernel_rfl) (by simp) ?_
                intro i2 hi2; obtain rfl : i2 = 3 := by simpa using hi2
                refine wpOp_step rfl (fun K hK => ?_)
                go_simp
                have y1 := (HSB (V3.alloc (.cells #[.int .i64 (zn : Int)] 3)) ((Below.refl _ V3).alloc (Nat.le_refl _) _)).out
                obtain ⟨ys, y3, y4⟩ := y1
                refine hK _ _ ⟨ys, ?_⟩
                clear hK K hi2
                refine wpAnyH_all (rs := [4]) (by kernel_rfl) (by simp) ?_
                intro i2 hi2; obtain rfl : i2 = 4 := by simpa using hi2
                refine wpOp_step rfl (fun K hK => ?_)
                go_simp
                refine HCALL.out.mono ?_
                rintro e U ⟨u0, rfl, ho, bU⟩
                have BU := Lib.hid (((Below.refl V3.heap.size V3).alloc (Nat.le_refl _) (.cells #[.int .i64 (zn : Int)] 3)).trans (bU.mono (by simp)))
                obtain ⟨us, u3, u4⟩ := (HSB U BU.out).out
                refine hK _ _ ⟨us, ?_⟩
                clear hK K hi2
                obtain ⟨qq, qc, rfl, hqq, hqs⟩ := own_src ho
                obtain ⟨v', X2, hr7, ⟨p2, k2, c2, rfl⟩, hlb, f1, f2, hend⟩ := (TL U BU.out _ qq qc hqq hqs rfl).out
                have c7 := hlb.cellAt 0
                have f7 := hlb.free 0
                have l7 := hlb.lt
                refine wpAnyH_all (rs := [5]) (by kernel_rfl) (by simp) ?_
                intro i2 hi2; obtain rfl : i2 = 5 := by simpa using hi2
                refine wpOp_step rfl (fun K hK => ?_)
                refine wp_append_run _ _ _ rfl _ _ _ rfl rfl hr7 ?_
                refine hK _ _ ⟨f1, ?_⟩
                clear hK K hi2
                refine wpAnyH_all (rs := [6]) (by kernel_rfl) (by simp) ?_
                intro i2 hi2; obtain rfl : i2 = 6 := by simpa using hi2
                refine wpOp_step rfl (fun K hK => ?_)
                go_simp
                refine hK _ _ ⟨f2, ?_⟩
                clear hK K hi2
                refine wpAnyH_done (by kernel_rfl) ?_ _
                gi_wp2
                exact hend
              · refine wpOp_step rfl (fun K hK => ?_)
                go_simp
                have y1 := (HSB (V3.alloc (.cells #[.int .i64 (zn : Int)] 3)) ((Below.refl _ V3).alloc (Nat.le_refl _) _)).out
                obtain ⟨ys, y3, y4⟩ := y1
                refine hK _ _ ⟨ys, ?_⟩
                clear hK K hi2
                refine wpAnyH_all (rs := [0, 4]) (by kernel_rfl) (by simp) ?_
                intro i2 hi2
                rcases (show i2 = 0 ∨ i2 = 4 by simpa using hi2) with rfl | rfl
                · refine wpOp_step rfl (fun K hK => ?_)
                  go_simp
                  refine hK _ _ ⟨ys, ?_⟩
                  clear hK K hi2
                  refine wpAnyH_all (rs := [4]) (by kernel_rfl) (by simp) ?_
                  intro i2 hi2; obtain rfl : i2 = 4 := by simpa using hi2
                  refine wpOp_step rfl (fun K hK => ?_)
                  go_simp
                  refine HCALL.out.mono ?_
                  rintro e U ⟨u0, rfl, ho, bU⟩
                  have BU := Lib.hid (((Below.refl V3.heap.size V3).alloc (Nat.le_refl _) (.cells #[.int .i64 (zn : Int)] 3)).trans (bU.mono (by simp)))
                  obtain ⟨us, u3, u4⟩ := (HSB U BU.out).out
                  refine hK _ _ ⟨us, ?_⟩
                  clear hK K hi2
                  obtain ⟨qq, qc, rfl, hqq, hqs⟩ := own_src ho
                  obtain ⟨v', X2, hr7, ⟨p2, k2, c2, rfl⟩, hlb, f1, f2, hend⟩ := (TL U BU.out _ qq qc hqq hqs rfl).out
                  have c7 := hlb.cellAt 0
                  have f7 := hlb.free 0
                  have l7 := hlb.lt
                  refine wpAnyH_all (rs := [5]) (by kernel_rfl) (by simp) ?_
                  intro i2 hi2; obtain rfl : i2 = 5 := by simpa using hi2
                  refine wpOp_step rfl (fun K hK => ?_)
                  refine wp_append_run _ _ _ rfl _ _ _ rfl rfl hr7 ?_
                  refine hK _ _ ⟨f1, ?_⟩
                  clear hK K hi2
                  refine wpAnyH_all (rs := [6]) (by kernel_rfl) (by simp) ?_
                  intro i2 hi2; obtain rfl : i2 = 6 := by simpa using hi2
                  refine wpOp_step rfl (fun K hK => ?_)
                  go_simp
                  refine hK _ _ ⟨f2, ?_⟩
                  clear hK K hi2
                  refine wpAnyH_done (by kernel_rfl) ?_ _
                  gi_wp2
                  exact hend
                · refine wpOp_step rfl (fun K hK => ?_)
                  go_simp
                  refine HCALL.out.mono ?_
                  rintro e U ⟨u0, rfl, ho, bU⟩
                  have BU := Lib.hid (((Below.refl V3.heap.size V3).alloc (Nat.le_refl _) (.cells #[.int .i64 (zn : Int)] 3)).trans (bU.mono (by simp)))
                  obtain ⟨us, u3, u4⟩ := (HSB U BU.out).out
                  refine hK _ _ ⟨us, ?_⟩
                  clear hK K hi2
                  refine wpAnyH_all (rs := [0]) (by kernel_rfl) (by simp) ?_
                  intro i2 hi2; obtain rfl : i2 = 0 := by simpa using hi2
                  refine wpOp_step rfl (fun K hK => ?_)
                  go_simp
                  refine hK _ _ ⟨us, ?_⟩
                  clear hK K hi2
                  obtain ⟨qq, qc, rfl, hqq, hqs⟩ := own_src ho
                  obtain ⟨v', X2, hr7, ⟨p2, k2, c2, rfl⟩, hlb, f1, f2, hend⟩ := (TL U BU.out _ qq qc hqq hqs rfl).out
                  have c7 := hlb.cellAt 0
                  have f7 := hlb.free 0
                  have l7 := hlb.lt
                  refine wpAnyH_all (rs := [5]) (by kernel_rfl) (by simp) ?_
                  intro i2 hi2; obtain rfl : i2 = 5 := by simpa using hi2
                  refine wpOp_step rfl (fun K hK => ?_)
                  refine wp_append_run _ _ _ rfl _ _ _ rfl rfl hr7 ?_
                  refine hK _ _ ⟨f1, ?_⟩
                  clear hK K hi2
                  refine wpAnyH_all (rs := [6]) (by kernel_rfl) (by simp) ?_
                  intro i2 hi2; obtain rfl : i2 = 6 := by simpa using hi2
                  refine wpOp_step rfl (fun K hK => ?_)
                  go_simp
                  refine hK _ _ ⟨f2, ?_⟩
                  clear hK K hi2
                  refine wpAnyH_done (by kernel_rfl) ?_ _
                  gi_wp2
                  exact hend

            · have d6 : (kdOf ns zn == 6) = false := by rw [k7]; rfl
              have d8 : (kdOf ns zn == 8) = false := by rw [k7]; rfl
              have d7 : (kdOf ns zn == 7) = true := by simpa using k7
              clear hcf k7 HCT
              gi_wp2
              refine wpIn_round_held (S := fun X => X.cell? ⟨w.heap.size, 0, none⟩ = some (.slice (some ⟨b, off, none⟩) m cap)) (by kernel_rfl) (by kernel_rfl) (by simp only [LetsOut, Exit.inBlock]; rintro ⟨x, y, h⟩; exact h) ?_
              obtain ⟨V3, hV3⟩ : ∃ V3, V₂.drew = V3 := ⟨_, rfl⟩
              have SV : Hid (Below V₂.heap.size V₂ V3) := Lib.hid (by rw [← hV3]; exact below_dn _ V₂ 1)
              have sV3 : V3.heap.size ≤ V₂.heap.size ∧ V₂.heap.size ≤ V3.heap.size := by rw [← hV3]; exact ⟨Nat.le_refl _, Nat.le_refl _⟩
              have w1 : V3.cell? ⟨w.heap.size, 0, none⟩ = some (.slice (some ⟨b, off, none⟩) m cap) := (SV.out.cell (p := ⟨w.heap.size, 0, none⟩) lL).trans cL
              have w3 : V3.cell? ⟨NR, 0, none⟩ = some v1 := (SV.out.cell (p := ⟨NR, 0, none⟩) lN).trans cN
              rw [hV3]
              clear hV3 cN cM lM cL
              have lL3 : w.heap.size < V3.heap.size := by omega
              have lN3 : NR < V3.heap.size := by omega
              have bw3 : Below w.heap.size w V3 := Q.out.low.trans (SV.out.mono (by have := Q.out.low.size; omega))
              have HCALL := Lib.hid (HRW.out (.slice (some ⟨V3.heap.size, 0, none⟩) 1 1) [(zn : Int)] (V3.alloc (.cells #[.int .i64 (zn : Int)] 3)) (bw3.alloc (by omega) _) (Ints.whole (t := 3) (whole_new V3 [.int .i64 (zn : Int)] 3 _ rfl) rfl (by simp)) (by simp) (by intro z hz; simp at hz; omega))
              have HSB : ∀ U : World, Below V3.heap.size V3 U → Hid (U.cell? ⟨w.heap.size, 0, none⟩ = some (.slice (some ⟨b, off, none⟩) m cap) ∧ U.cell? ⟨NR, 0, none⟩ = some v1 ∧ NR < U.heap.size) := fun U hU => Lib.hid ⟨(hU.cell (p := ⟨w.heap.size, 0, none⟩) lL3).trans w1, (hU.cell (p := ⟨NR, 0, none⟩) lN3).trans w3, by have := hU.size; omega⟩
              have TL : ∀ U : World, Below V3.heap.size V3 U → ∀ (E2 : List (Int × Int)) (qq : Option Addr) (qc : Nat), (qq = none → E2.length = 0) → (∀ a, qq = some a → ∀ j u, (E2.flatMap encL)[j]? = some u → U.cell? (a.add j) = some u) → E2 = fndP ns 9 [(zn : Int)] → Hid (∃ v' X2, (Builtin.append_ #[25, 25] 25 #[v1, .slice qq E2.length qc]).run Try.prog U = .ok v' X2 ∧ (∃ p2 k2 c2, v' = .slice p2 k2 c2) ∧ Whole X2 NR 25 [v1] ∧ X2.cell? ⟨w.heap.size, 0, none⟩ = some (.slice (some ⟨b, off, none⟩) m cap) ∧ (X2.setCell ⟨NR, 0, none⟩ v').cell? ⟨w.heap.size, 0, none⟩ = some (.slice (some ⟨b, off, none⟩) m cap) ∧
                  ownPostG W3.heap.size (KeepR (KidM (NR + 3) (NR + 1) (NR + 2) b off m cap p n.kv n.ks (kdOf ns))) (RI w.heap.size NM NR base (.slice (some ⟨b, off, none⟩) m cap) (.slice mq ml mc) (.slice fq fl fcp) (firstK ns 6 p ++ firstK ns 8 p) (firstK ns 8 p) (KidM (NR + 3) (NR + 1) (NR + 2) b off m cap p n.kv n.ks (kdOf ns)) w (fndP ns 9 (firstK ns 6 p)) (oneR ns (firstK ns 6 p ++ firstK ns 8 p)) n.ks) (fun _ _ _ => False) (pre ++ [((zn : Int), kdOf ns zn)]) V₂ .normal { tmps := #[], defers := [] } (X2.setCell ⟨NR, 0, none⟩ v')) := fun U hU E2 qq qc h1 h2 h3 => by
                have hUV : Below V₂.heap.size V₂ U := SV.out.trans (hU.mono (by omega))
                have hE2 : E2.length ≤ 70000 := by rw [h3]; exact fnd_one_few HO.out (zn : Int)
                obtain ⟨v', X2, a1, a2, a3, a4, a5, a6, a7⟩ := Q.out.step hUV (by omega) E2 qq qc h1 h2 (by have := HE.out; omega) (fun Y hY hc => Q.out.run.moved (N := base) (by have := Q.out.sz; omega) (by omega) (by omega) (fun a u hau hab => hc a u hau (by rcases hab with h | h | h <;> omega)) HLOW.out.1 HLOW.out.2)
                refine Lib.hid ⟨v', X2, a1, a2, a3, a4, a5, a7.from _, ⟨a7.size, fun _ => a6.run⟩, v', ?_⟩
                rw [List.length_append, List.length_singleton, HTK.out, List.flatMap_append, ← List.append_assoc]
                have e1 : [(zn : Int)].flatMap (oneR ns (firstK ns 6 p ++ firstK ns 8 p)) = E2 := by rw [List.flatMap_cons, List.flatMap_nil, List.append_nil, h3]; exact HONE.out
                rw [e1]
                exact a6
              obtain ⟨vq, vl, vcc, rfl⟩ := own_slice Q.out.own
              clear Q HE
              refine wpAnyH_take (i := 1) (v := .slice (some ⟨b, off, none⟩) m cap) rfl (by kernel_rfl) (by kernel_rfl) (by kernel_rfl) (fun _ _ _ h => h) (Or.inl ⟨by rfl, ?_⟩) w1 ?_
              · intro X hX; go_simp
              refine wpAnyH_take (i := 2) (v := .int .i64 zn) rfl (by kernel_rfl) (by kernel_rfl) (by kernel_rfl) (fun _ _ _ h => h) (Or.inl ⟨by rfl, ?_⟩) w1 ?_
              · intro X hX; go_simp
              refine wpAnyH_all (rs := [0, 3]) (by kernel_rfl) (by simp) ?_
              intro i2 hi2
              rcases (show i2 = 0 ∨ i2 = 3 by simpa using hi2) with rfl | rfl
              · refine wpOp_step rfl (fun K hK => ?_)
                go_simp
                refine hK _ _ ⟨w1, ?_⟩
                clear hK K hi2
                refine wpAnyH_all (rs := [3]) (by kernel_rfl) (by simp) ?_
                intro i2 hi2; obtain rfl : i2 = 3 := by simpa using hi2
                refine wpOp_step rfl (fun K hK => ?_)
                go_simp
                have y1 := (HSB (V3.alloc (.cells #[.int .i64 (zn : Int)] 3)) ((Below.refl _ V3).alloc (Nat.le_refl _) _)).out
                obtain ⟨ys, y3, y4⟩ := y1
                refine hK _ _ ⟨ys, ?_⟩
                clear hK K hi2
                refine wpAnyH_all (rs := [4]) (by kernel_rfl) (by simp) ?_
                intro i2 hi2; obtain rfl : i2 = 4 := by simpa using hi2
                refine wpOp_step rfl (fun K hK => ?_)
                go_simp
                refine HCALL.out.mono ?_
                rintro e U ⟨u0, rfl, ho, bU⟩
                have BU := Lib.hid (((Below.refl V3.heap.size V3).alloc (Nat.le_refl _) (.cells #[.int .i64 (zn : Int)] 3)).trans (bU.mono (by simp)))
                obtain ⟨us, u3, u4⟩ := (HSB U BU.out).out
                refine hK _ _ ⟨us, ?_⟩
                clear hK K hi2
                obtain ⟨qq, qc, rfl, hqq, hqs⟩ := own_src ho
                obtain ⟨v', X2, hr7, ⟨p2, k2, c2, rfl⟩, hlb, f1, f2, hend⟩ := (TL U BU.out _ qq qc hqq hqs rfl).out
                have c7 := hlb.cellAt 0
                have f7 := hlb.free 0
                have l7 := hlb.lt
                refine wpAnyH_all (rs := [5]) (by kernel_rfl) (by simp) ?_
                intro i2 hi2; obtain rfl : i2 = 5 := by simpa using hi2
                refine wpOp_step rfl (fun K hK => ?_)
                refine wp_append_run _ _ _ rfl _ _ _ rfl rfl hr7 ?_
                refine hK _ _ ⟨f1, ?_⟩
                clear hK K hi2
                refine wpAnyH_all (rs := [6]) (by kernel_rfl) (by simp) ?_
                intro i2 hi2; obtain rfl : i2 = 6 := by simpa using hi2
                refine wpOp_step rfl (fun K hK => ?_)
                go_simp
                refine hK _ _ ⟨f2, ?_⟩
                clear hK K hi2
                refine wpAnyH_done (by kernel_rfl) ?_ _
                gi_wp2
                exact hend
              · refine wpOp_step rfl (fun K hK => ?_)
                go_simp
                have y1 := (HSB (V3.alloc (.cells #[.int .i64 (zn : Int)] 3)) ((Below.refl _ V3).alloc (Nat.le_refl _) _)).out
                obtain ⟨ys, y3, y4⟩ := y1
                refine hK _ _ ⟨ys, ?_⟩
                clear hK K hi2
                refine wpAnyH_all (rs := [0, 4]) (by kernel_rfl) (by simp) ?_
                intro i2 hi2
                rcases (show i2 = 0 ∨ i2 = 4 by simpa using hi2) with rfl | rfl
                · refine wpOp_step rfl (fun K hK => ?_)
                  go_simp
                  refine hK _ _ ⟨ys, ?_⟩
                  clear hK K hi2
                  refine wpAnyH_all (rs := [4]) (by kernel_rfl) (by simp) ?_
                  intro i2 hi2; obtain rfl : i2 = 4 := by simpa using hi2
                  refine wpOp_step rfl (fun K hK => ?_)
                  go_simp
                  refine HCALL.out.mono ?_
                  rintro e U ⟨u0, rfl, ho, bU⟩
                  have BU := Lib.hid (((Below.refl V3.heap.size V3).alloc (Nat.le_refl _) (.cells #[.int .i64 (zn : Int)] 3)).trans (bU.mono (by simp)))
                  obtain ⟨us, u3, u4⟩ := (HSB U BU.out).out
                  refine hK _ _ ⟨us, ?_⟩
                  clear hK K hi2
                  obtain ⟨qq, qc, rfl, hqq, hqs⟩ := own_src ho
                  obtain ⟨v', X2, hr7, ⟨p2, k2, c2, rfl⟩, hlb, f1, f2, hend⟩ := (TL U BU.out _ qq qc hqq hqs rfl).out
                  have c7 := hlb.cellAt 0
                  have f7 := hlb.free 0
                  have l7 := hlb.lt
                  refine wpAnyH_all (rs := [5]) (by kernel_rfl) (by simp) ?_
                  intro i2 hi2; obtain rfl : i2 = 5 := by simpa using hi2
                  refine wpOp_step rfl (fun K hK => ?_)
                  refine wp_append_run _ _ _ rfl _ _ _ rfl rfl hr7 ?_
                  refine hK _ _ ⟨f1, ?_⟩
                  clear hK K hi2
                  refine wpAnyH_all (rs := [6]) (by kernel_rfl) (by simp) ?_
                  intro i2 hi2; obtain rfl : i2 = 6 := by simpa using hi2
                  refine wpOp_step rfl (fun K hK => ?_)
                  go_simp
                  refine hK _ _ ⟨f2, ?_⟩
                  clear hK K hi2
                  refine wpAnyH_done (by kernel_rfl) ?_ _
                  gi_wp2
                  exact hend
                · refine wpOp_step rfl (fun K hK => ?_)
                  go_simp
                  refine HCALL.out.mono ?_
                  rintro e U ⟨u0, rfl, ho, bU⟩
                  have BU := Lib.hid (((Below.refl V3.heap.size V3).alloc (Nat.le_refl _) (.cells #[.int .i64 (zn : Int)] 3)).trans (bU.mono (by simp)))
                  obtain ⟨us, u3, u4⟩ := (HSB U BU.out).out
                  refine hK _ _ ⟨us, ?_⟩
                  clear hK K hi2
                  refine wpAnyH_all (rs := [0]) (by kernel_rfl) (by simp) ?_
                  intro i2 hi2; obtain rfl : i2 = 0 := by simpa using hi2
                  refine wpOp_step rfl (fun K hK => ?_)
                  go_simp
                  refine hK _ _ ⟨us, ?_⟩
                  clear hK K hi2
                  obtain ⟨qq, qc, rfl, hqq, hqs⟩ := own_src ho
                  obtain ⟨v', X2, hr7, ⟨p2, k2, c2, rfl⟩, hlb, f1, f2, hend⟩ := (TL U BU.out _ qq qc hqq hqs rfl).out
                  have c7 := hlb.cellAt 0
                  have f7 := hlb.free 0
                  have l7 := hlb.lt
                  refine wpAnyH_all (rs := [5]) (by kernel_rfl) (by simp) ?_
                  intro i2 hi2; obtain rfl : i2 = 5 := by simpa using hi2
                  refine wpOp_step rfl (fun K hK => ?_)
                  refine wp_append_run _ _ _ rfl _ _ _ rfl rfl hr7 ?_
                  refine hK _ _ ⟨f1, ?_⟩
                  clear hK K hi2
                  refine wpAnyH_all (rs := [6]) (by kernel_rfl) (by simp) ?_
                  intro i2 hi2; obtain rfl : i2 = 6 := by simpa using hi2
                  refine wpOp_step rfl (fun K hK => ?_)
                  go_simp
                  refine hK _ _ ⟨f2, ?_⟩
                  clear hK K hi2
                  refine wpAnyH_done (by kernel_rfl) ?_ _
                  gi_wp2
                  exact hend

          · have HNO : Hid (oneR ns (firstK ns 6 p ++ firstK ns 8 p) (zn : Int) = []) := Lib.hid (by unfold oneR; rw [Int.toNat_natCast, if_neg k9, if_neg (show ¬ (kdOf ns zn = 6 ∨ kdOf ns zn = 8) by omega), if_neg (show ¬ kdOf ns zn = 7 by omega)])
            have HI := Lib.hid (HSK.out HNO.out)
            have d6 : (kdOf ns zn == 6) = false := by simp; omega
            have d8 : (kdOf ns zn == 8) = false := by simp; omega
            have d7 : (kdOf ns zn == 7) = false := by simp; omega
            clear HSK HNO HCT k9 hmv hgo
            gi_wp2
            exact ⟨KeepsFrom.refl _ _, ⟨Nat.le_refl _, id⟩, HI.out⟩
  case done =>
    rintro D xs V hD hS ⟨v1, g⟩ hmk
    rw [hS, List.take_of_length_le (Nat.le_refl _)] at g
    obtain ⟨vq, vl, vcc, rfl⟩ := own_slice g.own
    have G := Lib.hid g
    have HMK := Lib.hid hmk
    have cN := g.lb.cellAt 0
    have lN := g.lb.lt
    have cL := g.cl
    have szV := g.sz
    clear g hmk hRun HRI hS
    go_wp2
    refine region_held_np (S := fun X => X.cell? ⟨w.heap.size, 0, none⟩ = some (.slice (some ⟨b, off, none⟩) m cap) ∧ X.cell? ⟨NR, 0, none⟩ = some (.slice vq vl vcc)) (by kernel_rfl) (fun V3 hV3 => ?_)
    have SV : Hid (Below V.heap.size V V3) := Lib.hid (by rw [← hV3]; exact below_dn _ V 1)
    have sV3 : V3.heap.size ≤ V.heap.size ∧ V.heap.size ≤ V3.heap.size := by rw [← hV3]; exact ⟨Nat.le_refl _, Nat.le_refl _⟩
    clear hV3
    have w1 : V3.cell? ⟨w.heap.size, 0, none⟩ = some (.slice (some ⟨b, off, none⟩) m cap) ∧ V3.cell? ⟨NR, 0, none⟩ = some (.slice vq vl vcc) := ⟨(SV.out.cell (p := ⟨w.heap.size, 0, none⟩) (show w.heap.size < V.heap.size by omega)).trans cL, (SV.out.cell (p := ⟨NR, 0, none⟩) lN).trans cN⟩
    clear cN cL
    refine wpAnyH_take (i := 0) (v := .slice vq vl vcc) rfl (by kernel_rfl) (by kernel_rfl) (by kernel_rfl) (fun _ _ _ h => h) (Or.inl ⟨by rfl, ?_⟩) w1 ?_
    · rintro X ⟨hX1, hX2⟩; go_simp
    refine wpAnyH_take (i := 1) (v := .slice (some ⟨b, off, none⟩) m cap) rfl (by kernel_rfl) (by kernel_rfl) (by kernel_rfl) (fun _ _ _ h => h) (Or.inl ⟨by rfl, ?_⟩) w1 ?_
    · rintro X ⟨hX1, hX2⟩; go_simp
    refine wpAnyH_take (i := 2) (v := .slice fq fl fcp) rfl (by kernel_rfl) (by kernel_rfl) (by kernel_rfl) (fun _ _ _ h => h) (Or.inl ⟨by rfl, ?_⟩) w1 ?_
    · rintro X ⟨hX1, hX2⟩; go_simp
    have bw3 : Below w.heap.size w V3 := G.out.low.trans (SV.out.mono (by have := G.out.low.size; omega))
    have HCALL := Lib.hid (HRW.out (.slice fq fl fcp) (firstK ns 8 p) V3 bw3 (G.out.ift.1.below SV.out) (by have := first_few ns 8 p; omega) (first_in HM.out HO.out 8 p))
    refine wpAnyH_all (rs := [3]) (by kernel_rfl) (by simp) ?_
    intro i2 hi2; obtain rfl : i2 = 3 := by simpa using hi2
    refine wpOp_step rfl (fun K hK => ?_)
    go_simp
    refine HCALL.out.mono ?_
    rintro e U ⟨u0, rfl, ho, bU⟩
    have us : U.cell? ⟨w.heap.size, 0, none⟩ = some (.slice (some ⟨b, off, none⟩) m cap) ∧ U.cell? ⟨NR, 0, none⟩ = some (.slice vq vl vcc) := ⟨(bU.cell (p := ⟨w.heap.size, 0, none⟩) (show w.heap.size < V3.heap.size by omega)).trans w1.1, (bU.cell (p := ⟨NR, 0, none⟩) (show NR < V3.heap.size by omega)).trans w1.2⟩
    refine hK _ _ ⟨us, ?_⟩
    clear hK K hi2
    obtain ⟨qq, qc, rfl, hqq, hqs⟩ := own_src ho
    have bVU : Below V.heap.size V U := SV.out.trans (bU.mono (by omega))
    obtain ⟨i0, hi0, hz0, hz1, hz2⟩ := info_parts Try.infoLane
    have hUo := own_belowN G.out.own bVU
    have hE1 : ((fndP ns 9 (firstK ns 6 p)) ++ n.ks.flatMap (oneR ns (firstK ns 6 p ++ firstK ns 8 p))).length ≤ 70000 + 70000 * 70000 := by
      rw [List.length_append]
      have h1 : (fndP ns 9 (firstK ns 6 p)).length ≤ 70000 := fnd_first_few HO.out 6 (p : Int)
      have h2 := one_few HO.out (firstK ns 6 p ++ firstK ns 8 p) n.ks 70000 hkfew
      omega
    have hE2 : (fndP ns 9 (firstK ns 8 p)).length ≤ 70000 := fnd_first_few HO.out 8 (p : Int)
    obtain ⟨v', X2, hr7, ho2, hg2, hv2⟩ := run_append_any (w := U) base 25 25 48 i0 _ 2 16 Try.underlying25 hi0 hz0 hz1 hz2 rfl (by decide) _ _ _ hUo qq _ qc _ (encL_len _) hqq hqs (encL_one _) (by unfold maxLen; omega) (by omega) (by have := bVU.size; omega)
    have hx2 : X2.cell? ⟨w.heap.size, 0, none⟩ = some (.slice (some ⟨b, off, none⟩) m cap) ∧ X2.cell? ⟨NR, 0, none⟩ = some (.slice vq vl vcc) := ⟨hg2.cell us.1 (fun e => by have := (hUo.lt _ e.symm).1; dsimp only at this; omega), hg2.cell us.2 (fun e => by
      obtain ⟨cur, hcc⟩ := own_block_cells hUo e.symm
      have h3 : U.heap[NR]? = _ := G.out.lb.below bVU G.out.lb.lt
      dsimp only at hcc
      rw [h3] at hcc
      injection hcc with hcc; injection hcc with _ hcc
      exact absurd hcc (by decide))⟩
    have hmD : X2.heap[D]? = some (.deferred (some [])) := by
      have h1 := HMK.out
      have hlD : D < V.heap.size := (Array.getElem?_eq_some_iff.1 h1).1
      have h2 := (bVU.block D hlD).trans h1
      refine (hg2.block D (Array.getElem?_eq_some_iff.1 h2).1 (fun e => ?_)).trans h2
      obtain ⟨cur, hcc⟩ := own_block_cells hUo e.symm
      rw [h2] at hcc; cases hcc
    have hbf : Below w.heap.size w X2 := (bw3.trans (bU.mono (by omega))).grown hg2 (by have := bU.size; omega) (fun g e => by have := (hUo.lt g e).1; omega)
    have HBF := Lib.hid hbf
    have HMD := Lib.hid hmD
    have HFIN : Hid (OwnL w.heap.size X2 v' (rowsP ns p)) := Lib.hid (by
      unfold rowsP OwnL
      rw [HKFF.out, List.length_append, List.flatMap_append]
      exact own_from ho2 (by omega))
    clear ho2 hg2 hv2 hmD hbf hUo bVU ho hqs hE1 hE2
    refine wpAnyH_all (rs := [4]) (by kernel_rfl) (by simp) ?_
    intro i2 hi2; obtain rfl : i2 = 4 := by simpa using hi2
    refine wpOp_step rfl (fun K hK => ?_)
    refine wp_append_run _ _ _ rfl _ _ _ rfl rfl hr7 ?_
    refine hK _ _ ⟨hx2, ?_⟩
    clear hK K hi2
    refine wpAnyH_all (rs := [5]) (by kernel_rfl) (by simp) ?_
    intro i2 hi2; obtain rfl : i2 = 5 := by simpa using hi2
    refine wpOp_step rfl (fun K hK => ?_)
    go_simp
    refine hK _ _ ⟨hx2, ?_⟩
    clear hK K hi2
    refine wpAnyH_all (rs := [6]) (by kernel_rfl) (by simp) ?_
    intro i2 hi2; obtain rfl : i2 = 6 := by simpa using hi2
    refine wpOp_step rfl (fun K hK => ?_)
    go_simp
    refine hK _ _ ⟨hx2, ?_⟩
    clear hK K hi2
    refine wpAnyH_done (by kernel_rfl) ?_ _
    simp only [noPan]
    go_wp2
    refine leaves_marks w.heap.size [D] _ ((Marks.nil _ _).cons (by omega) HMD.out (by simp)) (fun W' hck hbk => ⟨.tuple #[v', .int .i64 0], by simp [results, Try.results10, go_sem], v', rfl, ?_, HBF.out.trans hbk⟩)
    exact own_cellsKept HFIN.out hck
end Go.Proofs.Ytgaclepoipaecaa

namespace Go.Proofs.Ytgaclepoipaecaa
open Go.RowKit Go.Shelf Go.Maps
set_option linter.unusedVariables false
attribute [local go_sem] Oper.semAt_some

/-- a slice of lanes lies in memory -/
def LanesAt (W : World) (v : Value) (E : List (Int × Int)) : Prop :=
  E.length ≤ 9223372036854775807 ∧ ((∃ a c, v = .slice a 0 c ∧ E = []) ∨ ∃ b off c, v = .slice (some ⟨b, off, none⟩) E.length c ∧ ∀ i x, E[i]? = some x → W.cell? ⟨b, off + i * 2, none⟩ = some (.int .i64 x.1) ∧ W.cell? ⟨b, off + i * 2 + 1, none⟩ = some (.int .i64 x.2))
theorem encL_get : ∀ (E : List (Int × Int)) (i : Nat) (x : Int × Int), E[i]? = some x → (E.flatMap encL)[i * 2]? = some (.int .i64 x.1) ∧ (E.flatMap encL)[i * 2 + 1]? = some (.int .i64 x.2)
  | [], i, x, h => by simp at h
  | y :: E, 0, x, h => by simp at h; subst h; exact ⟨rfl, rfl⟩
  | y :: E, i + 1, x, h => by
    have ih := encL_get E i x (by simpa using h)
    rw [List.flatMap_cons]
    have e : (encL y).length = 2 := rfl
    rw [List.getElem?_append_right (by rw [e]; omega), List.getElem?_append_right (by rw [e]; omega), e, show (i + 1) * 2 - 2 = i * 2 by omega, show (i + 1) * 2 + 1 - 2 = i * 2 + 1 by omega]
    exact ih
theorem OwnL.lanes {W : World} {base : Nat} {v : Value} {E : List (Int × Int)} (h : OwnL base W v E) : LanesAt W v E := by
  have h' := h
  obtain ⟨hl, ⟨rfl, hn⟩ | ⟨g, cap, cur, rfl, hb, hg, hnc, hcm, hcs, htk⟩⟩ := h
  · exact ⟨by omega, .inl ⟨none, 0, rfl, List.eq_nil_of_length_eq_zero hn⟩⟩
  · unfold maxLen at hcm
    refine ⟨by omega, .inr ⟨g, 0, cap, rfl, fun i x hx => ?_⟩⟩
    have hc := h'.cells (g := g) rfl
    obtain ⟨h1, h2⟩ := encL_get E i x hx
    have c1 := hc _ _ h1
    have c2 := hc _ _ h2
    rw [add_plain] at c1 c2
    exact ⟨c1, by rw [Nat.add_assoc]; exact c2⟩
theorem LanesAt.below {W W' : World} {v : Value} {E : List (Int × Int)} (h : LanesAt W v E) (hb : Below W.heap.size W W') : LanesAt W' v E := by
  obtain ⟨h1, h2 | ⟨b, off, c, e, hc⟩⟩ := h
  · exact ⟨h1, .inl h2⟩
  · refine ⟨h1, .inr ⟨b, off, c, e, fun i x hx => ?_⟩⟩
    obtain ⟨c1, c2⟩ := hc i x hx
    have hl := cell_lt c1
    exact ⟨(hb.cell (p := ⟨b, off + i * 2, none⟩) hl).trans c1, (hb.cell (p := ⟨b, off + i * 2 + 1, none⟩) hl).trans c2⟩
theorem LanesAt.form {W : World} {v : Value} {E : List (Int × Int)} (h : LanesAt W v E) : ∃ p c, v = .slice p E.length c := by
  obtain ⟨h1, ⟨a, c, rfl, rfl⟩ | ⟨b, off, c, e, hc⟩⟩ := h
  · exact ⟨_, _, rfl⟩
  · exact ⟨_, _, e⟩
theorem lanes_lit {W : World} {g c : Nat} {t : Nat} {E : List (Int × Int)} (h : Whole W g t (E.flatMap encL)) (hl : E.length ≤ 9223372036854775807) : LanesAt W (.slice (some ⟨g, 0, none⟩) E.length c) E :=
  ⟨hl, .inr ⟨g, 0, c, rfl, fun i x hx => by
    obtain ⟨h1, h2⟩ := encL_get E i x hx
    rw [Nat.zero_add]
    exact ⟨by rw [h.cellAt]; exact h1, by rw [h.cellAt]; exact h2⟩⟩⟩
set_option maxHeartbeats 400000 in
theorem lsame_lens (a b : Option Addr) (n m c d : Nat) (w : World) (h : n ≠ m) (hn : n ≤ 9223372036854775807) (hm : m ≤ 9223372036854775807) :
    Calls Try.prog 9 #[.slice a n c, .slice b m d] w fun e w' => e = .returned (.bool false) ∧ w = w' := by
  have h' : ((n : Int) == (m : Int)) = false := by simp; omega
  have h'' : ((n : Int) != (m : Int)) = true := by simp; omega
  go_enter Try.func9, Try.ntmps9
  go_wp2
  go_ret
  exact ⟨rfl, rfl⟩
theorem lpair_ne {xs ys : List (Int × Int)} (h : xs.length = ys.length) (h' : xs ≠ ys) : ∃ k x y, k < xs.length ∧ xs[k]? = some x ∧ ys[k]? = some y ∧ x ≠ y := by
  apply Classical.byContradiction
  intro hn
  apply h'
  apply List.ext_getElem h
  intro i h1 h2
  apply Classical.byContradiction
  intro hd
  exact hn ⟨i, _, _, h1, List.getElem?_eq_getElem h1, List.getElem?_eq_getElem h2, hd⟩
theorem pair_eql (a b c d : Int) (X : World) : (binOp .neq 48 (.agg #[.int .i64 a, .int .i64 b]) (.agg #[.int .i64 c, .int .i64 d])).run Try.prog X = .ok (.bool (!decide (((a, b) : Int × Int) = (c, d)))) X := by
  by_cases h1 : a = c
  · by_cases h2 : b = d
    · subst h1 h2; go_simp
    · subst h1; go_simp
  · go_simp
set_option maxHeartbeats 1000000 in
theorem lsame_some (b off cap b' off' cap' : Nat) (xs ys : List (Int × Int)) (m : Nat) (w : World) (hm : m ≤ 9223372036854775807) (hx0 : xs.length = m) (hy0 : ys.length = m)
    (hx : ∀ i x, xs[i]? = some x → w.cell? ⟨b, off + i * 2, none⟩ = some (.int .i64 x.1) ∧ w.cell? ⟨b, off + i * 2 + 1, none⟩ = some (.int .i64 x.2))
    (hy : ∀ i x, ys[i]? = some x → w.cell? ⟨b', off' + i * 2, none⟩ = some (.int .i64 x.1) ∧ w.cell? ⟨b', off' + i * 2 + 1, none⟩ = some (.int .i64 x.2)) (same : Bool) (hs : Hid (decide (xs = ys) = same)) :
    Calls Try.prog 9 #[.slice (some ⟨b, off, none⟩) m cap, .slice (some ⟨b', off', none⟩) m cap'] w fun e w' => e = .returned (.bool same) ∧ Below w.heap.size w w' := by
  have HX := Lib.hid hx
  have HY := Lib.hid hy
  have HX0 := Lib.hid hx0
  have HY0 := Lib.hid hy0
  clear hx hy hx0 hy0
  go_enter Try.func9, Try.ntmps9
  go_wp2
  go_loopw [5] (fun i wr => ∃ k n : Nat, k ≤ m ∧ i = .int .i64 k ∧ Hid (∀ j x y, j < k → xs[j]? = some x → ys[j]? = some y → x = y) ∧ wr = w.drewN n) (fun i _ => m - (intOf i).toNat)
  case atStart => exact ⟨0, 0, Nat.zero_le _, rfl, Lib.hid (fun j x y hj => by omega), rfl⟩
  case round =>
    obtain ⟨k, n, hk, rfl, hj, rfl⟩ := hrel
    by_cases hlt : k < m
    · obtain ⟨⟨x1, x2⟩, ex⟩ : ∃ x, xs[k]? = some x := ⟨_, List.getElem?_eq_getElem (by rw [HX0.out]; exact hlt)⟩
      obtain ⟨⟨y1, y2⟩, ey⟩ : ∃ y, ys[k]? = some y := ⟨_, List.getElem?_eq_getElem (by rw [HY0.out]; exact hlt)⟩
      obtain ⟨cx1, cx2⟩ := HX.out k _ ex
      obtain ⟨cy1, cy2⟩ := HY.out k _ ey
      dsimp only at cx1 cx2 cy1 cy2
      have EX := Lib.hid ex
      have EY := Lib.hid ey
      clear ex ey
      by_cases he : ((x1, x2) : Int × Int) = (y1, y2)
      · have hE : ∀ X : World, (binOp .neq 48 (.agg #[.int .i64 x1, .int .i64 x2]) (.agg #[.int .i64 y1, .int .i64 y2])).run Try.prog X = .ok (.bool false) X := fun X => by rw [pair_eql]; simp [he]
        have HJ : Hid (∀ j x y, j < k + 1 → xs[j]? = some x → ys[j]? = some y → x = y) := Lib.hid (fun j x y h1 h2 h3 => by
          by_cases hjk : j < k
          · exact hj.out j x y hjk h2 h3
          · obtain rfl : j = k := by omega
            rw [EX.out] at h2; rw [EY.out] at h3
            injection h2 with h2; injection h3 with h3
            rw [← h2, ← h3]; exact he)
        clear he hj
        go_wp2
        go_quiet (fail)
        go_wp2
        go_roundw
        case rel => exact ⟨k + 1, _, by omega, by go_num, HJ, rfl⟩
        case measure => simp [intOf]; omega
      · have hE : ∀ X : World, (binOp .neq 48 (.agg #[.int .i64 x1, .int .i64 x2]) (.agg #[.int .i64 y1, .int .i64 y2])).run Try.prog X = .ok (.bool true) X := fun X => by rw [pair_eql, decide_eq_false he]; rfl
        have hf : same = false := by
          rw [← hs.out]
          refine decide_eq_false (fun h => he ?_)
          have h1 := EX.out
          have h2 := EY.out
          rw [h, h2] at h1
          injection h1 with h1
          exact h1.symm
        clear he hj hs
        subst hf
        go_wp2
        go_quiet (fail)
        go_wp2
        go_ret
        exact ⟨rfl, (below_dn w.heap.size w n).trans (below_dn w.heap.size _ _)⟩
    · have ht : same = true := by
        rw [← hs.out]
        refine decide_eq_true ?_
        apply Classical.byContradiction
        intro hne
        obtain ⟨i, x, y, hi, h1, h2, h3⟩ := lpair_ne (by rw [HX0.out, HY0.out]) hne
        exact h3 (hj.out i x y (by have := HX0.out; omega) h1 h2)
      clear hk hs hj
      subst ht
      go_wp2
      go_ret
      exact ⟨rfl, below_dn _ _ _⟩
set_option maxHeartbeats 400000 in
theorem lsame_none (u v : Option Addr) (c d : Nat) (w : World) : Calls Try.prog 9 #[.slice u 0 c, .slice v 0 d] w fun e w' => e = .returned (.bool true) ∧ Below w.heap.size w w' := by
  go_enter Try.func9, Try.ntmps9
  go_wp2
  go_loop [5] (fun i => i = .int .i64 0) (fun _ => 0)
  case atStart => exact rfl
  case round =>
    obtain rfl := hrel
    go_wp2
    go_ret
    exact ⟨rfl, Below.refl _ _⟩
theorem lsame_any (v v' : Value) (E E' : List (Int × Int)) (w : World) (h : LanesAt w v E) (h' : LanesAt w v' E') :
    Calls Try.prog 9 #[v, v'] w fun e w' => e = .returned (.bool (decide (E = E'))) ∧ Below w.heap.size w w' := by
  by_cases hl : E.length = E'.length
  · obtain ⟨hm, ⟨a, c, rfl, rfl⟩ | ⟨b, off, c, rfl, hc⟩⟩ := h
    · obtain rfl : E' = [] := List.eq_nil_of_length_eq_zero (by simpa using hl.symm)
      obtain ⟨p, c', rfl⟩ := h'.form
      exact lsame_none _ _ _ _ w
    · obtain ⟨hm', ⟨a, c', rfl, rfl⟩ | ⟨b', off', c', rfl, hc'⟩⟩ := h'
      · obtain rfl : E = [] := List.eq_nil_of_length_eq_zero (by simpa using hl)
        exact lsame_none _ _ _ _ w
      · rw [← hl]
        exact lsame_some b off c b' off' c' E E' _ w hm rfl hl.symm hc hc' _ rfl
  · have hd : decide (E = E') = false := decide_eq_false (fun e => hl (by rw [e]))
    obtain ⟨p, c, rfl⟩ := h.form
    obtain ⟨p', c', rfl⟩ := h'.form
    rw [hd]
    refine (lsame_lens p p' _ _ c c' w hl h.1 h'.1).mono ?_
    rintro e w' ⟨rfl, rfl⟩
    exact ⟨rfl, Below.refl _ _⟩
end Go.Proofs.Ytgaclepoipaecaa

namespace Go.Proofs.Ytgaclepoipaecaa
open Go.RowKit Go.Shelf Go.Maps
set_option linter.unusedVariables false
attribute [local go_sem] Oper.semAt_some

theorem Fine.ok {ns : List Nd} (F : Fine ns) (hK : ∀ n ∈ ns, n.ks.length ≤ 70000) : PageOk ns := ⟨F.len2, hK, fun n hn z hz => by have := F.link n hn z hz; omega⟩
/-- a page and a place of a table -/
theorem lchk_ok {ns : List Nd} {p : Int} (h : lchkP ns p = 0) : Fine ns ∧ ∃ j : Nat, p = (j : Int) ∧ j < ns.length ∧ kdOf ns j = 2 := by
  unfold lchkP at h
  by_cases hc : (checkP ns).2 = 0
  · rw [if_pos hc] at h
    by_cases ht : isTab ns p = true
    · unfold isTab at ht
      simp only [Bool.and_eq_true, decide_eq_true_eq, beq_iff_eq] at ht
      refine ⟨fine_of hc, p.toNat, by omega, by omega, ht.2.2⟩
    · rw [if_neg ht] at h; cases h
  · rw [if_neg hc] at h; exact absurd h hc
theorem lchk_fine {ns : List Nd} (F : Fine ns) {j : Nat} (hj : j < ns.length) (hk : kdOf ns j = 2) : lchkP ns j = 0 := by
  unfold lchkP
  rw [if_pos (by rw [fine_check F])]
  rw [if_pos (by unfold isTab; simp [hj, hk])]
theorem rowsF_good (lv : Value) (p : Nat) (ns : List Nd) (w : World) (hP : PageAt w lv ns) (hK : ∀ n ∈ ns, n.ks.length ≤ 70000) (F : Fine ns) (hp : p < ns.length) (ht : kdOf ns p = 2) :
    Calls Try.prog 10 #[lv, .int .i64 p] w fun e W' => ∃ v, e = .returned (.tuple #[v, .int .i64 0]) ∧ OwnL w.heap.size W' v (rowsP ns p) ∧ Below w.heap.size w W' := by
  obtain ⟨_, _, ⟨a, cap, e, rfl⟩ | ⟨b, off, cap, rfl, hc⟩⟩ := (id hP)
  · simp at hp
  · refine rows_ok b off cap _ p ns w rfl (F.ok hK) hP hp (Lib.hid fun X hX => ?_)
    have := lchk_any (.slice (some ⟨b, off, none⟩) ns.length cap) p ns X (hP.below hX) hK
    rwa [lchk_fine F hp ht] at this
theorem rowsF_not (lv : Value) (p : Int) (ns : List Nd) (w : World) (hP : PageAt w lv ns) (hK : ∀ n ∈ ns, n.ks.length ≤ 70000) (h : lchkP ns p ≠ 0) :
    Calls Try.prog 10 #[lv, .int .i64 p] w fun e W' => e = .returned (.tuple #[.slice none 0 0, .int .i64 (lchkP ns p)]) ∧ Below w.heap.size w W' := by
  obtain ⟨q, cap, rfl⟩ := hP.form
  exact rows_bad q _ cap p w _ h (Lib.hid fun X hX => lchk_any _ p ns X (hP.below hX) hK)
def captP (ns : List Nd) (p : Nat) : List Int := kindK ns 3 p
end Go.Proofs.Ytgaclepoipaecaa
