/- Contracts of what may stand where: fixup.kindsOf, permitted, has, May, Around; the document's May, Around. -/
import Derived.Test.YtecnapecmioamaaSBase
import Derived.Maps.Own
import Derived.Maps.OwnOps
import Derived.Maps.OwnSet
import Derived.Maps.Views
namespace Go.Proofs.Ytecnapecmioamaa
open Go.RowKit Go.Shelf Go.Maps
set_option linter.unusedVariables false
attribute [local go_sem] Oper.semAt_some

/-- the set of some kinds, as the machine makes it -/
def maskL (ks : List Int) : Int := ks.foldl (fun m k => bits BinOp.or IntKind.u64 m (IntKind.u64.wrap (2 ^ k.toNat))) 0
theorem maskL_step (ks : List Int) (k : Nat) (y : Int) (h : ks[k]? = some y) : maskL (ks.take (k + 1)) = bits BinOp.or IntKind.u64 (maskL (ks.take k)) (IntKind.u64.wrap (2 ^ y.toNat)) := by
  unfold maskL
  rw [List.take_add_one, h, List.foldl_append]; rfl
set_option maxHeartbeats 400000 in
theorem kindsOf_any (ks : List Int) (b off cap : Nat) (w : World) (hm : ks.length ≤ 11) (hk : ∀ k ∈ ks, 0 ≤ k ∧ k ≤ 10)
    (hc : ∀ j, j < ks.length → w.cell? ⟨b, off + j, none⟩ = some (.int .i64 (ks[j]?.getD 0))) :
    Calls Try.prog 27 #[.slice (some ⟨b, off, none⟩) ks.length cap] w fun e w' => e = .returned (.int .u64 (maskL ks)) ∧ w = w' := by
  go_enter Try.func27, Try.ntmps27
  go_wp2
  go_loopg [3, 8] ks.length (fun gg s3 s8 wr => ∃ kk : Nat, kk ≤ ks.length ∧ ks.length - kk ≤ gg ∧ s3 = .int .u64 (maskL (ks.take kk)) ∧ s8 = .int .i64 kk ∧ w = wr)
  case atStart => exact ⟨0, Nat.zero_le _, by omega, rfl, rfl, rfl⟩
  case round =>
    obtain ⟨kk, hkk, hg, rfl, rfl, rfl⟩ := hrel
    by_cases hlt : kk < ks.length
    · have hcell := hc kk hlt
      obtain ⟨y, hy⟩ : ∃ y, ks[kk]?.getD 0 = y := ⟨_, rfl⟩
      rw [hy] at hcell
      have hx : ks[kk]? = some y := by rw [← hy]; simp [hlt]
      have hr := hk y (List.mem_iff_getElem?.2 ⟨kk, hx⟩)
      obtain ⟨hr1, hr2⟩ := hr
      clear hy hc
      have HX := Lib.hid (maskL_step ks kk y hx)
      clear hx
      go_wp2
      go_roundg (ks.length - (kk + 1))
      case measure => omega
      case rel => exact ⟨kk + 1, by omega, by omega, by rw [HX.out], by go_num, rfl⟩
    · have R := Lib.hid (show maskL ks = maskL (ks.take kk) by rw [List.take_of_length_le (by omega)])
      go_wp2
      go_ret
      exact ⟨by rw [R.out]; rfl, rfl⟩

/-- may a kind stand in a set? -/
def hasB (m k : Int) : Bool := decide (0 ≤ k) && (bits BinOp.and IntKind.u64 (m / 2 ^ min k.toNat 64) 1 == 1)
set_option maxHeartbeats 400000 in
theorem has_any (m k : Int) (w : World) (hm0 : 0 ≤ m) :
    Calls Try.prog 38 #[.int .u64 m, .int .i64 k] w fun e w' => e = .returned (.bool (hasB m k)) ∧ w = w' := by
  by_cases h : 0 ≤ k
  · have R := Lib.hid (show hasB m k = (bits BinOp.and IntKind.u64 (m / 2 ^ min k.toNat 64) 1 == 1) by unfold hasB; simp [h])
    go_enter Try.func38, Try.ntmps38
    go_wp2
    go_ret
    exact ⟨by rw [R.out]; rfl, rfl⟩
  · have R := Lib.hid (show hasB m k = false by unfold hasB; simp [h])
    go_enter Try.func38, Try.ntmps38
    go_wp2
    go_ret
    exact ⟨by rw [R.out]; rfl, rfl⟩

/-- m[k] = v of a map that is made by a literal -/
theorem wpList_insert_own {H : Type} {P : Program} (w : World) {ops : Array Oper} {rest : List Oper} {o : Oper} {a : Act} {Q : Exit → Act → World → Prop}
    (hg : o.guard = none) (m x v : Operand) (t : TypeId) (hop : o.op = Op.insert t m x v)
    (k e : TypeId) (K : Keyed P k) (ht : P.underlying t = some (.map k e)) (R : Value → Option (DataW H × List MemPlace)) (b n : Nat) (D : DataW H)
    (hm : a.eval m = .map (some b)) (hown : w.ownsMap P k R b n D) (hn : n < maxLen) (key val : Value) (kl : Lit) (hx : a.eval x = key) (hv : a.eval v = val) (hkey : keyOf P k key = some kl)
    (d : DataW H) (ps : List MemPlace) (hval : R val = some (d, ps))
    (hK : ∀ w', w'.ownsMap P k R b (n + 1) (D.put kl d) → w.grownBy w' (some b) → wpList P ops Q rest (a.put o.dst undef) w') :
    wpList P ops Q (o :: rest) a w := by
  refine wpList_plain hg fun K' hK' => ?_
  obtain ⟨w', hrun, r1, r2⟩ := hown.update K ht hn hkey hval
  unfold Oper.wp
  simp [execOp, hop, hm, hx, hv, hrun, Result.andThen]
  exact hK' _ _ (hK w' r1 r2)

/-- the set of the kinds that may stand in one of a kind -/
def permM (k : Int) : Int := if k = 0 ∨ k = 3 ∨ k = 10 then 7 else if k = 2 then 1016 else if k = 4 then 2047 else if k = 6 ∨ k = 7 ∨ k = 8 then 512 else if k = 9 then 1024 else 0
/-- a map that tells it -/
def PermAt (W : World) (b : Nat) : Prop := ∃ (n : Nat) (D : DataW Unit), W.ownsMap Try.prog 3 (plainElem Try.prog 56) b n D ∧ ∀ k : Int, D.atKey (.int .i64 k) (.lit (.int .u64 0)) = .lit (.int .u64 (permM k))
theorem PermAt.lt {W : World} {b : Nat} (h : PermAt W b) : b < W.heap.size := by obtain ⟨n, D, h, _⟩ := h; exact h.lt
theorem PermAt.same {W X : World} {b : Nat} (h : PermAt W b) (hx : X.heap[b]? = W.heap[b]?) : PermAt X b := by
  obtain ⟨n, D, ⟨es, cl, hb, r⟩, h2⟩ := h
  exact ⟨n, D, ⟨es, cl, hx.trans hb, r⟩, h2⟩
theorem litwfP {a : Int} (h1 : -9223372036854775808 ≤ a) (h2 : a ≤ 9223372036854775807) : (Lit.int .i64 a).wf = true := by
  have e1 : IntKind.i64.min = -9223372036854775808 := by decide
  have e2 : IntKind.i64.max = 9223372036854775807 := by decide
  simp [Lit.wf, e1, e2]; omega
theorem lawIntP : Keyed Try.prog 3 := int_keyed Try.underlying3
theorem zeroKinds (w : World) : (zeroValue 56).run Try.prog w = .ok (.int .u64 0) w := by kernel_rfl
/-- what is looked up there -/
theorem PermAt.look {W : World} {b : Nat} (h : PermAt W b) (k : Int) (hk : (Lit.int .i64 k).wf = true) : (Instr.lookup 49 (.map (some b)) (.int .i64 k) false).run Try.prog W = .ok (.int .u64 (permM k)) W := by
  obtain ⟨n, D, hown, h2⟩ := h
  obtain ⟨c, hr, hat, _⟩ := hown.lookup_int lawIntP Try.underlying49 Try.underlying56 (zeroKinds W) (keyOf_int_mk Try.underlying3 hk)
  rw [h2 k] at hat
  injection hat with hat; injection hat with _ hat
  rw [hr, ← hat]
theorem make_mapP (w : World) : (Instr.makeMap 49 none).run Try.prog w = .ok (.map (some w.heap.size)) (w.alloc (.map #[] 0)) := by
  simp [Instr.makeMap, go_sem]
theorem kindsOf_lit (ks : List Int) (n : Nat) (m : Int) (hn : ks.length = n) (hm : maskL ks = m) (b off cap : Nat) (w : World) (hl : ks.length ≤ 11) (hk : ∀ k ∈ ks, 0 ≤ k ∧ k ≤ 10)
    (hc : ∀ j, j < ks.length → w.cell? ⟨b, off + j, none⟩ = some (.int .i64 (ks[j]?.getD 0))) :
    Calls Try.prog 27 #[.slice (some ⟨b, off, none⟩) n cap] w fun e w' => e = .returned (.int .u64 m) ∧ w = w' := by
  subst hn hm
  exact kindsOf_any ks b off cap w hl hk hc
theorem cells_lit {w : World} {ks : List Int} {b t : Nat} {ar : Array Value} (h : w.heap[b]? = some (.cells ar t (0, 0))) (he : ar = (ks.map (Value.int .i64)).toArray) : ∀ j, j < ks.length → w.cell? ⟨b, 0 + j, none⟩ = some (.int .i64 (ks[j]?.getD 0)) := fun j hj => by
  simp [World.cell?, h, he, hj]
/-- a map that is made by stores, one behind the other -/
def mapOf (L : List (Int × Int)) : DataW Unit := L.foldl (fun D p => D.put (.int .i64 p.1) (.lit (.int .u64 p.2))) (.map [])
def MapIs (W : World) (b : Nat) (L : List (Int × Int)) : Prop := W.ownsMap Try.prog 3 (plainElem Try.prog 56) b L.length (mapOf L)
theorem MapIs.alloc {W : World} {b : Nat} {L : List (Int × Int)} (h : MapIs W b L) (o : Obj) : MapIs (W.alloc o) b L := World.ownsMap.alloc h o
theorem MapIs.lt {W : World} {b : Nat} {L : List (Int × Int)} (h : MapIs W b L) : b < W.heap.size := World.ownsMap.lt h
theorem ins_step {w : World} {ops : Array Oper} {rest : List Oper} {o : Oper} {a : Act} {Q : Exit → Act → World → Prop}
    (hg : o.guard = none) (m x v : Operand) (hop : o.op = Op.insert 49 m x v) (b : Nat) (L : List (Int × Int)) (hm : a.eval m = .map (some b)) (h : MapIs w b L)
    (key val : Int) (hx : a.eval x = .int .i64 key) (hv : a.eval v = .int .u64 val) (w1 : (Lit.int .i64 key).wf = true) (w2 : (Lit.int .u64 val).wf = true) (hl : L.length < 100)
    (hK : ∀ w', MapIs w' b (L ++ [(key, val)]) → w.grownBy w' (some b) → wpList Try.prog ops Q rest (a.put o.dst undef) w') : wpList Try.prog ops Q (o :: rest) a w := by
  refine wpList_insert_own w hg m x v 49 hop 3 56 lawIntP Try.underlying49 (plainElem Try.prog 56) b L.length _ hm h (by unfold maxLen; omega) _ _ (.int .i64 key) hx hv (keyOf_int_mk Try.underlying3 w1) (.lit (.int .u64 val)) [] (plainElem_int Try.underlying56 w2) fun w' h1 h2 => hK w' ?_ h2
  have e : mapOf (L ++ [(key, val)]) = (mapOf L).put (.int .i64 key) (.lit (.int .u64 val)) := by unfold mapOf; rw [List.foldl_append]; rfl
  unfold MapIs
  rw [e, List.length_append]
  exact h1
set_option maxRecDepth 100000 in
set_option maxHeartbeats 2000000 in
theorem permitted_walk (w : World) : Calls Try.prog 14 #[] w fun e W' => e = .returned (.map (some (w.heap.size + 1 + 1))) ∧ MapIs W' (w.heap.size + 1 + 1) [(0, 7), (2, 1016), (3, 7), (4, 2047), (6, 512), (7, 512), (8, 512), (9, 1024), (10, 7)] ∧ Below w.heap.size w W' := by
  have hmk := make_mapP
  have hc0 : ∀ (b : Nat) (ks : List Int) (X : World) (hb : b = X.heap.size), ∀ j, j < ks.length → (X.alloc (.cells (ks.map (Value.int .i64)).toArray 3)).cell? ⟨b, 0 + j, none⟩ = some (.int .i64 (ks[j]?.getD 0)) := fun b ks X hb => cells_lit (t := 3) (ar := (ks.map (Value.int .i64)).toArray) (by subst hb; exact heap_alloc_new _ _) rfl
  have H0 := Lib.hid hc0
  clear hc0
  have HM : Hid (MapIs (((w.alloc (.cells #[.int .i64 0, .int .i64 1, .int .i64 2] 3)).alloc (.cells #[.int .i64 9] 3)).alloc (.map #[] 0)) (w.heap.size + 1 + 1) []) := Lib.hid (by
    have := World.ownsMap_made ((w.alloc (.cells #[.int .i64 0, .int .i64 1, .int .i64 2] 3)).alloc (.cells #[.int .i64 9] 3)) Try.prog 3 (plainElem (H := Unit) Try.prog 56)
    simpa [MapIs, mapOf] using this)
  have HB : Hid (Below w.heap.size w (((w.alloc (.cells #[.int .i64 0, .int .i64 1, .int .i64 2] 3)).alloc (.cells #[.int .i64 9] 3)).alloc (.map #[] 0))) := Lib.hid ((((Below.refl _ w).alloc (Nat.le_refl _) _).alloc (by simp) _).alloc (by simp; omega) _)
  go_enter Try.func14, Try.ntmps14
  go_wp2_with fail
  refine (kindsOf_lit [0, 1, 2] 3 7 rfl (by decide) _ 0 _ _ (by decide) (by decide) (H0.out _ [0, 1, 2] _ rfl)).mono ?_
  rintro e w' ⟨rfl, rfl⟩
  go_wp2_with fail
  refine (kindsOf_lit [9] 1 512 rfl (by decide) _ 0 _ _ (by decide) (by decide) (H0.out _ [9] _ (by simp))).mono ?_
  rintro e w' ⟨rfl, rfl⟩
  go_wp2_with (refine ins_step rfl _ _ _ rfl (w.heap.size + 1 + 1) _ rfl (by first | exact HM.out | exact HM.out.alloc _) _ _ rfl rfl (by decide) (by decide) (by decide) ?_; intro w1 h1 g1; have HB1 : Hid (Below w.heap.size w w1) := Lib.hid (by first | exact HB.out.grown g1 HB.out.size (fun k e => by cases e; omega) | exact (HB.out.alloc HB.out.size _).grown g1 (HB.out.alloc HB.out.size _).size (fun k e => by cases e; omega)); clear HM HB; have HM := Lib.hid h1; have HB := HB1; clear h1 g1 HB1)
  refine (kindsOf_lit [3, 4, 5, 6, 7, 8, 9] 7 1016 rfl (by decide) _ 0 _ _ (by decide) (by decide) (H0.out _ [3, 4, 5, 6, 7, 8, 9] _ rfl)).mono ?_
  rintro e w' ⟨rfl, rfl⟩
  go_wp2_with (refine ins_step rfl _ _ _ rfl (w.heap.size + 1 + 1) _ rfl (by first | exact HM.out | exact HM.out.alloc _) _ _ rfl rfl (by decide) (by decide) (by decide) ?_; intro w1 h1 g1; have HB1 : Hid (Below w.heap.size w w1) := Lib.hid (by first | exact HB.out.grown g1 HB.out.size (fun k e => by cases e; omega) | exact (HB.out.alloc HB.out.size _).grown g1 (HB.out.alloc HB.out.size _).size (fun k e => by cases e; omega)); clear HM HB; have HM := Lib.hid h1; have HB := HB1; clear h1 g1 HB1)
  refine (kindsOf_lit [0, 1, 2, 3, 4, 5, 6, 7, 8, 9, 10] 11 2047 rfl (by decide) _ 0 _ _ (by decide) (by decide) (H0.out _ [0, 1, 2, 3, 4, 5, 6, 7, 8, 9, 10] _ rfl)).mono ?_
  rintro e w' ⟨rfl, rfl⟩
  go_wp2_with (refine ins_step rfl _ _ _ rfl (w.heap.size + 1 + 1) _ rfl (by first | exact HM.out | exact HM.out.alloc _) _ _ rfl rfl (by decide) (by decide) (by decide) ?_; intro w1 h1 g1; have HB1 : Hid (Below w.heap.size w w1) := Lib.hid (by first | exact HB.out.grown g1 HB.out.size (fun k e => by cases e; omega) | exact (HB.out.alloc HB.out.size _).grown g1 (HB.out.alloc HB.out.size _).size (fun k e => by cases e; omega)); clear HM HB; have HM := Lib.hid h1; have HB := HB1; clear h1 g1 HB1)
  refine (kindsOf_lit [10] 1 1024 rfl (by decide) _ 0 _ _ (by decide) (by decide) (H0.out _ [10] _ rfl)).mono ?_
  rintro e w' ⟨rfl, rfl⟩
  go_wp2_with (refine ins_step rfl _ _ _ rfl (w.heap.size + 1 + 1) _ rfl (by first | exact HM.out | exact HM.out.alloc _) _ _ rfl rfl (by decide) (by decide) (by decide) ?_; intro w1 h1 g1; have HB1 : Hid (Below w.heap.size w w1) := Lib.hid (by first | exact HB.out.grown g1 HB.out.size (fun k e => by cases e; omega) | exact (HB.out.alloc HB.out.size _).grown g1 (HB.out.alloc HB.out.size _).size (fun k e => by cases e; omega)); clear HM HB; have HM := Lib.hid h1; have HB := HB1; clear h1 g1 HB1)
  refine bodyPost_ret (v := .map (some (w.heap.size + 1 + 1))) (by simp [results, Try.results14, go_sem]) rfl ⟨rfl, HM.out, HB.out⟩
theorem mapOf_is (L : List (Int × Int)) : IsMap (mapOf L) := by
  suffices ∀ (L : List (Int × Int)) (D : DataW Unit), IsMap D → IsMap (L.foldl (fun D p => D.put (.int .i64 p.1) (.lit (.int .u64 p.2))) D) from this L _ ⟨_, rfl⟩
  intro L
  induction L with
  | nil => exact fun D h => h
  | cons p L ih => exact fun D h => ih _ (by obtain ⟨es, rfl⟩ := h; exact ⟨_, rfl⟩)
theorem mapOf_at (k : Int) (L : List (Int × Int)) : (mapOf L).atKey (.int .i64 k) (.lit (.int .u64 0)) = .lit (.int .u64 (((L.reverse.find? (fun p => p.1 == k)).map Prod.snd).getD 0)) := by
  suffices ∀ R : List (Int × Int), (mapOf R.reverse).atKey (.int .i64 k) (.lit (.int .u64 0)) = .lit (.int .u64 (((R.find? (fun p => p.1 == k)).map Prod.snd).getD 0)) by
    have := this L.reverse
    rwa [List.reverse_reverse] at this
  intro R
  induction R with
  | nil => rfl
  | cons p R ih =>
    have e : mapOf (p :: R).reverse = (mapOf R.reverse).put (.int .i64 p.1) (.lit (.int .u64 p.2)) := by unfold mapOf; rw [List.reverse_cons, List.foldl_append]; rfl
    rw [e, List.find?_cons]
    by_cases hp : p.1 = k
    · subst hp
      rw [atKey_put_same (mapOf_is _) (by simp [WideAt.IsKeyLit])]; simp
    · rw [atKey_put_other (by simp; exact fun e => hp e.symm), ih, show (p.1 == k) = false by simp [hp]]
theorem permitted_any (w : World) : Calls Try.prog 14 #[] w fun e W' => ∃ b, e = .returned (.map (some b)) ∧ w.heap.size ≤ b ∧ PermAt W' b ∧ Below w.heap.size w W' := by
  refine (permitted_walk w).mono ?_
  rintro e W' ⟨rfl, h1, h2⟩
  refine ⟨_, rfl, by omega, ⟨_, _, h1, fun k => ?_⟩, h2⟩
  rw [mapOf_at k]
  congr 2
  unfold permM
  simp only [List.reverse_cons, List.reverse_nil, List.nil_append, List.cons_append, List.find?_cons, List.find?_nil]
  by_cases h0 : k = 0
  · subst h0; rfl
  by_cases h2 : k = 2
  · subst h2; rfl
  by_cases h3 : k = 3
  · subst h3; rfl
  by_cases h4 : k = 4
  · subst h4; rfl
  by_cases h6 : k = 6
  · subst h6; rfl
  by_cases h7 : k = 7
  · subst h7; rfl
  by_cases h8 : k = 8
  · subst h8; rfl
  by_cases h9 : k = 9
  · subst h9; rfl
  by_cases h10 : k = 10
  · subst h10; rfl
  have e : ∀ a : Int, ¬ k = a → (a == k) = false := fun a h => by simp; exact fun e => h e.symm
  rw [e 10 h10, e 9 h9, e 8 h8, e 7 h7, e 6 h6, e 4 h4, e 3 h3, e 2 h2, e 0 h0]
  simp [h0, h2, h3, h4, h6, h7, h8, h9, h10]

/-- may a kid of the kind j stand in a node of the kind k? -/
def mayP (k j : Int) : Bool := hasB (permM k) j
def aroundP (k : Int) : Int := if k = 2 ∨ k = 6 ∨ k = 7 ∨ k = 8 then 9 else if k = 9 then 10 else if k = 0 ∨ k = 3 ∨ k = 10 then 2 else -1
theorem permM_pos (k : Int) : 0 ≤ permM k := by unfold permM; repeat' split
                                                all_goals omega
set_option maxHeartbeats 800000 in
theorem around_any (k : Int) (w : World) : Calls Try.prog 28 #[.int .i64 k] w fun e W' => e = .returned (.int .i64 (aroundP k)) ∧ w = W' := by
  by_cases h2 : k = 2
  · subst h2
    have R := Lib.hid (show aroundP 2 = 9 from rfl)
    go_enter Try.func28, Try.ntmps28
    go_wp2
    go_ret
    exact ⟨by rw [R.out]; rfl, rfl⟩
  by_cases h6 : k = 6
  · subst h6
    have R := Lib.hid (show aroundP 6 = 9 from rfl)
    go_enter Try.func28, Try.ntmps28
    go_wp2
    go_ret
    exact ⟨by rw [R.out]; rfl, rfl⟩
  by_cases h7 : k = 7
  · subst h7
    have R := Lib.hid (show aroundP 7 = 9 from rfl)
    go_enter Try.func28, Try.ntmps28
    go_wp2
    go_ret
    exact ⟨by rw [R.out]; rfl, rfl⟩
  by_cases h8 : k = 8
  · subst h8
    have R := Lib.hid (show aroundP 8 = 9 from rfl)
    go_enter Try.func28, Try.ntmps28
    go_wp2
    go_ret
    exact ⟨by rw [R.out]; rfl, rfl⟩
  by_cases h9 : k = 9
  · subst h9
    have R := Lib.hid (show aroundP 9 = 10 from rfl)
    go_enter Try.func28, Try.ntmps28
    go_wp2
    go_ret
    exact ⟨by rw [R.out]; rfl, rfl⟩
  by_cases h0 : k = 0
  · subst h0
    have R := Lib.hid (show aroundP 0 = 2 from rfl)
    go_enter Try.func28, Try.ntmps28
    go_wp2
    go_ret
    exact ⟨by rw [R.out]; rfl, rfl⟩
  by_cases h3 : k = 3
  · subst h3
    have R := Lib.hid (show aroundP 3 = 2 from rfl)
    go_enter Try.func28, Try.ntmps28
    go_wp2
    go_ret
    exact ⟨by rw [R.out]; rfl, rfl⟩
  by_cases h10 : k = 10
  · subst h10
    have R := Lib.hid (show aroundP 10 = 2 from rfl)
    go_enter Try.func28, Try.ntmps28
    go_wp2
    go_ret
    exact ⟨by rw [R.out]; rfl, rfl⟩
  have R := Lib.hid (show aroundP k = -1 by unfold aroundP; simp [h2, h6, h7, h8, h9, h0, h3, h10])
  have e : ∀ a : Int, ¬ k = a → (k == a) = false := fun a h => by simpa using h
  have e2 := e 2 h2
  have e6 := e 6 h6
  have e7 := e 7 h7
  have e8 := e 8 h8
  have e9 := e 9 h9
  have e0 := e 0 h0
  have e3 := e 3 h3
  have e10 := e 10 h10
  clear e h2 h6 h7 h8 h9 h0 h3 h10
  go_enter Try.func28, Try.ntmps28
  go_wp2
  go_ret
  exact ⟨by rw [R.out]; rfl, rfl⟩
set_option maxHeartbeats 800000 in
theorem refAround_any (k : Int) (w : World) : Calls Try.prog 25 #[.int .i64 k] w fun e W' => e = .returned (.int .i64 (aroundP k)) ∧ w = W' := by
  by_cases h2 : k = 2
  · subst h2
    have R := Lib.hid (show aroundP 2 = 9 from rfl)
    go_enter Try.func25, Try.ntmps25
    go_wp2
    go_ret
    exact ⟨by rw [R.out]; rfl, rfl⟩
  by_cases h6 : k = 6
  · subst h6
    have R := Lib.hid (show aroundP 6 = 9 from rfl)
    go_enter Try.func25, Try.ntmps25
    go_wp2
    go_ret
    exact ⟨by rw [R.out]; rfl, rfl⟩
  by_cases h7 : k = 7
  · subst h7
    have R := Lib.hid (show aroundP 7 = 9 from rfl)
    go_enter Try.func25, Try.ntmps25
    go_wp2
    go_ret
    exact ⟨by rw [R.out]; rfl, rfl⟩
  by_cases h8 : k = 8
  · subst h8
    have R := Lib.hid (show aroundP 8 = 9 from rfl)
    go_enter Try.func25, Try.ntmps25
    go_wp2
    go_ret
    exact ⟨by rw [R.out]; rfl, rfl⟩
  by_cases h9 : k = 9
  · subst h9
    have R := Lib.hid (show aroundP 9 = 10 from rfl)
    go_enter Try.func25, Try.ntmps25
    go_wp2
    go_ret
    exact ⟨by rw [R.out]; rfl, rfl⟩
  by_cases h0 : k = 0
  · subst h0
    have R := Lib.hid (show aroundP 0 = 2 from rfl)
    go_enter Try.func25, Try.ntmps25
    go_wp2
    go_ret
    exact ⟨by rw [R.out]; rfl, rfl⟩
  by_cases h3 : k = 3
  · subst h3
    have R := Lib.hid (show aroundP 3 = 2 from rfl)
    go_enter Try.func25, Try.ntmps25
    go_wp2
    go_ret
    exact ⟨by rw [R.out]; rfl, rfl⟩
  by_cases h10 : k = 10
  · subst h10
    have R := Lib.hid (show aroundP 10 = 2 from rfl)
    go_enter Try.func25, Try.ntmps25
    go_wp2
    go_ret
    exact ⟨by rw [R.out]; rfl, rfl⟩
  have R := Lib.hid (show aroundP k = -1 by unfold aroundP; simp [h2, h6, h7, h8, h9, h0, h3, h10])
  have e : ∀ a : Int, ¬ k = a → (k == a) = false := fun a h => by simpa using h
  have e2 := e 2 h2
  have e6 := e 6 h6
  have e7 := e 7 h7
  have e8 := e 8 h8
  have e9 := e 9 h9
  have e0 := e 0 h0
  have e3 := e 3 h3
  have e10 := e 10 h10
  clear e h2 h6 h7 h8 h9 h0 h3 h10
  go_enter Try.func25, Try.ntmps25
  go_wp2
  go_ret
  exact ⟨by rw [R.out]; rfl, rfl⟩
theorem has_of (m j : Int) (b : Bool) (h : b = hasB m j) : hasB m j = b := h.symm
theorem has_in {m j : Int} (h0 : 0 ≤ j) (h1 : j ≤ 10) (f : Int → Bool) (hf : ∀ i ∈ [0, 1, 2, 3, 4, 5, 6, 7, 8, 9, 10], hasB m i = f i) : hasB m j = f j := by
  apply hf
  simp only [List.mem_cons, List.not_mem_nil, or_false]; omega
theorem has_out {m j : Int} (hm : 0 ≤ m) (hm2 : m ≤ 2047) (h : j < 0 ∨ 10 < j) : hasB m j = false := by
  unfold hasB
  rcases h with h | h
  · simp [show ¬ 0 ≤ j by omega]
  · have e : m / 2 ^ min j.toNat 64 = 0 := by
      apply Int.ediv_eq_zero_of_lt hm
      have : (2 : Int) ^ 11 ≤ 2 ^ min j.toNat 64 := by
        have h2 : 11 ≤ min j.toNat 64 := by omega
        have h3 := Nat.pow_le_pow_right (show 0 < 2 by omega) h2
        exact_mod_cast h3
      omega
    rw [e]
    have : (bits BinOp.and IntKind.u64 0 1 == 1) = false := by decide
    rw [this]; simp
theorem permM_le (k : Int) : permM k ≤ 2047 := by unfold permM; repeat' split
                                                  all_goals omega
set_option maxHeartbeats 800000 in
theorem refMay_2 (j : Int) (w : World) (h0 : 0 ≤ j) (h1 : j ≤ 10) : Calls Try.prog 24 #[.int .i64 2, .int .i64 j] w fun e W' => e = .returned (.bool (mayP 2 j)) ∧ w = W' := by
  have R0 : mayP 2 j = (decide (3 ≤ j) && decide (j ≤ 9)) := has_in (m := permM 2) h0 h1 (fun j => decide (3 ≤ j) && decide (j ≤ 9)) (by decide)
  by_cases c : 3 ≤ j
  · by_cases d : j ≤ 9
    · have R := Lib.hid (show mayP 2 j = true by rw [R0]; simp; omega)
      clear R0
      go_enter Try.func24, Try.ntmps24
      go_wp2
      go_ret
      exact ⟨by rw [R.out]; rfl, rfl⟩
    · have R := Lib.hid (show mayP 2 j = false by rw [R0]; simp; omega)
      clear R0
      go_enter Try.func24, Try.ntmps24
      go_wp2
      go_ret
      exact ⟨by rw [R.out]; rfl, rfl⟩
  · have R := Lib.hid (show mayP 2 j = false by rw [R0]; simp; omega)
    clear R0
    go_enter Try.func24, Try.ntmps24
    go_wp2
    go_ret
    exact ⟨by rw [R.out]; rfl, rfl⟩
set_option maxHeartbeats 800000 in
theorem refMay_6 (j : Int) (w : World) (h0 : 0 ≤ j) (h1 : j ≤ 10) : Calls Try.prog 24 #[.int .i64 6, .int .i64 j] w fun e W' => e = .returned (.bool (mayP 6 j)) ∧ w = W' := by
  have R := Lib.hid (show mayP 6 j = (j == 9) from has_in (m := permM 6) h0 h1 (fun j => j == 9) (by decide))
  go_enter Try.func24, Try.ntmps24
  go_wp2
  go_ret
  exact ⟨by rw [R.out]; rfl, rfl⟩
set_option maxHeartbeats 800000 in
theorem refMay_7 (j : Int) (w : World) (h0 : 0 ≤ j) (h1 : j ≤ 10) : Calls Try.prog 24 #[.int .i64 7, .int .i64 j] w fun e W' => e = .returned (.bool (mayP 7 j)) ∧ w = W' := by
  have R := Lib.hid (show mayP 7 j = (j == 9) from has_in (m := permM 7) h0 h1 (fun j => j == 9) (by decide))
  go_enter Try.func24, Try.ntmps24
  go_wp2
  go_ret
  exact ⟨by rw [R.out]; rfl, rfl⟩
set_option maxHeartbeats 800000 in
theorem refMay_8 (j : Int) (w : World) (h0 : 0 ≤ j) (h1 : j ≤ 10) : Calls Try.prog 24 #[.int .i64 8, .int .i64 j] w fun e W' => e = .returned (.bool (mayP 8 j)) ∧ w = W' := by
  have R := Lib.hid (show mayP 8 j = (j == 9) from has_in (m := permM 8) h0 h1 (fun j => j == 9) (by decide))
  go_enter Try.func24, Try.ntmps24
  go_wp2
  go_ret
  exact ⟨by rw [R.out]; rfl, rfl⟩
set_option maxHeartbeats 800000 in
theorem refMay_9 (j : Int) (w : World) (h0 : 0 ≤ j) (h1 : j ≤ 10) : Calls Try.prog 24 #[.int .i64 9, .int .i64 j] w fun e W' => e = .returned (.bool (mayP 9 j)) ∧ w = W' := by
  have R := Lib.hid (show mayP 9 j = (j == 10) from has_in (m := permM 9) h0 h1 (fun j => j == 10) (by decide))
  go_enter Try.func24, Try.ntmps24
  go_wp2
  go_ret
  exact ⟨by rw [R.out]; rfl, rfl⟩
set_option maxHeartbeats 800000 in
theorem refMay_4 (j : Int) (w : World) (h0 : 0 ≤ j) (h1 : j ≤ 10) : Calls Try.prog 24 #[.int .i64 4, .int .i64 j] w fun e W' => e = .returned (.bool (mayP 4 j)) ∧ w = W' := by
  have R := Lib.hid (show mayP 4 j = true from has_in (m := permM 4) h0 h1 (fun j => true) (by decide))
  go_enter Try.func24, Try.ntmps24
  go_wp2
  go_ret
  exact ⟨by rw [R.out]; rfl, rfl⟩
set_option maxHeartbeats 800000 in
theorem refMay_0 (j : Int) (w : World) (h0 : 0 ≤ j) (h1 : j ≤ 10) : Calls Try.prog 24 #[.int .i64 0, .int .i64 j] w fun e W' => e = .returned (.bool (mayP 0 j)) ∧ w = W' := by
  have R0 : mayP 0 j = decide (j = 0 ∨ j = 1 ∨ j = 2) := has_in (m := permM 0) h0 h1 (fun j => decide (j = 0 ∨ j = 1 ∨ j = 2)) (by decide)
  by_cases c0 : j = 0
  · subst c0
    have R := Lib.hid (show mayP 0 0 = true by rw [R0]; rfl)
    clear R0
    go_enter Try.func24, Try.ntmps24
    go_wp2
    go_ret
    exact ⟨by rw [R.out]; rfl, rfl⟩
  by_cases c1 : j = 1
  · subst c1
    have R := Lib.hid (show mayP 0 1 = true by rw [R0]; rfl)
    clear R0
    go_enter Try.func24, Try.ntmps24
    go_wp2
    go_ret
    exact ⟨by rw [R.out]; rfl, rfl⟩
  by_cases c2 : j = 2
  · subst c2
    have R := Lib.hid (show mayP 0 2 = true by rw [R0]; rfl)
    clear R0
    go_enter Try.func24, Try.ntmps24
    go_wp2
    go_ret
    exact ⟨by rw [R.out]; rfl, rfl⟩
  have R := Lib.hid (show mayP 0 j = false by rw [R0]; simp [c0, c1, c2])
  clear R0
  have e0 : (j == 0) = false := by simpa using c0
  have e1 : (j == 1) = false := by simpa using c1
  have e2 : (j == 2) = false := by simpa using c2
  clear c0 c1 c2
  go_enter Try.func24, Try.ntmps24
  go_wp2
  go_ret
  exact ⟨by rw [R.out]; rfl, rfl⟩
set_option maxHeartbeats 800000 in
theorem refMay_3 (j : Int) (w : World) (h0 : 0 ≤ j) (h1 : j ≤ 10) : Calls Try.prog 24 #[.int .i64 3, .int .i64 j] w fun e W' => e = .returned (.bool (mayP 3 j)) ∧ w = W' := by
  have R0 : mayP 3 j = decide (j = 0 ∨ j = 1 ∨ j = 2) := has_in (m := permM 3) h0 h1 (fun j => decide (j = 0 ∨ j = 1 ∨ j = 2)) (by decide)
  by_cases c0 : j = 0
  · subst c0
    have R := Lib.hid (show mayP 3 0 = true by rw [R0]; rfl)
    clear R0
    go_enter Try.func24, Try.ntmps24
    go_wp2
    go_ret
    exact ⟨by rw [R.out]; rfl, rfl⟩
  by_cases c1 : j = 1
  · subst c1
    have R := Lib.hid (show mayP 3 1 = true by rw [R0]; rfl)
    clear R0
    go_enter Try.func24, Try.ntmps24
    go_wp2
    go_ret
    exact ⟨by rw [R.out]; rfl, rfl⟩
  by_cases c2 : j = 2
  · subst c2
    have R := Lib.hid (show mayP 3 2 = true by rw [R0]; rfl)
    clear R0
    go_enter Try.func24, Try.ntmps24
    go_wp2
    go_ret
    exact ⟨by rw [R.out]; rfl, rfl⟩
  have R := Lib.hid (show mayP 3 j = false by rw [R0]; simp [c0, c1, c2])
  clear R0
  have e0 : (j == 0) = false := by simpa using c0
  have e1 : (j == 1) = false := by simpa using c1
  have e2 : (j == 2) = false := by simpa using c2
  clear c0 c1 c2
  go_enter Try.func24, Try.ntmps24
  go_wp2
  go_ret
  exact ⟨by rw [R.out]; rfl, rfl⟩
set_option maxHeartbeats 800000 in
theorem refMay_10 (j : Int) (w : World) (h0 : 0 ≤ j) (h1 : j ≤ 10) : Calls Try.prog 24 #[.int .i64 10, .int .i64 j] w fun e W' => e = .returned (.bool (mayP 10 j)) ∧ w = W' := by
  have R0 : mayP 10 j = decide (j = 0 ∨ j = 1 ∨ j = 2) := has_in (m := permM 10) h0 h1 (fun j => decide (j = 0 ∨ j = 1 ∨ j = 2)) (by decide)
  by_cases c0 : j = 0
  · subst c0
    have R := Lib.hid (show mayP 10 0 = true by rw [R0]; rfl)
    clear R0
    go_enter Try.func24, Try.ntmps24
    go_wp2
    go_ret
    exact ⟨by rw [R.out]; rfl, rfl⟩
  by_cases c1 : j = 1
  · subst c1
    have R := Lib.hid (show mayP 10 1 = true by rw [R0]; rfl)
    clear R0
    go_enter Try.func24, Try.ntmps24
    go_wp2
    go_ret
    exact ⟨by rw [R.out]; rfl, rfl⟩
  by_cases c2 : j = 2
  · subst c2
    have R := Lib.hid (show mayP 10 2 = true by rw [R0]; rfl)
    clear R0
    go_enter Try.func24, Try.ntmps24
    go_wp2
    go_ret
    exact ⟨by rw [R.out]; rfl, rfl⟩
  have R := Lib.hid (show mayP 10 j = false by rw [R0]; simp [c0, c1, c2])
  clear R0
  have e0 : (j == 0) = false := by simpa using c0
  have e1 : (j == 1) = false := by simpa using c1
  have e2 : (j == 2) = false := by simpa using c2
  clear c0 c1 c2
  go_enter Try.func24, Try.ntmps24
  go_wp2
  go_ret
  exact ⟨by rw [R.out]; rfl, rfl⟩
set_option maxHeartbeats 800000 in
theorem refMay_any (k j : Int) (w : World) : Calls Try.prog 24 #[.int .i64 k, .int .i64 j] w fun e W' => e = .returned (.bool (mayP k j)) ∧ w = W' := by
  by_cases h0 : 0 ≤ j
  · by_cases h1 : j ≤ 10
    · by_cases hk : k = 2 ∨ k = 6 ∨ k = 7 ∨ k = 8 ∨ k = 9 ∨ k = 4 ∨ k = 0 ∨ k = 3 ∨ k = 10
      · rcases hk with rfl | rfl | rfl | rfl | rfl | rfl | rfl | rfl | rfl
        · exact refMay_2 j w h0 h1
        · exact refMay_6 j w h0 h1
        · exact refMay_7 j w h0 h1
        · exact refMay_8 j w h0 h1
        · exact refMay_9 j w h0 h1
        · exact refMay_4 j w h0 h1
        · exact refMay_0 j w h0 h1
        · exact refMay_3 j w h0 h1
        · exact refMay_10 j w h0 h1
      · have R := Lib.hid (show mayP k j = false by
          have : permM k = 0 := by unfold permM; repeat' split
                                   all_goals omega
          unfold mayP
          rw [this]
          exact has_in (m := 0) h0 h1 (fun _ => false) (by decide))
        have e : ∀ a : Int, ¬ k = a → (k == a) = false := fun a h => by simpa using h
        have e2 := e 2 (by omega)
        have e6 := e 6 (by omega)
        have e7 := e 7 (by omega)
        have e8 := e 8 (by omega)
        have e9 := e 9 (by omega)
        have e4 := e 4 (by omega)
        have e0 := e 0 (by omega)
        have e3 := e 3 (by omega)
        have e10 := e 10 (by omega)
        clear e hk
        go_enter Try.func24, Try.ntmps24
        go_wp2
        go_ret
        exact ⟨by rw [R.out]; rfl, rfl⟩
    · have R := Lib.hid (show mayP k j = false from has_out (permM_pos k) (permM_le k) (.inr (by omega)))
      go_enter Try.func24, Try.ntmps24
      go_wp2
      go_ret
      exact ⟨by rw [R.out]; rfl, rfl⟩
  · have R := Lib.hid (show mayP k j = false from has_out (permM_pos k) (permM_le k) (.inl (by omega)))
    go_enter Try.func24, Try.ntmps24
    go_wp2
    go_ret
    exact ⟨by rw [R.out]; rfl, rfl⟩
end Go.Proofs.Ytecnapecmioamaa
