/- Contract of tree.Check: what is wrong with a page, and where. -/
import Derived.Test.YtecnapecmioamaaTDepths
namespace Go.Proofs.Ytecnapecmioamaa
open Go.RowKit Go.Shelf
set_option linter.unusedVariables false
attribute [local go_sem] Oper.semAt_some

/-- depths of a page's nodes, 0 for what is not reached -/
def depthsP (ns : List Nd) : List Int := depL ns.length (walkL ns.length (kfOf ns))
def strayP (ns : List Nd) : Int := idxI strayB ((tms ns.length (kidsOf ns)).zip (depthsP ns))
/-- what tree.Check answers -/
def checkP (ns : List Nd) : Int × Int :=
  if ¬ (1 ≤ ns.length ∧ ns.length ≤ 65536) then (0, 43)
  else if 0 ≤ idxI wrongN ns then (idxI wrongN ns, 50)
  else if 0 ≤ idxI (unlinkedN ns.length) ns then (idxI (unlinkedN ns.length) ns, 40)
  else if 0 ≤ strayP ns then (strayP ns, 41)
  else if 0 ≤ idxI deepB (depthsP ns) then (idxI deepB (depthsP ns), 42)
  else (0, 0)
theorem linked {ns : List Nd} {m : Nat} (h : idxI (unlinkedN m) ns < 0) : ∀ n ∈ ns, ∀ z ∈ n.ks, 1 ≤ z ∧ z < (m : Int) := fun n hn z hz => by
  have := (idxI_neg _ _).1 h
  rw [List.any_eq_false] at this
  have h1 := this n hn
  unfold unlinkedN at h1
  rw [Bool.not_eq_true, List.any_eq_false] at h1
  have h2 := outB_false (by simpa using h1 z hz)
  omega
theorem idxI_nneg {α : Type} (p : α → Bool) (l : List α) (h : ¬ 0 ≤ idxI p l) : idxI p l = -1 := idxI_none p l ((idxI_neg p l).1 (by omega))
def JC (p : Option Addr) (m cap : Nat) (a b : Int) (w : World) : Act → World → Prop := fun act X => ∃ x1 x4 x7 x8 x9 x10 x11 x12 x13 x14 x15 x16 x17 x18 x19 x20 x21 x22 x23 x24 x25 x26 x27 x28 x29 x30 x31 x32 : Value, act = { tmps := #[.slice p m cap, x1, .int .i64 0, .int .i64 0, x4, .int .i64 a, .int .i64 b, x7, x8, x9, x10, x11, x12, x13, x14, x15, x16, x17, x18, x19, x20, x21, x22, x23, x24, x25, x26, x27, x28, x29, x30, x31, x32], defers := [] } ∧ Hid (Below w.heap.size w X)
theorem page_some {W : World} {p : Option Addr} {m cap : Nat} {ns : List Nd} (h : PageAt W (.slice p m cap) ns) (hm : 1 ≤ ns.length) : ∃ b off, p = some ⟨b, off, none⟩ ∧ ∀ i n, ns[i]? = some n → NdAt W b (off + i * 34) n := by
  obtain ⟨_, _, ⟨a, c, e, rfl⟩ | ⟨b, off, c, e, hc⟩⟩ := h
  · simp at hm
  · injection e with e1 e2 e3; exact ⟨b, off, e1, hc⟩
theorem depthsP_ints {W : World} {g m : Nat} {ns : List Nd} (hm : ns.length = m) (hm2 : m ≤ 65536) (h : Whole W g 3 ((depthsP ns).map (Value.int .i64))) : Ints W (.slice (some ⟨g, 0, none⟩) m m) (depthsP ns) :=
  Ints.whole h (by unfold depthsP; rw [depL_len, hm]) (by omega)
set_option maxRecDepth 100000 in
set_option maxHeartbeats 2000000 in
theorem check1 (p : Option Addr) (m cap : Nat) (w : World) (hs : m ≤ 9223372036854775807) (a b : Int) (ha : a = 0) (hb : b = 43) (hw2 : Hid (∀ sv X, Ints X sv [(m : Int)] → Calls Try.prog 29 #[.int .i64 1, .int .i64 65536, sv] X fun e w' => e = .returned (.bool false) ∧ Below X.heap.size X w')) :
    Calls Try.prog 16 #[.slice p m cap] w fun e W' => e = .returned (.tuple #[.int .i64 a, .int .i64 b]) ∧ Below w.heap.size w W' := by
  subst ha hb
  go_enter Try.func16, Try.ntmps16
  go_wp2
  refine wp_scope_jumps 0 (JC p m cap 0 43 w) (fun _ _ => 0) rfl ?_ ?_
  · go_wp2_with (go_at_call 29; refine (hw2.out _ _ (Ints.whole (t := 3) (whole_new _ _ _ _ (by simp)) rfl (by simp))).mono ?_; clear hw2; rintro e w1 ⟨rfl, hb1⟩; have B1 := Lib.hid (((Below.refl _ w).alloc (Nat.le_refl _) _).trans (hb1.mono (by simp))); clear hb1)
    apply wp_goto
    exact ⟨rfl, _, _, _, _, _, _, _, _, _, _, _, _, _, _, _, _, _, _, _, _, _, _, _, _, _, _, _, _, rfl, B1⟩
  · rintro a' X ⟨x1, x4, x7, x8, x9, x10, x11, x12, x13, x14, x15, x16, x17, x18, x19, x20, x21, x22, x23, x24, x25, x26, x27, x28, x29, x30, x31, x32, rfl, HB⟩
    go_wp2
    simp only [Exit.jump]
    refine bodyPost_ret (v := .tuple #[.int .i64 0, .int .i64 43]) (by simp [results, Try.results16, go_sem]) rfl ⟨rfl, HB.out⟩
set_option maxRecDepth 100000 in
set_option maxHeartbeats 2000000 in
theorem check2 (p : Option Addr) (m cap : Nat) (w : World) (hs : m ≤ 9223372036854775807) (a b : Int) (hb : b = 50) (ha : 0 ≤ a) (hw2 : Hid (∀ sv X, Ints X sv [(m : Int)] → Calls Try.prog 29 #[.int .i64 1, .int .i64 65536, sv] X fun e w' => e = .returned (.bool true) ∧ Below X.heap.size X w')) (H2 : Hid (∀ X : World, Below w.heap.size w X → Calls Try.prog 30 #[.slice p m cap, .func (.func 31) #[] #[]] X fun e W' => e = .returned (.int .i64 a) ∧ Below X.heap.size X W')) :
    Calls Try.prog 16 #[.slice p m cap] w fun e W' => e = .returned (.tuple #[.int .i64 a, .int .i64 b]) ∧ Below w.heap.size w W' := by
  subst hb
  go_enter Try.func16, Try.ntmps16
  go_wp2
  refine wp_scope_jumps 0 (JC p m cap a 50 w) (fun _ _ => 0) rfl ?_ ?_
  · go_wp2_with (first
        | (go_at_call 29; refine (hw2.out _ _ (Ints.whole (t := 3) (whole_new _ _ _ _ (by simp)) rfl (by simp))).mono ?_; clear hw2; rintro e w1 ⟨rfl, hb1⟩; have B1 := Lib.hid (((Below.refl _ w).alloc (Nat.le_refl _) _).trans (hb1.mono (by simp))); clear hb1)
        | (go_at_call 30; refine (H2.out _ B1.out).mono ?_; clear H2; rintro e w2 ⟨rfl, hb2⟩; have B2 := Lib.hid (B1.out.trans (hb2.mono B1.out.size)); clear hb2 B1))
    apply wp_goto
    exact ⟨rfl, _, _, _, _, _, _, _, _, _, _, _, _, _, _, _, _, _, _, _, _, _, _, _, _, _, _, _, _, rfl, B2⟩
  · rintro a' X ⟨x1, x4, x7, x8, x9, x10, x11, x12, x13, x14, x15, x16, x17, x18, x19, x20, x21, x22, x23, x24, x25, x26, x27, x28, x29, x30, x31, x32, rfl, HB⟩
    go_wp2
    simp only [Exit.jump]
    refine bodyPost_ret (v := .tuple #[.int .i64 a, .int .i64 50]) (by simp [results, Try.results16, go_sem]) rfl ⟨rfl, HB.out⟩
set_option maxRecDepth 100000 in
set_option maxHeartbeats 2000000 in
theorem check3 (p : Option Addr) (m cap : Nat) (w : World) (hs : m ≤ 9223372036854775807) (a b : Int) (hb : b = 40) (ha : 0 ≤ a) (hw2 : Hid (∀ sv X, Ints X sv [(m : Int)] → Calls Try.prog 29 #[.int .i64 1, .int .i64 65536, sv] X fun e w' => e = .returned (.bool true) ∧ Below X.heap.size X w')) (H2 : Hid (∀ X : World, Below w.heap.size w X → Calls Try.prog 30 #[.slice p m cap, .func (.func 31) #[] #[]] X fun e W' => e = .returned (.int .i64 (-1)) ∧ Below X.heap.size X W')) (H3 : Hid (∀ X : World, Below w.heap.size w X → Calls Try.prog 32 #[.slice p m cap] X fun e W' => e = .returned (.int .i64 a) ∧ Below X.heap.size X W')) :
    Calls Try.prog 16 #[.slice p m cap] w fun e W' => e = .returned (.tuple #[.int .i64 a, .int .i64 b]) ∧ Below w.heap.size w W' := by
  subst hb
  go_enter Try.func16, Try.ntmps16
  go_wp2
  refine wp_scope_jumps 0 (JC p m cap a 40 w) (fun _ _ => 0) rfl ?_ ?_
  · go_wp2_with (first
        | (go_at_call 29; refine (hw2.out _ _ (Ints.whole (t := 3) (whole_new _ _ _ _ (by simp)) rfl (by simp))).mono ?_; clear hw2; rintro e w1 ⟨rfl, hb1⟩; have B1 := Lib.hid (((Below.refl _ w).alloc (Nat.le_refl _) _).trans (hb1.mono (by simp))); clear hb1)
        | (go_at_call 30; refine (H2.out _ B1.out).mono ?_; clear H2; rintro e w2 ⟨rfl, hb2⟩; have B2 := Lib.hid (B1.out.trans (hb2.mono B1.out.size)); clear hb2 B1)
        | (go_at_call 32; refine (H3.out _ B2.out).mono ?_; clear H3; rintro e w3 ⟨rfl, hb3⟩; have B3 := Lib.hid (B2.out.trans (hb3.mono B2.out.size)); clear hb3 B2))
    apply wp_goto
    exact ⟨rfl, _, _, _, _, _, _, _, _, _, _, _, _, _, _, _, _, _, _, _, _, _, _, _, _, _, _, _, _, rfl, B3⟩
  · rintro a' X ⟨x1, x4, x7, x8, x9, x10, x11, x12, x13, x14, x15, x16, x17, x18, x19, x20, x21, x22, x23, x24, x25, x26, x27, x28, x29, x30, x31, x32, rfl, HB⟩
    go_wp2
    simp only [Exit.jump]
    refine bodyPost_ret (v := .tuple #[.int .i64 a, .int .i64 40]) (by simp [results, Try.results16, go_sem]) rfl ⟨rfl, HB.out⟩
set_option maxRecDepth 100000 in
set_option maxHeartbeats 2000000 in
theorem check4 (p : Option Addr) (m cap : Nat) (w : World) (hs : m ≤ 9223372036854775807) (a b : Int) (hb : b = 41) (ha : 0 ≤ a) (hw2 : Hid (∀ sv X, Ints X sv [(m : Int)] → Calls Try.prog 29 #[.int .i64 1, .int .i64 65536, sv] X fun e w' => e = .returned (.bool true) ∧ Below X.heap.size X w')) (H2 : Hid (∀ X : World, Below w.heap.size w X → Calls Try.prog 30 #[.slice p m cap, .func (.func 31) #[] #[]] X fun e W' => e = .returned (.int .i64 (-1)) ∧ Below X.heap.size X W')) (H3 : Hid (∀ X : World, Below w.heap.size w X → Calls Try.prog 32 #[.slice p m cap] X fun e W' => e = .returned (.int .i64 (-1)) ∧ Below X.heap.size X W')) (zs : List Value) (H4 : Hid (∀ X : World, Below w.heap.size w X → Calls Try.prog 33 #[.slice p m cap] X fun e W' => e = .returned (.slice (some ⟨X.heap.size, 0, none⟩) m m) ∧ Whole W' X.heap.size 3 zs ∧ Below X.heap.size X W')) (H5 : Hid (∀ (X : World) (g : Nat), Below w.heap.size w X → Whole X g 3 zs → Calls Try.prog 34 #[.slice p m cap, .slice (some ⟨g, 0, none⟩) m m] X fun e W' => e = .returned (.int .i64 a) ∧ Below X.heap.size X W')) :
    Calls Try.prog 16 #[.slice p m cap] w fun e W' => e = .returned (.tuple #[.int .i64 a, .int .i64 b]) ∧ Below w.heap.size w W' := by
  subst hb
  go_enter Try.func16, Try.ntmps16
  go_wp2
  refine wp_scope_jumps 0 (JC p m cap a 41 w) (fun _ _ => 0) rfl ?_ ?_
  · go_wp2_with (first
        | (go_at_call 29; refine (hw2.out _ _ (Ints.whole (t := 3) (whole_new _ _ _ _ (by simp)) rfl (by simp))).mono ?_; clear hw2; rintro e w1 ⟨rfl, hb1⟩; have B1 := Lib.hid (((Below.refl _ w).alloc (Nat.le_refl _) _).trans (hb1.mono (by simp))); clear hb1)
        | (go_at_call 30; refine (H2.out _ B1.out).mono ?_; clear H2; rintro e w2 ⟨rfl, hb2⟩; have B2 := Lib.hid (B1.out.trans (hb2.mono B1.out.size)); clear hb2 B1)
        | (go_at_call 32; refine (H3.out _ B2.out).mono ?_; clear H3; rintro e w3 ⟨rfl, hb3⟩; have B3 := Lib.hid (B2.out.trans (hb3.mono B2.out.size)); clear hb3 B2)
        | (go_at_call 33; refine (H4.out _ B3.out).mono ?_; clear H4; rintro e w4 ⟨rfl, hd4, hb4⟩; have B4 := Lib.hid (B3.out.trans (hb4.mono B3.out.size)); have K4 := Lib.hid hd4; clear hb4 hd4)
        | (go_at_call 34; refine (H5.out _ _ B4.out K4.out).mono ?_; clear H5; rintro e w5 ⟨rfl, hb5⟩; have B5 := Lib.hid (B4.out.trans (hb5.mono B4.out.size)); have K5 := Lib.hid (K4.out.below hb5 K4.out.lt); clear hb5 B4 K4))
    apply wp_goto
    exact ⟨rfl, _, _, _, _, _, _, _, _, _, _, _, _, _, _, _, _, _, _, _, _, _, _, _, _, _, _, _, _, rfl, B5⟩
  · rintro a' X ⟨x1, x4, x7, x8, x9, x10, x11, x12, x13, x14, x15, x16, x17, x18, x19, x20, x21, x22, x23, x24, x25, x26, x27, x28, x29, x30, x31, x32, rfl, HB⟩
    go_wp2
    simp only [Exit.jump]
    refine bodyPost_ret (v := .tuple #[.int .i64 a, .int .i64 41]) (by simp [results, Try.results16, go_sem]) rfl ⟨rfl, HB.out⟩
set_option maxRecDepth 100000 in
set_option maxHeartbeats 2000000 in
theorem check5 (p : Option Addr) (m cap : Nat) (w : World) (hs : m ≤ 9223372036854775807) (a b : Int) (hb : b = 42) (ha : 0 ≤ a) (hw2 : Hid (∀ sv X, Ints X sv [(m : Int)] → Calls Try.prog 29 #[.int .i64 1, .int .i64 65536, sv] X fun e w' => e = .returned (.bool true) ∧ Below X.heap.size X w')) (H2 : Hid (∀ X : World, Below w.heap.size w X → Calls Try.prog 30 #[.slice p m cap, .func (.func 31) #[] #[]] X fun e W' => e = .returned (.int .i64 (-1)) ∧ Below X.heap.size X W')) (H3 : Hid (∀ X : World, Below w.heap.size w X → Calls Try.prog 32 #[.slice p m cap] X fun e W' => e = .returned (.int .i64 (-1)) ∧ Below X.heap.size X W')) (zs : List Value) (H4 : Hid (∀ X : World, Below w.heap.size w X → Calls Try.prog 33 #[.slice p m cap] X fun e W' => e = .returned (.slice (some ⟨X.heap.size, 0, none⟩) m m) ∧ Whole W' X.heap.size 3 zs ∧ Below X.heap.size X W')) (H5 : Hid (∀ (X : World) (g : Nat), Below w.heap.size w X → Whole X g 3 zs → Calls Try.prog 34 #[.slice p m cap, .slice (some ⟨g, 0, none⟩) m m] X fun e W' => e = .returned (.int .i64 (-1)) ∧ Below X.heap.size X W')) (H6 : Hid (∀ (X : World) (g : Nat), Whole X g 3 zs → Calls Try.prog 35 #[.slice (some ⟨g, 0, none⟩) m m, .func (.func 36) #[] #[]] X fun e W' => e = .returned (.int .i64 a) ∧ X = W')) :
    Calls Try.prog 16 #[.slice p m cap] w fun e W' => e = .returned (.tuple #[.int .i64 a, .int .i64 b]) ∧ Below w.heap.size w W' := by
  subst hb
  go_enter Try.func16, Try.ntmps16
  go_wp2
  refine wp_scope_jumps 0 (JC p m cap a 42 w) (fun _ _ => 0) rfl ?_ ?_
  · go_wp2_with (first
        | (go_at_call 29; refine (hw2.out _ _ (Ints.whole (t := 3) (whole_new _ _ _ _ (by simp)) rfl (by simp))).mono ?_; clear hw2; rintro e w1 ⟨rfl, hb1⟩; have B1 := Lib.hid (((Below.refl _ w).alloc (Nat.le_refl _) _).trans (hb1.mono (by simp))); clear hb1)
        | (go_at_call 30; refine (H2.out _ B1.out).mono ?_; clear H2; rintro e w2 ⟨rfl, hb2⟩; have B2 := Lib.hid (B1.out.trans (hb2.mono B1.out.size)); clear hb2 B1)
        | (go_at_call 32; refine (H3.out _ B2.out).mono ?_; clear H3; rintro e w3 ⟨rfl, hb3⟩; have B3 := Lib.hid (B2.out.trans (hb3.mono B2.out.size)); clear hb3 B2)
        | (go_at_call 33; refine (H4.out _ B3.out).mono ?_; clear H4; rintro e w4 ⟨rfl, hd4, hb4⟩; have B4 := Lib.hid (B3.out.trans (hb4.mono B3.out.size)); have K4 := Lib.hid hd4; clear hb4 hd4)
        | (go_at_call 34; refine (H5.out _ _ B4.out K4.out).mono ?_; clear H5; rintro e w5 ⟨rfl, hb5⟩; have B5 := Lib.hid (B4.out.trans (hb5.mono B4.out.size)); have K5 := Lib.hid (K4.out.below hb5 K4.out.lt); clear hb5 B4 K4)
        | (go_at_call 35; refine (H6.out _ _ K5.out).mono ?_; clear H6; rintro e w6 ⟨rfl, rfl⟩))
    apply wp_goto
    exact ⟨rfl, _, _, _, _, _, _, _, _, _, _, _, _, _, _, _, _, _, _, _, _, _, _, _, _, _, _, _, _, rfl, B5⟩
  · rintro a' X ⟨x1, x4, x7, x8, x9, x10, x11, x12, x13, x14, x15, x16, x17, x18, x19, x20, x21, x22, x23, x24, x25, x26, x27, x28, x29, x30, x31, x32, rfl, HB⟩
    go_wp2
    simp only [Exit.jump]
    refine bodyPost_ret (v := .tuple #[.int .i64 a, .int .i64 42]) (by simp [results, Try.results16, go_sem]) rfl ⟨rfl, HB.out⟩
set_option maxRecDepth 100000 in
set_option maxHeartbeats 2000000 in
theorem check6 (p : Option Addr) (m cap : Nat) (w : World) (hs : m ≤ 9223372036854775807) (a b : Int) (ha : a = 0) (hb : b = 0) (hw2 : Hid (∀ sv X, Ints X sv [(m : Int)] → Calls Try.prog 29 #[.int .i64 1, .int .i64 65536, sv] X fun e w' => e = .returned (.bool true) ∧ Below X.heap.size X w')) (H2 : Hid (∀ X : World, Below w.heap.size w X → Calls Try.prog 30 #[.slice p m cap, .func (.func 31) #[] #[]] X fun e W' => e = .returned (.int .i64 (-1)) ∧ Below X.heap.size X W')) (H3 : Hid (∀ X : World, Below w.heap.size w X → Calls Try.prog 32 #[.slice p m cap] X fun e W' => e = .returned (.int .i64 (-1)) ∧ Below X.heap.size X W')) (zs : List Value) (H4 : Hid (∀ X : World, Below w.heap.size w X → Calls Try.prog 33 #[.slice p m cap] X fun e W' => e = .returned (.slice (some ⟨X.heap.size, 0, none⟩) m m) ∧ Whole W' X.heap.size 3 zs ∧ Below X.heap.size X W')) (H5 : Hid (∀ (X : World) (g : Nat), Below w.heap.size w X → Whole X g 3 zs → Calls Try.prog 34 #[.slice p m cap, .slice (some ⟨g, 0, none⟩) m m] X fun e W' => e = .returned (.int .i64 (-1)) ∧ Below X.heap.size X W')) (H6 : Hid (∀ (X : World) (g : Nat), Whole X g 3 zs → Calls Try.prog 35 #[.slice (some ⟨g, 0, none⟩) m m, .func (.func 36) #[] #[]] X fun e W' => e = .returned (.int .i64 (-1)) ∧ X = W')) :
    Calls Try.prog 16 #[.slice p m cap] w fun e W' => e = .returned (.tuple #[.int .i64 a, .int .i64 b]) ∧ Below w.heap.size w W' := by
  subst ha hb
  go_enter Try.func16, Try.ntmps16
  go_wp2
  refine wp_scope_jumps 0 (JC p m cap 0 0 w) (fun _ _ => 0) rfl ?_ ?_
  · go_wp2_with (first
        | (go_at_call 29; refine (hw2.out _ _ (Ints.whole (t := 3) (whole_new _ _ _ _ (by simp)) rfl (by simp))).mono ?_; clear hw2; rintro e w1 ⟨rfl, hb1⟩; have B1 := Lib.hid (((Below.refl _ w).alloc (Nat.le_refl _) _).trans (hb1.mono (by simp))); clear hb1)
        | (go_at_call 30; refine (H2.out _ B1.out).mono ?_; clear H2; rintro e w2 ⟨rfl, hb2⟩; have B2 := Lib.hid (B1.out.trans (hb2.mono B1.out.size)); clear hb2 B1)
        | (go_at_call 32; refine (H3.out _ B2.out).mono ?_; clear H3; rintro e w3 ⟨rfl, hb3⟩; have B3 := Lib.hid (B2.out.trans (hb3.mono B2.out.size)); clear hb3 B2)
        | (go_at_call 33; refine (H4.out _ B3.out).mono ?_; clear H4; rintro e w4 ⟨rfl, hd4, hb4⟩; have B4 := Lib.hid (B3.out.trans (hb4.mono B3.out.size)); have K4 := Lib.hid hd4; clear hb4 hd4)
        | (go_at_call 34; refine (H5.out _ _ B4.out K4.out).mono ?_; clear H5; rintro e w5 ⟨rfl, hb5⟩; have B5 := Lib.hid (B4.out.trans (hb5.mono B4.out.size)); have K5 := Lib.hid (K4.out.below hb5 K4.out.lt); clear hb5 B4 K4)
        | (go_at_call 35; refine (H6.out _ _ K5.out).mono ?_; clear H6; rintro e w6 ⟨rfl, rfl⟩))
    simp only [Exit.jump]
    refine bodyPost_ret (v := .tuple #[.int .i64 0, .int .i64 0]) (by simp [results, Try.results16, go_sem]) rfl ⟨rfl, B5.out⟩
  · rintro a' X ⟨x1, x4, x7, x8, x9, x10, x11, x12, x13, x14, x15, x16, x17, x18, x19, x20, x21, x22, x23, x24, x25, x26, x27, x28, x29, x30, x31, x32, rfl, HB⟩
    go_wp2
    simp only [Exit.jump]
    refine bodyPost_ret (v := .tuple #[.int .i64 0, .int .i64 0]) (by simp [results, Try.results16, go_sem]) rfl ⟨rfl, HB.out⟩
theorem check_at (p : Option Addr) (m cap : Nat) (ns : List Nd) (w : World) (hm : ns.length = m) (hP : PageAt w (.slice p m cap) ns) (hK : ∀ n ∈ ns, n.ks.length ≤ 70000) :
    Calls Try.prog 16 #[.slice p m cap] w fun e W' => e = .returned (.tuple #[.int .i64 (checkP ns).1, .int .i64 (checkP ns).2]) ∧ Below w.heap.size w W' := by
  have hs := hP.1
  rw [hm] at hs
  have hw := fun sv X hI => twithin_any_k 1 65536 sv [(m : Int)] X hI
  rw [within_one] at hw
  unfold checkP
  rw [hm]
  by_cases h1 : ¬ (1 ≤ m ∧ m ≤ 65536)
  · rw [if_pos h1]
    refine check1 p m cap w hs _ _ rfl rfl (Lib.hid fun sv X hI => ?_)
    have := hw sv X hI
    rwa [show (decide ((1 : Int) ≤ (m : Int)) && decide ((m : Int) ≤ 65536)) = false by simp; omega] at this
  · rw [if_neg h1]
    have h1' : 1 ≤ m ∧ m ≤ 65536 := by omega
    have hw2 : Hid (∀ sv X, Ints X sv [(m : Int)] → Calls Try.prog 29 #[.int .i64 1, .int .i64 65536, sv] X fun e w' => e = .returned (.bool true) ∧ Below X.heap.size X w') := Lib.hid fun sv X hI => by
      have := hw sv X hI
      rwa [show (decide ((1 : Int) ≤ (m : Int)) && decide ((m : Int) ≤ 65536)) = true by simp; omega] at this
    have H2 := fun (X : World) (hX : Below w.heap.size w X) => idx_wrong (.slice p m cap) ns X (hP.below hX)
    by_cases h2 : 0 ≤ idxI wrongN ns
    · rw [if_pos h2]
      exact check2 p m cap w hs _ _ rfl h2 hw2 (Lib.hid H2)
    · rw [if_neg h2]
      rw [idxI_nneg _ _ h2] at H2
      have H3 := fun (X : World) (hX : Below w.heap.size w X) => firstUnlinked_any (.slice p m cap) ns X (hP.below hX)
      rw [hm] at H3
      by_cases h3 : 0 ≤ idxI (unlinkedN m) ns
      · rw [if_pos h3]
        exact check3 p m cap w hs _ _ rfl h3 hw2 (Lib.hid H2) (Lib.hid H3)
      · rw [if_neg h3]
        rw [idxI_nneg _ _ h3] at H3
        have hL := linked (ns := ns) (m := m) (by omega)
        obtain ⟨b, off, rfl, hc⟩ := page_some hP (by omega)
        have H4 : ∀ X : World, Below w.heap.size w X → Calls Try.prog 33 #[.slice (some ⟨b, off, none⟩) m cap] X fun e W' => e = .returned (.slice (some ⟨X.heap.size, 0, none⟩) m m) ∧ Whole W' X.heap.size 3 ((depthsP ns).map (Value.int .i64)) ∧ Below X.heap.size X W' := fun X hX => by
          have := depths_any b off cap m ns hm h1'.1 h1'.2 X (hP.below hX) hL
          unfold depthsP
          rwa [hm]
        have H5 : ∀ (X : World) (g : Nat), Below w.heap.size w X → Whole X g 3 ((depthsP ns).map (Value.int .i64)) → Calls Try.prog 34 #[.slice (some ⟨b, off, none⟩) m cap, .slice (some ⟨g, 0, none⟩) m m] X fun e W' => e = .returned (.int .i64 (strayP ns)) ∧ Below X.heap.size X W' := fun X g hX hg => by
          have hl : (depthsP ns).length = ns.length := by unfold depthsP; rw [depL_len]
          have := stray_at b off cap ns g 0 m (depthsP ns) X (by omega) (by omega) hl (fun n hn => (hP.2.1 n hn).below hX) (fun i n hn => (hc i n hn).below hX)
            (fun j hj => by rw [Nat.zero_add, hg.cellAt]; exact map_int_get _ j hj) hK (by rw [hm]; exact hL)
          rw [hm] at this
          unfold strayP
          rwa [hm]
        have H6 : ∀ (X : World) (g : Nat), Whole X g 3 ((depthsP ns).map (Value.int .i64)) → Calls Try.prog 35 #[.slice (some ⟨g, 0, none⟩) m m, .func (.func 36) #[] #[]] X fun e W' => e = .returned (.int .i64 (idxI deepB (depthsP ns))) ∧ X = W' := fun X g hg =>
          idx_deep _ _ X (depthsP_ints hm h1'.2 hg)
        by_cases h5 : 0 ≤ strayP ns
        · rw [if_pos h5]
          exact check4 _ m cap w hs _ _ rfl h5 hw2 (Lib.hid H2) (Lib.hid H3) _ (Lib.hid H4) (Lib.hid H5)
        · rw [if_neg h5]
          rw [show strayP ns = -1 from idxI_nneg _ _ h5] at H5
          by_cases h6 : 0 ≤ idxI deepB (depthsP ns)
          · rw [if_pos h6]
            exact check5 _ m cap w hs _ _ rfl h6 hw2 (Lib.hid H2) (Lib.hid H3) _ (Lib.hid H4) (Lib.hid H5) (Lib.hid H6)
          · rw [if_neg h6]
            rw [idxI_nneg _ _ h6] at H6
            exact check6 _ m cap w hs _ _ rfl rfl hw2 (Lib.hid H2) (Lib.hid H3) _ (Lib.hid H4) (Lib.hid H5) (Lib.hid H6)
theorem check_any (lv : Value) (ns : List Nd) (w : World) (hP : PageAt w lv ns) (hK : ∀ n ∈ ns, n.ks.length ≤ 70000) :
    Calls Try.prog 16 #[lv] w fun e W' => e = .returned (.tuple #[.int .i64 (checkP ns).1, .int .i64 (checkP ns).2]) ∧ Below w.heap.size w W' := by
  obtain ⟨p, cap, rfl⟩ := hP.form
  exact check_at p _ cap ns w rfl hP hK
end Go.Proofs.Ytecnapecmioamaa
