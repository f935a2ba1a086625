/- Whose the slots beside a seam are, in either course. -/
import Derived.Test.YtceippgkmoijdaaCoWho
namespace Go.Proofs.Ytceippgkmoijdaa
open Go.RowKit Go.Shelf
set_option linter.unusedVariables false
set_option linter.unusedSimpArgs false

theorem RowsZ.keep {X Y : World} {v : Value} {M : List (List Int)} (h : RowsZ X v M) (hs : X.heap.size ≤ Y.heap.size) (hk : ∀ k, k < X.heap.size → Y.heap[k]? = X.heap[k]?) : RowsZ Y v M := by
  have hb : Below X.heap.size X { X with heap := Y.heap } := ⟨rfl, rfl, rfl, hs, hk⟩
  have h2 : RowsZ { X with heap := Y.heap } v M := h.below hb
  exact h2
/-- what a world keeps of a net since the world was of a size -/
def NK (ps : List Pz) (rn kn gb : Nat) (po : Option Addr) (co B : Nat) (W : World) : Prop :=
  ∃ W0 : World, W0.heap.size = B ∧ Whole W0 gb 64 (NetV rn kn po co) ∧ RowsZ W0 (.slice po rn co) (ownM ps rn kn) ∧ B ≤ W.heap.size ∧ ∀ k, k < B → W.heap[k]? = W0.heap[k]?
theorem NK.keep {ps : List Pz} {rn kn gb : Nat} {po : Option Addr} {co B : Nat} {W X : World} (h : NK ps rn kn gb po co B W) (hs : W.heap.size ≤ X.heap.size) (hk : ∀ k, k < B → X.heap[k]? = W.heap[k]?) : NK ps rn kn gb po co B X := by
  obtain ⟨W0, h1, h2, h3, h4, h5⟩ := h
  exact ⟨W0, h1, h2, h3, Nat.le_trans h4 hs, fun k hl => (hk k hl).trans (h5 k hl)⟩
theorem NK.below {ps : List Pz} {rn kn gb : Nat} {po : Option Addr} {co B : Nat} {W X : World} (h : NK ps rn kn gb po co B W) (hb : Below B W X) : NK ps rn kn gb po co B X := h.keep hb.size hb.block
theorem NK.size {ps : List Pz} {rn kn gb : Nat} {po : Option Addr} {co B : Nat} {W : World} (h : NK ps rn kn gb po co B W) : B ≤ W.heap.size := by
  obtain ⟨W0, h1, h2, h3, h4, h5⟩ := h
  exact h4
theorem NK.grow {ps : List Pz} {rn kn gb : Nat} {po : Option Addr} {co B : Nat} {W X : World} (h : NK ps rn kn gb po co B W) (hb : Below W.heap.size W X) : NK ps rn kn gb po co B X := h.below (hb.mono h.size)
theorem NK.whole {ps : List Pz} {rn kn gb : Nat} {po : Option Addr} {co B : Nat} {W : World} (h : NK ps rn kn gb po co B W) : Whole W gb 64 (NetV rn kn po co) := by
  obtain ⟨W0, rfl, h2, h3, h4, h5⟩ := h
  exact (h5 gb h2.lt).trans h2
theorem NK.rows {ps : List Pz} {rn kn gb : Nat} {po : Option Addr} {co B : Nat} {W : World} (h : NK ps rn kn gb po co B W) : RowsZ W (.slice po rn co) (ownM ps rn kn) := by
  obtain ⟨W0, rfl, h2, h3, h4, h5⟩ := h
  exact h3.keep h4 h5
theorem NK.of {ps : List Pz} {rn kn gb : Nat} {po : Option Addr} {co : Nat} {W : World} (h1 : Whole W gb 64 (NetV rn kn po co)) (h2 : RowsZ W (.slice po rn co) (ownM ps rn kn)) : NK ps rn kn gb po co W.heap.size W :=
  ⟨W, rfl, h1, h2, Nat.le_refl _, fun _ _ => rfl⟩
/-- a course: the lying one or the standing one; the function that turns, and the one that tells whose -/
def crs (l : Bool) (rn kn gb : Nat) : List Value := if l then colying rn kn gb else costanding rn kn gb
def turnF (l : Bool) : Nat := if l then 50 else 53
def whoF (l : Bool) : Nat := if l then 51 else 54
def turnP (l : Bool) (a b : Int) : Int × Int := if l then (a, b) else (b, a)
def whoL (l : Bool) (ps : List Pz) (rn kn : Nat) (a b : Int) : Int := if l then whoP ps rn kn a b else whoP ps rn kn b a
theorem turn_any (l : Bool) (a b : Int) (W : World) : Calls Try.prog (turnF l) #[.int .i64 a, .int .i64 b] W fun e W' => e = .returned (.tuple #[.int .i64 (turnP l a b).1, .int .i64 (turnP l a b).2]) ∧ W = W' := by
  cases l
  · exact turnstanding_any a b W
  · exact turnlying_any a b W
theorem who_any (l : Bool) (ps : List Pz) (rn kn gb : Nat) (po : Option Addr) (co B : Nat) (a b : Int) (W : World) (h : NK ps rn kn gb po co B W) (ha : I64 a) (hb : I64 b) :
    Calls Try.prog (whoF l) #[.int .i64 a, .int .i64 b, .pointer (some ⟨gb, 0, none⟩)] W fun e W' => e = .returned (.int .i64 (whoL l ps rn kn a b)) ∧ Below W.heap.size W W' := by
  cases l
  · exact whostanding_any ps rn kn gb po co a b W h.whole h.rows ha hb
  · exact wholying_any ps rn kn gb po co a b W h.whole h.rows ha hb
theorem crs_form (l : Bool) (rn kn gb : Nat) : ∃ x0 x1 x2 x3 x4, crs l rn kn gb = [.bool x0, .int .i64 x1, .int .i64 x2, .int .i64 x3, .int .i64 x4, .func (.func (turnF l)) #[] #[], .func (.func (whoF l)) #[] #[.pointer (some ⟨gb, 0, none⟩)]] ∧ (x0 = l ∧ x1 = (if l then (rn : Int) else kn) ∧ x2 = (if l then (kn : Int) else rn) ∧ x3 = (if l then 0 else 3) ∧ x4 = (if l then 2 else 1)) := by
  cases l
  · exact ⟨_, _, _, _, _, rfl, rfl, rfl, rfl, rfl, rfl⟩
  · exact ⟨_, _, _, _, _, rfl, rfl, rfl, rfl, rfl, rfl⟩
theorem who_enter (l : Bool) (args : Array Value) (w : World) : (callFunc (whoF l) args).run Try.prog w = .ok (.enter (whoF l) args) w := by
  cases l
  · exact enters_of Try.func54 (by kernel_rfl) rfl args w
  · exact enters_of Try.func51 (by kernel_rfl) rfl args w
theorem turn_enter (l : Bool) (args : Array Value) (w : World) : (callFunc (turnF l) args).run Try.prog w = .ok (.enter (turnF l) args) w := by
  cases l
  · exact enters_of Try.func53 (by kernel_rfl) rfl args w
  · exact enters_of Try.func50 (by kernel_rfl) rfl args w
theorem wrap_one (a : Int) (h : I64 a) : I64 (IntKind.i64.wrap (a - 1)) := by
  have h1 := h.1
  have h2 := h.2
  constructor <;> simp [IntKind.wrap, IntKind.bits, IntKind.signed] <;> omega
theorem results_six {W : World} {x y : Value} {tmps : Array Value} {fn : Func} (hf : fn.results = #[.tmp 6, .tmp 7]) (h4 : tmps[6]? = some x) (h5 : tmps[7]? = some y) :
    (results fn tmps).run Try.prog W = .ok (.tuple #[x, y]) W := by
  simp [results, hf, go_sem, h4, h5]
set_option maxHeartbeats 4000000 in
theorem beside_any (l : Bool) (ps : List Pz) (rn kn gb : Nat) (po : Option Addr) (co B : Nat) (a b : Int) (W : World) (h : NK ps rn kn gb po co B W) (ha : I64 a) (hb : I64 b) :
    Calls Try.prog 25 #[.agg (crs l rn kn gb).toArray, .int .i64 a, .int .i64 b] W fun e W' => e = .returned (.tuple #[.int .i64 (whoL l ps rn kn (IntKind.i64.wrap (a - 1)) b), .int .i64 (whoL l ps rn kn a b)]) ∧ Below W.heap.size W W' := by
  have HW1 := Lib.hid (fun X hX => who_any l ps rn kn gb po co B (IntKind.i64.wrap (a - 1)) b X (h.grow hX) (wrap_one a ha) hb)
  have HW2 := Lib.hid (fun X hX => who_any l ps rn kn gb po co B a b X (h.grow hX) ha hb)
  obtain ⟨c, hc⟩ : ∃ c, IntKind.i64.wrap (a - 1) = c := ⟨_, rfl⟩
  have HC := Lib.hid hc
  rw [hc] at HW1 ⊢
  obtain ⟨v1, hv1⟩ : ∃ v, whoL l ps rn kn c b = v := ⟨_, rfl⟩
  obtain ⟨v2, hv2⟩ : ∃ v, whoL l ps rn kn a b = v := ⟨_, rfl⟩
  rw [hv1] at HW1 ⊢
  rw [hv2] at HW2 ⊢
  obtain ⟨x0, x1, x2, x3, x4, hx, -⟩ := crs_form l rn kn gb
  rw [hx]
  obtain ⟨fw, hfw⟩ : ∃ f, whoF l = f := ⟨_, rfl⟩
  obtain ⟨ft, hft⟩ : ∃ f, turnF l = f := ⟨_, rfl⟩
  have HEN := Lib.hid (who_enter l)
  rw [hfw] at HW1 HW2 HEN ⊢
  rw [hft]
  clear hx h ha hb hc hv1 hv2 hfw hft
  go_enter Try.func25, Try.ntmps25
  go_wp2_with (refine region_held_atC (S := fun X => Hid (Whole X W.heap.size 70 [.bool x0, .int .i64 x1, .int .i64 x2, .int .i64 x3, .int .i64 x4, .func (.func ft) #[] #[], .func (.func fw) #[] #[.pointer (some ⟨gb, 0, none⟩)]] ∧ Below W.heap.size W X)) (by kernel_rfl) (fun w9 hw9 => ?_))
  have SV : Hid (Whole w9 W.heap.size 70 [.bool x0, .int .i64 x1, .int .i64 x2, .int .i64 x3, .int .i64 x4, .func (.func ft) #[] #[], .func (.func fw) #[] #[.pointer (some ⟨gb, 0, none⟩)]] ∧ Below W.heap.size W w9) := Lib.hid (by rw [← hw9]; exact ⟨(whole_new W [.bool x0, .int .i64 x1, .int .i64 x2, .int .i64 x3, .int .i64 x4, .func (.func ft) #[] #[], .func (.func fw) #[] #[.pointer (some ⟨gb, 0, none⟩)]] 70 _ rfl).below (below_dn (W.heap.size + 1) _ 1) (by omega), ((Below.refl _ W).alloc (Nat.le_refl _) _).trans (below_dn _ _ 1)⟩)
  clear hw9
  try simp only [Act.put, List.setIfInBounds_toArray, List.set_cons_succ, List.set_cons_zero]
  refine wpAnyH_takeC (i := 0) (v := .pointer (some ⟨W.heap.size, 6, none⟩)) (some 8) rfl rfl (by kernel_rfl) (by kernel_rfl) (by kernel_rfl) (fun _ _ _ h => h) (Or.inl ⟨by rfl, ?_⟩) SV ?_
  · intro X hX; go_simp
  try simp only [Act.put, List.setIfInBounds_toArray, List.set_cons_succ, List.set_cons_zero]
  refine wpAnyH_takeC (i := 1) (v := .func (.func fw) #[] #[.pointer (some ⟨gb, 0, none⟩)]) (some 9) rfl rfl (by kernel_rfl) (by kernel_rfl) (by kernel_rfl) (fun _ _ _ h => h) (Or.inl ⟨by rfl, ?_⟩) SV ?_
  · intro X hX; have kx := hX.out.1; have o6 := kx.cellAt 6; have lX := kx.lt; simp only [List.getElem?_cons_zero, List.getElem?_cons_succ] at o6; clear kx; go_simp
  try simp only [Act.put, List.setIfInBounds_toArray, List.set_cons_succ, List.set_cons_zero]
  refine wpAnyH_takeC (i := 2) (v := .int .i64 a) (some 10) rfl rfl (by kernel_rfl) (by kernel_rfl) (by kernel_rfl) (fun _ _ _ h => h) (Or.inl ⟨by rfl, ?_⟩) SV ?_
  · intro X hX; go_simp
  try simp only [Act.put, List.setIfInBounds_toArray, List.set_cons_succ, List.set_cons_zero]
  refine wpAnyH_takeC (i := 3) (v := .int .i64 c) (some 11) rfl rfl (by kernel_rfl) (by kernel_rfl) (by kernel_rfl) (fun _ _ _ h => h) (Or.inl ⟨by rfl, ?_⟩) SV ?_
  · intro X hX; go_simp; rw [HC.out]
  try simp only [Act.put, List.setIfInBounds_toArray, List.set_cons_succ, List.set_cons_zero]
  refine wpAnyH_takeC (i := 4) (v := .int .i64 b) (some 12) rfl rfl (by kernel_rfl) (by kernel_rfl) (by kernel_rfl) (fun _ _ _ h => h) (Or.inl ⟨by rfl, ?_⟩) SV ?_
  · intro X hX; go_simp
  try simp only [Act.put, List.setIfInBounds_toArray, List.set_cons_succ, List.set_cons_zero]
  refine wpAnyH_takeC (i := 6) (v := .pointer (some ⟨W.heap.size, 6, none⟩)) (some 14) rfl rfl (by kernel_rfl) (by kernel_rfl) (by kernel_rfl) (fun _ _ _ h => h) (Or.inl ⟨by rfl, ?_⟩) SV ?_
  · intro X hX; go_simp
  try simp only [Act.put, List.setIfInBounds_toArray, List.set_cons_succ, List.set_cons_zero]
  refine wpAnyH_takeC (i := 7) (v := .func (.func fw) #[] #[.pointer (some ⟨gb, 0, none⟩)]) (some 15) rfl rfl (by kernel_rfl) (by kernel_rfl) (by kernel_rfl) (fun _ _ _ h => h) (Or.inl ⟨by rfl, ?_⟩) SV ?_
  · intro X hX; have kx := hX.out.1; have o6 := kx.cellAt 6; have lX := kx.lt; simp only [List.getElem?_cons_zero, List.getElem?_cons_succ] at o6; clear kx; go_simp
  try simp only [Act.put, List.setIfInBounds_toArray, List.set_cons_succ, List.set_cons_zero]
  refine wpAnyH_takeC (i := 8) (v := .int .i64 a) (some 16) rfl rfl (by kernel_rfl) (by kernel_rfl) (by kernel_rfl) (fun _ _ _ h => h) (Or.inl ⟨by rfl, ?_⟩) SV ?_
  · intro X hX; go_simp
  try simp only [Act.put, List.setIfInBounds_toArray, List.set_cons_succ, List.set_cons_zero]
  refine wpAnyH_takeC (i := 9) (v := .int .i64 b) (some 17) rfl rfl (by kernel_rfl) (by kernel_rfl) (by kernel_rfl) (fun _ _ _ h => h) (Or.inl ⟨by rfl, ?_⟩) SV ?_
  · intro X hX; go_simp
  try simp only [Act.put, List.setIfInBounds_toArray, List.set_cons_succ, List.set_cons_zero]
  refine wpAnyH_all (rs := [5]) (by kernel_rfl) (by simp) ?_
  intro ii hii; obtain rfl : ii = 5 := by simpa using hii
  clear hii
  refine wpOp_step rfl (fun K hK => ?_)
  have HAK := Lib.hid (HW1.out _ SV.out.2)
  go_simp
  rw [HEN.out, Oper.upon_enter]
  refine HAK.out.mono ?_
  rintro e w3 ⟨rfl, hb3⟩
  have SX := Lib.hid (And.intro (SV.out.1.below hb3 SV.out.1.lt) (SV.out.2.trans (hb3.mono SV.out.2.size)))
  refine hK _ _ ⟨SX, ?_⟩
  clear hK K hb3 SV HAK
  have SV := SX
  clear SX
  try simp only [Act.put, List.setIfInBounds_toArray, List.set_cons_succ, List.set_cons_zero]
  refine wpAnyH_all (rs := [10]) (by kernel_rfl) (by simp) ?_
  intro ii hii; obtain rfl : ii = 10 := by simpa using hii
  clear hii
  refine wpOp_step rfl (fun K hK => ?_)
  have HAK := Lib.hid (HW2.out _ SV.out.2)
  go_simp
  rw [HEN.out, Oper.upon_enter]
  refine HAK.out.mono ?_
  rintro e w4 ⟨rfl, hb3⟩
  have SX := Lib.hid (And.intro (SV.out.1.below hb3 SV.out.1.lt) (SV.out.2.trans (hb3.mono SV.out.2.size)))
  refine hK _ _ ⟨SX, ?_⟩
  clear hK K hb3 SV HAK
  have SV := SX
  clear SX
  try simp only [Act.put, List.setIfInBounds_toArray, List.set_cons_succ, List.set_cons_zero]
  refine wpAnyH_all (rs := [11]) (by kernel_rfl) (by simp) ?_
  intro ii hii; obtain rfl : ii = 11 := by simpa using hii
  clear hii
  refine wpOp_step rfl (fun K hK => ?_)
  go_simp
  refine hK _ _ ⟨SV, ?_⟩
  clear hK K
  try simp only [Act.put, List.setIfInBounds_toArray, List.set_cons_succ, List.set_cons_zero]
  refine wpAnyH_all (rs := [12]) (by kernel_rfl) (by simp) ?_
  intro ii hii; obtain rfl : ii = 12 := by simpa using hii
  clear hii
  refine wpOp_step rfl (fun K hK => ?_)
  go_simp
  refine hK _ _ ⟨SV, ?_⟩
  clear hK K
  try simp only [Act.put, List.setIfInBounds_toArray, List.set_cons_succ, List.set_cons_zero]
  refine wpAnyH_done (by kernel_rfl) ?_ _
  have HB := Lib.hid SV.out.2
  clear SV HW1 HW2
  go_wp2
  exact bodyPost_ret (results_six rfl rfl rfl) rfl ⟨rfl, HB.out⟩
end Go.Proofs.Ytceippgkmoijdaa
