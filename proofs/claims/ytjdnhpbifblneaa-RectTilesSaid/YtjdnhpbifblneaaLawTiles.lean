/- Whether some rectangles tile one: the program's answer is the document's, for every rectangle and every list, its first sixty. -/
import Derived.Test.YtjdnhpbifblneaaRows
import Derived.WalkKit
import Derived.ProofKit
import Derived.OpenShut
import Derived.Below
import Derived.Test.YtjdnhpbifblneaaRShown
import Derived.Test.YtjdnhpbifblneaaROpen
import Derived.Test.YtjdnhpbifblneaaROpenL
import Derived.Test.YtjdnhpbifblneaaRRefTiles
import Derived.Test.YtjdnhpbifblneaaRTilesA
import Derived.ShutString
namespace Go.Proofs.Ytjdnhpbifblneaa.rectTiles
open Go.ChangeShapes Go.WideShapes Go.ChangeAt Go.RowKit
set_option linter.unusedVariables false

theorem own : ownKnob Try.prog.godebug = none := by kernel_rfl
theorem laidOut : laidOutB Try.prog = true := by kernel_rfl

theorem tiles_is (r : R) (sv : Value) (zs : List R) (w : World) (hI : Rects w sv zs) (hn : ∀ n c, sv = .slice none n c → n = 0 ∧ c = 0) (b : Bool) (e0 : Int) (hb : (tilesOk r zs && tilesB r zs) = b) (he : (if tilesOk r zs then (0 : Int) else 20) = e0) :
    Calls Try.prog 6 #[r.val, sv] w fun e W' => e = .returned (.tuple #[.bool b, .int .i64 e0]) ∧ Below w.heap.size w W' := by
  refine (tiles_any r sv zs w hI hn).mono fun e W' h => ?_
  unfold TilesPost at h
  rw [hb, he] at h
  exact h
theorem reftiles_is (r : R) (sv : Value) (zs : List R) (w : World) (hI : Rects w sv zs) (hl : zs.length ≤ 400) (b : Bool) (e0 : Int) (hb : (tilesOk r zs && tilesB r zs) = b) (he : (if tilesOk r zs then (0 : Int) else 20) = e0) :
    Calls Try.prog 8 #[r.val, sv] w fun e W' => e = .returned (.tuple #[.bool b, .int .i64 e0]) ∧ Below w.heap.size w W' := by
  obtain ⟨x, y, u, v⟩ := r
  have hform : ∃ p m c, sv = .slice p m c := by
    obtain ⟨_, ⟨a, cap, rfl, _⟩ | ⟨b, off, cap, rfl, _⟩⟩ := hI <;> exact ⟨_, _, _, rfl⟩
  obtain ⟨p, m, c, rfl⟩ := hform
  have hm := hI.len
  subst hb he
  cases hr : rightB ⟨x, y, u, v⟩ with
  | false =>
    have hk : tilesOk ⟨x, y, u, v⟩ zs = false := by unfold tilesOk; rw [hr]; simp
    rw [hk]
    exact refTiles_wrong x y u v hr _ w
  | true =>
    cases ha : zs.all rightB with
    | false =>
      have hk : tilesOk ⟨x, y, u, v⟩ zs = false := by unfold tilesOk; rw [ha]; simp
      rw [hk]
      exact refTiles_wrong2 x y u v hr p m c zs w hI (by omega) ha
    | true =>
      have hk : tilesOk ⟨x, y, u, v⟩ zs = true := by unfold tilesOk; rw [hr, ha]; simp; omega
      rw [hk, Bool.true_and, if_pos rfl]
      exact refTiles_good x y u v hr p m c zs w hI (by omega) (fun q hq => List.all_eq_true.1 ha q hq)
set_option maxRecDepth 100000 in
set_option maxHeartbeats 1600000 in
theorem walk (w : World) (a0 : R) (w0 : a0.wf) (a1 : Option Addr) (len1 cap1 : Nat) (z1 : List R) (w1 : RectRow w a1 len1 cap1 z1) : Calls Try.prog 3 #[a0.val, .slice a1 len1 cap1] w fun e w' => e = .returned (.bool true) ∧ Below w.heap.size w w' := by
  obtain ⟨sv, hI, hN, hC⟩ := cut_any2 w1
  obtain ⟨zs, hzs⟩ : ∃ zs, z1.take 60 = zs := ⟨_, rfl⟩
  have hl : zs.length ≤ 60 := by rw [← hzs, List.length_take]; omega
  rw [hzs] at hI
  obtain ⟨b, hb⟩ : ∃ b, (tilesOk a0 zs && tilesB a0 zs) = b := ⟨_, rfl⟩
  obtain ⟨e0, he⟩ : ∃ e0, (if tilesOk a0 zs then (0 : Int) else 20) = e0 := ⟨_, rfl⟩
  have he2 : e0 = 0 ∨ e0 = 20 := by rw [← he]; split <;> simp
  have C := Lib.hid hC
  have A := Lib.hid (fun X hX => tiles_is a0 sv zs X hX hN b e0 hb he)
  have D := Lib.hid (fun X hX => reftiles_is a0 sv zs X hX (by omega) b e0 hb he)
  have I0 := Lib.hid hI
  have SH := Lib.hid (fun X => shown_any X)
  obtain ⟨x, y, u, v⟩ := a0
  unfold R.val at *
  dsimp only at *
  have HE2 := Lib.hid he2
  have k0 := whole_new w [.int .i64 x, .int .i64 y, .int .i64 u, .int .i64 v] 23 w.heap.size rfl
  have HK0 := Lib.hid k0
  clear hC hI hN hb he hl hzs w1 k0 he2 w0
  go_enter Try.func3, Try.ntmps3
  go_wp2_with (go_at_call 5; refine (SH.out _).mono ?_; clear SH; rintro e w1 ⟨rfl, hb1⟩; have HB1 := Lib.hid (((Below.refl w.heap.size w).alloc (Nat.le_refl _) (.cells #[.int .i64 x, .int .i64 y, .int .i64 u, .int .i64 v] 23)).trans (hb1.mono (by simp <;> omega))); have HK1 := Lib.hid (HK0.out.below hb1 HK0.out.lt); clear hb1 HK0)
  have go : ∀ (f : Nat) (ans : Value), True := fun _ _ => trivial
  refine region_held_at (S := fun X => Hid (Below w.heap.size w X ∧ Whole X w.heap.size 23 [.int .i64 x, .int .i64 y, .int .i64 u, .int .i64 v])) (by kernel_rfl) (fun w9 hw9 => ?_)
  have SV : Hid (Below w.heap.size w w9 ∧ Whole w9 w.heap.size 23 [.int .i64 x, .int .i64 y, .int .i64 u, .int .i64 v]) := Lib.hid (by rw [← hw9]; exact ⟨HB1.out.trans (below_dn _ _ 1), HK1.out.below (below_dn _ _ 1) HK1.out.lt⟩)
  clear hw9 HB1 HK1 go
  try simp only [Act.put, List.setIfInBounds_toArray, List.set_cons_succ, List.set_cons_zero]
  refine wpAnyH_takeD (i := 0) (v := .agg #[.int .i64 x, .int .i64 y, .int .i64 u, .int .i64 v]) (some 12) rfl rfl (by kernel_rfl) (by kernel_rfl) (by kernel_rfl) (fun _ _ _ h => h) (Or.inl ⟨by rfl, ?_⟩) SV ?_
  · intro X hX
    have o0 : X.cell? ⟨w.heap.size, 0, none⟩ = some (.int .i64 x) := hX.out.2.cellAt 0
    have o1 : X.cell? ⟨w.heap.size, 1, none⟩ = some (.int .i64 y) := hX.out.2.cellAt 1
    have o2 : X.cell? ⟨w.heap.size, 2, none⟩ = some (.int .i64 u) := hX.out.2.cellAt 2
    have o3 : X.cell? ⟨w.heap.size, 3, none⟩ = some (.int .i64 v) := hX.out.2.cellAt 3
    go_simp
  try simp only [Act.put, List.setIfInBounds_toArray, List.set_cons_succ, List.set_cons_zero]
  refine wpAnyH_takeD (i := 1) (v := .slice a1 len1 cap1) (some 13) rfl rfl (by kernel_rfl) (by kernel_rfl) (by kernel_rfl) (fun _ _ _ h => h) (Or.inl ⟨by rfl, ?_⟩) SV ?_
  · intro X hX; go_simp
  try simp only [Act.put, List.setIfInBounds_toArray, List.set_cons_succ, List.set_cons_zero]
  refine wpAnyH_all (rs := [2]) (by kernel_rfl) (by simp) ?_
  intro ii hii; obtain rfl : ii = 2 := by simpa using hii
  refine wpOp_step rfl (fun K hK => ?_)
  go_simp
  refine (C.out _).mono ?_
  rintro e w2 ⟨rfl, rfl⟩
  refine hK _ _ ⟨SV, ?_⟩
  clear hK K hii
  try simp only [Act.put, List.setIfInBounds_toArray, List.set_cons_succ, List.set_cons_zero]
  refine wpAnyH_all (rs := [3]) (by kernel_rfl) (by simp) ?_
  intro ii hii; obtain rfl : ii = 3 := by simpa using hii
  refine wpOp_step rfl (fun K hK => ?_)
  go_simp
  refine (A.out _ (I0.out.below SV.out.1)).mono ?_
  rintro e w3 ⟨rfl, hb3⟩
  have S3 : Hid (Below w.heap.size w w3 ∧ Whole w3 w.heap.size 23 [.int .i64 x, .int .i64 y, .int .i64 u, .int .i64 v]) := Lib.hid ⟨SV.out.1.trans (hb3.mono SV.out.1.size), SV.out.2.below hb3 SV.out.2.lt⟩
  refine hK _ _ ⟨S3, ?_⟩
  clear hK K hii SV hb3 A
  try simp only [Act.put, List.setIfInBounds_toArray, List.set_cons_succ, List.set_cons_zero]
  refine wpAnyH_takeD (i := 4) (v := .tuple #[.bool b, .int .i64 e0]) (some 11) rfl rfl (by kernel_rfl) (by kernel_rfl) (by kernel_rfl) (fun _ _ _ h => h) (Or.inl ⟨by rfl, ?_⟩) S3 ?_
  · intro X hX; go_simp
  try simp only [Act.put, List.setIfInBounds_toArray, List.set_cons_succ, List.set_cons_zero]
  refine wpAnyH_takeD (i := 5) (v := .bool b) (some 16) rfl rfl (by kernel_rfl) (by kernel_rfl) (by kernel_rfl) (fun _ _ _ h => h) (Or.inl ⟨by rfl, ?_⟩) S3 ?_
  · intro X hX; go_simp
  try simp only [Act.put, List.setIfInBounds_toArray, List.set_cons_succ, List.set_cons_zero]
  refine wpAnyH_takeD (i := 6) (v := .int .i64 e0) (some 17) rfl rfl (by kernel_rfl) (by kernel_rfl) (by kernel_rfl) (fun _ _ _ h => h) (Or.inl ⟨by rfl, ?_⟩) S3 ?_
  · intro X hX; go_simp
  try simp only [Act.put, List.setIfInBounds_toArray, List.set_cons_succ, List.set_cons_zero]
  refine wpAnyH_takeD (i := 7) (v := .bool b) (some 6) rfl rfl (by kernel_rfl) (by kernel_rfl) (by kernel_rfl) (fun _ _ _ h => h) (Or.inl ⟨by rfl, ?_⟩) S3 ?_
  · intro X hX; go_simp
  try simp only [Act.put, List.setIfInBounds_toArray, List.set_cons_succ, List.set_cons_zero]
  refine wpAnyH_takeD (i := 8) (v := .int .i64 e0) (some 7) rfl rfl (by kernel_rfl) (by kernel_rfl) (by kernel_rfl) (fun _ _ _ h => h) (Or.inl ⟨by rfl, ?_⟩) S3 ?_
  · intro X hX; go_simp
  try simp only [Act.put, List.setIfInBounds_toArray, List.set_cons_succ, List.set_cons_zero]
  refine wpAnyH_done (by kernel_rfl) ?_ _
  go_wp2
  refine region_held_at (S := fun X => Hid (Below w.heap.size w X ∧ Whole X w.heap.size 23 [.int .i64 x, .int .i64 y, .int .i64 u, .int .i64 v])) (by kernel_rfl) (fun w9 hw9 => ?_)
  have SV : Hid (Below w.heap.size w w9 ∧ Whole w9 w.heap.size 23 [.int .i64 x, .int .i64 y, .int .i64 u, .int .i64 v]) := Lib.hid (by rw [← hw9]; exact ⟨S3.out.1.trans (below_dn _ _ 1), S3.out.2.below (below_dn _ _ 1) S3.out.2.lt⟩)
  clear hw9 S3
  try simp only [Act.put, List.setIfInBounds_toArray, List.set_cons_succ, List.set_cons_zero]
  refine wpAnyH_takeD (i := 0) (v := .agg #[.int .i64 x, .int .i64 y, .int .i64 u, .int .i64 v]) (some 19) rfl rfl (by kernel_rfl) (by kernel_rfl) (by kernel_rfl) (fun _ _ _ h => h) (Or.inl ⟨by rfl, ?_⟩) SV ?_
  · intro X hX
    have o0 : X.cell? ⟨w.heap.size, 0, none⟩ = some (.int .i64 x) := hX.out.2.cellAt 0
    have o1 : X.cell? ⟨w.heap.size, 1, none⟩ = some (.int .i64 y) := hX.out.2.cellAt 1
    have o2 : X.cell? ⟨w.heap.size, 2, none⟩ = some (.int .i64 u) := hX.out.2.cellAt 2
    have o3 : X.cell? ⟨w.heap.size, 3, none⟩ = some (.int .i64 v) := hX.out.2.cellAt 3
    go_simp
  try simp only [Act.put, List.setIfInBounds_toArray, List.set_cons_succ, List.set_cons_zero]
  refine wpAnyH_takeD (i := 1) (v := .slice a1 len1 cap1) (some 20) rfl rfl (by kernel_rfl) (by kernel_rfl) (by kernel_rfl) (fun _ _ _ h => h) (Or.inl ⟨by rfl, ?_⟩) SV ?_
  · intro X hX; go_simp
  try simp only [Act.put, List.setIfInBounds_toArray, List.set_cons_succ, List.set_cons_zero]
  refine wpAnyH_all (rs := [2]) (by kernel_rfl) (by simp) ?_
  intro ii hii; obtain rfl : ii = 2 := by simpa using hii
  refine wpOp_step rfl (fun K hK => ?_)
  go_simp
  refine (C.out _).mono ?_
  rintro e w2 ⟨rfl, rfl⟩
  refine hK _ _ ⟨SV, ?_⟩
  clear hK K hii
  try simp only [Act.put, List.setIfInBounds_toArray, List.set_cons_succ, List.set_cons_zero]
  refine wpAnyH_all (rs := [3]) (by kernel_rfl) (by simp) ?_
  intro ii hii; obtain rfl : ii = 3 := by simpa using hii
  refine wpOp_step rfl (fun K hK => ?_)
  go_simp
  refine (D.out _ (I0.out.below SV.out.1)).mono ?_
  rintro e w3 ⟨rfl, hb3⟩
  have S3 : Hid (Below w.heap.size w w3 ∧ Whole w3 w.heap.size 23 [.int .i64 x, .int .i64 y, .int .i64 u, .int .i64 v]) := Lib.hid ⟨SV.out.1.trans (hb3.mono SV.out.1.size), SV.out.2.below hb3 SV.out.2.lt⟩
  refine hK _ _ ⟨S3, ?_⟩
  clear hK K hii SV hb3 D
  try simp only [Act.put, List.setIfInBounds_toArray, List.set_cons_succ, List.set_cons_zero]
  refine wpAnyH_takeD (i := 4) (v := .tuple #[.bool b, .int .i64 e0]) (some 18) rfl rfl (by kernel_rfl) (by kernel_rfl) (by kernel_rfl) (fun _ _ _ h => h) (Or.inl ⟨by rfl, ?_⟩) S3 ?_
  · intro X hX; go_simp
  try simp only [Act.put, List.setIfInBounds_toArray, List.set_cons_succ, List.set_cons_zero]
  refine wpAnyH_takeD (i := 5) (v := .bool b) (some 23) rfl rfl (by kernel_rfl) (by kernel_rfl) (by kernel_rfl) (fun _ _ _ h => h) (Or.inl ⟨by rfl, ?_⟩) S3 ?_
  · intro X hX; go_simp
  try simp only [Act.put, List.setIfInBounds_toArray, List.set_cons_succ, List.set_cons_zero]
  refine wpAnyH_takeD (i := 6) (v := .int .i64 e0) (some 24) rfl rfl (by kernel_rfl) (by kernel_rfl) (by kernel_rfl) (fun _ _ _ h => h) (Or.inl ⟨by rfl, ?_⟩) S3 ?_
  · intro X hX; go_simp
  try simp only [Act.put, List.setIfInBounds_toArray, List.set_cons_succ, List.set_cons_zero]
  refine wpAnyH_takeD (i := 7) (v := .bool b) (some 8) rfl rfl (by kernel_rfl) (by kernel_rfl) (by kernel_rfl) (fun _ _ _ h => h) (Or.inl ⟨by rfl, ?_⟩) S3 ?_
  · intro X hX; go_simp
  try simp only [Act.put, List.setIfInBounds_toArray, List.set_cons_succ, List.set_cons_zero]
  refine wpAnyH_takeD (i := 8) (v := .int .i64 e0) (some 9) rfl rfl (by kernel_rfl) (by kernel_rfl) (by kernel_rfl) (fun _ _ _ h => h) (Or.inl ⟨by rfl, ?_⟩) S3 ?_
  · intro X hX; go_simp
  try simp only [Act.put, List.setIfInBounds_toArray, List.set_cons_succ, List.set_cons_zero]
  refine wpAnyH_done (by kernel_rfl) ?_ _
  go_wp2
  go_ret
  exact ⟨by simp, S3.out.1⟩

set_option maxRecDepth 100000 in
theorem lifted (os : Os) (started : os.Started) (H : Type) (enc : TypeId × Value → H) :
    ReturnsInHanded {} Try.checked os 3 .any (Rows.rectTilesSpec.pre6 enc Try.prog Try.f3 Rows.rectTilesRow.domain false) (Rows.rectTilesSpec.post enc Try.prog Try.f3 false true false false) := by
  refine returnsInHanded_of_change (C := Try.checked) own started (by kernel_rfl) Try.func3
    (ChangeSpec.witness6 (enc := enc) (C := Try.checked) false ⟨#[], #[.agg #[.int .i64 0, .int .i64 0, .int .i64 0, .int .i64 0], .slice none 0 0], []⟩ 8 (by kernel_rfl) (by kernel_rfl) (by kernel_rfl) (by kernel_rfl)) ?_
  intro W base args ds gs before hval0 hW hcnd _
  have hval : ∀ (j : Nat) t v, Try.f3.params[j]? = some t → args[j]? = some v → Value.okWide Try.prog W .any base t v := hval0
  have hW' := hW
  obtain ⟨p, q, hA0, hV, rfl, hfz, hnd⟩ := hW
  have hA : DataW.TrodAll enc Try.prog W 0 (fun _ => true) true Try.f3.params.toList args.toList ds p := hA0
  rw [Try.params3] at hA hval
  obtain ⟨v0, vs0, d0, ds0, p0, q0, hargs, rfl, rfl, h0, r0⟩ := trodAll_cons hA
  obtain ⟨v1, vs1, d1, ds1, p1, q1, rfl, rfl, rfl, h1, r1⟩ := trodAll_cons r0
  obtain ⟨rfl, rfl, rfl⟩ := trodAll_nil r1
  obtain rfl : args = #[v0, v1] := by cases args; simp_all
  obtain ⟨rfl, rfl⟩ := trodVars_none hV
  obtain ⟨a0, rfl, rfl, rfl, w0⟩ := open_rect (hval 0 23 v0 rfl rfl) h0
  obtain ⟨a1, len1, cap1, rfl⟩ := okWide_slice Try.underlying24 (hval 1 24 v1 rfl rfl)
  have k1 := h1
  have lt1 : ∀ x ∈ p1, x.block < W.heap.size := by obtain ⟨m, hm⟩ := k1; exact DataW.trod_lt m _ _ _ hm
  obtain ⟨z1, w1⟩ : ∃ zs, RectRow W a1 len1 cap1 zs := by
    obtain ⟨fuel, hf⟩ := h1
    exact open_rects (by simpa [Value.cells] using hf)
  clear hA0 hval0
  simp only [List.append_nil] at hW'
  refine (walk W a0 w0 a1 len1 cap1 z1 w1).mono fun e W' ⟨he, hg⟩ => ?_
  subst he
  exact ⟨_, rfl, _, _, _, [], _, [], hW', (trodAll_cons_mk (shut_bool Try.underlying4 _) trodAll_mk0), (trodAll_cons_mk (shut_rect a0 w0) (trodAll_cons_mk (Below.trod laidOut (by kernel_rfl) (of_decide_eq_true (by kernel_rfl)) k1 hg lt1) trodAll_mk0)), rfl, hg.frame _, fun h => by cases h⟩

theorem over : Rows.rectTilesRow.holds Try.pinned (OpenSpec.ofChange Rows.rectTilesSpec) :=
  OpenClaim.holds_of_wide 3 Try.f3 rfl rfl rfl rfl rfl rfl rfl ⟨rfl, rfl, rfl, rfl, rfl⟩ rfl rfl rfl rfl rfl (by kernel_rfl) Try.func3 (by kernel_rfl)
    (of_decide_eq_true (by kernel_rfl)) (by unfold Func.isWrapper; first | (rw [if_pos (by decide +kernel)]; kernel_rfl) | (rw [if_neg (by decide +kernel)]; exact ⟨rfl, rfl⟩))
    (fun os started H enc _ => lifted os started H enc)

/-- the statement -/
theorem proved : Rows.RectTilesSaid :=
  over
#print axioms proved
end Go.Proofs.Ytjdnhpbifblneaa.rectTiles
