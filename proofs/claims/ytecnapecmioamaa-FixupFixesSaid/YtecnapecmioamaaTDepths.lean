/- Contracts of tree.walk and tree.depthsOf. -/
import Derived.Test.YtecnapecmioamaaTWalk
namespace Go.Proofs.Ytecnapecmioamaa
open Go.RowKit Go.Shelf
set_option linter.unusedVariables false
attribute [local go_sem] Oper.semAt_some

set_option maxHeartbeats 400000 in
theorem walkF_any (p : Option Addr) (m cap : Nat) (w : World) : Calls Try.prog 51 #[.slice p m cap] w fun e w' => e = .returned (.func (.func 60) #[] #[.pointer (some ⟨w.heap.size, 0, none⟩)]) ∧ w' = w.alloc (.cells #[.slice p m cap] 22) := by
  go_enter Try.func51, Try.ntmps51
  go_wp2
  go_ret
  exact ⟨rfl, rfl⟩
/-- depths, as they have been written so far -/
def depL (m : Nat) (xs : List (Int × Nat)) : List Int := xs.foldl (fun ds x => ds.set x.1.toNat (x.2 : Int)) (List.replicate m 0)
theorem depL_len (m : Nat) (xs : List (Int × Nat)) : (depL m xs).length = m := by
  unfold depL
  have : ∀ (xs : List (Int × Nat)) (ds : List Int), (xs.foldl (fun ds x => ds.set x.1.toNat (x.2 : Int)) ds).length = ds.length := by
    intro xs
    induction xs with
    | nil => intro ds; rfl
    | cons x xs ih => intro ds; simp only [List.foldl_cons]; rw [ih]; simp
  rw [this]; simp
theorem depL_snoc (m : Nat) (xs : List (Int × Nat)) (x : Int × Nat) : depL m (xs ++ [x]) = (depL m xs).set x.1.toNat (x.2 : Int) := by simp [depL, List.foldl_append]
theorem kids_in {ns : List Nd} {m : Nat} (hL : ∀ n ∈ ns, ∀ z ∈ n.ks, 1 ≤ z ∧ z < (m : Int)) : KidsIn m (kfOf ns) := fun y x hx => by
  unfold kfOf at hx
  cases hq : ns[y.toNat]? with
  | none => rw [hq] at hx; simp at hx
  | some nd' => rw [hq] at hx; simp at hx; have := hL nd' (List.mem_iff_getElem?.2 ⟨_, hq⟩) x hx; omega
theorem nxt_rng {kf : Int → List Int} {m : Nat} (hm : 1 ≤ m) (hk : KidsIn m kf) {pre : List (Int × Nat)} {x : Int × Nat} (h : nxtT kf pre x) : ∃ zn : Nat, x.1 = (zn : Int) ∧ zn < m := by
  obtain ⟨vis, st, st', hr, hn⟩ := h
  have g := hr.good hm hk
  obtain ⟨_, _, _, ⟨ks, hks, hz⟩, _⟩ := nextD_some hn
  have := g.rng ks hks x.1 hz
  exact ⟨x.1.toNat, by omega, by omega⟩
def DI (m D : Nat) (w : World) (pre : List (Int × Nat)) (X : World) : Prop :=
  Whole X D 3 ((depL m pre).map (Value.int .i64)) ∧ Whole X (D + 1) 34 [.slice (some ⟨D, 0, none⟩) m m] ∧ Below D w X
theorem DI.below {m D : Nat} {w : World} {pre : List (Int × Nat)} {X Y : World} {B : Nat} (h : DI m D w pre X) (hb : Below B X Y) (hB : D + 2 ≤ B) : DI m D w pre Y :=
  ⟨h.1.below hb (by omega), h.2.1.below hb (by omega), h.2.2.trans (hb.mono (by omega))⟩
set_option maxRecDepth 100000 in
set_option maxHeartbeats 2000000 in
theorem depths_any (b off cap m : Nat) (ns : List Nd) (hm : ns.length = m) (hm0 : 1 ≤ m) (hm1 : m ≤ 65536) (w : World) (hP : PageAt w (.slice (some ⟨b, off, none⟩) m cap) ns) (hL : ∀ n ∈ ns, ∀ z ∈ n.ks, 1 ≤ z ∧ z < (m : Int)) :
    Calls Try.prog 33 #[.slice (some ⟨b, off, none⟩) m cap] w fun e W' => e = .returned (.slice (some ⟨w.heap.size, 0, none⟩) m m) ∧ Whole W' w.heap.size 3 ((depL m (walkL m (kfOf ns))).map (Value.int .i64)) ∧ Below w.heap.size w W' := by
  have hmk := make_ints m (by omega)
  have h00 : DI m w.heap.size w [] ((w.alloc (.cells ((List.replicate m (0 : Int)).map (Value.int .i64)).toArray 3)).alloc (.cells #[.slice (some ⟨w.heap.size, 0, none⟩) m m] 34)) :=
    ⟨(whole_new w _ 3 _ rfl).alloc _, whole_new (w.alloc (.cells ((List.replicate m (0 : Int)).map (Value.int .i64)).toArray 3)) [.slice (some ⟨w.heap.size, 0, none⟩) m m] 34 _ (by simp), ((Below.refl _ w).alloc (Nat.le_refl _) _).alloc (by simp) _⟩
  obtain ⟨zc, hzc⟩ : ∃ zc, ((List.replicate m (0 : Int)).map (Value.int .i64)).toArray = zc := ⟨_, rfl⟩
  rw [hzc] at hmk h00
  have H00 := Lib.hid h00
  have HP := Lib.hid hP
  have HL := Lib.hid hL
  have HM := Lib.hid hm
  clear hzc h00 hP hL hm
  refine (callsIn_wide (n := 3)).1 (callsIn_of_wp_marks Try.func33 rfl trivial (wpIn_wide.2 ?_) rfl)
  simp only [Try.ntmps33, List.size_toArray, List.length_cons, List.length_nil, Nat.reduceAdd, Nat.reduceSub, Array.replicate_succ, Array.replicate_zero, List.push_toArray, List.append_toArray, List.nil_append, List.cons_append]
  go_wp2_with (go_at_call 51; refine (walkF_any _ _ _ _).mono ?_; rintro e w' ⟨rfl, rfl⟩)
  obtain ⟨W2, hW2⟩ : ∃ W2, ((w.alloc (.cells zc 3)).alloc (.cells #[.slice (some ⟨w.heap.size, 0, none⟩) m m] 34)).alloc (.cells #[.slice (some ⟨b, off, none⟩) m cap] 22) = W2 := ⟨_, rfl⟩
  have hz2 : W2.heap.size = w.heap.size + 3 := by rw [← hW2]; simp
  have k2 : Whole W2 (w.heap.size + 2) 22 [.slice (some ⟨b, off, none⟩) m cap] := by rw [← hW2]; exact whole_new ((w.alloc (.cells zc 3)).alloc (.cells #[.slice (some ⟨w.heap.size, 0, none⟩) m m] 34)) [.slice (some ⟨b, off, none⟩) m cap] 22 _ (by simp)
  have hb2 : Below w.heap.size w W2 := by rw [← hW2]; exact (((Below.refl _ w).alloc (Nat.le_refl _) _).alloc (by simp) _).alloc (by simp; omega) _
  have d2 : DI m w.heap.size w [] W2 := by rw [← hW2]; exact H00.out.below ((Below.refl _ _).alloc (Nat.le_refl _) _) (by simp)
  have hKI := kids_in HL.out
  rw [hW2]
  clear hW2 hmk H00
  refine (wpIn_wide (n := 3)).1 (range_keep (F := Fence.wide) rfl (by omega) (gf := 60) (lb := #[.pointer (some ⟨w.heap.size + 1 + 1, 0, none⟩)]) rfl trivial (enters_of Try.func60 (by kernel_rfl) rfl)
    (Kp := KeepBut [w.heap.size, W2.heap.size, W2.heap.size + 1]) (fun _ _ _ h k => h.trans k) (fun W o _ => KeepBut.put W _ o (by simp))
    (walk_next _ (by omega) ns b off cap m HM.out hm0 hm1 [w.heap.size, W2.heap.size, W2.heap.size + 1] w HP.out HL.out (w.heap.size + 1 + 1) W2 (fun e he => by simp at he; omega) (by omega) hb2 (k2.cellAt 0)) (fun _ => rfl)
    (DI m w.heap.size w) (fun _ _ _ => False) (fun s X Y h hb => h.below hb (by omega)) (fun c s X Y h hb => h) d2 ?round ?done ?stop)
  case round =>
    rintro l pre x V hl hI hx
    obtain ⟨zn, hzn, hlt⟩ := nxt_rng hm0 hKI hx
    obtain ⟨z, d⟩ := x
    dsimp only at hzn
    subst hzn
    have hdl := depL_len m pre
    have hz := hI.2.2.size
    have hq := hI.2.1.lt
    refine ⟨{ tmps := #[.slice (some ⟨b, off, none⟩) m cap, undef, .slice none 0 0, .pointer (some ⟨w.heap.size + 1, 0, none⟩), .int .i64 (zn : Int), .int .i64 (d : Int), .slice (some ⟨b, off, none⟩) m cap, .int .i64 (m : Int), .slice (some ⟨w.heap.size, 0, none⟩) m m, .slice (some ⟨b, off, none⟩) m cap, .func (.func 60) #[] #[.pointer (some ⟨w.heap.size + 1 + 1, 0, none⟩)], .int .i64 (zn : Int), .int .i64 (d : Int), undef, undef, undef, undef, undef], defers := [] }, V, ?_, KeepsFrom.refl _ _, KeepBut.refl _ _, ?_⟩
    · intro K hK
      dsimp only [encT]
      gi_wp2
      exact hK
    · intro V₂ hgV hnc' hbl
      have hI2 : DI m w.heap.size w pre V₂ := ⟨hI.1.grown hgV (fun e => by injection e with e; omega), hI.2.1.grown hgV (fun e => by injection e with e; omega), hI.2.2.grown hgV (by omega) (fun k e => by injection e with e; omega)⟩
      have cb := hI2.2.1.cellAt 0
      have lb := hI2.2.1.lt
      have ce := (hI2.1.cellAt zn).trans (map_int_get _ zn (by rw [hdl]; exact hlt))
      have fe := hI2.1.free zn
      have le := hI2.1.lt
      have HI2 := Lib.hid hI2
      have HD : Hid ((depL m (pre ++ [((zn : Int), d)])).map (Value.int .i64) = ((depL m pre).map (Value.int .i64)).set zn (.int .i64 (d : Int))) := Lib.hid (by rw [depL_snoc]; simp [List.map_set])
      clear hI hI2 hbl hgV hnc' d2 k2 hb2 hKI hx
      generalize (depL m pre)[zn]?.getD 0 = old at *
      gi_wp2
      refine ⟨(KeepsOthers.setCell _ _ _).from _, ⟨by simp, fun k hk _ => Below.heap_setCell _ _ _ k (by simp at hk; exact hk.1)⟩, ?_⟩
      exact ⟨by rw [HD.out]; exact HI2.out.1.set zn _, HI2.out.2.1.other _ _ (by simp), HI2.out.2.2.setCell (p := ⟨w.heap.size, zn, none⟩) (Nat.le_refl _) _⟩
  case done =>
    rintro D xs V hD rfl hI hmk
    have HMK := Lib.hid hmk
    have cb := hI.2.1.cellAt 0
    have lb := hI.2.1.lt
    have HI := Lib.hid hI
    clear hI hmk d2 k2 hb2 hKI
    go_wp2
    refine leaves_marks w.heap.size [D] _ ((Marks.nil w.heap.size _).cons (D := D) (by omega) HMK.out (fun E hE => by cases hE)) (fun W' hck hbk => ⟨.slice (some ⟨w.heap.size, 0, none⟩) m m, ?_, ?_⟩)
    · simp [results, Try.results33, go_sem]
    · exact ⟨rfl, hck _ _ HI.out.1 rfl, HI.out.2.2.trans hbk⟩
  case stop =>
    rintro D c pre V hD _ h
    exact h.elim
end Go.Proofs.Ytecnapecmioamaa
