/- A node that has itself, or one above it, as a Kid is found: for every chain and every two places. -/
import Derived.Test.YtemfhhpbcbiagaaRows
import Derived.WalkKit
import Derived.ProofKit
import Derived.OpenShut
import Derived.Below
import Derived.Test.YtemfhhpbcbiagaaTBuild
import Derived.ShutString
namespace Go.Proofs.Ytemfhhpbcbiagaa.treeLoops
open Go.ChangeShapes Go.WideShapes Go.ChangeAt Go.RowKit
open Go.ChangeMaps (open_string shut_string)
set_option linter.unusedVariables false      -- a walk need not use every 'w<i>' (that an integer argument fits its kind)

theorem own : ownKnob Try.prog.godebug = none := by kernel_rfl

def chK (k : Nat) (i : Nat) : List Int := if i + 1 < k then [((i + 1 : Nat) : Int)] else []
theorem chK_step (j i : Nat) : updF (chK (j + 1)) j [((j + 1 : Nat) : Int)] i = chK (j + 2) i := by
  unfold updF chK
  by_cases h : i = j
  · subst h; rw [if_pos rfl, if_pos (by omega)]
  · rw [if_neg h]
    by_cases h2 : i + 1 < j + 1
    · rw [if_pos h2, if_pos (by omega)]
    · rw [if_neg h2, if_neg (by omega)]
theorem chK_loop (n f t i : Nat) : updF (chK n) f (chK n f ++ [(t : Int)]) i = loopK n (some (f, t)) i := by
  unfold updF loopK chK
  by_cases h : i = f
  · subst h; simp
  · simp [h]
/-- the chain in memory: what lies at one place -/
theorem chain_kid {X : World} {L n : Nat} {kvf : Nat → Value} (h : ZAt X L n kvf (chK n)) (f : Nat) (hf : f < n) :
    (∃ p c, kvf f = .slice p 0 c ∧ chK n f = []) ∨ (∃ kb ko c z, kvf f = .slice (some ⟨kb, ko, none⟩) 1 c ∧ chK n f = [z] ∧ X.cell? ⟨kb, ko, none⟩ = some (.int .i64 z) ∧ kb < X.heap.size) := by
  obtain ⟨⟨_, h2⟩, -, -⟩ := h.2 f hf
  unfold chK at *
  by_cases hc : f + 1 < n
  · rw [if_pos hc] at h2 ⊢
    rcases h2 with ⟨a, c, e, h0⟩ | ⟨kb, ko, c, e, hcell⟩
    · cases h0
    · have := hcell 0 (by simp)
      refine .inr ⟨kb, ko, c, _, e, rfl, this, cell_lt this⟩
  · rw [if_neg hc] at h2 ⊢
    rcases h2 with ⟨a, c, e, _⟩ | ⟨kb, ko, c, e, _⟩
    · exact .inl ⟨a, c, e, rfl⟩
    · exact .inl ⟨_, c, e, rfl⟩
theorem at_worldE {F : Exit → Act → World → Prop} {e : Exit} {a : Act} {W : World} (p : World → Prop) (h : p W) (k : ∀ X, p X → F e a X) : F e a W := k W h
theorem below_drew (w : World) : Below w.heap.size w w.drew := below_dn _ w 1
/-- one kid more is laid in: the new kids lie in a block of their own -/
theorem put_kid {U : World} {L n f t : Nat} {kvf : Nat → Value} (hz : ZAt U L n kvf (chK n)) (hf : f < n) (hL : L < U.heap.size) (o1 o2 : Obj) (g : Nat) (hg : U.heap.size ≤ g) (k : Nat) (hk : k ≤ 2)
    (hI : Ints ((U.alloc o1).alloc o2) (.slice (some ⟨g, 0, none⟩) k 2) (chK n f ++ [(t : Int)])) (hkl : (chK n f ++ [(t : Int)]).length = k) :
    ∃ kvf', ZAt (((U.setCell ⟨L, f * 34 + 1, none⟩ (.slice (some ⟨g, 0, none⟩) k 2)).alloc o1).alloc o2).drew L n kvf' (loopK n (some (f, t))) := by
  have h1 := hz.below ((Below.refl _ U).alloc (Nat.le_refl _) o1)
  have h2 := h1.below ((Below.refl _ (U.alloc o1)).alloc (Nat.le_refl _) o2)
  have h3 := (h2.put f hf (.slice (some ⟨g, 0, none⟩) k 2) (chK n f ++ [(t : Int)]) hI (capok_slice _ _ _ hk (by omega)) (.inr ⟨g, 0, 2, by rw [hkl], by omega⟩)).cong fun i hi => chK_loop n f t i
  rw [World.setCell_alloc_past _ _ _ _ (by simp; omega), World.setCell_alloc_past _ _ _ _ hL] at h3
  exact ⟨_, h3.below (below_drew _)⟩
theorem put_below {B : Nat} {w U : World} {L f : Nat} (hb : Below B w U) (hB : B ≤ L) (hB2 : B ≤ U.heap.size) (v : Value) (o1 o2 : Obj) : Below B w (((U.setCell ⟨L, f * 34 + 1, none⟩ v).alloc o1).alloc o2).drew :=
  ((((hb.setCell (p := ⟨L, f * 34 + 1, none⟩) hB v).alloc (by simp; omega) o1).alloc (by simp; omega) o2)).trans ((below_drew _).mono (by simp; omega))
theorem two_ints (U : World) (o : Obj) (zs : List Int) (k : Nat) (xs : List Value) (hz : zs.length = k) (h2 : k ≤ 2) (hx : ∀ j, j < k → xs[j]? = some (.int .i64 (zs[j]?.getD 0))) :
    Ints ((U.alloc (.cells xs.toArray 3)).alloc o) (.slice (some ⟨U.heap.size, 0, none⟩) k 2) zs ∧ Ints ((U.alloc o).alloc (.cells xs.toArray 3)) (.slice (some ⟨U.heap.size + 1, 0, none⟩) k 2) zs := by
  have a1 : Whole ((U.alloc (.cells xs.toArray 3)).alloc o) U.heap.size 3 xs := (whole_new U xs 3 _ rfl).alloc _
  have a2 : Whole ((U.alloc o).alloc (.cells xs.toArray 3)) (U.heap.size + 1) 3 xs := whole_new (U.alloc o) xs 3 _ (by simp)
  subst hz
  exact ⟨⟨by omega, .inr ⟨_, 0, 2, rfl, fun j hj => by rw [Nat.zero_add, a1.cellAt]; exact hx j hj⟩⟩, ⟨by omega, .inr ⟨_, 0, 2, rfl, fun j hj => by rw [Nat.zero_add, a2.cellAt]; exact hx j hj⟩⟩⟩
theorem make_two (w : World) : (Instr.makeSlice 29 (.int .i64 0) (.int .i64 2)).run Try.prog w = .ok (.slice (some ⟨w.heap.size, 0, none⟩) 0 2) (w.alloc (.cells #[.int .i64 0, .int .i64 0] 3)) := make_room 2 (by omega) w
set_option maxRecDepth 100000 in
set_option maxHeartbeats 4000000 in
theorem loops_at (n f t : Nat) (h1 : 2 ≤ n) (h2 : n ≤ 60) (hf : f < n) (ht : t < n) (w : World) (a b : Int) (HA : Hid (∀ kvf : Nat → Value, checkP (zeroPg n kvf (loopK n (some (f, t)))) = (a, b))) (hab : (t = 0 ∧ a = (f : Int) ∧ b = 40) ∨ (t ≠ 0 ∧ a = (t : Int) ∧ b = 41)) :
    Calls Try.prog 6 #[.int .i64 (n : Int), .int .i64 (f : Int), .int .i64 (t : Int)] w fun e w' => e = .returned (.bool true) ∧ Below w.heap.size w w' := by
  have hmk := make_nodes n (by omega)
  have HS := Lib.hid (fun X => ZAt.start X n)
  obtain ⟨zc, hzc⟩ : ∃ zc, (flatN (List.replicate n Nd.zero)).toArray = zc := ⟨_, rfl⟩
  rw [hzc] at hmk HS
  clear hzc
  have HMT := Lib.hid make_two
  go_enter Try.func6, Try.ntmps6
  go_wp2_with (go_at_call 8; refine (shown_any _).mono ?_; rintro e w1 ⟨rfl, hb1⟩; have HB1 := Lib.hid hb1; clear hb1)
  go_loopw [9] (fun i x => ∃ j : Nat, j + 1 ≤ n ∧ i = .int .i64 ((j + 1 : Nat) : Int) ∧ Hid (∃ kvf, ZAt x w1.heap.size n kvf (chK (j + 1))) ∧ Hid (Below w.heap.size w x)) (fun i _ => n - (intOf i).toNat)
  case atStart =>
    refine ⟨0, by omega, by simp, Lib.hid ⟨_, (HS.out w1).cong fun i hi => by simp [chK]⟩, Lib.hid (HB1.out.alloc HB1.out.size _)⟩
  case round =>
    obtain ⟨j, hj, rfl, HZ, HB⟩ := hrel
    have hz1 := HB1.out.size
    clear hmk HS
    by_cases hlt : j + 1 < n
    · obtain ⟨kvf, hz⟩ := HZ.out
      have cj := hz.cell j (by omega)
      have fj := hz.1.free (j * 34 + 1)
      have lj := hz.1.lt
      have hk : ((j + 1 : Nat) : Int) = (j : Int) + 1 := by simp
      have hz3 := (((hz.below ((Below.refl _ wr).alloc (Nat.le_refl _) (.cells #[.int .i64 ((j : Int) + 1)] 3))).put j (by omega) (.slice (some ⟨wr.heap.size, 0, none⟩) 1 1) [((j + 1 : Nat) : Int)] (Ints.whole (t := 3) (by rw [hk]; exact whole_new wr [.int .i64 ((j : Int) + 1)] 3 _ rfl) rfl (by omega)) (capok_slice _ _ _ (by omega) (by omega)) (.inr ⟨_, _, _, rfl, by omega⟩)).cong fun i hi => chK_step j i)
      have hb3 := (HB.out.alloc HB.out.size (.cells #[.int .i64 ((j : Int) + 1)] 3)).setCell (p := ⟨w1.heap.size, j * 34 + 1, none⟩) hz1 (.slice (some ⟨wr.heap.size, 0, none⟩) 1 1)
      rw [World.setCell_alloc_past _ _ _ _ lj] at hz3 hb3
      have HZ3 := Lib.hid (⟨_, hz3⟩ : ∃ kvf, ZAt _ w1.heap.size n kvf (chK (j + 2)))
      have HB3 := Lib.hid hb3
      clear hz HZ hz3 hb3
      generalize kvf j = old at cj
      go_wp2
      go_roundw
      case rel => exact ⟨j + 1, by omega, by go_num, HZ3, HB3⟩
      case measure => simp [intOf]; omega
    · have hjn : j + 1 = n := by omega
      obtain ⟨kvf, hz⟩ := HZ.out
      rw [hjn] at hz
      have cf := hz.cell f hf
      have ff := hz.1.free (f * 34 + 1)
      have lf := hz.1.lt
      have hlt' : ¬ ((j : Int) + 1 < (n : Int)) := by omega
      have hkid := chain_kid hz f hf
      have hap := (hz.2 f hf).2.2
      have HZ2 := Lib.hid hz
      have hmt := HMT.out
      clear hz HZ hj hlt hjn
      obtain ⟨U, rfl⟩ : ∃ U, U = wr := ⟨_, rfl⟩
      rcases hkid with ⟨p, c, hkv, hks⟩ | ⟨kb, ko, c, z, hkv, hks, hkc, hkl⟩
      · rw [hkv] at cf
        have ZA1 := Lib.hid (put_kid (t := t) HZ2.out hf lf (.cells #[.int .i64 (t : Int), .int .i64 0] 3) (.cells #[.int .i64 (t : Int)] 3) U.heap.size (Nat.le_refl _) 1 (by omega) (by rw [hks]; exact (two_ints U _ [(t : Int)] 1 [.int .i64 (t : Int), .int .i64 0] rfl (by omega) (fun j hj => by have hj' : j = 0 := (by omega); subst hj'; rfl)).1) (by rw [hks]; rfl))
        have ZA2 := Lib.hid (put_kid (t := t) HZ2.out hf lf (.cells #[.int .i64 (t : Int)] 3) (.cells #[.int .i64 (t : Int), .int .i64 0] 3) (U.heap.size + 1) (by omega) 1 (by omega) (by rw [hks]; exact (two_ints U _ [(t : Int)] 1 [.int .i64 (t : Int), .int .i64 0] rfl (by omega) (fun j hj => by have hj' : j = 0 := (by omega); subst hj'; rfl)).2) (by rw [hks]; rfl))
        clear hap
        go_wp2
        cases p with
        | none =>
          go_region
          all_goals
            refine at_worldE (fun X => (∃ kvf', ZAt X w1.heap.size n kvf' (loopK n (some (f, t)))) ∧ Below w.heap.size w X) ⟨?zat, ?bel⟩ ?_
            case bel => exact put_below HB.out hz1 HB.out.size _ _ _
            case zat => first | exact ZA1.out | exact ZA2.out
            rintro X ⟨⟨kvf', hzX⟩, hbX⟩
            have HBX := Lib.hid hbX
            have hc := check_any (.slice (some ⟨w1.heap.size, 0, none⟩) n n) _ X (hzX.page (by omega)) (zero_ks_le fun i hi => by unfold loopK; split <;> simp <;> split <;> simp)
            rw [HA.out kvf'] at hc
            have HCK := Lib.hid hc
            clear hc hzX hbX ZA1 ZA2 cf ff lf
            rcases hab with ⟨h3, rfl, rfl⟩ | ⟨h3, rfl, rfl⟩
            · subst h3
              go_wp2_with (go_at_call 9; refine HCK.out.mono ?_; clear HCK; rintro e w3 ⟨rfl, hb3⟩; have HB3 := Lib.hid (HBX.out.trans (hb3.mono HBX.out.size)); clear hb3)
              go_ret
              exact ⟨rfl, HB3.out⟩
            · have h3' : ((t : Int) == 0) = false := by simpa using h3
              go_wp2_with (go_at_call 9; refine HCK.out.mono ?_; clear HCK; rintro e w3 ⟨rfl, hb3⟩; have HB3 := Lib.hid (HBX.out.trans (hb3.mono HBX.out.size)); clear hb3)
              go_ret
              exact ⟨rfl, HB3.out⟩
        | some p =>
          go_region
          all_goals
            refine at_worldE (fun X => (∃ kvf', ZAt X w1.heap.size n kvf' (loopK n (some (f, t)))) ∧ Below w.heap.size w X) ⟨?zat, ?bel⟩ ?_
            case bel => exact put_below HB.out hz1 HB.out.size _ _ _
            case zat => first | exact ZA1.out | exact ZA2.out
            rintro X ⟨⟨kvf', hzX⟩, hbX⟩
            have HBX := Lib.hid hbX
            have hc := check_any (.slice (some ⟨w1.heap.size, 0, none⟩) n n) _ X (hzX.page (by omega)) (zero_ks_le fun i hi => by unfold loopK; split <;> simp <;> split <;> simp)
            rw [HA.out kvf'] at hc
            have HCK := Lib.hid hc
            clear hc hzX hbX ZA1 ZA2 cf ff lf
            rcases hab with ⟨h3, rfl, rfl⟩ | ⟨h3, rfl, rfl⟩
            · subst h3
              go_wp2_with (go_at_call 9; refine HCK.out.mono ?_; clear HCK; rintro e w3 ⟨rfl, hb3⟩; have HB3 := Lib.hid (HBX.out.trans (hb3.mono HBX.out.size)); clear hb3)
              go_ret
              exact ⟨rfl, HB3.out⟩
            · have h3' : ((t : Int) == 0) = false := by simpa using h3
              go_wp2_with (go_at_call 9; refine HCK.out.mono ?_; clear HCK; rintro e w3 ⟨rfl, hb3⟩; have HB3 := Lib.hid (HBX.out.trans (hb3.mono HBX.out.size)); clear hb3)
              go_ret
              exact ⟨rfl, HB3.out⟩
      · rw [hkv] at cf
        have hnL : kb ≠ w1.heap.size := by
          rcases hap with h | ⟨b', o', c', e, h⟩
          · rw [hks] at h; cases h
          · rw [hkv] at e; injection e with e1; injection e1 with e1; injection e1 with e1; rw [e1]; exact h
        have ZA1 := Lib.hid (put_kid (t := t) HZ2.out hf lf (.cells #[.int .i64 z, .int .i64 (t : Int)] 3) (.cells #[.int .i64 (t : Int)] 3) U.heap.size (Nat.le_refl _) 2 (by omega) (by rw [hks]; exact (two_ints U _ [z, (t : Int)] 2 [.int .i64 z, .int .i64 (t : Int)] rfl (by omega) (fun j hj => by have hj' : j = 0 ∨ j = 1 := (by omega); rcases hj' with rfl | rfl <;> rfl)).1) (by rw [hks]; rfl))
        have ZA2 := Lib.hid (put_kid (t := t) HZ2.out hf lf (.cells #[.int .i64 (t : Int)] 3) (.cells #[.int .i64 z, .int .i64 (t : Int)] 3) (U.heap.size + 1) (by omega) 2 (by omega) (by rw [hks]; exact (two_ints U _ [z, (t : Int)] 2 [.int .i64 z, .int .i64 (t : Int)] rfl (by omega) (fun j hj => by have hj' : j = 0 ∨ j = 1 := (by omega); rcases hj' with rfl | rfl <;> rfl)).2) (by rw [hks]; rfl))
        clear hap
        go_wp2
        go_region
        all_goals
          refine at_worldE (fun X => (∃ kvf', ZAt X w1.heap.size n kvf' (loopK n (some (f, t)))) ∧ Below w.heap.size w X) ⟨?zat, ?bel⟩ ?_
          case bel => exact put_below HB.out hz1 HB.out.size _ _ _
          case zat => first | exact ZA1.out | exact ZA2.out
          rintro X ⟨⟨kvf', hzX⟩, hbX⟩
          have HBX := Lib.hid hbX
          have hc := check_any (.slice (some ⟨w1.heap.size, 0, none⟩) n n) _ X (hzX.page (by omega)) (zero_ks_le fun i hi => by unfold loopK; split <;> simp <;> split <;> simp)
          rw [HA.out kvf'] at hc
          have HCK := Lib.hid hc
          clear hc hzX hbX ZA1 ZA2 cf ff lf
          rcases hab with ⟨h3, rfl, rfl⟩ | ⟨h3, rfl, rfl⟩
          · subst h3
            go_wp2_with (go_at_call 9; refine HCK.out.mono ?_; clear HCK; rintro e w3 ⟨rfl, hb3⟩; have HB3 := Lib.hid (HBX.out.trans (hb3.mono HBX.out.size)); clear hb3)
            go_ret
            exact ⟨rfl, HB3.out⟩
          · have h3' : ((t : Int) == 0) = false := by simpa using h3
            go_wp2_with (go_at_call 9; refine HCK.out.mono ?_; clear HCK; rintro e w3 ⟨rfl, hb3⟩; have HB3 := Lib.hid (HBX.out.trans (hb3.mono HBX.out.size)); clear hb3)
            go_ret
            exact ⟨rfl, HB3.out⟩
set_option maxHeartbeats 1000000 in
theorem loops (n f t : Int) (w : World) : Calls Try.prog 6 #[.int .i64 n, .int .i64 f, .int .i64 t] w fun e w' => e = .returned (.bool true) ∧ Below w.heap.size w w' := by
  by_cases h0 : n < 2
  · go_enter Try.func6, Try.ntmps6
    go_wp2_with (go_at_call 8; refine (shown_any _).mono ?_; rintro e w1 ⟨rfl, hb1⟩)
    go_ret
    exact ⟨rfl, hb1⟩
  · by_cases h1 : 60 < n
    · go_enter Try.func6, Try.ntmps6
      go_wp2_with (go_at_call 8; refine (shown_any _).mono ?_; rintro e w1 ⟨rfl, hb1⟩)
      go_ret
      exact ⟨rfl, hb1⟩
    · by_cases h2 : f < 0
      · go_enter Try.func6, Try.ntmps6
        go_wp2_with (go_at_call 8; refine (shown_any _).mono ?_; rintro e w1 ⟨rfl, hb1⟩)
        go_ret
        exact ⟨rfl, hb1⟩
      · by_cases h3 : n ≤ f
        · go_enter Try.func6, Try.ntmps6
          go_wp2_with (go_at_call 8; refine (shown_any _).mono ?_; rintro e w1 ⟨rfl, hb1⟩)
          go_ret
          exact ⟨rfl, hb1⟩
        · by_cases h4 : t < 0
          · go_enter Try.func6, Try.ntmps6
            go_wp2_with (go_at_call 8; refine (shown_any _).mono ?_; rintro e w1 ⟨rfl, hb1⟩)
            go_ret
            exact ⟨rfl, hb1⟩
          · by_cases h5 : n ≤ t
            · go_enter Try.func6, Try.ntmps6
              go_wp2_with (go_at_call 8; refine (shown_any _).mono ?_; rintro e w1 ⟨rfl, hb1⟩)
              go_ret
              exact ⟨rfl, hb1⟩
            · obtain ⟨m, rfl⟩ := Int.eq_ofNat_of_zero_le (show 0 ≤ n by omega)
              obtain ⟨g, rfl⟩ := Int.eq_ofNat_of_zero_le (show 0 ≤ f by omega)
              obtain ⟨u, rfl⟩ := Int.eq_ofNat_of_zero_le (show 0 ≤ t by omega)
              by_cases hu : u = 0
              · subst hu
                exact loops_at m g 0 (by omega) (by omega) (by omega) (by omega) w g 40 (Lib.hid fun kvf => loop_check0 (by omega) (by omega) (by omega) kvf) (.inl ⟨rfl, rfl, rfl⟩)
              · exact loops_at m g u (by omega) (by omega) (by omega) (by omega) w u 41 (Lib.hid fun kvf => loop_check (by omega) (by omega) (by omega) (by omega) (by omega) kvf) (.inr ⟨hu, rfl, rfl⟩)
theorem walk (a0 : Int) (a1 : Int) (a2 : Int) (w0 : (Lit.int .i64 a0).wf = true) (w1 : (Lit.int .i64 a1).wf = true) (w2 : (Lit.int .i64 a2).wf = true) (w : World) :
    Calls Try.prog 6 #[.int .i64 a0, .int .i64 a1, .int .i64 a2] w fun e w' => e = .returned (.bool true) ∧ Below w.heap.size w w' := by
  exact loops a0 a1 a2 w

set_option maxRecDepth 100000 in
theorem lifted (os : Os) (started : os.Started) (H : Type) (enc : TypeId × Value → H) :
    ReturnsInHanded {} Try.checked os 6 .any (Rows.treeLoopsSpec.pre6 enc Try.prog Try.f6 Rows.treeLoopsRow.domain false) (Rows.treeLoopsSpec.post enc Try.prog Try.f6 false true false false) := by
  refine returnsInHanded_of_change (C := Try.checked) own started (by kernel_rfl) Try.func6
    (ChangeSpec.witness6 (enc := enc) (C := Try.checked) false ⟨#[], #[.int .i64 0, .int .i64 0, .int .i64 0], []⟩ 8 (by kernel_rfl) (by kernel_rfl) (by kernel_rfl) (by kernel_rfl)) ?_
  intro W base args ds gs before hval0 hW hcnd _
  have hval : ∀ (j : Nat) t v, Try.f6.params[j]? = some t → args[j]? = some v → Value.okWide Try.prog W .any base t v := hval0
  have hW' := hW
  obtain ⟨p, q, hA0, hV, rfl, hfz, hnd⟩ := hW
  have hA : DataW.TrodAll enc Try.prog W 0 (fun _ => true) true Try.f6.params.toList args.toList ds p := hA0
  rw [Try.params6] at hA hval
  obtain ⟨v0, vs0, d0, ds0, p0, q0, hargs, rfl, rfl, h0, r0⟩ := trodAll_cons hA
  obtain ⟨v1, vs1, d1, ds1, p1, q1, rfl, rfl, rfl, h1, r1⟩ := trodAll_cons r0
  obtain ⟨v2, vs2, d2, ds2, p2, q2, rfl, rfl, rfl, h2, r2⟩ := trodAll_cons r1
  obtain ⟨rfl, rfl, rfl⟩ := trodAll_nil r2
  obtain rfl : args = #[v0, v1, v2] := by cases args; simp_all
  obtain ⟨rfl, rfl⟩ := trodVars_none hV
  obtain ⟨a0, rfl, rfl, rfl, w0⟩ := open_int Try.underlying3 (hval 0 3 v0 rfl rfl) h0
  obtain ⟨a1, rfl, rfl, rfl, w1⟩ := open_int Try.underlying3 (hval 1 3 v1 rfl rfl) h1
  obtain ⟨a2, rfl, rfl, rfl, w2⟩ := open_int Try.underlying3 (hval 2 3 v2 rfl rfl) h2
  clear hA0 hval0
  simp only [List.append_nil] at hW'
  refine (walk a0 a1 a2 w0 w1 w2 W).mono fun e W' ⟨he, hg⟩ => ?_
  subst he
  exact ⟨_, rfl, _, _, _, [], [], [], hW', (trodAll_cons_mk (shut_bool Try.underlying4 _) trodAll_mk0), (trodAll_cons_mk (shut_int Try.underlying3 w0) (trodAll_cons_mk (shut_int Try.underlying3 w1) (trodAll_cons_mk (shut_int Try.underlying3 w2) trodAll_mk0))), rfl, hg.frame _, fun h => by cases h⟩

theorem over : Rows.treeLoopsRow.holds Try.pinned (OpenSpec.ofChange Rows.treeLoopsSpec) :=
  OpenClaim.holds_of_wide 6 Try.f6 rfl rfl rfl rfl rfl rfl rfl ⟨rfl, rfl, rfl, rfl, rfl⟩ rfl rfl rfl rfl rfl (by kernel_rfl) Try.func6 (by kernel_rfl)
    (of_decide_eq_true (by kernel_rfl)) (by unfold Func.isWrapper; first | (rw [if_pos (by decide +kernel)]; kernel_rfl) | (rw [if_neg (by decide +kernel)]; exact ⟨rfl, rfl⟩))
    (fun os started H enc _ => lifted os started H enc)

/-- ████ THE STATEMENT ████ -/
theorem proved : Rows.TreeLoopsSaid :=
  over
#print axioms proved
end Go.Proofs.Ytemfhhpbcbiagaa.treeLoops
