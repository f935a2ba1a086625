/- How deep a page may be: for every length of a chain. -/
import Derived.Test.YtddbjfcdmilmkaaRows
import Derived.WalkKit
import Derived.ProofKit
import Derived.OpenShut
import Derived.Below
import Derived.Test.YtddbjfcdmilmkaaTBuild
import Derived.ShutString
namespace Go.Proofs.Ytddbjfcdmilmkaa.treeChains
open Go.ChangeShapes Go.WideShapes Go.ChangeAt Go.RowKit
open Go.ChangeMaps (open_string shut_string)
set_option linter.unusedVariables false      -- a walk need not use every 'w<i>' (that an integer argument fits its kind)

theorem own : ownKnob Try.prog.godebug = none := by kernel_rfl

def chK (k : Nat) (i : Nat) : List Int := if i + 1 < k then [((i + 1 : Nat) : Int)] else []
theorem chK_end (n i : Nat) : chK n i = loopK n none i := by simp [chK, loopK]
theorem chK_step (j i : Nat) : updF (chK (j + 1)) j [((j + 1 : Nat) : Int)] i = chK (j + 2) i := by
  unfold updF chK
  by_cases h : i = j
  · subst h; rw [if_pos rfl, if_pos (by omega)]
  · rw [if_neg h]
    by_cases h2 : i + 1 < j + 1
    · rw [if_pos h2, if_pos (by omega)]
    · rw [if_neg h2, if_neg (by omega)]
set_option maxRecDepth 100000 in
set_option maxHeartbeats 2000000 in
theorem chains_at (n : Nat) (h1 : 1 ≤ n) (h2 : n ≤ 70) (w : World) (a b : Int) (HA : Hid (∀ kvf : Nat → Value, checkP (zeroPg n kvf (loopK n none)) = (a, b))) (hab : (64 < n ∧ a = 64 ∧ b = 42) ∨ (n ≤ 64 ∧ a = 0 ∧ b = 0)) :
    Calls Try.prog 6 #[.int .i64 (n : Int)] w fun e w' => e = .returned (.bool true) ∧ Below w.heap.size w w' := by
  have hmk := make_nodes n (by omega)
  have HS := Lib.hid (fun X => ZAt.start X n)
  obtain ⟨zc, hzc⟩ : ∃ zc, (flatN (List.replicate n Nd.zero)).toArray = zc := ⟨_, rfl⟩
  rw [hzc] at hmk HS
  clear hzc
  go_enter Try.func6, Try.ntmps6
  go_wp2_with (go_at_call 10; refine (shown_any _).mono ?_; rintro e w1 ⟨rfl, hb1⟩; have HB1 := Lib.hid hb1; clear hb1)
  go_loopw [5] (fun i x => ∃ j : Nat, j + 1 ≤ n ∧ i = .int .i64 ((j + 1 : Nat) : Int) ∧ Hid (∃ kvf, ZAt x w1.heap.size n kvf (chK (j + 1))) ∧ Hid (Below w.heap.size w x)) (fun i _ => n - (intOf i).toNat)
  case atStart =>
    refine ⟨0, by omega, by simp, Lib.hid ⟨_, (HS.out w1).cong fun i hi => by simp [chK]⟩, Lib.hid (HB1.out.alloc HB1.out.size _)⟩
  case round =>
    obtain ⟨j, hj, rfl, HZ, HB⟩ := hrel
    have hz1 := HB1.out.size
    clear hmk HS
    by_cases hlt : j + 1 < n
    · obtain ⟨kvf, hz⟩ := HZ.out
      have cj := hz.cell j (by omega)
      have fj := hz.1.free (j * 34 + 1)
      have lj := hz.1.lt
      have hk : ((j + 1 : Nat) : Int) = (j : Int) + 1 := by simp
      have hz3 := (((hz.below ((Below.refl _ wr).alloc (Nat.le_refl _) (.cells #[.int .i64 ((j : Int) + 1)] 3))).put j (by omega) (.slice (some ⟨wr.heap.size, 0, none⟩) 1 1) [((j + 1 : Nat) : Int)] (Ints.whole (t := 3) (by rw [hk]; exact whole_new wr [.int .i64 ((j : Int) + 1)] 3 _ rfl) rfl (by omega)) (capok_slice _ _ _ (by omega) (by omega)) (.inr ⟨_, _, _, rfl, by omega⟩)).cong fun i hi => chK_step j i)
      have hb3 := (HB.out.alloc HB.out.size (.cells #[.int .i64 ((j : Int) + 1)] 3)).setCell (p := ⟨w1.heap.size, j * 34 + 1, none⟩) hz1 (.slice (some ⟨wr.heap.size, 0, none⟩) 1 1)
      rw [World.setCell_alloc_past _ _ _ _ lj] at hz3 hb3
      have HZ3 := Lib.hid (⟨_, hz3⟩ : ∃ kvf, ZAt _ w1.heap.size n kvf (chK (j + 2)))
      have HB3 := Lib.hid hb3
      clear hz HZ hz3 hb3
      generalize kvf j = old at cj
      go_wp2
      go_roundw
      case rel => exact ⟨j + 1, by omega, by go_num, HZ3, HB3⟩
      case measure => simp [intOf]; omega
    · obtain rfl : n = j + 1 := by omega
      obtain ⟨kvf, hz⟩ := HZ.out
      have hz2 : ZAt wr w1.heap.size (j + 1) kvf (loopK (j + 1) none) := hz.cong fun i hi => chK_end _ i
      have hc := check_any (.slice (some ⟨w1.heap.size, 0, none⟩) (j + 1) (j + 1)) _ wr (hz2.page (by omega)) (zero_ks_le fun i hi => by unfold loopK; split <;> simp)
      rw [HA.out kvf] at hc
      have HCK := Lib.hid hc
      clear hz hz2 hc HZ
      rcases hab with ⟨h3, rfl, rfl⟩ | ⟨h3, rfl, rfl⟩
      · go_wp2_with (go_at_call 11; refine HCK.out.mono ?_; clear HCK; rintro e w3 ⟨rfl, hb3⟩; have HB3 := Lib.hid (HB.out.trans (hb3.mono HB.out.size)); clear hb3)
        go_ret
        exact ⟨rfl, HB3.out⟩
      · go_wp2_with (go_at_call 11; refine HCK.out.mono ?_; clear HCK; rintro e w3 ⟨rfl, hb3⟩; have HB3 := Lib.hid (HB.out.trans (hb3.mono HB.out.size)); clear hb3)
        go_ret
        exact ⟨rfl, HB3.out⟩
set_option maxHeartbeats 400000 in
theorem chains (n : Int) (w : World) : Calls Try.prog 6 #[.int .i64 n] w fun e w' => e = .returned (.bool true) ∧ Below w.heap.size w w' := by
  by_cases h1 : n < 1
  · go_enter Try.func6, Try.ntmps6
    go_wp2_with (go_at_call 10; refine (shown_any _).mono ?_; rintro e w1 ⟨rfl, hb1⟩)
    go_ret
    exact ⟨rfl, hb1⟩
  · by_cases h2 : 70 < n
    · go_enter Try.func6, Try.ntmps6
      go_wp2_with (go_at_call 10; refine (shown_any _).mono ?_; rintro e w1 ⟨rfl, hb1⟩)
      go_ret
      exact ⟨rfl, hb1⟩
    · obtain ⟨k, rfl⟩ := Int.eq_ofNat_of_zero_le (show 0 ≤ n by omega)
      by_cases h3 : 64 < k
      · exact chains_at k (by omega) (by omega) w 64 42 (Lib.hid fun kvf => by rw [chain_check (by omega) (by omega), if_pos h3]) (.inl ⟨h3, rfl, rfl⟩)
      · exact chains_at k (by omega) (by omega) w 0 0 (Lib.hid fun kvf => by rw [chain_check (by omega) (by omega), if_neg h3]) (.inr ⟨by omega, rfl, rfl⟩)
theorem walk (a0 : Int) (w0 : (Lit.int .i64 a0).wf = true) (w : World) :
    Calls Try.prog 6 #[.int .i64 a0] w fun e w' => e = .returned (.bool true) ∧ Below w.heap.size w w' := by
  exact chains a0 w

set_option maxRecDepth 100000 in
theorem lifted (os : Os) (started : os.Started) (H : Type) (enc : TypeId × Value → H) :
    ReturnsInHanded {} Try.checked os 6 .any (Rows.treeChainsSpec.pre6 enc Try.prog Try.f6 Rows.treeChainsRow.domain false) (Rows.treeChainsSpec.post enc Try.prog Try.f6 false true false false) := by
  refine returnsInHanded_of_change (C := Try.checked) own started (by kernel_rfl) Try.func6
    (ChangeSpec.witness6 (enc := enc) (C := Try.checked) false ⟨#[], #[.int .i64 0], []⟩ 8 (by kernel_rfl) (by kernel_rfl) (by kernel_rfl) (by kernel_rfl)) ?_
  intro W base args ds gs before hval0 hW hcnd _
  have hval : ∀ (j : Nat) t v, Try.f6.params[j]? = some t → args[j]? = some v → Value.okWide Try.prog W .any base t v := hval0
  have hW' := hW
  obtain ⟨p, q, hA0, hV, rfl, hfz, hnd⟩ := hW
  have hA : DataW.TrodAll enc Try.prog W 0 (fun _ => true) true Try.f6.params.toList args.toList ds p := hA0
  rw [Try.params6] at hA hval
  obtain ⟨v0, vs0, d0, ds0, p0, q0, hargs, rfl, rfl, h0, r0⟩ := trodAll_cons hA
  obtain ⟨rfl, rfl, rfl⟩ := trodAll_nil r0
  obtain rfl : args = #[v0] := by cases args; simp_all
  obtain ⟨rfl, rfl⟩ := trodVars_none hV
  obtain ⟨a0, rfl, rfl, rfl, w0⟩ := open_int Try.underlying3 (hval 0 3 v0 rfl rfl) h0
  clear hA0 hval0
  simp only [List.append_nil] at hW'
  refine (walk a0 w0 W).mono fun e W' ⟨he, hg⟩ => ?_
  subst he
  exact ⟨_, rfl, _, _, _, [], [], [], hW', (trodAll_cons_mk (shut_bool Try.underlying4 _) trodAll_mk0), (trodAll_cons_mk (shut_int Try.underlying3 w0) trodAll_mk0), rfl, hg.frame _, fun h => by cases h⟩

theorem over : Rows.treeChainsRow.holds Try.pinned (OpenSpec.ofChange Rows.treeChainsSpec) :=
  OpenClaim.holds_of_wide 6 Try.f6 rfl rfl rfl rfl rfl rfl rfl ⟨rfl, rfl, rfl, rfl, rfl⟩ rfl rfl rfl rfl rfl (by kernel_rfl) Try.func6 (by kernel_rfl)
    (of_decide_eq_true (by kernel_rfl)) (by unfold Func.isWrapper; first | (rw [if_pos (by decide +kernel)]; kernel_rfl) | (rw [if_neg (by decide +kernel)]; exact ⟨rfl, rfl⟩))
    (fun os started H enc _ => lifted os started H enc)

/-- ████ THE STATEMENT ████ -/
theorem proved : Rows.TreeChainsSaid :=
  over
#print axioms proved
end Go.Proofs.Ytddbjfcdmilmkaa.treeChains
