/- The edges of a course: the iterator collapse.course.edges. -/
import Derived.Test.YtceippgkmoijdaaCoBes
import Derived.Test.YtceippgkmoijdaaCoRun
namespace Go.Proofs.Ytceippgkmoijdaa
open Go.RowKit Go.Shelf Go.Sort
set_option linter.unusedVariables false
set_option linter.unusedSimpArgs false
attribute [local go_sem] Oper.semAt_some

/-- what is visited in the first rows, and in the first columns of the next -/
def edT (f : Nat → Nat → Option (Int × Int)) (C i j : Nat) : List (Int × Int) := ((List.range i).flatMap fun r => (List.range C).filterMap (f r)) ++ (List.range j).filterMap (f i)
theorem edT_zero (f : Nat → Nat → Option (Int × Int)) (C : Nat) : edT f C 0 0 = [] := rfl
theorem edT_some {f : Nat → Nat → Option (Int × Int)} {C i j : Nat} {x : Int × Int} (h : f i j = some x) : edT f C i (j + 1) = edT f C i j ++ [x] := by
  unfold edT; rw [List.range_succ, List.filterMap_append, List.append_assoc]; simp [h]
theorem edT_none {f : Nat → Nat → Option (Int × Int)} {C i j : Nat} (h : f i j = none) : edT f C i (j + 1) = edT f C i j := by
  unfold edT; rw [List.range_succ, List.filterMap_append]; simp [h]
theorem edT_row (f : Nat → Nat → Option (Int × Int)) (C i : Nat) : edT f C i C = edT f C (i + 1) 0 := by
  unfold edT; rw [List.range_succ, List.flatMap_append]; simp
/-- is an edge at a row and a column? -/
def edF (l : Bool) (ps : List Pz) (rn kn : Nat) (r c : Nat) : Option (Int × Int) :=
  if 0 ≤ whoL l ps rn kn ((turnP l r c).1 - 1) (turnP l r c).2 ∧ whoL l ps rn kn ((turnP l r c).1 - 1) (turnP l r c).2 = whoL l ps rn kn (turnP l r c).1 (turnP l r c).2 then none else some (turnP l r c)
/-- blocks below a number keep, but some -/
def KpL (A : Nat) (E : List Nat) (V W : World) : Prop := V.heap.size ≤ W.heap.size ∧ ∀ k, k ∉ E → k < A → k < V.heap.size → W.heap[k]? = V.heap[k]?
theorem KpL.refl (A : Nat) (E : List Nat) (V : World) : KpL A E V V := ⟨Nat.le_refl _, fun _ _ _ _ => rfl⟩
theorem KpL.trans {A : Nat} {E : List Nat} {U V W : World} (h : KpL A E U V) (k : KpL A E V W) : KpL A E U W := ⟨Nat.le_trans h.1 k.1, fun i hi ha hl => (k.2 i hi ha (Nat.lt_of_lt_of_le hl h.1)).trans (h.2 i hi ha hl)⟩
theorem KpL.put {A : Nat} {E : List Nat} (W : World) (l : Nat) (o : Obj) (h : A ≤ l) : KpL A E W (W.putObj l o) := ⟨by simp, fun k _ hk _ => World.putObj_heap_other fun e => by omega⟩
theorem KpL.of_below {A : Nat} {E : List Nat} {V W : World} (h : Below V.heap.size V W) : KpL A E V W := ⟨h.size, fun k _ _ hl => h.block k hl⟩
def nxtE (f : Nat → Nat → Option (Int × Int)) (R C : Nat) (pre : List (Int × Int)) (x : Int × Int) : Prop := ∃ i j, i < R ∧ j < C ∧ f i j = some x ∧ pre = edT f C i j
def encE (x : Int × Int) : Array Value := #[.int .i64 x.1, .int .i64 x.2]
set_option maxRecDepth 100000 in
set_option maxHeartbeats 4000000 in
theorem edges_in (n : Nat) (hn : 1 ≤ n) (l0 : Nat) (l : Bool) (ps : List Pz) (rn kn gb : Nat) (po : Option Addr) (co B : Nat) (gr gc g3 A : Nat) (E : List Nat) (R C : Nat) (hR : R ≤ 20001) (hC : C ≤ 20001) (J Jx : List (Int × Int) → World → Prop)
    (W : World) (hY : ∀ pre x V, J pre V → nxtE (edF l ps rn kn) R C pre x → YieldAt Fence.wide (n - 1) Try.prog l0 (encE x) V fun e V' =>
      (e = .returned (.bool true) ∧ J (pre ++ [x]) V' ∧ KpL A E V V') ∨ (e = .returned (.bool false) ∧ Jx (pre ++ [x]) V'))
    (hA : A ≤ W.heap.size) (hBA : B ≤ A) (hJ : ∀ s X Y, J s X → Below W.heap.size X Y → J s Y) (hgr : gr < A) (hgc : gc < A) (hg3 : g3 < A) (el : ∀ k ∈ E, B ≤ k) (er : gr ∉ E) (ec : gc ∉ E) (e3 : g3 ∉ E)
    (hcr : W.cell? ⟨gr, 0, none⟩ = some (.int .i64 (R : Int))) (hcc : W.cell? ⟨gc, 0, none⟩ = some (.int .i64 (C : Int))) (hc3 : Whole W g3 70 (crs l rn kn gb))
    (hN : NK ps rn kn gb po co B W) (h0 : J [] W) :
    CallsIn Fence.wide n Try.prog 71 #[.func (.yield l0) #[] #[], .pointer (some ⟨gr, 0, none⟩), .pointer (some ⟨gc, 0, none⟩), .pointer (some ⟨g3, 0, none⟩)] W fun e W' => (∃ v, e = .returned v) ∧
      ((∃ ys, ys = edT (edF l ps rn kn) C R 0 ∧ J ys W') ∨ (∃ pre, True ∧ Jx pre W')) := by
  refine callsIn_of_wp Try.func71 rfl trivial ?_ rfl
  simp only [Try.ntmps71, List.size_toArray, List.length_cons, List.length_nil, Nat.reduceAdd, Nat.reduceSub, Array.replicate_succ, Array.replicate_zero, List.push_toArray, List.append_toArray, List.nil_append, List.cons_append]
  -- what was below stays
  have HLB : Hid (∀ X, KpL A E W X → ∀ k, k < A → k ∉ E → X.heap[k]? = W.heap[k]?) := Lib.hid fun X hX k hk he => hX.2 k he hk (by omega)
  have HNK : Hid (∀ X, KpL A E W X → NK ps rn kn gb po co B X) := Lib.hid fun X hX => hN.keep hX.1 fun k hk => HLB.out X hX k (by omega) (fun hm => by have := el _ hm; omega)
  have HC3 : Hid (∀ X, KpL A E W X → Whole X g3 70 (crs l rn kn gb)) := Lib.hid fun X hX => (HLB.out X hX g3 hg3 e3).trans hc3
  have HCC : Hid (∀ X, KpL A E W X → X.cell? ⟨gc, 0, none⟩ = some (.int .i64 (C : Int))) := Lib.hid fun X hX => (World.cell?_of_block (a := ⟨gc, 0, none⟩) (HLB.out X hX gc hgc ec)).trans hcc
  have HY := Lib.hid hY
  have HJ := Lib.hid hJ
  have H0 := Lib.hid h0
  have HEN := Lib.hid (turn_enter l)
  have HTN := Lib.hid (turn_any l)
  have HBS := Lib.hid (fun a b X hX ha hb => beside_any l ps rn kn gb po co B a b X hX ha hb)
  obtain ⟨x0, x1, x2, x3, x4, hx, -⟩ := crs_form l rn kn gb
  obtain ⟨fw, hfw⟩ : ∃ f, whoF l = f := ⟨_, rfl⟩
  obtain ⟨ft, hft⟩ : ∃ f, turnF l = f := ⟨_, rfl⟩
  rw [hfw, hft] at hx
  rw [hft] at HEN HTN
  rw [hx] at HBS HC3
  have lgr := cell_lt hcr
  have lgc := cell_lt hcc
  obtain ⟨f, hf⟩ : ∃ f, edF l ps rn kn = f := ⟨_, rfl⟩
  have HF : Hid (∀ r c : Nat, f r c = if 0 ≤ whoL l ps rn kn ((turnP l r c).1 - 1) (turnP l r c).2 ∧ whoL l ps rn kn ((turnP l r c).1 - 1) (turnP l r c).2 = whoL l ps rn kn (turnP l r c).1 (turnP l r c).2 then none else some (turnP l r c)) := Lib.hid fun r c => by rw [← hf]; rfl
  rw [hf] at HY ⊢
  clear hY hJ h0 hN hc3 hx hfw hft hf el er ec e3 hBA hA hgr hgc hg3
  refine wpIn_wide.2 (wp_scope_straight ((wpIn_wide (n := n)).1 ?_))
  gi_wp2
  refine wpIn_label ?_
  gi_wp2
  clear hcr lgr hcc lgc
  gi_loopw [13] (fun s9 X => ∃ i : Nat, i ≤ R ∧ s9 = .int .i64 i ∧ Hid (J (edT f C i 0) X) ∧ Hid (KpL A E W X)) (fun s9 _ => R - (intOf s9).toNat)
  case atStart => exact ⟨0, Nat.zero_le _, rfl, Lib.hid (by rw [edT_zero]; exact H0.out), Lib.hid (KpL.refl _ _ _)⟩
  case round =>
    obtain ⟨i, hi, rfl, HJ1, HK⟩ := hrel
    by_cases hlt : i < R
    · have hcc := HCC.out wr HK.out
      have lgc := cell_lt hcc
      gi_wp2
      clear hcc lgc
      gi_loopw [17] (fun s15 X => ∃ j : Nat, j ≤ C ∧ s15 = .int .i64 j ∧ Hid (J (edT f C i j) X) ∧ Hid (KpL A E W X)) (fun s15 _ => C - (intOf s15).toNat)
      case atStart => exact ⟨0, Nat.zero_le _, rfl, HJ1, HK⟩
      case round =>
        clear HJ1 HK
        obtain ⟨j, hj, rfl, HJ1, HK⟩ := hrel
        by_cases hlt2 : j < C
        · have KT := HC3.out wr HK.out
          have lT := KT.lt
          have k0 := KT.cellAt 0
          have k1 := KT.cellAt 1
          have k2 := KT.cellAt 2
          have k3 := KT.cellAt 3
          have k4 := KT.cellAt 4
          have k5 := KT.cellAt 5
          have k6 := KT.cellAt 6
          simp only [List.getElem?_cons_zero, List.getElem?_cons_succ] at k0 k1 k2 k3 k4 k5 k6
          clear KT
          have HFI := Lib.hid (HF.out i j)
          obtain ⟨a, ha⟩ : ∃ a, (turnP l i j).1 = a := ⟨_, rfl⟩
          obtain ⟨b, hb⟩ : ∃ b, (turnP l i j).2 = b := ⟨_, rfl⟩
          have hab : 0 ≤ a ∧ a ≤ 20001 ∧ 0 ≤ b ∧ b ≤ 20001 := by cases l <;> simp [turnP] at ha hb <;> omega
          have HP : Hid (turnP l i j = (a, b)) := Lib.hid (by rw [← ha, ← hb])
          have HT1 := Lib.hid (HTN.out i j wr)
          rw [ha, hb] at HFI HT1
          have hw1 : IntKind.i64.wrap (a - 1) = a - 1 := by simp [IntKind.wrap, IntKind.bits, IntKind.signed]; omega
          have HB1 := Lib.hid (HBS.out a b wr (HNK.out wr HK.out) ⟨by omega, by omega⟩ ⟨by omega, by omega⟩)
          rw [hw1] at HB1
          obtain ⟨v1, hv1⟩ : ∃ v, whoL l ps rn kn (a - 1) b = v := ⟨_, rfl⟩
          obtain ⟨v2, hv2⟩ : ∃ v, whoL l ps rn kn a b = v := ⟨_, rfl⟩
          rw [hv1, hv2] at HB1 HFI
          clear ha hb hw1 hv1 hv2 hab
          gi_wp2_with fail
          refine ⟨trivial, ?_⟩
          rw [HEN.out, Oper.uponIn_enter]
          refine ⟨fun h => (by cases h), ?_⟩
          refine (callsIn_wide.2 HT1.out).mono ?_
          rintro e w7 ⟨rfl, rfl⟩
          gi_wp2_with fail
          refine ⟨trivial, ?_⟩
          gi_at_call 25
          refine (callsIn_wide.2 HB1.out).mono ?_
          rintro e w8 ⟨rfl, hb8⟩
          have BV := Lib.hid hb8
          have HK2 : Hid (KpL A E W w8) := Lib.hid (HK.out.trans (KpL.of_below BV.out))
          have HJ2 := Lib.hid (HJ.out _ _ _ HJ1.out (BV.out.mono HK.out.1))
          clear hb8 k0 k1 k2 k3 k4 k5 k6 lT HB1 HT1
          by_cases hin : 0 ≤ v1 ∧ v1 = v2
          · obtain ⟨h1, rfl⟩ := hin
            have HS : Hid (edT f C i (j + 1) = edT f C i j) := Lib.hid (edT_none (by rw [HFI.out, if_pos ⟨h1, rfl⟩]))
            clear HFI HP
            gi_wp2
            refine ⟨fun f hf => (by cases hf), ?_⟩
            gi_wp2
            go_roundw
            case rel => exact ⟨j + 1, by omega, by go_num, Lib.hid (by rw [HS.out]; exact HJ2.out), HK2⟩
            case measure => simp [intOf]; omega
          · have HS1 : f i j = some (a, b) := by rw [HFI.out, if_neg hin, HP.out]
            have HN1 : Hid (nxtE f R C (edT f C i j) (a, b)) := Lib.hid ⟨i, j, hlt, hlt2, HS1, rfl⟩
            have HS : Hid (edT f C i (j + 1) = edT f C i j ++ [(a, b)]) := Lib.hid (edT_some HS1)
            clear HFI HP HS1
            obtain ⟨fn, tmps, assign, body, hy, hR⟩ := HY.out _ _ _ HJ2.out HN1.out
            simp only [encE] at hy
            have HR := Lib.hid hR
            clear hR
            by_cases h1 : 0 ≤ v1
            · have h2 : v1 ≠ v2 := fun e => hin ⟨h1, e⟩
              have h2b : (v1 == v2) = false := by simpa using h2
              clear hin
              gi_wp2_with fail
              refine HR.out.mono ?_
              rintro e W3 (⟨rfl, hJ3, hk3⟩ | ⟨rfl, hJx3⟩)
              · have H3 := Lib.hid hJ3
                have K3 := Lib.hid (HK2.out.trans hk3)
                clear hJ3 hk3 hy HR
                gi_wp2
                all_goals go_roundw
                all_goals first
                  | exact ⟨⟨j + 1, by omega, by go_num, Lib.hid (by rw [HS.out]; exact H3.out), K3⟩, by simp [intOf]; omega⟩
                  | exact ⟨j + 1, by omega, by go_num, Lib.hid (by rw [HS.out]; exact H3.out), K3⟩
                  | (simp [intOf]; omega)
              · have H3 := Lib.hid hJx3
                clear hJx3 hy HR
                gi_wp2
                simp only [Exit.noGoto]
                go_end0
                exact ⟨⟨_, rfl⟩, .inr ⟨_, trivial, H3.out⟩⟩
            · clear hin
              gi_wp2_with fail
              refine HR.out.mono ?_
              rintro e W3 (⟨rfl, hJ3, hk3⟩ | ⟨rfl, hJx3⟩)
              · have H3 := Lib.hid hJ3
                have K3 := Lib.hid (HK2.out.trans hk3)
                clear hJ3 hk3 hy HR
                gi_wp2
                all_goals go_roundw
                all_goals first
                  | exact ⟨⟨j + 1, by omega, by go_num, Lib.hid (by rw [HS.out]; exact H3.out), K3⟩, by simp [intOf]; omega⟩
                  | exact ⟨j + 1, by omega, by go_num, Lib.hid (by rw [HS.out]; exact H3.out), K3⟩
                  | (simp [intOf]; omega)
              · have H3 := Lib.hid hJx3
                clear hJx3 hy HR
                gi_wp2
                simp only [Exit.noGoto]
                go_end0
                exact ⟨⟨_, rfl⟩, .inr ⟨_, trivial, H3.out⟩⟩
        · have HRW := Lib.hid (edT_row f C i)
          obtain rfl : j = C := by omega
          gi_wp2
          go_roundw
          case rel => exact ⟨i + 1, by omega, by go_num, Lib.hid (by rw [← HRW.out]; exact HJ1.out), HK⟩
          case measure => simp [intOf]; omega
    · obtain rfl : i = R := by omega
      gi_wp2
      simp only [Exit.noGoto]
      go_end0
      exact ⟨⟨_, rfl⟩, .inl ⟨_, rfl, HJ1.out⟩⟩
theorem edges_next (n : Nat) (hn : 1 ≤ n) (l : Bool) (ps : List Pz) (rn kn gb : Nat) (po : Option Addr) (co B : Nat) (gr gc g3 : Nat) (E : List Nat) (R C : Nat) (hR : R ≤ 20001) (hC : C ≤ 20001) (w : World) (el : ∀ k ∈ E, B ≤ k) (er : gr ∉ E) (ec : gc ∉ E) (e3 : g3 ∉ E)
    (hcr : w.cell? ⟨gr, 0, none⟩ = some (.int .i64 (R : Int))) (hcc : w.cell? ⟨gc, 0, none⟩ = some (.int .i64 (C : Int))) (hc3 : Whole w g3 70 (crs l rn kn gb)) (hN : NK ps rn kn gb po co B w) :
    SeqKeep Fence.wide n Try.prog 71 #[.pointer (some ⟨gr, 0, none⟩), .pointer (some ⟨gc, 0, none⟩), .pointer (some ⟨g3, 0, none⟩)] encE (KpL w.heap.size E) (nxtE (edF l ps rn kn) R C) (fun ys => ys = edT (edF l ps rn kn) C R 0) (fun _ => True) w := fun l0 J Jx W hW hs hJ hY h0 =>
  edges_in n hn l0 l ps rn kn gb po co B gr gc g3 w.heap.size E R C hR hC J Jx W hY hW.size hN.size hJ (cell_lt hcr) (cell_lt hcc) hc3.lt el er ec e3 ((hW.cell (p := ⟨gr, 0, none⟩) (cell_lt hcr)).trans hcr) ((hW.cell (p := ⟨gc, 0, none⟩) (cell_lt hcc)).trans hcc) (hc3.below hW hc3.lt) (hN.grow hW) h0
def edR (l : Bool) (rn kn : Nat) : Nat := if l then rn + 1 else rn
def edC (l : Bool) (rn kn : Nat) : Nat := if l then kn else kn + 1
set_option maxRecDepth 100000 in
set_option maxHeartbeats 2000000 in
theorem edges_any (l : Bool) (rn kn gb : Nat) (hr : rn ≤ 20000) (hk : kn ≤ 20000) (W : World) :
    Calls Try.prog 56 #[.agg (crs l rn kn gb).toArray] W fun e W' => e = .returned (.func (.func 71) #[] #[.pointer (some ⟨W.heap.size + 1, 0, none⟩), .pointer (some ⟨W.heap.size + 2, 0, none⟩), .pointer (some ⟨W.heap.size, 0, none⟩)]) ∧
      W'.cell? ⟨W.heap.size + 1, 0, none⟩ = some (.int .i64 (edR l rn kn : Nat)) ∧ W'.cell? ⟨W.heap.size + 2, 0, none⟩ = some (.int .i64 (edC l rn kn : Nat)) ∧ Whole W' W.heap.size 70 (crs l rn kn gb) ∧ Below W.heap.size W W' := by
  have HEN := Lib.hid (turn_enter l)
  have HTN := Lib.hid (fun a b X => turn_any l a b X)
  obtain ⟨x0, x1, x2, x3, x4, hx, -, h1, h2, -, -⟩ := crs_form l rn kn gb
  have hb1 : 0 ≤ x1 ∧ x1 ≤ 20000 ∧ 0 ≤ x2 ∧ x2 ≤ 20000 := by cases l <;> simp at h1 h2 <;> omega
  have hT1 : (turnP l (x1 + 1) x2).1 = ((edR l rn kn : Nat) : Int) := by cases l <;> simp [turnP, edR] at h1 h2 ⊢ <;> omega
  have hT2 : (turnP l (x1 + 1) x2).2 = ((edC l rn kn : Nat) : Int) := by cases l <;> simp [turnP, edC] at h1 h2 ⊢ <;> omega
  have HT1 := Lib.hid (fun X => HTN.out (x1 + 1) x2 X)
  rw [hT1, hT2] at HT1
  obtain ⟨fw, hfw⟩ : ∃ f, whoF l = f := ⟨_, rfl⟩
  obtain ⟨ft, hft⟩ : ∃ f, turnF l = f := ⟨_, rfl⟩
  rw [hfw, hft] at hx
  rw [hft] at HEN HT1
  rw [hx]
  obtain ⟨R, hRR⟩ : ∃ R : Nat, edR l rn kn = R := ⟨_, rfl⟩
  obtain ⟨C, hCC⟩ : ∃ C : Nat, edC l rn kn = C := ⟨_, rfl⟩
  rw [hRR, hCC] at HT1 ⊢
  clear HTN hx h1 h2 hT1 hT2 hfw hft hRR hCC
  have e1 : IntKind.i64.wrap (x1 + 1) = x1 + 1 := by simp [IntKind.wrap, IntKind.bits, IntKind.signed]; omega
  go_enter Try.func56, Try.ntmps56
  go_wp2_with fail
  rw [HEN.out, Oper.upon_enter]
  refine (HT1.out _).mono ?_
  rintro e w7 ⟨rfl, rfl⟩
  clear HT1 HEN
  go_wp2
  refine bodyPost_ret (v := .func (.func 71) #[] #[.pointer (some ⟨W.heap.size + 1, 0, none⟩), .pointer (some ⟨W.heap.size + 2, 0, none⟩), .pointer (some ⟨W.heap.size, 0, none⟩)]) (by simp [results, Try.func56, go_sem]) rfl ⟨rfl, ?_, ?_, ?_, ?_⟩
  · exact ((whole_new (W.alloc _) [.int .i64 (R : Int)] 3 _ (by simp)).alloc _).cellAt 0
  · exact (whole_new ((W.alloc _).alloc _) [.int .i64 (C : Int)] 3 _ (by simp)).cellAt 0
  · exact ((whole_new W [.bool x0, .int .i64 x1, .int .i64 x2, .int .i64 x3, .int .i64 x4, .func (.func ft) #[] #[], .func (.func fw) #[] #[.pointer (some ⟨gb, 0, none⟩)]] 70 _ rfl).alloc _).alloc _
  · exact (((Below.refl _ W).alloc (Nat.le_refl _) _).alloc (by simp) _).alloc (by simp; omega) _
end Go.Proofs.Ytceippgkmoijdaa
