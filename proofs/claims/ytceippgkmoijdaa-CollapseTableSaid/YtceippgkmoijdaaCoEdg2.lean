/- A range over a function whose invariant may speak of what is made in its rounds: for iterators that make memory and change none. Written by mk_TGrow.py. Nothing of the program. -/
/- The iterator collapse.course.edges once more: for what grows in its rounds. Written by mk_CoEdg2.py. -/
import Derived.Test.YtceippgkmoijdaaMarks
import Derived.Test.YtceippgkmoijdaaCoEdg
namespace Go.Proofs.Ytceippgkmoijdaa
open Go.RowKit
set_option linter.unusedVariables false

/-- the contract of an iterator that only makes memory -/
def SeqGrow {α : Type} (F : Fence) (n : Nat) (P : Program) (g : Nat) (lb : Array Value) (encs : α → Array Value) (Kp : World → World → Prop) (nxt : List α → α → Prop) (S Sp : List α → Prop) (w : World) : Prop :=
  ∀ (l : Nat) (J Jx : List α → World → Prop) (W : World), Below w.heap.size w W → w.heap.size + 2 ≤ W.heap.size → (∀ s X Y, J s X → Below X.heap.size X Y → J s Y) →
    (∀ pre x V, J pre V → nxt pre x → YieldAt F (n - 1) P l (encs x) V fun e V' =>
      (e = .returned (.bool true) ∧ J (pre ++ [x]) V' ∧ Kp V V') ∨ (e = .returned (.bool false) ∧ Jx (pre ++ [x]) V')) →
    J [] W → CallsIn F n P g (#[.func (.yield l) #[] #[]] ++ lb) W fun e W' => (∃ v, e = .returned v) ∧ ((∃ xs, S xs ∧ J xs W') ∨ ∃ pre, Sp pre ∧ Jx pre W')
theorem range_grow {F : Fence} {n : Nat} {P : Program} {α : Type} {g : Operand} {ps : Array Tmp} {assign body : Code} {Q : Exit → Act → World → Prop} {a : Act} {w : World}
    (hro : F.round = none) (h1 : 1 ≤ n) {gf : Nat} {lb : Array Value} (hg : a.eval g = .func (.func gf) #[] lb) (hFg : F.fn gf) (eg : ∀ args w, (callFunc gf args).run P w = .ok (.enter gf args) w)
    {encs : α → Array Value} {Kp : World → World → Prop} (hKt : ∀ a b c : World, Kp a b → Kp b c → Kp a c) (hKb : ∀ (W : World) (o : Obj), w.heap.size + 1 < W.heap.size → Kp W (W.putObj (w.heap.size + 1) o)) {nxt : List α → α → Prop} {S Sp : List α → Prop} (hseq : SeqGrow F (n - 1) P gf lb encs Kp nxt S Sp w) (hps : ∀ x, (encs x).size = ps.size)
    (I : List α → World → Prop) (Ix : Code → List α → World → Prop) (hI : ∀ s X Y, I s X → Below X.heap.size X Y → I s Y) (hIx : ∀ c s X Y, Ix c s X → Below X.heap.size X Y → Ix c s Y)
    (hIp : ∀ s X Y l, w.heap.size ≤ l → I s X → X.grownBy Y (some l) → NoCells X (some l) → I s Y) (hIxp : ∀ c s X Y l, w.heap.size ≤ l → Ix c s X → X.grownBy Y (some l) → NoCells X (some l) → Ix c s Y) (h0 : I [] w)
    (hround : ∀ (l : Nat) (pre : List α) (x : α) (V : World), w.heap.size ≤ l → I pre V → nxt pre x → ∃ (a₁ : Act) (V₁ : World),
      (∀ K : Act → World → Prop, K a₁ V₁ → assign.wpIn (F.inRound l) (n - 1 - 1) P (Exit.then K (fun _ _ _ => False)) { tmps := (ps.zip (encs x)).foldl (fun t (p, v) => t.setIfInBounds p v) a.tmps, defers := [] } V) ∧
      KeepsFrom w.heap.size V V₁ ∧ Kp V V₁ ∧
      ∀ V₂, V₁.grownBy V₂ (some l) → NoCells V₁ (some l) → Kp V₁ V₂ → body.wpIn (F.inRound l) (n - 1 - 1) P (ownPostG w.heap.size Kp I Ix (pre ++ [x]) V₂) a₁ V₂)
    (hdone : ∀ (D : Nat) (xs : List α) (W : World), w.heap.size ≤ D → S xs → I xs W → W.heap[D]? = some (.deferred (some [])) → Q .normal { a with defers := { target := .collected D, args := #[] } :: a.defers } W)
    (hstop : ∀ (D : Nat) (c : Code) (pre : List α) (W : World), w.heap.size ≤ D → Sp pre → Ix c pre W → W.heap[D]? = some (.deferred (some [])) → c.wpIn F n P Q { a with defers := { target := .collected D, args := #[] } :: a.defers } W) :
    (Code.rangeFunc g ps assign body).wpIn F n P Q a w := by
  refine wpIn_rangeFunc fun fn hfn => ?_
  rw [hro]
  -- the two blocks of the loop's book-keeping, and the world in which they have been laid
  obtain ⟨rc, hrc⟩ : ∃ rc : LoopState → Option Code → Loop, rc = fun s p => { state := s, pending := p, fn, tmps := a.tmps, params := ps, assign, body, defers := w.heap.size } := ⟨_, rfl⟩
  have state_rc : ∀ s p, (rc s p).state = s := by rw [hrc]; intros; rfl
  have set_rc : ∀ s p s' p', ({ rc s p with state := s', pending := p' } : Loop) = rc s' p' := by rw [hrc]; intros; rfl
  have set_st : ∀ s p s', ({ rc s p with state := s' } : Loop) = rc s' p := by rw [hrc]; intros; rfl
  have hb0 : Books (w.heap.size + 1) w.heap.size (rc .ready none) ((w.alloc (.deferred (some []))).alloc (.loop (rc .ready none))) := by
    refine ⟨?_, (Below.heap_alloc _ _ _ (by simp)).trans (World.alloc_heap_new w _)⟩
    have := World.alloc_heap_new (w.alloc (.deferred (some []))) (.loop (rc .ready none))
    rwa [World.size_alloc] at this
  have hbw : Below w.heap.size w ((w.alloc (.deferred (some []))).alloc (.loop (rc .ready none))) := ((Below.refl _ w).alloc (Nat.le_refl _) _).alloc (by simp) _
  have hi0 : I [] ((w.alloc (.deferred (some []))).alloc (.loop (rc .ready none))) := hI _ _ _ h0 hbw
  have hsz : ((w.alloc (.deferred (some []))).alloc (.loop (rc .ready none))).heap.size = w.heap.size + 2 := by simp
  have hlay := run_enterLoop_outer (P := P) (w := w) fn a.tmps ps assign body
  rw [show ({ state := .ready, pending := none, fn, tmps := a.tmps, params := ps, assign, body, defers := w.heap.size } : Loop) = rc .ready none by rw [hrc]] at hlay
  generalize (w.alloc (.deferred (some []))).alloc (.loop (rc .ready none)) = W1 at *
  refine ⟨w.heap.size + 1, [{ target := .collected w.heap.size, args := #[] }], W1, { target := .fn (.func gf) lb, args := #[.func (.yield (w.heap.size + 1)) #[] #[]] }, W1, gf, #[.func (.yield (w.heap.size + 1)) #[] #[]] ++ lb, W1, hlay, ?_, ?_, ?_, fun _ => h1, ?_⟩
  · simp only [resolve, hg]; simp [go_sem]
  · intro f hf; simp [Target.leads] at hf; subst hf; exact hFg
  · simp [invoke, go_sem, eg]
  refine (hseq (w.heap.size + 1) (fun pre V => I pre V ∧ Books (w.heap.size + 1) w.heap.size (rc .ready none) V) (fun pre V => ∃ c, Ix c pre V ∧ Books (w.heap.size + 1) w.heap.size (rc .done (some c)) V) W1 hbw (by omega)
    (fun s X Y h hb => ⟨hI s X Y h.1 hb, (hb.block _ (Array.getElem?_eq_some_iff.1 h.2.1).1).trans h.2.1, (hb.block _ (Array.getElem?_eq_some_iff.1 h.2.2).1).trans h.2.2⟩) ?_ ⟨hi0, hb0⟩).mono ?_
  · rintro pre x V ⟨hi, hb⟩ hx
    obtain ⟨a₁, V₁, has, hk1, hbl1, hbody⟩ := hround (w.heap.size + 1) pre x V (by omega) hi hx
    have hy := run_yield (P := P) (args := encs x) hb.1 (by rw [hrc]; exact hps x)
    rw [hrc] at hy
    refine ⟨_, _, _, _, hy, roundIn_of_wpIn hfn (has _ ?_)⟩
    have hb1 := hb.keeps hk1 (by omega) (Nat.le_refl _)
    refine ⟨_, run_beginRound hb1.1 (state_rc _ _), ?_⟩
    rw [set_st]
    have hl1 : w.heap.size + 1 < V₁.heap.size := (Array.getElem?_eq_some_iff.1 hb1.1).1
    have hb2 := hb1.put (by omega) (rc .busy none)
    have hbl2 := hKb V₁ (.loop (rc .busy none)) hl1
    refine wpIn_mono (hbody _ (grownBy_putObj' V₁ _ _) (fun k e => by cases e; exact ⟨_, hb1.1, rfl⟩) hbl2) ?_
    -- the round is over: the record is put right
    have over : ∀ (j : Option Code) (s : LoopState) (V₃ : World), (if j.isNone then LoopState.ready else .done) = s → KeepsFrom w.heap.size (V₁.putObj (w.heap.size + 1) (.loop (rc .busy none))) V₃ →
        (Instr.endRound (w.heap.size + 1) j).run P V₃ = .ok (.bool j.isNone) (V₃.putObj (w.heap.size + 1) (.loop (rc s j))) ∧ Books (w.heap.size + 1) w.heap.size (rc s j) (V₃.putObj (w.heap.size + 1) (.loop (rc s j))) ∧
        ∃ o : Obj, V₃.heap[w.heap.size + 1]? = some o ∧ o.isCells = false := fun j s V₃ hs hk3 => by
      have hb3 := hb2.keeps hk3 (by omega) (Nat.le_refl _)
      have hr := run_endRound (P := P) j hb3.1
      rw [set_rc, hs] at hr
      exact ⟨hr, hb3.put (by omega) _, _, hb3.1, rfl⟩
    have left : ∀ (c : Code) (V₃ : World), KeepsFrom w.heap.size (V₁.putObj (w.heap.size + 1) (.loop (rc .busy none))) V₃ → Ix c (pre ++ [x]) V₃ → ∃ v W', (Instr.endRound (w.heap.size + 1) (some c)).run P V₃ = .ok v W' ∧
        ((Ending.returned v = .returned (.bool true) ∧ (I (pre ++ [x]) W' ∧ Books (w.heap.size + 1) w.heap.size (rc .ready none) W') ∧ Kp V W') ∨ (Ending.returned v = .returned (.bool false) ∧ ∃ c, Ix c (pre ++ [x]) W' ∧ Books (w.heap.size + 1) w.heap.size (rc .done (some c)) W')) := fun c V₃ hk3 hx3 => by
      obtain ⟨hr, hb4, o, ho, hc⟩ := over (some c) .done V₃ rfl hk3
      exact ⟨_, _, hr, .inr ⟨rfl, c, hIxp c _ _ _ _ (Nat.le_succ _) hx3 (grownBy_putObj' V₃ _ _) (fun k e => by cases e; exact ⟨o, ho, hc⟩), hb4⟩⟩
    rintro e a₃ V₃ hp
    cases e with
    | normal =>
      obtain ⟨hk3, hbl3, hi3⟩ := hp
      obtain ⟨hr, hb4, o, ho, hc⟩ := over none .ready V₃ rfl hk3
      exact ⟨_, _, hr, .inl ⟨rfl, ⟨hIp _ _ _ _ (Nat.le_succ _) hi3 (grownBy_putObj' V₃ _ _) (fun k e => by cases e; exact ⟨o, ho, hc⟩), hb4⟩, hKt _ _ _ (hKt _ _ _ (hKt _ _ _ hbl1 hbl2) hbl3) (hKb V₃ _ (Array.getElem?_eq_some_iff.1 ho).1)⟩⟩
    | ret => exact left _ V₃ hp.1 hp.2
    | exit id => exact left _ V₃ hp.1 hp.2
    | goto t => exact left _ V₃ hp.1 hp.2
    | panic _ => exact hp.elim
    | outgrown => exact hp.elim
  · rintro e W2 ⟨⟨v, rfl⟩, h⟩
    have ends : ∀ (s : LoopState) (p : Option Code), s ≠ .busy → Books (w.heap.size + 1) w.heap.size (rc s p) W2 → (Instr.endLoop (w.heap.size + 1)).run P W2 = .ok p (W2.putObj (w.heap.size + 1) (.loop (rc .exhausted p))) := fun s p hs hb => by
      have := run_endLoop (P := P) hb.1 (by rw [state_rc]; exact hs)
      rw [set_st] at this
      rw [this, hrc]
    rcases h with ⟨xs, hS, hi, hb⟩ | ⟨pre, hSp, c, hi, hb⟩
    · exact ⟨none, _, ends _ _ (by simp) hb, hdone _ xs _ (Nat.le_refl _) hS (hIp _ _ _ _ (Nat.le_succ _) hi (grownBy_putObj' W2 _ _) (fun k e => by cases e; exact ⟨_, hb.1, rfl⟩)) ((World.putObj_heap_other (by omega)).trans hb.2)⟩
    · exact ⟨some c, _, ends _ _ (by simp) hb, hstop _ c pre _ (Nat.le_refl _) hSp (hIxp c _ _ _ _ (Nat.le_succ _) hi (grownBy_putObj' W2 _ _) (fun k e => by cases e; exact ⟨_, hb.1, rfl⟩)) ((World.putObj_heap_other (by omega)).trans hb.2)⟩

end Go.Proofs.Ytceippgkmoijdaa

namespace Go.Proofs.Ytceippgkmoijdaa
open Go.RowKit Go.Shelf Go.Sort
set_option linter.unusedVariables false
set_option linter.unusedSimpArgs false
attribute [local go_sem] Oper.semAt_some

set_option maxRecDepth 100000 in
set_option maxHeartbeats 4000000 in
theorem edges_in2 (n : Nat) (hn : 1 ≤ n) (l0 : Nat) (l : Bool) (ps : List Pz) (rn kn gb : Nat) (po : Option Addr) (co B : Nat) (gr gc g3 A : Nat) (E : List Nat) (R C : Nat) (hR : R ≤ 20001) (hC : C ≤ 20001) (J Jx : List (Int × Int) → World → Prop)
    (W : World) (hY : ∀ pre x V, J pre V → nxtE (edF l ps rn kn) R C pre x → YieldAt Fence.wide (n - 1) Try.prog l0 (encE x) V fun e V' =>
      (e = .returned (.bool true) ∧ J (pre ++ [x]) V' ∧ KpL A E V V') ∨ (e = .returned (.bool false) ∧ Jx (pre ++ [x]) V'))
    (hA : A ≤ W.heap.size) (hBA : B ≤ A) (hJ : ∀ s X Y, J s X → Below X.heap.size X Y → J s Y) (hgr : gr < A) (hgc : gc < A) (hg3 : g3 < A) (el : ∀ k ∈ E, B ≤ k) (er : gr ∉ E) (ec : gc ∉ E) (e3 : g3 ∉ E)
    (hcr : W.cell? ⟨gr, 0, none⟩ = some (.int .i64 (R : Int))) (hcc : W.cell? ⟨gc, 0, none⟩ = some (.int .i64 (C : Int))) (hc3 : Whole W g3 70 (crs l rn kn gb))
    (hN : NK ps rn kn gb po co B W) (h0 : J [] W) :
    CallsIn Fence.wide n Try.prog 71 #[.func (.yield l0) #[] #[], .pointer (some ⟨gr, 0, none⟩), .pointer (some ⟨gc, 0, none⟩), .pointer (some ⟨g3, 0, none⟩)] W fun e W' => (∃ v, e = .returned v) ∧
      ((∃ ys, ys = edT (edF l ps rn kn) C R 0 ∧ J ys W') ∨ (∃ pre, True ∧ Jx pre W')) := by
  refine callsIn_of_wp Try.func71 rfl trivial ?_ rfl
  simp only [Try.ntmps71, List.size_toArray, List.length_cons, List.length_nil, Nat.reduceAdd, Nat.reduceSub, Array.replicate_succ, Array.replicate_zero, List.push_toArray, List.append_toArray, List.nil_append, List.cons_append]
  -- what was below stays
  have HLB : Hid (∀ X, KpL A E W X → ∀ k, k < A → k ∉ E → X.heap[k]? = W.heap[k]?) := Lib.hid fun X hX k hk he => hX.2 k he hk (by omega)
  have HNK : Hid (∀ X, KpL A E W X → NK ps rn kn gb po co B X) := Lib.hid fun X hX => hN.keep hX.1 fun k hk => HLB.out X hX k (by omega) (fun hm => by have := el _ hm; omega)
  have HC3 : Hid (∀ X, KpL A E W X → Whole X g3 70 (crs l rn kn gb)) := Lib.hid fun X hX => (HLB.out X hX g3 hg3 e3).trans hc3
  have HCC : Hid (∀ X, KpL A E W X → X.cell? ⟨gc, 0, none⟩ = some (.int .i64 (C : Int))) := Lib.hid fun X hX => (World.cell?_of_block (a := ⟨gc, 0, none⟩) (HLB.out X hX gc hgc ec)).trans hcc
  have HY := Lib.hid hY
  have HJ := Lib.hid hJ
  have H0 := Lib.hid h0
  have HEN := Lib.hid (turn_enter l)
  have HTN := Lib.hid (turn_any l)
  have HBS := Lib.hid (fun a b X hX ha hb => beside_any l ps rn kn gb po co B a b X hX ha hb)
  obtain ⟨x0, x1, x2, x3, x4, hx, -⟩ := crs_form l rn kn gb
  obtain ⟨fw, hfw⟩ : ∃ f, whoF l = f := ⟨_, rfl⟩
  obtain ⟨ft, hft⟩ : ∃ f, turnF l = f := ⟨_, rfl⟩
  rw [hfw, hft] at hx
  rw [hft] at HEN HTN
  rw [hx] at HBS HC3
  have lgr := cell_lt hcr
  have lgc := cell_lt hcc
  obtain ⟨f, hf⟩ : ∃ f, edF l ps rn kn = f := ⟨_, rfl⟩
  have HF : Hid (∀ r c : Nat, f r c = if 0 ≤ whoL l ps rn kn ((turnP l r c).1 - 1) (turnP l r c).2 ∧ whoL l ps rn kn ((turnP l r c).1 - 1) (turnP l r c).2 = whoL l ps rn kn (turnP l r c).1 (turnP l r c).2 then none else some (turnP l r c)) := Lib.hid fun r c => by rw [← hf]; rfl
  rw [hf] at HY ⊢
  clear hY hJ h0 hN hc3 hx hfw hft hf el er ec e3 hBA hA hgr hgc hg3
  refine wpIn_wide.2 (wp_scope_straight ((wpIn_wide (n := n)).1 ?_))
  gi_wp2
  refine wpIn_label ?_
  gi_wp2
  clear hcr lgr hcc lgc
  gi_loopw [13] (fun s9 X => ∃ i : Nat, i ≤ R ∧ s9 = .int .i64 i ∧ Hid (J (edT f C i 0) X) ∧ Hid (KpL A E W X)) (fun s9 _ => R - (intOf s9).toNat)
  case atStart => exact ⟨0, Nat.zero_le _, rfl, Lib.hid (by rw [edT_zero]; exact H0.out), Lib.hid (KpL.refl _ _ _)⟩
  case round =>
    obtain ⟨i, hi, rfl, HJ1, HK⟩ := hrel
    by_cases hlt : i < R
    · have hcc := HCC.out wr HK.out
      have lgc := cell_lt hcc
      gi_wp2
      clear hcc lgc
      gi_loopw [17] (fun s15 X => ∃ j : Nat, j ≤ C ∧ s15 = .int .i64 j ∧ Hid (J (edT f C i j) X) ∧ Hid (KpL A E W X)) (fun s15 _ => C - (intOf s15).toNat)
      case atStart => exact ⟨0, Nat.zero_le _, rfl, HJ1, HK⟩
      case round =>
        clear HJ1 HK
        obtain ⟨j, hj, rfl, HJ1, HK⟩ := hrel
        by_cases hlt2 : j < C
        · have KT := HC3.out wr HK.out
          have lT := KT.lt
          have k0 := KT.cellAt 0
          have k1 := KT.cellAt 1
          have k2 := KT.cellAt 2
          have k3 := KT.cellAt 3
          have k4 := KT.cellAt 4
          have k5 := KT.cellAt 5
          have k6 := KT.cellAt 6
          simp only [List.getElem?_cons_zero, List.getElem?_cons_succ] at k0 k1 k2 k3 k4 k5 k6
          clear KT
          have HFI := Lib.hid (HF.out i j)
          obtain ⟨a, ha⟩ : ∃ a, (turnP l i j).1 = a := ⟨_, rfl⟩
          obtain ⟨b, hb⟩ : ∃ b, (turnP l i j).2 = b := ⟨_, rfl⟩
          have hab : 0 ≤ a ∧ a ≤ 20001 ∧ 0 ≤ b ∧ b ≤ 20001 := by cases l <;> simp [turnP] at ha hb <;> omega
          have HP : Hid (turnP l i j = (a, b)) := Lib.hid (by rw [← ha, ← hb])
          have HT1 := Lib.hid (HTN.out i j wr)
          rw [ha, hb] at HFI HT1
          have hw1 : IntKind.i64.wrap (a - 1) = a - 1 := by simp [IntKind.wrap, IntKind.bits, IntKind.signed]; omega
          have HB1 := Lib.hid (HBS.out a b wr (HNK.out wr HK.out) ⟨by omega, by omega⟩ ⟨by omega, by omega⟩)
          rw [hw1] at HB1
          obtain ⟨v1, hv1⟩ : ∃ v, whoL l ps rn kn (a - 1) b = v := ⟨_, rfl⟩
          obtain ⟨v2, hv2⟩ : ∃ v, whoL l ps rn kn a b = v := ⟨_, rfl⟩
          rw [hv1, hv2] at HB1 HFI
          clear ha hb hw1 hv1 hv2 hab
          gi_wp2_with fail
          refine ⟨trivial, ?_⟩
          rw [HEN.out, Oper.uponIn_enter]
          refine ⟨fun h => (by cases h), ?_⟩
          refine (callsIn_wide.2 HT1.out).mono ?_
          rintro e w7 ⟨rfl, rfl⟩
          gi_wp2_with fail
          refine ⟨trivial, ?_⟩
          gi_at_call 25
          refine (callsIn_wide.2 HB1.out).mono ?_
          rintro e w8 ⟨rfl, hb8⟩
          have BV := Lib.hid hb8
          have HK2 : Hid (KpL A E W w8) := Lib.hid (HK.out.trans (KpL.of_below BV.out))
          have HJ2 := Lib.hid (HJ.out _ _ _ HJ1.out BV.out)
          clear hb8 k0 k1 k2 k3 k4 k5 k6 lT HB1 HT1
          by_cases hin : 0 ≤ v1 ∧ v1 = v2
          · obtain ⟨h1, rfl⟩ := hin
            have HS : Hid (edT f C i (j + 1) = edT f C i j) := Lib.hid (edT_none (by rw [HFI.out, if_pos ⟨h1, rfl⟩]))
            clear HFI HP
            gi_wp2
            refine ⟨fun f hf => (by cases hf), ?_⟩
            gi_wp2
            go_roundw
            case rel => exact ⟨j + 1, by omega, by go_num, Lib.hid (by rw [HS.out]; exact HJ2.out), HK2⟩
            case measure => simp [intOf]; omega
          · have HS1 : f i j = some (a, b) := by rw [HFI.out, if_neg hin, HP.out]
            have HN1 : Hid (nxtE f R C (edT f C i j) (a, b)) := Lib.hid ⟨i, j, hlt, hlt2, HS1, rfl⟩
            have HS : Hid (edT f C i (j + 1) = edT f C i j ++ [(a, b)]) := Lib.hid (edT_some HS1)
            clear HFI HP HS1
            obtain ⟨fn, tmps, assign, body, hy, hR⟩ := HY.out _ _ _ HJ2.out HN1.out
            simp only [encE] at hy
            have HR := Lib.hid hR
            clear hR
            by_cases h1 : 0 ≤ v1
            · have h2 : v1 ≠ v2 := fun e => hin ⟨h1, e⟩
              have h2b : (v1 == v2) = false := by simpa using h2
              clear hin
              gi_wp2_with fail
              refine HR.out.mono ?_
              rintro e W3 (⟨rfl, hJ3, hk3⟩ | ⟨rfl, hJx3⟩)
              · have H3 := Lib.hid hJ3
                have K3 := Lib.hid (HK2.out.trans hk3)
                clear hJ3 hk3 hy HR
                gi_wp2
                all_goals go_roundw
                all_goals first
                  | exact ⟨⟨j + 1, by omega, by go_num, Lib.hid (by rw [HS.out]; exact H3.out), K3⟩, by simp [intOf]; omega⟩
                  | exact ⟨j + 1, by omega, by go_num, Lib.hid (by rw [HS.out]; exact H3.out), K3⟩
                  | (simp [intOf]; omega)
              · have H3 := Lib.hid hJx3
                clear hJx3 hy HR
                gi_wp2
                simp only [Exit.noGoto]
                go_end0
                exact ⟨⟨_, rfl⟩, .inr ⟨_, trivial, H3.out⟩⟩
            · clear hin
              gi_wp2_with fail
              refine HR.out.mono ?_
              rintro e W3 (⟨rfl, hJ3, hk3⟩ | ⟨rfl, hJx3⟩)
              · have H3 := Lib.hid hJ3
                have K3 := Lib.hid (HK2.out.trans hk3)
                clear hJ3 hk3 hy HR
                gi_wp2
                all_goals go_roundw
                all_goals first
                  | exact ⟨⟨j + 1, by omega, by go_num, Lib.hid (by rw [HS.out]; exact H3.out), K3⟩, by simp [intOf]; omega⟩
                  | exact ⟨j + 1, by omega, by go_num, Lib.hid (by rw [HS.out]; exact H3.out), K3⟩
                  | (simp [intOf]; omega)
              · have H3 := Lib.hid hJx3
                clear hJx3 hy HR
                gi_wp2
                simp only [Exit.noGoto]
                go_end0
                exact ⟨⟨_, rfl⟩, .inr ⟨_, trivial, H3.out⟩⟩
        · have HRW := Lib.hid (edT_row f C i)
          obtain rfl : j = C := by omega
          gi_wp2
          go_roundw
          case rel => exact ⟨i + 1, by omega, by go_num, Lib.hid (by rw [← HRW.out]; exact HJ1.out), HK⟩
          case measure => simp [intOf]; omega
    · obtain rfl : i = R := by omega
      gi_wp2
      simp only [Exit.noGoto]
      go_end0
      exact ⟨⟨_, rfl⟩, .inl ⟨_, rfl, HJ1.out⟩⟩
theorem edges_next2 (n : Nat) (hn : 1 ≤ n) (l : Bool) (ps : List Pz) (rn kn gb : Nat) (po : Option Addr) (co B : Nat) (gr gc g3 : Nat) (E : List Nat) (R C : Nat) (hR : R ≤ 20001) (hC : C ≤ 20001) (w : World) (el : ∀ k ∈ E, B ≤ k) (er : gr ∉ E) (ec : gc ∉ E) (e3 : g3 ∉ E)
    (hcr : w.cell? ⟨gr, 0, none⟩ = some (.int .i64 (R : Int))) (hcc : w.cell? ⟨gc, 0, none⟩ = some (.int .i64 (C : Int))) (hc3 : Whole w g3 70 (crs l rn kn gb)) (hN : NK ps rn kn gb po co B w) :
    SeqGrow Fence.wide n Try.prog 71 #[.pointer (some ⟨gr, 0, none⟩), .pointer (some ⟨gc, 0, none⟩), .pointer (some ⟨g3, 0, none⟩)] encE (KpL w.heap.size E) (nxtE (edF l ps rn kn) R C) (fun ys => ys = edT (edF l ps rn kn) C R 0) (fun _ => True) w := fun l0 J Jx W hW hs hJ hY h0 =>
  edges_in2 n hn l0 l ps rn kn gb po co B gr gc g3 w.heap.size E R C hR hC J Jx W hY hW.size hN.size hJ (cell_lt hcr) (cell_lt hcc) hc3.lt el er ec e3 ((hW.cell (p := ⟨gr, 0, none⟩) (cell_lt hcr)).trans hcr) ((hW.cell (p := ⟨gc, 0, none⟩) (cell_lt hcc)).trans hcc) (hc3.below hW hc3.lt) (hN.grow hW) h0
end Go.Proofs.Ytceippgkmoijdaa
