/- A range over a function whose iterator writes memory that it has made itself: what the round's invariant speaks of lies below. Nothing of the program. -/
import Derived.Test.YtpbkboandiigfaaSNext
namespace Go.Proofs.Ytpbkboandiigfaa
open Go.RowKit
set_option linter.unusedVariables false

/-- the contract of an iterator that calls yield at the next element only, and writes what it has made itself -/
def SeqKeep {α : Type} (F : Fence) (n : Nat) (P : Program) (g : Nat) (lb : Array Value) (encs : α → Array Value) (Kp : World → World → Prop) (nxt : List α → α → Prop) (S Sp : List α → Prop) (w : World) : Prop :=
  ∀ (l : Nat) (J Jx : List α → World → Prop) (W : World), Below w.heap.size w W → w.heap.size + 2 ≤ W.heap.size → (∀ s X Y, J s X → Below W.heap.size X Y → J s Y) →
    (∀ pre x V, J pre V → nxt pre x → YieldAt F (n - 1) P l (encs x) V fun e V' =>
      (e = .returned (.bool true) ∧ J (pre ++ [x]) V' ∧ Kp V V') ∨ (e = .returned (.bool false) ∧ Jx (pre ++ [x]) V')) →
    J [] W → CallsIn F n P g (#[.func (.yield l) #[] #[]] ++ lb) W fun e W' => (∃ v, e = .returned v) ∧ ((∃ xs, S xs ∧ J xs W') ∨ ∃ pre, Sp pre ∧ Jx pre W')
theorem range_keep {F : Fence} {n : Nat} {P : Program} {α : Type} {g : Operand} {ps : Array Tmp} {assign body : Code} {Q : Exit → Act → World → Prop} {a : Act} {w : World}
    (hro : F.round = none) (h1 : 1 ≤ n) {gf : Nat} {lb : Array Value} (hg : a.eval g = .func (.func gf) #[] lb) (hFg : F.fn gf) (eg : ∀ args w, (callFunc gf args).run P w = .ok (.enter gf args) w)
    {encs : α → Array Value} {Kp : World → World → Prop} (hKt : ∀ a b c : World, Kp a b → Kp b c → Kp a c) (hKb : ∀ (W : World) (o : Obj), w.heap.size + 1 < W.heap.size → Kp W (W.putObj (w.heap.size + 1) o)) {nxt : List α → α → Prop} {S Sp : List α → Prop} (hseq : SeqKeep F (n - 1) P gf lb encs Kp nxt S Sp w) (hps : ∀ x, (encs x).size = ps.size)
    (I : List α → World → Prop) (Ix : Code → List α → World → Prop) (hI : ∀ s X Y, I s X → Below w.heap.size X Y → I s Y) (hIx : ∀ c s X Y, Ix c s X → Below w.heap.size X Y → Ix c s Y) (h0 : I [] w)
    (hround : ∀ (l : Nat) (pre : List α) (x : α) (V : World), w.heap.size ≤ l → I pre V → nxt pre x → ∃ (a₁ : Act) (V₁ : World),
      (∀ K : Act → World → Prop, K a₁ V₁ → assign.wpIn (F.inRound l) (n - 1 - 1) P (Exit.then K (fun _ _ _ => False)) { tmps := (ps.zip (encs x)).foldl (fun t (p, v) => t.setIfInBounds p v) a.tmps, defers := [] } V) ∧
      KeepsFrom w.heap.size V V₁ ∧ Kp V V₁ ∧
      ∀ V₂, V₁.grownBy V₂ (some l) → NoCells V₁ (some l) → Kp V₁ V₂ → body.wpIn (F.inRound l) (n - 1 - 1) P (ownPostG w.heap.size Kp I Ix (pre ++ [x]) V₂) a₁ V₂)
    (hdone : ∀ (D : Nat) (xs : List α) (W : World), w.heap.size ≤ D → S xs → I xs W → W.heap[D]? = some (.deferred (some [])) → Q .normal { a with defers := { target := .collected D, args := #[] } :: a.defers } W)
    (hstop : ∀ (D : Nat) (c : Code) (pre : List α) (W : World), w.heap.size ≤ D → Sp pre → Ix c pre W → W.heap[D]? = some (.deferred (some [])) → c.wpIn F n P Q { a with defers := { target := .collected D, args := #[] } :: a.defers } W) :
    (Code.rangeFunc g ps assign body).wpIn F n P Q a w := by
  refine wpIn_rangeFunc fun fn hfn => ?_
  rw [hro]
  -- the two blocks of the loop's book-keeping, and the world in which they have been laid
  obtain ⟨rc, hrc⟩ : ∃ rc : LoopState → Option Code → Loop, rc = fun s p => { state := s, pending := p, fn, tmps := a.tmps, params := ps, assign, body, defers := w.heap.size } := ⟨_, rfl⟩
  have state_rc : ∀ s p, (rc s p).state = s := by rw [hrc]; intros; rfl
  have set_rc : ∀ s p s' p', ({ rc s p with state := s', pending := p' } : Loop) = rc s' p' := by rw [hrc]; intros; rfl
  have set_st : ∀ s p s', ({ rc s p with state := s' } : Loop) = rc s' p := by rw [hrc]; intros; rfl
  have hb0 : Books (w.heap.size + 1) w.heap.size (rc .ready none) ((w.alloc (.deferred (some []))).alloc (.loop (rc .ready none))) := by
    refine ⟨?_, (Below.heap_alloc _ _ _ (by simp)).trans (World.alloc_heap_new w _)⟩
    have := World.alloc_heap_new (w.alloc (.deferred (some []))) (.loop (rc .ready none))
    rwa [World.size_alloc] at this
  have hbw : Below w.heap.size w ((w.alloc (.deferred (some []))).alloc (.loop (rc .ready none))) := ((Below.refl _ w).alloc (Nat.le_refl _) _).alloc (by simp) _
  have hi0 : I [] ((w.alloc (.deferred (some []))).alloc (.loop (rc .ready none))) := hI _ _ _ h0 hbw
  have hsz : ((w.alloc (.deferred (some []))).alloc (.loop (rc .ready none))).heap.size = w.heap.size + 2 := by simp
  have hlay := run_enterLoop_outer (P := P) (w := w) fn a.tmps ps assign body
  rw [show ({ state := .ready, pending := none, fn, tmps := a.tmps, params := ps, assign, body, defers := w.heap.size } : Loop) = rc .ready none by rw [hrc]] at hlay
  generalize (w.alloc (.deferred (some []))).alloc (.loop (rc .ready none)) = W1 at *
  refine ⟨w.heap.size + 1, [{ target := .collected w.heap.size, args := #[] }], W1, { target := .fn (.func gf) lb, args := #[.func (.yield (w.heap.size + 1)) #[] #[]] }, W1, gf, #[.func (.yield (w.heap.size + 1)) #[] #[]] ++ lb, W1, hlay, ?_, ?_, ?_, fun _ => h1, ?_⟩
  · simp only [resolve, hg]; simp [go_sem]
  · intro f hf; simp [Target.leads] at hf; subst hf; exact hFg
  · simp [invoke, go_sem, eg]
  refine (hseq (w.heap.size + 1) (fun pre V => I pre V ∧ Books (w.heap.size + 1) w.heap.size (rc .ready none) V) (fun pre V => ∃ c, Ix c pre V ∧ Books (w.heap.size + 1) w.heap.size (rc .done (some c)) V) W1 hbw (by omega)
    (fun s X Y h hb => ⟨hI s X Y h.1 (hb.mono (by omega)), (hb.block _ (by omega)).trans h.2.1, (hb.block _ (by omega)).trans h.2.2⟩) ?_ ⟨hi0, hb0⟩).mono ?_
  · rintro pre x V ⟨hi, hb⟩ hx
    obtain ⟨a₁, V₁, has, hk1, hbl1, hbody⟩ := hround (w.heap.size + 1) pre x V (by omega) hi hx
    have hy := run_yield (P := P) (args := encs x) hb.1 (by rw [hrc]; exact hps x)
    rw [hrc] at hy
    refine ⟨_, _, _, _, hy, roundIn_of_wpIn hfn (has _ ?_)⟩
    have hb1 := hb.keeps hk1 (by omega) (Nat.le_refl _)
    refine ⟨_, run_beginRound hb1.1 (state_rc _ _), ?_⟩
    rw [set_st]
    have hl1 : w.heap.size + 1 < V₁.heap.size := (Array.getElem?_eq_some_iff.1 hb1.1).1
    have hb2 := hb1.put (by omega) (rc .busy none)
    have hbl2 := hKb V₁ (.loop (rc .busy none)) hl1
    refine wpIn_mono (hbody _ (grownBy_putObj' V₁ _ _) (fun k e => by cases e; exact ⟨_, hb1.1, rfl⟩) hbl2) ?_
    -- the round is over: the record is put right
    have over : ∀ (j : Option Code) (s : LoopState) (V₃ : World), (if j.isNone then LoopState.ready else .done) = s → KeepsFrom w.heap.size (V₁.putObj (w.heap.size + 1) (.loop (rc .busy none))) V₃ →
        (Instr.endRound (w.heap.size + 1) j).run P V₃ = .ok (.bool j.isNone) (V₃.putObj (w.heap.size + 1) (.loop (rc s j))) ∧ Books (w.heap.size + 1) w.heap.size (rc s j) (V₃.putObj (w.heap.size + 1) (.loop (rc s j))) ∧
        ∃ o : Obj, V₃.heap[w.heap.size + 1]? = some o ∧ o.isCells = false := fun j s V₃ hs hk3 => by
      have hb3 := hb2.keeps hk3 (by omega) (Nat.le_refl _)
      have hr := run_endRound (P := P) j hb3.1
      rw [set_rc, hs] at hr
      exact ⟨hr, hb3.put (by omega) _, _, hb3.1, rfl⟩
    have left : ∀ (c : Code) (V₃ : World), KeepsFrom w.heap.size (V₁.putObj (w.heap.size + 1) (.loop (rc .busy none))) V₃ → Ix c (pre ++ [x]) V₃ → ∃ v W', (Instr.endRound (w.heap.size + 1) (some c)).run P V₃ = .ok v W' ∧
        ((Ending.returned v = .returned (.bool true) ∧ (I (pre ++ [x]) W' ∧ Books (w.heap.size + 1) w.heap.size (rc .ready none) W') ∧ Kp V W') ∨ (Ending.returned v = .returned (.bool false) ∧ ∃ c, Ix c (pre ++ [x]) W' ∧ Books (w.heap.size + 1) w.heap.size (rc .done (some c)) W')) := fun c V₃ hk3 hx3 => by
      obtain ⟨hr, hb4, o, ho, hc⟩ := over (some c) .done V₃ rfl hk3
      exact ⟨_, _, hr, .inr ⟨rfl, c, hIx c _ _ _ hx3 (below_put _ _ (by omega) (Array.getElem?_eq_some_iff.1 ho).1), hb4⟩⟩
    rintro e a₃ V₃ hp
    cases e with
    | normal =>
      obtain ⟨hk3, hbl3, hi3⟩ := hp
      obtain ⟨hr, hb4, o, ho, hc⟩ := over none .ready V₃ rfl hk3
      exact ⟨_, _, hr, .inl ⟨rfl, ⟨hI _ _ _ hi3 (below_put _ _ (by omega) (Array.getElem?_eq_some_iff.1 ho).1), hb4⟩, hKt _ _ _ (hKt _ _ _ (hKt _ _ _ hbl1 hbl2) hbl3) (hKb V₃ _ (Array.getElem?_eq_some_iff.1 ho).1)⟩⟩
    | ret => exact left _ V₃ hp.1 hp.2
    | exit id => exact left _ V₃ hp.1 hp.2
    | goto t => exact left _ V₃ hp.1 hp.2
    | panic _ => exact hp.elim
    | outgrown => exact hp.elim
  · rintro e W2 ⟨⟨v, rfl⟩, h⟩
    have ends : ∀ (s : LoopState) (p : Option Code), s ≠ .busy → Books (w.heap.size + 1) w.heap.size (rc s p) W2 → (Instr.endLoop (w.heap.size + 1)).run P W2 = .ok p (W2.putObj (w.heap.size + 1) (.loop (rc .exhausted p))) := fun s p hs hb => by
      have := run_endLoop (P := P) hb.1 (by rw [state_rc]; exact hs)
      rw [set_st] at this
      rw [this, hrc]
    rcases h with ⟨xs, hS, hi, hb⟩ | ⟨pre, hSp, c, hi, hb⟩
    · exact ⟨none, _, ends _ _ (by simp) hb, hdone _ xs _ (Nat.le_refl _) hS (hI _ _ _ hi (below_put _ _ (by omega) (Array.getElem?_eq_some_iff.1 hb.1).1)) ((World.putObj_heap_other (by omega)).trans hb.2)⟩
    · exact ⟨some c, _, ends _ _ (by simp) hb, hstop _ c pre _ (Nat.le_refl _) hSp (hIx c _ _ _ hi (below_put _ _ (by omega) (Array.getElem?_eq_some_iff.1 hb.1).1)) ((World.putObj_heap_other (by omega)).trans hb.2)⟩

/-- all blocks stay, but those in E -/
def KeepBut (E : List Nat) (V W : World) : Prop := V.heap.size ≤ W.heap.size ∧ ∀ k, k ∉ E → k < V.heap.size → W.heap[k]? = V.heap[k]?
theorem KeepBut.refl (E : List Nat) (V : World) : KeepBut E V V := ⟨Nat.le_refl _, fun _ _ _ => rfl⟩
theorem KeepBut.trans {E : List Nat} {U V W : World} (h : KeepBut E U V) (k : KeepBut E V W) : KeepBut E U W := ⟨Nat.le_trans h.1 k.1, fun i hi hl => (k.2 i hi (Nat.lt_of_lt_of_le hl h.1)).trans (h.2 i hi hl)⟩
theorem KeepBut.put {E : List Nat} (W : World) (l : Nat) (o : Obj) (h : l ∈ E) : KeepBut E W (W.putObj l o) := ⟨by simp, fun k hk _ => World.putObj_heap_other fun e => hk (e ▸ h)⟩
theorem KeepBut.of_below {E : List Nat} {V W : World} (h : Below V.heap.size V W) : KeepBut E V W := ⟨h.size, fun k _ hl => h.block k hl⟩
end Go.Proofs.Ytpbkboandiigfaa
