/- A range over a function whose rounds lean on the order in which the elements come, and write what lies below the iterator's box: a round is walked only at the element that is next; what the iterator reads stays. Nothing of the program. -/
import Derived.Test.YtpbkboandiigfaaROwn
import Derived.OwnWalkIn
import Derived.TacticsInMore
import Derived.LoopNIn
import Derived.LoopIn
import Derived.RangeFuncNested
import Derived.RangeFuncBound
import Derived.RangeFuncCalls
import Derived.RangeFuncLeaves
import Derived.RangeFuncBox
namespace Go.Proofs.Ytpbkboandiigfaa
open Go.RowKit
set_option linter.unusedVariables false

/-- the contract of an iterator that calls yield at the next element only -/
def SeqNext {α : Type} (F : Fence) (n : Nat) (P : Program) (g : Nat) (lb : Array Value) (encs : α → Array Value) (Kp : World → World → Prop) (nxt : List α → α → Prop) (S Sp : List α → Prop) (w : World) : Prop :=
  ∀ (l : Nat) (J Jx : List α → World → Prop) (W : World), Below w.heap.size w W → AbidesFrom W.heap.size J →
    (∀ pre x V, J pre V → nxt pre x → YieldAt F (n - 1) P l (encs x) V fun e V' =>
      (e = .returned (.bool true) ∧ J (pre ++ [x]) V' ∧ Kp V V') ∨ (e = .returned (.bool false) ∧ Jx (pre ++ [x]) V')) →
    J [] W → CallsIn F n P g (#[.func (.yield l) #[] #[]] ++ lb) W fun e W' => (∃ v, e = .returned v) ∧ ((∃ xs, S xs ∧ J xs W') ∨ ∃ pre, Sp pre ∧ Jx pre W')
/-- what lies in the two blocks of a loop's book-keeping -/
def Books (l d : Nat) (r : Loop) (W : World) : Prop := W.heap[l]? = some (.loop r) ∧ W.heap[d]? = some (.deferred (some []))
theorem Books.walks {l d : Nat} {r : Loop} {W W' : World} {row : Option Nat} (h : Books l d r W) (hg : W.grownBy W' row) (hr : ∀ k, row = some k → ∃ o : Obj, W.heap[k]? = some o ∧ o.isWalk = true) : Books l d r W' :=
  ⟨(grownBy_keeps hg hr h.1 rfl).trans h.1, (grownBy_keeps hg hr h.2 rfl).trans h.2⟩
theorem Books.keeps {B l d : Nat} {r : Loop} {W W' : World} (h : Books l d r W) (hk : KeepsFrom B W W') (hl : B ≤ l) (hd : B ≤ d) : Books l d r W' := ⟨hk.same _ _ hl h.1 rfl, hk.same _ _ hd h.2 rfl⟩
theorem Books.put {l d : Nat} {r : Loop} {W : World} (h : Books l d r W) (hne : d ≠ l) (r' : Loop) : Books l d r' (W.putObj l (.loop r')) :=
  ⟨World.putObj_heap_same (Array.getElem?_eq_some_iff.1 h.1).1, (World.putObj_heap_other hne).trans h.2⟩
theorem below_put {B l : Nat} (W : World) (o : Obj) (h : B ≤ l) (hl : l < W.heap.size) : Below B W (W.putObj l o) :=
  (Below.refl B W).grown (grownBy_putObj' W l o) (by omega) (fun k e => by cases e; exact h)

theorem range_next {F : Fence} {n : Nat} {P : Program} {α : Type} {g : Operand} {ps : Array Tmp} {assign body : Code} {Q : Exit → Act → World → Prop} {a : Act} {w : World}
    (hro : F.round = none) (h1 : 1 ≤ n) {gf : Nat} {lb : Array Value} (hg : a.eval g = .func (.func gf) #[] lb) (hFg : F.fn gf) (eg : ∀ args w, (callFunc gf args).run P w = .ok (.enter gf args) w)
    {encs : α → Array Value} {Kp : World → World → Prop} (hKt : ∀ a b c : World, Kp a b → Kp b c → Kp a c) (hKb : ∀ (W : World) (l : Nat) (o : Obj), w.heap.size ≤ l → l < W.heap.size → Kp W (W.putObj l o)) {nxt : List α → α → Prop} {S Sp : List α → Prop} (hseq : SeqNext F (n - 1) P gf lb encs Kp nxt S Sp w) (hps : ∀ x, (encs x).size = ps.size)
    (I : List α → World → Prop) (Ix : Code → List α → World → Prop) (hI : OwnFrom w.heap.size I) (hIx : ∀ c, OwnFrom w.heap.size (Ix c)) (h0 : I [] w)
    (hround : ∀ (l : Nat) (pre : List α) (x : α) (V : World), w.heap.size ≤ l → I pre V → nxt pre x → ∃ (a₁ : Act) (V₁ : World),
      (∀ K : Act → World → Prop, K a₁ V₁ → assign.wpIn (F.inRound l) (n - 1 - 1) P (Exit.then K (fun _ _ _ => False)) { tmps := (ps.zip (encs x)).foldl (fun t (p, v) => t.setIfInBounds p v) a.tmps, defers := [] } V) ∧
      KeepsFrom w.heap.size V V₁ ∧ Kp V V₁ ∧
      ∀ V₂, V₁.grownBy V₂ (some l) → NoCells V₁ (some l) → Kp V₁ V₂ → body.wpIn (F.inRound l) (n - 1 - 1) P (ownPostG w.heap.size Kp I Ix (pre ++ [x]) V₂) a₁ V₂)
    (hdone : ∀ (D : Nat) (xs : List α) (W : World), w.heap.size ≤ D → S xs → I xs W → W.heap[D]? = some (.deferred (some [])) → Q .normal { a with defers := { target := .collected D, args := #[] } :: a.defers } W)
    (hstop : ∀ (D : Nat) (c : Code) (pre : List α) (W : World), w.heap.size ≤ D → Sp pre → Ix c pre W → W.heap[D]? = some (.deferred (some [])) → c.wpIn F n P Q { a with defers := { target := .collected D, args := #[] } :: a.defers } W) :
    (Code.rangeFunc g ps assign body).wpIn F n P Q a w := by
  refine wpIn_rangeFunc fun fn hfn => ?_
  rw [hro]
  -- the two blocks of the loop's book-keeping, and the world in which they have been laid
  obtain ⟨rc, hrc⟩ : ∃ rc : LoopState → Option Code → Loop, rc = fun s p => { state := s, pending := p, fn, tmps := a.tmps, params := ps, assign, body, defers := w.heap.size } := ⟨_, rfl⟩
  have state_rc : ∀ s p, (rc s p).state = s := by rw [hrc]; intros; rfl
  have set_rc : ∀ s p s' p', ({ rc s p with state := s', pending := p' } : Loop) = rc s' p' := by rw [hrc]; intros; rfl
  have set_st : ∀ s p s', ({ rc s p with state := s' } : Loop) = rc s' p := by rw [hrc]; intros; rfl
  have hb0 : Books (w.heap.size + 1) w.heap.size (rc .ready none) ((w.alloc (.deferred (some []))).alloc (.loop (rc .ready none))) := by
    refine ⟨?_, (Below.heap_alloc _ _ _ (by simp)).trans (World.alloc_heap_new w _)⟩
    have := World.alloc_heap_new (w.alloc (.deferred (some []))) (.loop (rc .ready none))
    rwa [World.size_alloc] at this
  have hbw : Below w.heap.size w ((w.alloc (.deferred (some []))).alloc (.loop (rc .ready none))) := ((Below.refl _ w).alloc (Nat.le_refl _) _).alloc (by simp) _
  have hi0 : I [] ((w.alloc (.deferred (some []))).alloc (.loop (rc .ready none))) := hI.alloc _ (hI.alloc _ h0)
  have hsz : ((w.alloc (.deferred (some []))).alloc (.loop (rc .ready none))).heap.size = w.heap.size + 2 := by simp
  have hlay := run_enterLoop_outer (P := P) (w := w) fn a.tmps ps assign body
  rw [show ({ state := .ready, pending := none, fn, tmps := a.tmps, params := ps, assign, body, defers := w.heap.size } : Loop) = rc .ready none by rw [hrc]] at hlay
  generalize (w.alloc (.deferred (some []))).alloc (.loop (rc .ready none)) = W1 at *
  refine ⟨w.heap.size + 1, [{ target := .collected w.heap.size, args := #[] }], W1, { target := .fn (.func gf) lb, args := #[.func (.yield (w.heap.size + 1)) #[] #[]] }, W1, gf, #[.func (.yield (w.heap.size + 1)) #[] #[]] ++ lb, W1, hlay, ?_, ?_, ?_, fun _ => h1, ?_⟩
  · simp only [resolve, hg]; simp [go_sem]
  · intro f hf; simp [Target.leads] at hf; subst hf; exact hFg
  · simp [invoke, go_sem, eg]
  have hrow : ∀ {V : World} {row : Option Nat}, (∀ r, row = some r → W1.heap.size ≤ r ∧ ∃ o : Obj, V.heap[r]? = some o ∧ o.isWalk = true) → ∀ r, row = some r → w.heap.size ≤ r ∧ ∃ o : Obj, V.heap[r]? = some o ∧ o.isCells = false := fun h r e => by
    obtain ⟨hle, o, ho, hw⟩ := h r e
    exact ⟨by omega, o, ho, Obj.not_cells_of_walk hw⟩
  refine (hseq (w.heap.size + 1) (fun pre V => I pre V ∧ Books (w.heap.size + 1) w.heap.size (rc .ready none) V) (fun pre V => ∃ c, Ix c pre V ∧ Books (w.heap.size + 1) w.heap.size (rc .done (some c)) V) W1 hbw
    (fun s X Y row h hgr hr => ⟨hI s X Y row h.1 hgr (hrow hr), h.2.walks hgr fun k e => (hr k e).2⟩) ?_ ⟨hi0, hb0⟩).mono ?_
  · rintro pre x V ⟨hi, hb⟩ hx
    obtain ⟨a₁, V₁, has, hk1, hbl1, hbody⟩ := hround (w.heap.size + 1) pre x V (by omega) hi hx
    have hy := run_yield (P := P) (args := encs x) hb.1 (by rw [hrc]; exact hps x)
    rw [hrc] at hy
    refine ⟨_, _, _, _, hy, roundIn_of_wpIn hfn (has _ ?_)⟩
    have hb1 := hb.keeps hk1 (by omega) (Nat.le_refl _)
    refine ⟨_, run_beginRound hb1.1 (state_rc _ _), ?_⟩
    rw [set_st]
    have hl1 : w.heap.size + 1 < V₁.heap.size := (Array.getElem?_eq_some_iff.1 hb1.1).1
    have hb2 := hb1.put (by omega) (rc .busy none)
    have hbl2 := hKb V₁ (w.heap.size + 1) (.loop (rc .busy none)) (by omega) hl1
    refine wpIn_mono (hbody _ (grownBy_putObj' V₁ _ _) (fun k e => by cases e; exact ⟨_, hb1.1, rfl⟩) hbl2) ?_
    -- the round is over: the record is put right
    have over : ∀ (j : Option Code) (s : LoopState) (V₃ : World), (if j.isNone then LoopState.ready else .done) = s → KeepsFrom w.heap.size (V₁.putObj (w.heap.size + 1) (.loop (rc .busy none))) V₃ →
        (Instr.endRound (w.heap.size + 1) j).run P V₃ = .ok (.bool j.isNone) (V₃.putObj (w.heap.size + 1) (.loop (rc s j))) ∧ Books (w.heap.size + 1) w.heap.size (rc s j) (V₃.putObj (w.heap.size + 1) (.loop (rc s j))) ∧
        ∃ o : Obj, V₃.heap[w.heap.size + 1]? = some o ∧ o.isCells = false := fun j s V₃ hs hk3 => by
      have hb3 := hb2.keeps hk3 (by omega) (Nat.le_refl _)
      have hr := run_endRound (P := P) j hb3.1
      rw [set_rc, hs] at hr
      exact ⟨hr, hb3.put (by omega) _, _, hb3.1, rfl⟩
    have left : ∀ (c : Code) (V₃ : World), KeepsFrom w.heap.size (V₁.putObj (w.heap.size + 1) (.loop (rc .busy none))) V₃ → Ix c (pre ++ [x]) V₃ → ∃ v W', (Instr.endRound (w.heap.size + 1) (some c)).run P V₃ = .ok v W' ∧
        ((Ending.returned v = .returned (.bool true) ∧ (I (pre ++ [x]) W' ∧ Books (w.heap.size + 1) w.heap.size (rc .ready none) W') ∧ Kp V W') ∨ (Ending.returned v = .returned (.bool false) ∧ ∃ c, Ix c (pre ++ [x]) W' ∧ Books (w.heap.size + 1) w.heap.size (rc .done (some c)) W')) := fun c V₃ hk3 hx3 => by
      obtain ⟨hr, hb4, o, ho, hc⟩ := over (some c) .done V₃ rfl hk3
      exact ⟨_, _, hr, .inr ⟨rfl, c, (hIx c).putObj _ hx3 (by omega) ho hc, hb4⟩⟩
    rintro e a₃ V₃ hp
    cases e with
    | normal =>
      obtain ⟨hk3, hbl3, hi3⟩ := hp
      obtain ⟨hr, hb4, o, ho, hc⟩ := over none .ready V₃ rfl hk3
      exact ⟨_, _, hr, .inl ⟨rfl, ⟨hI.putObj _ hi3 (by omega) ho hc, hb4⟩, hKt _ _ _ (hKt _ _ _ (hKt _ _ _ hbl1 hbl2) hbl3) (hKb V₃ _ _ (by omega) (Array.getElem?_eq_some_iff.1 ho).1)⟩⟩
    | ret => exact left _ V₃ hp.1 hp.2
    | exit id => exact left _ V₃ hp.1 hp.2
    | goto t => exact left _ V₃ hp.1 hp.2
    | panic _ => exact hp.elim
    | outgrown => exact hp.elim
  · rintro e W2 ⟨⟨v, rfl⟩, h⟩
    have ends : ∀ (s : LoopState) (p : Option Code), s ≠ .busy → Books (w.heap.size + 1) w.heap.size (rc s p) W2 → (Instr.endLoop (w.heap.size + 1)).run P W2 = .ok p (W2.putObj (w.heap.size + 1) (.loop (rc .exhausted p))) := fun s p hs hb => by
      have := run_endLoop (P := P) hb.1 (by rw [state_rc]; exact hs)
      rw [set_st] at this
      rw [this, hrc]
    rcases h with ⟨xs, hS, hi, hb⟩ | ⟨pre, hSp, c, hi, hb⟩
    · exact ⟨none, _, ends _ _ (by simp) hb, hdone _ xs _ (Nat.le_refl _) hS (hI.putObj _ hi (by omega) hb.1 rfl) ((World.putObj_heap_other (by omega)).trans hb.2)⟩
    · exact ⟨some c, _, ends _ _ (by simp) hb, hstop _ c pre _ (Nat.le_refl _) hSp ((hIx c).putObj _ hi (by omega) hb.1 rfl) ((World.putObj_heap_other (by omega)).trans hb.2)⟩
/-- blocks below B stay, and the block X does -/
def Stay (B X : Nat) (W W' : World) : Prop := Below B W W' ∧ W'.heap[X]? = W.heap[X]?
theorem Stay.refl (B X : Nat) (W : World) : Stay B X W W := ⟨Below.refl B W, rfl⟩
theorem Stay.trans {B X : Nat} {U V W : World} (h : Stay B X U V) (k : Stay B X V W) : Stay B X U W := ⟨h.1.trans k.1, k.2.trans h.2⟩
theorem Stay.put {B X l : Nat} (W : World) (o : Obj) (h : B ≤ l) (hl : l < W.heap.size) (hx : X ≠ l) : Stay B X W (W.putObj l o) := ⟨below_put W o h hl, World.putObj_heap_other hx⟩
theorem Stay.whole {B X t : Nat} {U V : World} {xs : List Value} (h : Stay B X U V) (k : Whole U X t xs) : Whole V X t xs := h.2.trans k
theorem Stay.of_below {B X : Nat} {U V : World} (h : Below B U V) (k : Below U.heap.size U V) (hx : X < U.heap.size) : Stay B X U V := ⟨h, k.block X hx⟩
end Go.Proofs.Ytpbkboandiigfaa
