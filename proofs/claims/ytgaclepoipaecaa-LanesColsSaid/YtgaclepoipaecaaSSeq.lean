/- A range over a function whose iterator is itself a range over another function: what a round leaves as it lay, for the iterator's own loop. Nothing of the program. -/
import Derived.Test.YtgaclepoipaecaaSNext
import Derived.OwnWalkIn
import Derived.TacticsInMore
import Derived.LoopNIn
import Derived.LoopIn
import Derived.RangeFuncNested
import Derived.RangeFuncBound
import Derived.RangeFuncCalls
import Derived.RangeFuncLeaves
import Derived.RangeFuncBox
namespace Go.Proofs.Ytgaclepoipaecaa
open Go.RowKit
set_option linter.unusedVariables false

/-- the contract of an iterator that calls yield at the next element only -/
def SeqOwn {α : Type} (F : Fence) (n : Nat) (P : Program) (g : Nat) (lb : Array Value) (encs : α → Array Value) (Kp : World → World → Prop) (nxt : List α → α → Prop) (S Sp : List α → Prop) (w : World) : Prop :=
  ∀ (l : Nat) (J Jx : List α → World → Prop) (W : World), Below w.heap.size w W → w.heap.size + 2 ≤ W.heap.size → OwnFrom W.heap.size J → OwnFrom W.heap.size Jx →
    (∀ pre x V, J pre V → nxt pre x → YieldAt F (n - 1) P l (encs x) V fun e V' =>
      (e = .returned (.bool true) ∧ J (pre ++ [x]) V' ∧ Kp V V' ∧ KeepsFrom W.heap.size V V') ∨ (e = .returned (.bool false) ∧ Jx (pre ++ [x]) V' ∧ KeepsFrom W.heap.size V V')) →
    J [] W → CallsIn F n P g (#[.func (.yield l) #[] #[]] ++ lb) W fun e W' => (∃ v, e = .returned v) ∧ ((∃ xs, S xs ∧ J xs W') ∨ ∃ pre, Sp pre ∧ Jx pre W')
/-- what lies in the two blocks of a loop's book-keeping -/
def BooksO (l d : Nat) (r : Loop) (W : World) : Prop := W.heap[l]? = some (.loop r) ∧ W.heap[d]? = some (.deferred (some []))
theorem BooksO.own {l d : Nat} {r : Loop} {W W' : World} {row : Option Nat} (h : BooksO l d r W) (hg : W.grownBy W' row) (hr : ∀ k, row = some k → l < k ∧ d < k) : BooksO l d r W' :=
  ⟨(hg.block l (Array.getElem?_eq_some_iff.1 h.1).1 (fun e => by have := (hr l e.symm).1; omega)).trans h.1, (hg.block d (Array.getElem?_eq_some_iff.1 h.2).1 (fun e => by have := (hr d e.symm).2; omega)).trans h.2⟩
theorem BooksO.keeps {B l d : Nat} {r : Loop} {W W' : World} (h : BooksO l d r W) (hk : KeepsFrom B W W') (hl : B ≤ l) (hd : B ≤ d) : BooksO l d r W' := ⟨hk.same _ _ hl h.1 rfl, hk.same _ _ hd h.2 rfl⟩
theorem BooksO.put {l d : Nat} {r : Loop} {W : World} (h : BooksO l d r W) (hne : d ≠ l) (r' : Loop) : BooksO l d r' (W.putObj l (.loop r')) :=
  ⟨World.putObj_heap_same (Array.getElem?_eq_some_iff.1 h.1).1, (World.putObj_heap_other hne).trans h.2⟩
theorem range_own {F : Fence} {n : Nat} {P : Program} {α : Type} {g : Operand} {ps : Array Tmp} {assign body : Code} {Q : Exit → Act → World → Prop} {a : Act} {w : World}
    (hro : F.round = none) (h1 : 1 ≤ n) {gf : Nat} {lb : Array Value} (hg : a.eval g = .func (.func gf) #[] lb) (hFg : F.fn gf) (eg : ∀ args w, (callFunc gf args).run P w = .ok (.enter gf args) w)
    {encs : α → Array Value} {Kp : World → World → Prop} (hKt : ∀ a b c : World, Kp a b → Kp b c → Kp a c) (hKb : ∀ (W : World) (o : Obj), w.heap.size + 1 < W.heap.size → Kp W (W.putObj (w.heap.size + 1) o)) {nxt : List α → α → Prop} {S Sp : List α → Prop} (hseq : SeqOwn F (n - 1) P gf lb encs Kp nxt S Sp w) (hps : ∀ x, (encs x).size = ps.size)
    (I : List α → World → Prop) (Ix : Code → List α → World → Prop) (hI : OwnFrom w.heap.size I) (hIx : ∀ c, OwnFrom w.heap.size (Ix c)) (h0 : I [] w)
    (hround : ∀ (l : Nat) (pre : List α) (x : α) (V : World), w.heap.size ≤ l → I pre V → nxt pre x → ∃ (a₁ : Act) (V₁ : World),
      (∀ K : Act → World → Prop, K a₁ V₁ → assign.wpIn (F.inRound l) (n - 1 - 1) P (Exit.then K (fun _ _ _ => False)) { tmps := (ps.zip (encs x)).foldl (fun t (p, v) => t.setIfInBounds p v) a.tmps, defers := [] } V) ∧
      KeepsFrom w.heap.size V V₁ ∧ Kp V V₁ ∧
      ∀ V₂, V₁.grownBy V₂ (some l) → NoCells V₁ (some l) → Kp V₁ V₂ → body.wpIn (F.inRound l) (n - 1 - 1) P (ownPostG w.heap.size Kp I Ix (pre ++ [x]) V₂) a₁ V₂)
    (hdone : ∀ (D : Nat) (xs : List α) (W : World), w.heap.size ≤ D → S xs → I xs W → W.heap[D]? = some (.deferred (some [])) → Q .normal { a with defers := { target := .collected D, args := #[] } :: a.defers } W)
    (hstop : ∀ (D : Nat) (c : Code) (pre : List α) (W : World), w.heap.size ≤ D → Sp pre → Ix c pre W → W.heap[D]? = some (.deferred (some [])) → c.wpIn F n P Q { a with defers := { target := .collected D, args := #[] } :: a.defers } W) :
    (Code.rangeFunc g ps assign body).wpIn F n P Q a w := by
  refine wpIn_rangeFunc fun fn hfn => ?_
  rw [hro]
  -- the two blocks of the loop's book-keeping, and the world in which they have been laid
  obtain ⟨rc, hrc⟩ : ∃ rc : LoopState → Option Code → Loop, rc = fun s p => { state := s, pending := p, fn, tmps := a.tmps, params := ps, assign, body, defers := w.heap.size } := ⟨_, rfl⟩
  have state_rc : ∀ s p, (rc s p).state = s := by rw [hrc]; intros; rfl
  have set_rc : ∀ s p s' p', ({ rc s p with state := s', pending := p' } : Loop) = rc s' p' := by rw [hrc]; intros; rfl
  have set_st : ∀ s p s', ({ rc s p with state := s' } : Loop) = rc s' p := by rw [hrc]; intros; rfl
  have hb0 : BooksO (w.heap.size + 1) w.heap.size (rc .ready none) ((w.alloc (.deferred (some []))).alloc (.loop (rc .ready none))) := by
    refine ⟨?_, (Below.heap_alloc _ _ _ (by simp)).trans (World.alloc_heap_new w _)⟩
    have := World.alloc_heap_new (w.alloc (.deferred (some []))) (.loop (rc .ready none))
    rwa [World.size_alloc] at this
  have hbw : Below w.heap.size w ((w.alloc (.deferred (some []))).alloc (.loop (rc .ready none))) := ((Below.refl _ w).alloc (Nat.le_refl _) _).alloc (by simp) _
  have hi0 : I [] ((w.alloc (.deferred (some []))).alloc (.loop (rc .ready none))) := hI.alloc _ (hI.alloc _ h0)
  have hsz : ((w.alloc (.deferred (some []))).alloc (.loop (rc .ready none))).heap.size = w.heap.size + 2 := by simp
  have hlay := run_enterLoop_outer (P := P) (w := w) fn a.tmps ps assign body
  rw [show ({ state := .ready, pending := none, fn, tmps := a.tmps, params := ps, assign, body, defers := w.heap.size } : Loop) = rc .ready none by rw [hrc]] at hlay
  generalize (w.alloc (.deferred (some []))).alloc (.loop (rc .ready none)) = W1 at *
  refine ⟨w.heap.size + 1, [{ target := .collected w.heap.size, args := #[] }], W1, { target := .fn (.func gf) lb, args := #[.func (.yield (w.heap.size + 1)) #[] #[]] }, W1, gf, #[.func (.yield (w.heap.size + 1)) #[] #[]] ++ lb, W1, hlay, ?_, ?_, ?_, fun _ => h1, ?_⟩
  · simp only [resolve, hg]; simp [go_sem]
  · intro f hf; simp [Target.leads] at hf; subst hf; exact hFg
  · simp [invoke, go_sem, eg]
  have hrow : ∀ {V : World} {row : Option Nat}, (∀ r, row = some r → W1.heap.size ≤ r ∧ ∃ o : Obj, V.heap[r]? = some o ∧ o.isCells = false) → ∀ r, row = some r → w.heap.size ≤ r ∧ ∃ o : Obj, V.heap[r]? = some o ∧ o.isCells = false := fun h r e => by
    obtain ⟨hle, o, ho, hw⟩ := h r e
    exact ⟨by omega, o, ho, hw⟩
  refine (hseq (w.heap.size + 1) (fun pre V => I pre V ∧ BooksO (w.heap.size + 1) w.heap.size (rc .ready none) V) (fun pre V => ∃ c, Ix c pre V ∧ BooksO (w.heap.size + 1) w.heap.size (rc .done (some c)) V) W1 hbw (by omega)
    (fun s X Y row h hgr hr => ⟨hI s X Y row h.1 hgr (hrow hr), h.2.own hgr fun k e => by have := (hr k e).1; omega⟩)
    (fun s X Y row h hgr hr => by obtain ⟨c, hx, hb⟩ := h; exact ⟨c, hIx c s X Y row hx hgr (hrow hr), hb.own hgr fun k e => by have := (hr k e).1; omega⟩) ?_ ⟨hi0, hb0⟩).mono ?_
  · rintro pre x V ⟨hi, hb⟩ hx
    obtain ⟨a₁, V₁, has, hk1, hbl1, hbody⟩ := hround (w.heap.size + 1) pre x V (by omega) hi hx
    have hy := run_yield (P := P) (args := encs x) hb.1 (by rw [hrc]; exact hps x)
    rw [hrc] at hy
    refine ⟨_, _, _, _, hy, roundIn_of_wpIn hfn (has _ ?_)⟩
    have hb1 := hb.keeps hk1 (by omega) (Nat.le_refl _)
    refine ⟨_, run_beginRound hb1.1 (state_rc _ _), ?_⟩
    rw [set_st]
    have hl1 : w.heap.size + 1 < V₁.heap.size := (Array.getElem?_eq_some_iff.1 hb1.1).1
    have hb2 := hb1.put (by omega) (rc .busy none)
    have hbl2 := hKb V₁ (.loop (rc .busy none)) hl1
    refine wpIn_mono (hbody _ (grownBy_putObj' V₁ _ _) (fun k e => by cases e; exact ⟨_, hb1.1, rfl⟩) hbl2) ?_
    -- the round is over: the record is put right
    have kp : ∀ (V : World) (o : Obj), KeepsFrom W1.heap.size V (V.putObj (w.heap.size + 1) o) := fun V o => KeepsFrom.of_grownBy (grownBy_putObj' V _ _) (fun j e => by cases e; omega)
    have kw : ∀ {A B : World}, KeepsFrom w.heap.size A B → KeepsFrom W1.heap.size A B := fun h => ⟨h.size, fun k o hB hk ho => h.same k o (by omega) hk ho⟩
    have over : ∀ (j : Option Code) (s : LoopState) (V₃ : World), (if j.isNone then LoopState.ready else .done) = s → KeepsFrom w.heap.size (V₁.putObj (w.heap.size + 1) (.loop (rc .busy none))) V₃ →
        (Instr.endRound (w.heap.size + 1) j).run P V₃ = .ok (.bool j.isNone) (V₃.putObj (w.heap.size + 1) (.loop (rc s j))) ∧ BooksO (w.heap.size + 1) w.heap.size (rc s j) (V₃.putObj (w.heap.size + 1) (.loop (rc s j))) ∧
        ∃ o : Obj, V₃.heap[w.heap.size + 1]? = some o ∧ o.isCells = false := fun j s V₃ hs hk3 => by
      have hb3 := hb2.keeps hk3 (by omega) (Nat.le_refl _)
      have hr := run_endRound (P := P) j hb3.1
      rw [set_rc, hs] at hr
      exact ⟨hr, hb3.put (by omega) _, _, hb3.1, rfl⟩
    have left : ∀ (c : Code) (V₃ : World), KeepsFrom w.heap.size (V₁.putObj (w.heap.size + 1) (.loop (rc .busy none))) V₃ → Ix c (pre ++ [x]) V₃ → ∃ v W', (Instr.endRound (w.heap.size + 1) (some c)).run P V₃ = .ok v W' ∧
        ((Ending.returned v = .returned (.bool true) ∧ (I (pre ++ [x]) W' ∧ BooksO (w.heap.size + 1) w.heap.size (rc .ready none) W') ∧ Kp V W' ∧ KeepsFrom W1.heap.size V W') ∨ (Ending.returned v = .returned (.bool false) ∧ (∃ c, Ix c (pre ++ [x]) W' ∧ BooksO (w.heap.size + 1) w.heap.size (rc .done (some c)) W') ∧ KeepsFrom W1.heap.size V W')) := fun c V₃ hk3 hx3 => by
      obtain ⟨hr, hb4, o, ho, hc⟩ := over (some c) .done V₃ rfl hk3
      exact ⟨_, _, hr, .inr ⟨rfl, ⟨c, (hIx c).putObj _ hx3 (by omega) ho hc, hb4⟩, ((kw hk1).trans (kp _ _)).trans ((kw hk3).trans (kp _ _))⟩⟩
    rintro e a₃ V₃ hp
    cases e with
    | normal =>
      obtain ⟨hk3, hbl3, hi3⟩ := hp
      obtain ⟨hr, hb4, o, ho, hc⟩ := over none .ready V₃ rfl hk3
      exact ⟨_, _, hr, .inl ⟨rfl, ⟨hI.putObj _ hi3 (by omega) ho hc, hb4⟩, hKt _ _ _ (hKt _ _ _ (hKt _ _ _ hbl1 hbl2) hbl3) (hKb V₃ _ (Array.getElem?_eq_some_iff.1 ho).1), ((kw hk1).trans (kp _ _)).trans ((kw hk3).trans (kp _ _))⟩⟩
    | ret => exact left _ V₃ hp.1 hp.2
    | exit id => exact left _ V₃ hp.1 hp.2
    | goto t => exact left _ V₃ hp.1 hp.2
    | panic _ => exact hp.elim
    | outgrown => exact hp.elim
  · rintro e W2 ⟨⟨v, rfl⟩, h⟩
    have ends : ∀ (s : LoopState) (p : Option Code), s ≠ .busy → BooksO (w.heap.size + 1) w.heap.size (rc s p) W2 → (Instr.endLoop (w.heap.size + 1)).run P W2 = .ok p (W2.putObj (w.heap.size + 1) (.loop (rc .exhausted p))) := fun s p hs hb => by
      have := run_endLoop (P := P) hb.1 (by rw [state_rc]; exact hs)
      rw [set_st] at this
      rw [this, hrc]
    rcases h with ⟨xs, hS, hi, hb⟩ | ⟨pre, hSp, c, hi, hb⟩
    · exact ⟨none, _, ends _ _ (by simp) hb, hdone _ xs _ (Nat.le_refl _) hS (hI.putObj _ hi (by omega) hb.1 rfl) ((World.putObj_heap_other (by omega)).trans hb.2)⟩
    · exact ⟨some c, _, ends _ _ (by simp) hb, hstop _ c pre _ (Nat.le_refl _) hSp ((hIx c).putObj _ hi (by omega) hb.1 rfl) ((World.putObj_heap_other (by omega)).trans hb.2)⟩
end Go.Proofs.Ytgaclepoipaecaa
