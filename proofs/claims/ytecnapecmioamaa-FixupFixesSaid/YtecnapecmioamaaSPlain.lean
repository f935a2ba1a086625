/- Styles as plain data: which are valid, the computed ones, frames; sides that have something, one by one. Nothing of the program. -/
import Derived.Test.YtecnapecmioamaaSBase
namespace Go.Proofs.Ytecnapecmioamaa
set_option linter.unusedVariables false

/-- what a style has at one of its sides: padding, the line's style, width, colour -/
structure Sd where
  p : Int
  s : Int
  w : Int
  c : Int
  deriving DecidableEq, Inhabited
def Sd.zero : Sd := ⟨0, 0, 0, 0⟩
def inPx (n : Int) : Bool := decide (-1073741824 ≤ n) && decide (n ≤ 1073741824)
def sideB (x : Sd) : Bool := inPx x.p && inPx x.w && (decide (0 ≤ x.s) && decide (x.s ≤ 9))
def compSd (x : Sd) : Sd := ⟨max x.p 0, x.s, if x.s = 0 ∨ x.s = 1 then 0 else max x.w 0, x.c⟩
theorem compSd_zero : compSd Sd.zero = Sd.zero := by decide
theorem sideB_zero : sideB Sd.zero = true := by decide

/-- the sides that have something, of the first n -/
def sdEls (f : Nat → Sd) : Nat → List (Nat × Sd)
  | 0 => []
  | n + 1 => if f n = Sd.zero then sdEls f n else sdEls f n ++ [(n, f n)]
/-- what is at sides, one by one put anew -/
def putS {β : Type} (g : Sd → β) (h : Nat → β) (pre : List (Nat × Sd)) : Nat → β := pre.foldl (fun h x => fun k => if k = x.1 then g x.2 else h k) h
theorem putS_nil {β : Type} (g : Sd → β) (h : Nat → β) : putS g h [] = h := rfl
theorem putS_snoc {β : Type} (g : Sd → β) (h : Nat → β) (pre : List (Nat × Sd)) (x : Nat × Sd) : putS g h (pre ++ [x]) = fun k => if k = x.1 then g x.2 else putS g h pre k := by
  unfold putS; rw [List.foldl_append]; rfl
theorem putS_els {β : Type} (g : Sd → β) (h : Nat → β) (f : Nat → Sd) (n : Nat) : putS g h (sdEls f n) = fun k => if k < n ∧ f k ≠ Sd.zero then g (f k) else h k := by
  induction n with
  | zero => funext k; simp [sdEls, putS_nil]
  | succ n ih =>
    funext k
    unfold sdEls
    by_cases hz : f n = Sd.zero
    · rw [if_pos hz, ih]
      by_cases hk : k = n
      · subst hk; simp [hz]
      · have : k < n + 1 ↔ k < n := by omega
        simp [this]
    · rw [if_neg hz, putS_snoc, ih]
      by_cases hk : k = n
      · subst hk; simp [hz]
      · have : k < n + 1 ↔ k < n := by omega
        simp [this, hk]
theorem putS_all {β : Type} (g : Sd → β) (h : Nat → β) (f : Nat → Sd) (n : Nat) (hz : ∀ k, k < n → f k = Sd.zero → g (f k) = h k) (k : Nat) (hk : k < n) : putS g h (sdEls f n) k = g (f k) := by
  rw [putS_els]
  by_cases h0 : f k = Sd.zero
  · simp [h0, hk]; rw [← hz k hk h0, h0]
  · simp [h0, hk]
theorem mem_sdEls {f : Nat → Sd} {n : Nat} {x : Nat × Sd} : x ∈ sdEls f n ↔ x.1 < n ∧ x.2 = f x.1 ∧ f x.1 ≠ Sd.zero := by
  induction n with
  | zero => simp [sdEls]
  | succ n ih =>
    obtain ⟨k, y⟩ := x
    unfold sdEls
    by_cases hz : f n = Sd.zero
    · rw [if_pos hz, ih]
      constructor
      · rintro ⟨h1, h2⟩; exact ⟨by simp at h1 ⊢; omega, h2⟩
      · rintro ⟨h1, h2, h3⟩
        have : k ≠ n := fun e => h3 (by simp at e ⊢; rw [e]; exact hz)
        exact ⟨by simp at h1 ⊢; omega, h2, h3⟩
    · rw [if_neg hz, List.mem_append, ih]
      constructor
      · rintro (⟨h1, h2⟩ | h)
        · exact ⟨by simp at h1 ⊢; omega, h2⟩
        · simp at h; obtain ⟨rfl, rfl⟩ := h; exact ⟨by simp, rfl, hz⟩
      · rintro ⟨h1, h2, h3⟩
        by_cases hk : k = n
        · subst hk; simp at h2; subst h2; exact .inr (by simp)
        · exact .inl ⟨by simp at h1 ⊢; omega, h2, h3⟩
def nxtS (f : Nat → Sd) (pre : List (Nat × Sd)) (x : Nat × Sd) : Prop := ∃ k, k < 4 ∧ f k ≠ Sd.zero ∧ pre = sdEls f k ∧ x = (k, f k)

/-- a style -/
structure Sty where
  wk : Int
  wn : Int
  hk : Int
  hn : Int
  sd : Nat → Sd
  cs : Int
  rs : Int
  al : Int
  fx : Bool
  cl : Bool
  g0 : Int
  g1 : Int
  hd : Bool
  bl : Bool
def Sty.zero : Sty := ⟨0, 0, 0, 0, fun _ => Sd.zero, 0, 0, 0, false, false, 0, 0, false, false⟩
def styCells (wk wn hk hn p0 p1 p2 p3 s0 w0 c0 s1 w1 c1 s2 w2 c2 s3 w3 c3 cs rs al : Int) (fx cl : Bool) (g0 g1 : Int) (hd bl : Bool) : List Value :=
  [.int .i64 wk, .int .i64 wn, .int .i64 hk, .int .i64 hn, .int .i64 p0, .int .i64 p1, .int .i64 p2, .int .i64 p3,
   .int .i64 s0, .int .i64 w0, .int .u32 c0, .int .i64 s1, .int .i64 w1, .int .u32 c1, .int .i64 s2, .int .i64 w2, .int .u32 c2, .int .i64 s3, .int .i64 w3, .int .u32 c3,
   .int .i64 cs, .int .i64 rs, .int .i64 al, .bool fx, .bool cl, .int .i64 g0, .int .i64 g1, .bool hd, .bool bl]
def Sty.cells (s : Sty) : List Value :=
  styCells s.wk s.wn s.hk s.hn (s.sd 0).p (s.sd 1).p (s.sd 2).p (s.sd 3).p (s.sd 0).s (s.sd 0).w (s.sd 0).c (s.sd 1).s (s.sd 1).w (s.sd 1).c (s.sd 2).s (s.sd 2).w (s.sd 2).c (s.sd 3).s (s.sd 3).w (s.sd 3).c
    s.cs s.rs s.al s.fx s.cl s.g0 s.g1 s.hd s.bl
def Sty.val (s : Sty) : Value := .agg s.cells.toArray

theorem Sty.cells_lit (s : Sty) : s.cells = [.int .i64 s.wk, .int .i64 s.wn, .int .i64 s.hk, .int .i64 s.hn, .int .i64 (s.sd 0).p, .int .i64 (s.sd 1).p, .int .i64 (s.sd 2).p, .int .i64 (s.sd 3).p, .int .i64 (s.sd 0).s, .int .i64 (s.sd 0).w, .int .u32 (s.sd 0).c, .int .i64 (s.sd 1).s, .int .i64 (s.sd 1).w, .int .u32 (s.sd 1).c, .int .i64 (s.sd 2).s, .int .i64 (s.sd 2).w, .int .u32 (s.sd 2).c, .int .i64 (s.sd 3).s, .int .i64 (s.sd 3).w, .int .u32 (s.sd 3).c, .int .i64 s.cs, .int .i64 s.rs, .int .i64 s.al, .bool s.fx, .bool s.cl, .int .i64 s.g0, .int .i64 s.g1, .bool s.hd, .bool s.bl] := rfl
theorem Sty.val_lit (s : Sty) : s.val = .agg #[.int .i64 s.wk, .int .i64 s.wn, .int .i64 s.hk, .int .i64 s.hn, .int .i64 (s.sd 0).p, .int .i64 (s.sd 1).p, .int .i64 (s.sd 2).p, .int .i64 (s.sd 3).p, .int .i64 (s.sd 0).s, .int .i64 (s.sd 0).w, .int .u32 (s.sd 0).c, .int .i64 (s.sd 1).s, .int .i64 (s.sd 1).w, .int .u32 (s.sd 1).c, .int .i64 (s.sd 2).s, .int .i64 (s.sd 2).w, .int .u32 (s.sd 2).c, .int .i64 (s.sd 3).s, .int .i64 (s.sd 3).w, .int .u32 (s.sd 3).c, .int .i64 s.cs, .int .i64 s.rs, .int .i64 s.al, .bool s.fx, .bool s.cl, .int .i64 s.g0, .int .i64 s.g1, .bool s.hd, .bool s.bl] := rfl

def sizeB (k n : Int) : Bool := if k = 0 then true else if k = 1 then inPx n else if k = 2 then decide (0 ≤ n) && decide (n ≤ 10000000) else false
def spanB (n : Int) : Bool := decide (-1000 ≤ n) && decide (n ≤ 1000)
def sidesB (f : Nat → Sd) : Bool := sideB (f 0) && sideB (f 1) && sideB (f 2) && sideB (f 3)
def validS (s : Sty) : Bool :=
  sidesB s.sd && (sizeB s.wk s.wn && (sizeB s.hk s.hn && ((inPx s.g0 && inPx s.g1) && ((spanB s.cs && spanB s.rs) && (decide (0 ≤ s.al) && decide (s.al ≤ 3))))))
def compN (k n : Int) : Int := if k = 0 then 0 else if k = 1 then max n 0 else n
def compS (s : Sty) : Sty :=
  { s with wn := compN s.wk s.wn, hn := compN s.hk s.hn, sd := fun k => compSd (s.sd k), cs := max s.cs 1, rs := if s.rs < 0 then 1 else s.rs, g0 := max s.g0 0, g1 := max s.g1 0 }
theorem sides_all (f : Nat → Sd) : sidesB f = true ↔ ∀ x ∈ sdEls f 4, sideB x.2 = true := by
  constructor
  · intro h x hx
    obtain ⟨h1, h2, h3⟩ := mem_sdEls.1 hx
    rw [h2]
    simp only [sidesB, Bool.and_eq_true] at h
    obtain ⟨⟨⟨a, b⟩, c⟩, d⟩ := h
    have : x.1 = 0 ∨ x.1 = 1 ∨ x.1 = 2 ∨ x.1 = 3 := by omega
    rcases this with e | e | e | e <;> rw [e] <;> assumption
  · intro h
    have key : ∀ k, k < 4 → sideB (f k) = true := fun k hk => by
      by_cases hz : f k = Sd.zero
      · rw [hz]; rfl
      · exact h (k, f k) (mem_sdEls.2 ⟨hk, rfl, hz⟩)
    simp [sidesB, key]
theorem sides_bad (f : Nat → Sd) (x : Nat × Sd) (k : Nat) (hk : k < 4) (hx : x = (k, f k)) (hb : sideB x.2 = false) : sidesB f = false := by
  subst hx
  cases hs : sidesB f with
  | false => rfl
  | true =>
    simp only [sidesB, Bool.and_eq_true] at hs
    obtain ⟨⟨⟨a, b⟩, c⟩, d⟩ := hs
    have : k = 0 ∨ k = 1 ∨ k = 2 ∨ k = 3 := by omega
    rcases this with rfl | rfl | rfl | rfl <;> simp_all

theorem inPx_iff {n : Int} : inPx n = true ↔ -1073741824 ≤ n ∧ n ≤ 1073741824 := by simp [inPx]
theorem sideB_iff {x : Sd} : sideB x = true ↔ (-1073741824 ≤ x.p ∧ x.p ≤ 1073741824) ∧ (-1073741824 ≤ x.w ∧ x.w ≤ 1073741824) ∧ 0 ≤ x.s ∧ x.s ≤ 9 := by simp [sideB, inPx]; omega
theorem compSd_good {x : Sd} (h : sideB x = true) : sideB (compSd x) = true ∧ 0 ≤ (compSd x).p ∧ 0 ≤ (compSd x).w := by
  have h := sideB_iff.1 h
  have e : sideB (compSd x) = true ↔ _ := sideB_iff
  rw [e]
  unfold compSd
  dsimp only
  by_cases h1 : x.s = 0 ∨ x.s = 1
  · rw [if_pos h1]; omega
  · rw [if_neg h1]; omega
theorem compSd_again (x : Sd) : compSd (compSd x) = compSd x := by
  unfold compSd
  dsimp only
  by_cases h1 : x.s = 0 ∨ x.s = 1
  · simp [h1]
  · simp [h1]
theorem size_good {k n : Int} (h : sizeB k n = true) : sizeB k (compN k n) = true ∧ 0 ≤ compN k n ∧ compN k (compN k n) = compN k n := by
  unfold sizeB compN inPx at *
  by_cases h0 : k = 0
  · simp [h0]
  · by_cases h1 : k = 1
    · simp [h1] at h ⊢; omega
    · by_cases h2 : k = 2
      · simp [h2] at h ⊢; exact ⟨h, h.1⟩
      · simp [h0, h1, h2] at h
theorem spanB_iff {n : Int} : spanB n = true ↔ -1000 ≤ n ∧ n ≤ 1000 := by simp [spanB]
theorem comp_valid {s : Sty} (h : validS s = true) : validS (compS s) = true := by
  simp only [validS, sidesB, Bool.and_eq_true] at h ⊢
  obtain ⟨⟨⟨⟨a, b⟩, c⟩, d⟩, e, f, ⟨g, i⟩, ⟨j, k⟩, l, m⟩ := h
  refine ⟨⟨⟨⟨(compSd_good a).1, (compSd_good b).1⟩, (compSd_good c).1⟩, (compSd_good d).1⟩, (size_good e).1, (size_good f).1, ⟨?_, ?_⟩, ⟨?_, ?_⟩, l, m⟩
  · have e : (compS s).g0 = max s.g0 0 := rfl
    rw [inPx_iff] at g ⊢; rw [e]; omega
  · have e : (compS s).g1 = max s.g1 0 := rfl
    rw [inPx_iff] at i ⊢; rw [e]; omega
  · have e : (compS s).cs = max s.cs 1 := rfl
    rw [spanB_iff] at j ⊢; rw [e]; omega
  · have e : (compS s).rs = if s.rs < 0 then 1 else s.rs := rfl
    rw [spanB_iff] at k ⊢; rw [e]; split <;> omega
theorem comp_again {s : Sty} (h : validS s = true) : compS (compS s) = compS s := by
  simp only [validS, sidesB, Bool.and_eq_true] at h
  obtain ⟨_, e, f, _⟩ := h
  have h1 := (size_good e).2.2
  have h2 := (size_good f).2.2
  unfold compS
  dsimp only
  rw [h1, h2]
  simp only [compSd_again]
  congr 1
  · omega
  · split <;> omega
  · omega
  · omega
theorem comp_bounds {s : Sty} (h : validS s = true) : (∀ k, k < 4 → 0 ≤ ((compS s).sd k).p ∧ 0 ≤ ((compS s).sd k).w ∧ ((compS s).sd k).p ≤ 1073741824 ∧ ((compS s).sd k).w ≤ 1073741824) ∧
    0 ≤ (compS s).wn ∧ 0 ≤ (compS s).hn ∧ 0 ≤ (compS s).g0 ∧ 0 ≤ (compS s).g1 ∧ (1 ≤ (compS s).cs ∧ (compS s).cs ≤ 1000) ∧ 0 ≤ (compS s).rs ∧ (compS s).rs ≤ 1000 := by
  simp only [validS, sidesB, Bool.and_eq_true] at h
  obtain ⟨⟨⟨⟨a, b⟩, c⟩, d⟩, e, f, ⟨g, i⟩, ⟨j, k⟩, l, m⟩ := h
  refine ⟨fun k hk => ?_, (size_good e).2.1, (size_good f).2.1, by simp [compS]; omega, by simp [compS]; omega, ?_, ?_⟩
  · have key : ∀ x, sideB x = true → 0 ≤ (compSd x).p ∧ 0 ≤ (compSd x).w ∧ (compSd x).p ≤ 1073741824 ∧ (compSd x).w ≤ 1073741824 := fun x hx => by
      have h1 := compSd_good hx
      have h2 := sideB_iff.1 h1.1
      omega
    have : k = 0 ∨ k = 1 ∨ k = 2 ∨ k = 3 := by omega
    rcases this with rfl | rfl | rfl | rfl
    · exact key _ a
    · exact key _ b
    · exact key _ c
    · exact key _ d
  · have e : (compS s).cs = max s.cs 1 := rfl
    rw [spanB_iff] at j; rw [e]; omega
  · have e : (compS s).rs = if s.rs < 0 then 1 else s.rs := rfl
    rw [spanB_iff] at k; rw [e]; split <;> omega
end Go.Proofs.Ytecnapecmioamaa
