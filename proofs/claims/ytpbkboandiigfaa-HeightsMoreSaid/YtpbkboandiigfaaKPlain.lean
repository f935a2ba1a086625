/- Columns in plain data: sizes, needs, bands; what holds of them. Nothing of the program. -/
import Derived.Test.YtpbkboandiigfaaRows
import Derived.Test.YtpbkboandiigfaaArith
import Derived.WalkKit
namespace Go.Proofs.Ytpbkboandiigfaa
set_option linter.unusedVariables false
set_option linter.unusedSimpArgs false

/-- a size -/
structure Sz where
  k : Int
  n : Int
  deriving DecidableEq, Inhabited
/-- a cell's need: its place, what it needs at least and at most, what it wants -/
structure Ne where
  nd : Int
  ro : Int
  co : Int
  rs : Int
  cs : Int
  mn : Int
  mx : Int
  wt : Sz
  deriving DecidableEq, Inhabited
/-- a band -/
structure Ba where
  mn : Int
  mx : Int
  sh : Int
  wt : Int
  deriving DecidableEq, Inhabited
def Sz.cells (s : Sz) : List Value := [.int .i64 s.k, .int .i64 s.n]
def Sz.val (s : Sz) : Value := .agg #[.int .i64 s.k, .int .i64 s.n]
def Ne.cells (s : Ne) : List Value := [.int .i64 s.nd, .int .i64 s.ro, .int .i64 s.co, .int .i64 s.rs, .int .i64 s.cs, .int .i64 s.mn, .int .i64 s.mx, .int .i64 s.wt.k, .int .i64 s.wt.n]
def Ne.val (s : Ne) : Value := .agg #[.int .i64 s.nd, .int .i64 s.ro, .int .i64 s.co, .int .i64 s.rs, .int .i64 s.cs, .int .i64 s.mn, .int .i64 s.mx, .int .i64 s.wt.k, .int .i64 s.wt.n]
def Ba.cells (s : Ba) : List Value := [.int .i64 s.mn, .int .i64 s.mx, .int .i64 s.sh, .int .i64 s.wt]
def Ba.val (s : Ba) : Value := .agg #[.int .i64 s.mn, .int .i64 s.mx, .int .i64 s.sh, .int .i64 s.wt]
def fit64 (n : Int) : Prop := (Lit.int .i64 n).wf = true
def Sz.wf (s : Sz) : Prop := fit64 s.k ∧ fit64 s.n
def Ne.wf (s : Ne) : Prop := fit64 s.nd ∧ fit64 s.ro ∧ fit64 s.co ∧ fit64 s.rs ∧ fit64 s.cs ∧ fit64 s.mn ∧ fit64 s.mx ∧ s.wt.wf

/-- the most that a size of its kind may be; below 0 for a kind that is none -/
def mostS (k : Int) : Int := if k = 0 then 0 else if k = 2 then 10000000 else if k = 1 then 1073741824 else -1
/-- is a size a computed one? -/
def szB (s : Sz) : Bool := decide (0 ≤ s.n) && decide (s.n ≤ mostS s.k)
/-- is a need right, of so many columns? -/
def neB (m : Int) (s : Ne) : Bool := (decide (1 ≤ s.cs) && decide (s.cs ≤ m)) && ((decide (0 ≤ s.co) && decide (s.co ≤ m - s.cs)) && ((decide (0 ≤ s.mn) && decide (s.mn ≤ 1125899906842623) && (decide (0 ≤ s.mx) && decide (s.mx ≤ 1125899906842623))) && (decide (s.mn ≤ s.mx) && szB s.wt)))
theorem szB_iff (s : Sz) : szB s = true ↔ 0 ≤ s.n ∧ s.n ≤ mostS s.k := by simp [szB]
theorem neB_iff (m : Int) (s : Ne) : neB m s = true ↔ 1 ≤ s.cs ∧ s.cs ≤ m ∧ 0 ≤ s.co ∧ s.co ≤ m - s.cs ∧ 0 ≤ s.mn ∧ s.mn ≤ s.mx ∧ s.mx ≤ 1125899906842623 ∧ szB s.wt = true := by
  simp only [neB, Bool.and_eq_true, decide_eq_true_eq]
  constructor
  · rintro ⟨⟨a, b⟩, ⟨c, d⟩, ⟨⟨e, f⟩, g, h⟩, i, j⟩; exact ⟨a, b, c, d, e, i, h, j⟩
  · rintro ⟨a, b, c, d, e, f, g, h⟩; exact ⟨⟨a, b⟩, ⟨c, d⟩, ⟨⟨e, by omega⟩, by omega, g⟩, f, h⟩
/-- sizes and needs are right -/
def rightK (zs : List Sz) (ns : List Ne) : Bool := decide (zs.length ≤ 10000) && (zs.all szB && ns.all (neB zs.length))
theorem rightK_iff (zs : List Sz) (ns : List Ne) : rightK zs ns = true ↔ zs.length ≤ 10000 ∧ (∀ s ∈ zs, szB s = true) ∧ ∀ n ∈ ns, neB zs.length n = true := by
  simp [rightK, List.all_eq_true]
/-- what a size asks of a band -/
def askB (b : Ba) (w : Sz) : Ba := if w.k = 2 then { b with sh := max b.sh w.n } else if w.k = 1 then { b with wt := max b.wt w.n } else b
/-- what a need of one column asks of its band -/
def useB (b : Ba) (n : Ne) : Ba := askB { b with mn := max b.mn n.mn, mx := max b.mx n.mx } n.wt
def stepB (c : Nat) (b : Ba) (n : Ne) : Ba := if n.cs = 1 ∧ n.co = c then useB b n else b
/-- a band, settled -/
def setB (b : Ba) : Ba := if 0 ≤ b.sh then { b with wt := -1 } else if 0 ≤ b.wt then { b with mx := max b.wt b.mn } else b
def rawB (s : Sz) (ns : List Ne) (c : Nat) : Ba := ns.foldl (stepB c) (askB ⟨0, 0, -1, -1⟩ s)
def bandB (s : Sz) (ns : List Ne) (c : Nat) : Ba := setB (rawB s ns c)
/-- the bands of the columns, not yet settled -/
def rawsB (zs : List Sz) (ns : List Ne) : List Ba := zs.mapIdx fun c s => rawB s ns c
/-- the bands of the columns -/
def bandsB (zs : List Sz) (ns : List Ne) : List Ba := zs.mapIdx fun c s => bandB s ns c
theorem rawsB_len (zs : List Sz) (ns : List Ne) : (rawsB zs ns).length = zs.length := by simp [rawsB]
theorem bandsB_len (zs : List Sz) (ns : List Ne) : (bandsB zs ns).length = zs.length := by simp [bandsB]
theorem rawsB_nil (zs : List Sz) : rawsB zs [] = zs.map (askB ⟨0, 0, -1, -1⟩) := by
  apply List.ext_getElem?
  intro i
  simp [rawsB, List.getElem?_mapIdx, rawB]
theorem bandsB_eq (zs : List Sz) (ns : List Ne) : bandsB zs ns = (rawsB zs ns).map setB := by
  apply List.ext_getElem?
  intro i
  simp [rawsB, bandsB, List.getElem?_mapIdx, bandB, Function.comp_def]
/-- a need of another place, or of many columns, changes nothing -/
theorem rawsB_skip (zs : List Sz) (pre : List Ne) (n : Ne) (h : n.cs ≠ 1) : rawsB zs (pre ++ [n]) = rawsB zs pre := by
  apply List.ext_getElem?
  intro i
  simp [rawsB, List.getElem?_mapIdx, rawB, List.foldl_append, stepB, h]
theorem rawsB_use (zs : List Sz) (pre : List Ne) (n : Ne) (c : Nat) (b : Ba) (h : n.cs = 1) (hc : n.co = c) (hb : (rawsB zs pre)[c]? = some b) : rawsB zs (pre ++ [n]) = (rawsB zs pre).set c (useB b n) := by
  apply List.ext_getElem?
  intro i
  by_cases e : i = c
  · subst e
    have hl : i < zs.length := by have := (List.getElem?_eq_some_iff.1 hb).1; rwa [rawsB_len] at this
    rw [List.getElem?_set_self (by rw [rawsB_len]; exact hl)]
    simp only [rawsB, List.getElem?_mapIdx, List.getElem?_eq_getElem hl, Option.map_some, Option.some.injEq] at hb ⊢
    rw [← hb]
    simp [rawB, List.foldl_append, stepB, h, hc]
  · rw [List.getElem?_set_ne (Ne.symm e)]
    have : ¬ (n.co = (i : Int)) := by omega
    simp [rawsB, List.getElem?_mapIdx, rawB, List.foldl_append, stepB, this]

/-! the order of needs makes no difference -/
theorem askB_comm (b : Ba) (v w : Sz) : askB (askB b v) w = askB (askB b w) v := by
  unfold askB
  by_cases h1 : v.k = 2 <;> by_cases h2 : w.k = 2 <;> by_cases h3 : v.k = 1 <;> by_cases h4 : w.k = 1 <;> simp [h1, h2, h3, h4] <;> omega
theorem useB_comm (b : Ba) (v w : Ne) : useB (useB b v) w = useB (useB b w) v := by
  obtain ⟨a, c, d, e⟩ := b
  unfold useB askB
  by_cases h1 : v.wt.k = 2 <;> by_cases h2 : w.wt.k = 2 <;> by_cases h3 : v.wt.k = 1 <;> by_cases h4 : w.wt.k = 1 <;> simp [h1, h2, h3, h4] <;> (try refine ⟨?_, ?_⟩) <;> (try refine ⟨?_, ?_⟩) <;> omega
theorem useB_same (b : Ba) (v : Ne) : useB (useB b v) v = useB b v := by
  obtain ⟨a, c, d, e⟩ := b
  unfold useB askB
  by_cases h1 : v.wt.k = 2 <;> by_cases h3 : v.wt.k = 1 <;> simp [h1, h3] <;> (try refine ⟨?_, ?_⟩) <;> (try refine ⟨?_, ?_⟩) <;> omega
theorem stepB_comm (c : Nat) (b : Ba) (v w : Ne) : stepB c (stepB c b v) w = stepB c (stepB c b w) v := by
  unfold stepB
  by_cases h1 : v.cs = 1 ∧ v.co = c <;> by_cases h2 : w.cs = 1 ∧ w.co = c <;> simp only [h1, h2, if_true, if_false] <;> simp [useB_comm b v w]
theorem stepB_same (c : Nat) (b : Ba) (v : Ne) : stepB c (stepB c b v) v = stepB c b v := by
  unfold stepB
  by_cases h1 : v.cs = 1 ∧ v.co = c <;> simp [h1, useB_same]
theorem foldl_swap {α β : Type} (f : β → α → β) (hc : ∀ b x y, f (f b x) y = f (f b y) x) (l : List α) (b : β) (x : α) : l.foldl f (f b x) = f (l.foldl f b) x := by
  induction l generalizing b with
  | nil => rfl
  | cons y l ih => rw [List.foldl_cons, List.foldl_cons, hc, ih]
theorem foldl_absorb {α β : Type} (f : β → α → β) (hc : ∀ b x y, f (f b x) y = f (f b y) x) (hs : ∀ b x, f (f b x) x = f b x) (l : List α) (b : β) (x : α) (hx : x ∈ l) : f (l.foldl f b) x = l.foldl f b := by
  induction l generalizing b with
  | nil => cases hx
  | cons y l ih =>
    rcases List.mem_cons.1 hx with rfl | hx
    · rw [List.foldl_cons, foldl_swap f hc, hs]
    · rw [List.foldl_cons]; exact ih _ hx
theorem foldl_more {α β : Type} (f : β → α → β) (hc : ∀ b x y, f (f b x) y = f (f b y) x) (hs : ∀ b x, f (f b x) x = f b x) (l l' : List α) (b : β) (h : ∀ x ∈ l', x ∈ l) : l'.foldl f (l.foldl f b) = l.foldl f b := by
  induction l' with
  | nil => rfl
  | cons y l' ih => rw [List.foldl_cons, foldl_absorb f hc hs l b y (h y (by simp)), ih fun x hx => h x (by simp [hx])]
theorem foldl_comm2 {α β : Type} (f : β → α → β) (hc : ∀ b x y, f (f b x) y = f (f b y) x) (l l' : List α) (b : β) : l'.foldl f (l.foldl f b) = l.foldl f (l'.foldl f b) := by
  induction l' generalizing b with
  | nil => rfl
  | cons y l' ih => rw [List.foldl_cons, List.foldl_cons, ← foldl_swap f hc, ih]
theorem foldl_alike {α β : Type} (f : β → α → β) (hc : ∀ b x y, f (f b x) y = f (f b y) x) (hs : ∀ b x, f (f b x) x = f b x) (l l' : List α) (b : β) (h : ∀ x, x ∈ l ↔ x ∈ l') : l.foldl f b = l'.foldl f b := by
  rw [← foldl_more f hc hs l l' b fun x hx => (h x).2 hx, foldl_comm2 f hc, foldl_more f hc hs l' l b fun x hx => (h x).1 hx]
theorem bandsB_alike (zs : List Sz) (l l' : List Ne) (h : ∀ x, x ∈ l ↔ x ∈ l') : bandsB zs l = bandsB zs l' := by
  unfold bandsB
  congr 1
  funext c s
  unfold bandB rawB
  rw [foldl_alike (stepB c) (stepB_comm c) (stepB_same c) l l' _ h]
theorem rightK_alike (zs : List Sz) (l l' : List Ne) (h : ∀ x, x ∈ l ↔ x ∈ l') : rightK zs l = rightK zs l' := by
  rw [Bool.eq_iff_iff, rightK_iff, rightK_iff]
  simp only [h]

/-! cells of many columns ask for nothing; more needs let no column need less -/
theorem bandsB_one (zs : List Sz) (l : List Ne) : bandsB zs (l.filter fun n => decide (n.cs = 1)) = bandsB zs l := by
  unfold bandsB
  congr 1
  funext c s
  unfold bandB rawB
  congr 1
  generalize askB ⟨0, 0, -1, -1⟩ s = b
  induction l generalizing b with
  | nil => rfl
  | cons x l ih =>
    by_cases h : x.cs = 1
    · simp only [List.filter_cons, h, decide_true, if_true, List.foldl_cons]; exact ih _
    · simp only [List.filter_cons, h, decide_false, List.foldl_cons]
      have : stepB c b x = b := by simp [stepB, h]
      rw [this]; exact ih _
theorem rightK_sub (zs : List Sz) (l l' : List Ne) (h : ∀ x ∈ l', x ∈ l) (hr : rightK zs l = true) : rightK zs l' = true := by
  rw [rightK_iff] at *
  exact ⟨hr.1, hr.2.1, fun x hx => hr.2.2 x (h x hx)⟩
theorem askB_le (b : Ba) (w : Sz) : b.mn ≤ (askB b w).mn ∧ b.mx ≤ (askB b w).mx ∧ b.sh ≤ (askB b w).sh ∧ b.wt ≤ (askB b w).wt := by
  unfold askB; split
  · simp; omega
  · split <;> simp <;> omega
theorem useB_le (b : Ba) (n : Ne) : b.mn ≤ (useB b n).mn ∧ b.mx ≤ (useB b n).mx ∧ b.sh ≤ (useB b n).sh ∧ b.wt ≤ (useB b n).wt ∧ n.mn ≤ (useB b n).mn ∧ n.mx ≤ (useB b n).mx := by
  have := askB_le { b with mn := max b.mn n.mn, mx := max b.mx n.mx } n.wt
  simp only [useB] at *; omega
theorem stepB_le (c : Nat) (b : Ba) (n : Ne) : b.mn ≤ (stepB c b n).mn ∧ b.mx ≤ (stepB c b n).mx ∧ b.sh ≤ (stepB c b n).sh := by
  unfold stepB; split
  · have := useB_le b n; omega
  · omega
theorem foldB_le (c : Nat) (l : List Ne) (b : Ba) : b.mn ≤ (l.foldl (stepB c) b).mn ∧ b.mx ≤ (l.foldl (stepB c) b).mx ∧ b.sh ≤ (l.foldl (stepB c) b).sh := by
  induction l generalizing b with
  | nil => simp
  | cons n l ih => rw [List.foldl_cons]; have := stepB_le c b n; have := ih (stepB c b n); omega
theorem setB_same (b : Ba) : (setB b).mn = b.mn ∧ (setB b).sh = b.sh := by
  unfold setB; split
  · simp
  · split <;> simp
theorem bandB_more (s : Sz) (c : Nat) (l l' : List Ne) : (bandB s l c).mn ≤ (bandB s (l ++ l') c).mn ∧ (bandB s l c).sh ≤ (bandB s (l ++ l') c).sh := by
  unfold bandB
  rw [(setB_same _).1, (setB_same _).1, (setB_same _).2, (setB_same _).2]
  unfold rawB
  rw [List.foldl_append]
  have := foldB_le c l' (l.foldl (stepB c) (askB ⟨0, 0, -1, -1⟩ s))
  omega
/-- a band is at least what its cells need -/
theorem foldB_has (c : Nat) (l : List Ne) (b : Ba) (n : Ne) (hn : n ∈ l) (h1 : n.cs = 1) (h2 : n.co = c) : n.mn ≤ (l.foldl (stepB c) b).mn ∧ n.mx ≤ (l.foldl (stepB c) b).mx := by
  induction l generalizing b with
  | nil => cases hn
  | cons x l ih =>
    rw [List.foldl_cons]
    rcases List.mem_cons.1 hn with rfl | hn
    · have e : stepB c b n = useB b n := by simp [stepB, h1, h2]
      have := useB_le b n
      have := foldB_le c l (stepB c b n)
      rw [e] at *
      omega
    · exact ih _ hn
theorem bandB_has (s : Sz) (c : Nat) (l : List Ne) (n : Ne) (hn : n ∈ l) (h1 : n.cs = 1) (h2 : n.co = c) : n.mn ≤ (bandB s l c).mn ∧ ((bandB s l c).wt < 0 → n.mx ≤ (bandB s l c).mx) := by
  have := foldB_has c l (askB ⟨0, 0, -1, -1⟩ s) n hn h1 h2
  unfold bandB
  rw [(setB_same _).1]
  refine ⟨this.1, fun hw => ?_⟩
  have h3 := this.2
  unfold rawB at *
  generalize l.foldl (stepB c) (askB ⟨0, 0, -1, -1⟩ s) = q at *
  unfold setB at *
  split
  · exact h3
  · rename_i hs
    rw [if_neg hs] at hw
    split
    · rename_i hw2
      rw [if_pos hw2] at hw; dsimp only at hw; omega
    · exact h3
/-- a right band -/
def baB (b : Ba) : Bool := decide (0 ≤ b.mn ∧ b.mn ≤ b.mx ∧ b.mx ≤ 1125899906842623 ∧ -1 ≤ b.sh ∧ b.sh ≤ 10000000 ∧ -1 ≤ b.wt ∧ b.wt ≤ 1073741824 ∧ (b.sh = -1 ∨ b.wt = -1))
/-- what a band not yet settled is -/
def rawOk (b : Ba) : Prop := 0 ≤ b.mn ∧ b.mn ≤ b.mx ∧ b.mx ≤ 1125899906842623 ∧ -1 ≤ b.sh ∧ b.sh ≤ 10000000 ∧ -1 ≤ b.wt ∧ b.wt ≤ 1073741824
theorem askB_ok (b : Ba) (w : Sz) (hb : rawOk b) (hw : szB w = true) : rawOk (askB b w) := by
  obtain ⟨h1, h2, h3, h4, h5, h6, h7⟩ := hb
  have ⟨h8, h9⟩ := (szB_iff w).1 hw
  unfold askB rawOk mostS at *
  split
  · rename_i e; rw [e] at h9; simp at h9 ⊢; omega
  · split
    · rename_i e1 e; rw [e] at h9; simp at h9 ⊢; omega
    · omega
theorem useB_ok (m : Int) (b : Ba) (n : Ne) (hb : rawOk b) (hn : neB m n = true) : rawOk (useB b n) := by
  have := (neB_iff m n).1 hn
  refine askB_ok _ _ ?_ this.2.2.2.2.2.2.2
  obtain ⟨h1, h2, h3, h4, h5, h6, h7⟩ := hb
  unfold rawOk
  dsimp only
  omega
theorem stepB_ok (m : Int) (c : Nat) (b : Ba) (n : Ne) (hb : rawOk b) (hn : neB m n = true) : rawOk (stepB c b n) := by
  unfold stepB; split
  · exact useB_ok m b n hb hn
  · exact hb
theorem foldB_ok (m : Int) (c : Nat) (l : List Ne) (b : Ba) (hb : rawOk b) (hn : ∀ n ∈ l, neB m n = true) : rawOk (l.foldl (stepB c) b) := by
  induction l generalizing b with
  | nil => exact hb
  | cons n l ih => rw [List.foldl_cons]; exact ih _ (stepB_ok m c b n hb (hn n (by simp))) fun x hx => hn x (by simp [hx])
theorem rawB_ok (m : Int) (s : Sz) (c : Nat) (l : List Ne) (hs : szB s = true) (hn : ∀ n ∈ l, neB m n = true) : rawOk (rawB s l c) :=
  foldB_ok m c l _ (askB_ok _ _ (by unfold rawOk; simp) hs) hn
theorem setB_ok (b : Ba) (h : rawOk b) : baB (setB b) = true := by
  obtain ⟨h1, h2, h3, h4, h5, h6, h7⟩ := h
  unfold baB setB
  rw [decide_eq_true_eq]
  split
  · dsimp only; omega
  · split
    · dsimp only; omega
    · omega
theorem rawsB_ok (zs : List Sz) (l : List Ne) (hr : rightK zs l = true) : ∀ b ∈ rawsB zs l, rawOk b := by
  rw [rightK_iff] at hr
  intro b hb
  obtain ⟨i, hi⟩ := List.mem_iff_getElem?.1 hb
  simp only [rawsB, List.getElem?_mapIdx, Option.map_eq_some_iff] at hi
  obtain ⟨s, hs, rfl⟩ := hi
  exact rawB_ok _ s i l (hr.2.1 s (List.mem_of_getElem? hs)) hr.2.2
theorem bandsB_ok (zs : List Sz) (l : List Ne) (hr : rightK zs l = true) : ∀ b ∈ bandsB zs l, baB b = true := by
  rw [bandsB_eq]
  intro b hb
  obtain ⟨q, hq, rfl⟩ := List.mem_map.1 hb
  exact setB_ok q (rawsB_ok zs l hr q hq)
end Go.Proofs.Ytpbkboandiigfaa
