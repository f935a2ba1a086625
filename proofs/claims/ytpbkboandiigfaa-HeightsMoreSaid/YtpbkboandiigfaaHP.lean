/- Heights in plain data: requested heights, cells, the least heights, stretched rows. Nothing of the program. -/
import Derived.Test.YtpbkboandiigfaaSpP
namespace Go.Proofs.Ytpbkboandiigfaa
set_option linter.unusedVariables false
set_option linter.unusedSimpArgs false

/-- a place -/
structure Pc where
  nd : Int
  ro : Int
  co : Int
  rs : Int
  cs : Int
  deriving DecidableEq, Inhabited
/-- a cell: its place, and how high it is -/
structure Ht where
  nd : Int
  ro : Int
  co : Int
  rs : Int
  cs : Int
  hi : Int
  deriving DecidableEq, Inhabited
def Pc.cells (s : Pc) : List Value := [.int .i64 s.nd, .int .i64 s.ro, .int .i64 s.co, .int .i64 s.rs, .int .i64 s.cs]
def Pc.val (s : Pc) : Value := .agg #[.int .i64 s.nd, .int .i64 s.ro, .int .i64 s.co, .int .i64 s.rs, .int .i64 s.cs]
theorem Pc.cells_len (s : Pc) : s.cells.length = 5 := rfl
def Ht.cells (s : Ht) : List Value := [.int .i64 s.nd, .int .i64 s.ro, .int .i64 s.co, .int .i64 s.rs, .int .i64 s.cs, .int .i64 s.hi]
def Ht.val (s : Ht) : Value := .agg #[.int .i64 s.nd, .int .i64 s.ro, .int .i64 s.co, .int .i64 s.rs, .int .i64 s.cs, .int .i64 s.hi]
theorem Ht.cells_len (s : Ht) : s.cells.length = 6 := rfl
def Pc.ht (p : Pc) (h : Int) : Ht := ⟨p.nd, p.ro, p.co, p.rs, p.cs, h⟩
/-- places with their heights -/
def htZ (ps : List Pc) (hs : List Int) : List Ht := List.zipWith Pc.ht ps hs
theorem htZ_len (ps : List Pc) (hs : List Int) (h : hs.length = ps.length) : (htZ ps hs).length = ps.length := by simp [htZ, h]
theorem htZ_get (ps : List Pc) (hs : List Int) (k : Nat) (z : Ht) (h : (htZ ps hs)[k]? = some z) : ∃ p x, ps[k]? = some p ∧ hs[k]? = some x ∧ z = p.ht x := by
  unfold htZ at h
  rw [List.getElem?_zipWith] at h
  cases h1 : ps[k]? with
  | none => rw [h1] at h; simp at h
  | some p =>
    cases h2 : hs[k]? with
    | none => rw [h1, h2] at h; simp at h
    | some x => rw [h1, h2] at h; simp at h; exact ⟨p, x, rfl, rfl, h.symm⟩
/-- requested heights: 0 where there is none -/
def reqP (ws : List Int) : List Int := ws.map fun w => if w = -1 then 0 else w
theorem reqP_len (ws : List Int) : (reqP ws).length = ws.length := by simp [reqP]
/-- is a cell right, of so many rows? -/
def htB (n : Nat) (z : Ht) : Bool := (decide (0 < z.rs) && (decide (0 ≤ z.ro) && decide (z.ro ≤ (n : Int) - z.rs))) && (decide (0 ≤ z.hi) && decide (z.hi ≤ 1125899906842623))
theorem htB_iff (n : Nat) (z : Ht) : htB n z = true ↔ (0 < z.rs ∧ 0 ≤ z.ro ∧ z.ro ≤ (n : Int) - z.rs) ∧ 0 ≤ z.hi ∧ z.hi ≤ 1125899906842623 := by simp [htB]
/-- cells by their number of rows, those of fewer rows first -/
def htL (m : Nat) (zs : List Ht) : List Ht := (List.range' 1 m).flatMap fun (c : Nat) => zs.filter fun s => decide (s.rs = (c : Int))
theorem mem_htL (m : Nat) (zs : List Ht) (s : Ht) : s ∈ htL m zs ↔ s ∈ zs ∧ 1 ≤ s.rs ∧ s.rs ≤ m := by
  unfold htL
  simp only [List.mem_flatMap, List.mem_range'_1, List.mem_filter, decide_eq_true_eq]
  constructor
  · rintro ⟨c, hc, hs, he⟩; exact ⟨hs, by omega, by omega⟩
  · rintro ⟨hs, h1, h2⟩; exact ⟨s.rs.toNat, by omega, hs, by omega⟩
/-- what a cell makes of its own rows -/
def loH (gap : Int) (s : Ht) (a : List Int) : List Int := overP (partP s.hi gap s.rs) a a
/-- a cell's height, distributed -/
def meetH (gap : Int) (L : List Int) (s : Ht) : List Int := spl L s.ro.toNat (loH gap s (seg L s.ro.toNat s.rs.toNat))
/-- the least heights -/
def leastP (ws : List Int) (zs : List Ht) (gap : Int) : List Int := (htL ws.length zs).foldl (meetH gap) (reqP ws)
/-- a right cell, of so many rows, with a gap -/
structure HtOk (gap : Int) (m : Nat) (s : Ht) : Prop where
  g0 : 0 ≤ gap
  g1 : gap ≤ 1073741824
  k1 : 1 ≤ s.rs
  r0 : 0 ≤ s.ro
  k2 : s.ro + s.rs ≤ m
  m1 : m ≤ 10000
  h0 : 0 ≤ s.hi
  h1 : s.hi ≤ 1125899906842623
theorem HtOk.of {gap : Int} {m : Nat} {s : Ht} (h : htB m s = true) (g0 : 0 ≤ gap) (g1 : gap ≤ 1073741824) (hm : m ≤ 10000) : HtOk gap m s := by
  obtain ⟨⟨h1, h2, h3⟩, h4, h5⟩ := (htB_iff _ _).1 h
  exact ⟨g0, g1, by omega, h2, by omega, hm, h4, h5⟩
theorem HtOk.seg {gap : Int} {m : Nat} {s : Ht} (h : HtOk gap m s) : s.ro.toNat + s.rs.toNat ≤ m := by
  have := h.k1; have := h.r0; have := h.k2; omega
theorem HtOk.part {gap : Int} {m : Nat} {s : Ht} (h : HtOk gap m s) : 0 ≤ partP s.hi gap s.rs ∧ partP s.hi gap s.rs ≤ 1125899906842623 ∧ s.hi - gap * (s.rs - 1) ≤ partP s.hi gap s.rs := by
  have := h.k1; have := h.k2; have := h.m1; have := h.h1; have := h.r0
  have := partP_bd s.hi gap s.rs h.h0 h.h1 h.g0 h.g1 (by omega) (by omega); omega
theorem HtOk.over {gap : Int} {m : Nat} {s : Ht} (h : HtOk gap m s) {L : List Int} (hl : L.length = m) (hw : OkW L) : OverOk (partP s.hi gap s.rs) (Proofs.Ytpbkboandiigfaa.seg L s.ro.toNat s.rs.toNat) (Proofs.Ytpbkboandiigfaa.seg L s.ro.toNat s.rs.toNat) := by
  have hs := seg_len L s.ro.toNat s.rs.toNat (by rw [hl]; exact h.seg)
  have := h.seg; have := h.m1; have := h.k1
  exact ⟨h.part.1, h.part.2.1, by rw [hs]; omega, by rw [hs]; omega, rfl, seg_ok _ _ _ hw, seg_ok _ _ _ hw⟩
theorem HtOk.lol {gap : Int} {m : Nat} {s : Ht} (h : HtOk gap m s) {L : List Int} (hl : L.length = m) (hw : OkW L) : (loH gap s (Proofs.Ytpbkboandiigfaa.seg L s.ro.toNat s.rs.toNat)).length = s.rs.toNat := by
  unfold loH; rw [(h.over hl hw).len, seg_len _ _ _ (by rw [hl]; exact h.seg)]
theorem HtOk.meet {gap : Int} {m : Nat} {s : Ht} (h : HtOk gap m s) {L : List Int} (hl : L.length = m) (hw : OkW L) : (meetH gap L s).length = m ∧ OkW (meetH gap L s) := by
  have hq := h.lol hl hw
  refine ⟨?_, ?_⟩
  · unfold meetH; rw [spl_len _ _ _ (by rw [hq, hl]; exact h.seg), hl]
  · unfold meetH; exact spl_ok _ _ _ hw (h.over hl hw).ok
theorem meetH_get {gap : Int} {m : Nat} {s : Ht} (h : HtOk gap m s) {L : List Int} (hl : L.length = m) (hw : OkW L) (i : Nat) : L[i]?.getD 0 ≤ (meetH gap L s)[i]?.getD 0 := by
  have hq := h.lol hl hw
  have hc : s.ro.toNat + (loH gap s (seg L s.ro.toNat s.rs.toNat)).length ≤ L.length := by rw [hq, hl]; exact h.seg
  unfold meetH
  by_cases hi : s.ro.toNat ≤ i ∧ i < s.ro.toNat + s.rs.toNat
  · obtain ⟨j, rfl⟩ : ∃ j, i = s.ro.toNat + j := ⟨i - s.ro.toNat, by omega⟩
    rw [spl_in _ _ _ hc j (by rw [hq]; omega), ← seg_get L s.ro.toNat s.rs.toNat j (by omega)]
    exact (h.over hl hw).ge j
  · rw [spl_out _ _ _ hc i (by rw [hq]; omega)]
    exact Int.le_refl _
/-- a cell has what it needs -/
def HasH (gap : Int) (s : Ht) (L : List Int) : Prop := s.hi ≤ sumZ (seg L s.ro.toNat s.rs.toNat) + gap * (s.rs - 1)
theorem meetH_has {gap : Int} {m : Nat} {s : Ht} (h : HtOk gap m s) {L : List Int} (hl : L.length = m) (hw : OkW L) : HasH gap s (meetH gap L s) := by
  have hq := h.lol hl hw
  have ho := h.over hl hw
  have hs : sumZ (loH gap s (seg L s.ro.toNat s.rs.toNat)) = max (sumZ (seg L s.ro.toNat s.rs.toNat)) (partP s.hi gap s.rs) := ho.sum
  have e : seg (meetH gap L s) s.ro.toNat s.rs.toNat = loH gap s (seg L s.ro.toNat s.rs.toNat) := by
    have h5 := seg_spl L s.ro.toNat (loH gap s (seg L s.ro.toNat s.rs.toNat)) (by rw [hq, hl]; exact h.seg)
    rw [hq] at h5
    exact h5
  unfold HasH
  rw [e, hs]
  have := h.part.2.2
  omega
theorem HasH.mono {gap : Int} {m : Nat} {s : Ht} (h : HtOk gap m s) {L M : List Int} (hl : L.length = m) (hm : M.length = m) (hg : ∀ i : Nat, L[i]?.getD 0 ≤ M[i]?.getD 0) (hh : HasH gap s L) : HasH gap s M := by
  unfold HasH at *
  have := sumZ_mono (seg L s.ro.toNat s.rs.toNat) (seg M s.ro.toNat s.rs.toNat) (by rw [seg_len _ _ _ (by rw [hl]; exact h.seg), seg_len _ _ _ (by rw [hm]; exact h.seg)]) fun i => by
    by_cases hi : i < s.rs.toNat
    · rw [seg_get _ _ _ _ hi, seg_get _ _ _ _ hi]; exact hg _
    · rw [List.getElem?_eq_none (by rw [seg_len _ _ _ (by rw [hl]; exact h.seg)]; omega), List.getElem?_eq_none (by rw [seg_len _ _ _ (by rw [hm]; exact h.seg)]; omega)]; exact Int.le_refl _
  omega
def meetsH (gap : Int) (L : List Int) (zs : List Ht) : List Int := zs.foldl (meetH gap) L
theorem meetsH_ok {gap : Int} {m : Nat} (zs : List Ht) {L : List Int} (hl : L.length = m) (hw : OkW L) (hz : ∀ s ∈ zs, HtOk gap m s) : (meetsH gap L zs).length = m ∧ OkW (meetsH gap L zs) := by
  unfold meetsH
  induction zs generalizing L with
  | nil => exact ⟨hl, hw⟩
  | cons s zs ih =>
    have h1 := (hz s (by simp)).meet hl hw
    rw [List.foldl_cons]
    exact ih h1.1 h1.2 fun x hx => hz x (by simp [hx])
theorem meetsH_ge {gap : Int} {m : Nat} (zs : List Ht) {L : List Int} (hl : L.length = m) (hw : OkW L) (hz : ∀ s ∈ zs, HtOk gap m s) (i : Nat) : L[i]?.getD 0 ≤ (meetsH gap L zs)[i]?.getD 0 := by
  unfold meetsH
  induction zs generalizing L with
  | nil => exact Int.le_refl _
  | cons s zs ih =>
    have h1 := (hz s (by simp)).meet hl hw
    have h2 := meetH_get (hz s (by simp)) hl hw i
    have h3 := ih h1.1 h1.2 fun x hx => hz x (by simp [hx])
    rw [List.foldl_cons]; omega
theorem meetsH_has {gap : Int} {m : Nat} (zs : List Ht) {L : List Int} (hl : L.length = m) (hw : OkW L) (hz : ∀ s ∈ zs, HtOk gap m s) : ∀ s ∈ zs, HasH gap s (meetsH gap L zs) := by
  unfold meetsH
  induction zs generalizing L with
  | nil => intro s hs; cases hs
  | cons x zs ih =>
    intro s hs
    have hx := hz x (by simp)
    have h1 := hx.meet hl hw
    have hz' : ∀ s ∈ zs, HtOk gap m s := fun y hy => hz y (by simp [hy])
    rw [List.foldl_cons]
    rcases List.mem_cons.1 hs with rfl | hs
    · exact (meetH_has hx hl hw).mono hx h1.1 (meetsH_ok zs h1.1 h1.2 hz').1 fun i => meetsH_ge zs h1.1 h1.2 hz' i
    · exact ih h1.1 h1.2 hz' s hs
/-! cells sorted by their rows, stably -/
def tagH (ns : List Ht) : List (Nat × Ht) := ns.zipIdx.map fun p => (p.2, p.1)
theorem tagH_get (ns : List Ht) (i : Nat) : (tagH ns)[i]? = (ns[i]?).map fun s => (i, s) := by
  simp [tagH, List.getElem?_zipIdx, Function.comp_def]
theorem tagH_len (ns : List Ht) : (tagH ns).length = ns.length := by simp [tagH]
theorem tagH_val (ns : List Ht) : (tagH ns).map (·.2) = ns := by
  apply List.ext_getElem?
  intro i
  rw [List.getElem?_map, tagH_get]
  cases ns[i]? <;> rfl
theorem tagH_lt (ns : List Ht) : (tagH ns).Pairwise fun x y => x.1 < y.1 := by
  rw [List.pairwise_iff_getElem]
  intro i j hi hj hij
  have h1 := tagH_get ns i
  have h2 := tagH_get ns j
  rw [List.getElem?_eq_getElem hi] at h1
  rw [List.getElem?_eq_getElem hj] at h2
  obtain ⟨s, _, h1⟩ := Option.map_eq_some_iff.1 h1.symm
  obtain ⟨t, _, h2⟩ := Option.map_eq_some_iff.1 h2.symm
  rw [← h1, ← h2]; exact hij
/-- which cell comes first -/
def bfH (x y : Nat × Ht) : Prop := x.2.rs < y.2.rs ∨ x.2.rs = y.2.rs ∧ x.1 < y.1
theorem bfH_irr (x : Nat × Ht) : ¬ bfH x x := by unfold bfH; omega
theorem bfH_trans (x y z : Nat × Ht) : bfH x y → bfH y z → bfH x z := by unfold bfH; omega
def htT (m : Nat) (D : List (Nat × Ht)) : List (Nat × Ht) := (List.range' 1 m).flatMap fun (c : Nat) => D.filter fun x => decide (x.2.rs = (c : Int))
theorem mem_htT (m : Nat) (D : List (Nat × Ht)) (h : ∀ x ∈ D, 1 ≤ x.2.rs ∧ x.2.rs ≤ m) (x : Nat × Ht) : x ∈ htT m D ↔ x ∈ D := by
  unfold htT
  simp only [List.mem_flatMap, List.mem_range'_1, List.mem_filter, decide_eq_true_eq]
  constructor
  · rintro ⟨c, _, hx, _⟩; exact hx
  · intro hx
    have := h x hx
    exact ⟨x.2.rs.toNat, by omega, hx, by omega⟩
theorem htT_sorted (m : Nat) (D : List (Nat × Ht)) (hD : D.Pairwise fun x y => x.1 < y.1) : (htT m D).Pairwise bfH := by
  have hf : ∀ c : Int, (D.filter fun x => decide (x.2.rs = c)).Pairwise bfH := fun c => by
    rw [List.pairwise_filter]
    refine hD.imp fun {x y} hxy h1 h2 => ?_
    simp only [decide_eq_true_eq] at h1 h2
    exact .inr ⟨by rw [h1, h2], hxy⟩
  unfold htT
  rw [List.pairwise_flatMap]
  refine ⟨fun c _ => hf c, ?_⟩
  rw [List.pairwise_iff_getElem]
  intro i j hi hj hij x hx y hy
  simp only [List.getElem_range', List.mem_filter, decide_eq_true_eq] at hx hy
  refine .inl ?_
  omega
theorem nodup_ofH {R : Nat × Ht → Nat × Ht → Prop} (hR : ∀ x, ¬ R x x) {l : List (Nat × Ht)} (h : l.Pairwise R) : l.Nodup := by
  refine h.imp fun {x y} hxy e => ?_
  subst e; exact hR _ hxy
/-- whatever is a permutation of all, sorted, is that -/
theorem sorted_oneH (m : Nat) (ns : List Ht) (h : ∀ s ∈ ns, 1 ≤ s.rs ∧ s.rs ≤ m) (L : List (Nat × Ht)) (hp : L.Perm (tagH ns)) (hs : L.Pairwise bfH) : L.map (·.2) = htL m ns := by
  have hD := tagH_lt ns
  have ht := htT_sorted m _ hD
  have hmem : ∀ x ∈ tagH ns, 1 ≤ x.2.rs ∧ x.2.rs ≤ m := fun x hx => h x.2 (by rw [← tagH_val ns]; exact List.mem_map_of_mem hx)
  have hperm : (htT m (tagH ns)).Perm (tagH ns) := (List.perm_ext_iff_of_nodup (nodup_ofH bfH_irr ht) (nodup_ofH (R := fun x y => x.1 < y.1) (fun x => Nat.lt_irrefl _) hD)).2 (mem_htT m _ hmem)
  have e : L = htT m (tagH ns) := List.Perm.eq_of_pairwise (le := bfH) (fun a b _ _ h1 h2 => absurd (bfH_trans a b a h1 h2) (bfH_irr a)) hs ht (hp.trans hperm.symm)
  rw [e]
  unfold htT htL
  rw [List.map_flatMap]
  have hf : ∀ c : Int, ((tagH ns).filter fun x => decide (x.2.rs = c)).map (·.2) = ns.filter fun s => decide (s.rs = c) := fun c => by
    conv => rhs; rw [← tagH_val ns, List.filter_map]
    rfl
  congr 1
  funext c
  exact hf c
end Go.Proofs.Ytpbkboandiigfaa
