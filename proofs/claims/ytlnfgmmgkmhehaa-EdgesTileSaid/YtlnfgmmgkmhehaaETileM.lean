/- Cells and gutters cover each point of the whole extent just once (for EdgesTile). Plain: nothing of the program but the numbers where bands begin. -/
import Derived.Test.YtlnfgmmgkmhehaaEGut
namespace Go.Proofs.Ytlnfgmmgkmhehaa
set_option linter.unusedVariables false

/-- does a point lie in a rectangle? along, down; how many of them it lies in -/
def ixE (q : RR.R) (a : Int) : Int := if q.x ≤ a ∧ a < q.x + q.w then 1 else 0
def iyE (q : RR.R) (b : Int) : Int := if q.y ≤ b ∧ b < q.y + q.h then 1 else 0
def covE (l : List RR.R) (a b : Int) : Int := (l.map fun q => ixE q a * iyE q b).sum
theorem covE_append (l m : List RR.R) (a b : Int) : covE (l ++ m) a b = covE l a b + covE m a b := by simp [covE]
/-- a sum over the first n numbers -/
def sumR (n : Nat) (f : Nat → Int) : Int := ((List.range n).map f).sum
theorem sumR_succ (n : Nat) (f : Nat → Int) : sumR (n + 1) f = sumR n f + f n := by simp [sumR, List.range_succ]
theorem sumR_mul (n : Nat) (f : Nat → Int) (c : Int) : sumR n (fun i => f i * c) = sumR n f * c := by
  induction n with
  | zero => simp [sumR]
  | succ n ih => rw [sumR_succ, ih, sumR_succ, Int.add_mul]
theorem sumR_congr (n : Nat) (f g : Nat → Int) (h : ∀ i, i < n → f i = g i) : sumR n f = sumR n g := by
  induction n with
  | zero => rfl
  | succ n ih => rw [sumR_succ, sumR_succ, ih (fun i hi => h i (by omega)), h n (by omega)]
theorem covE_range (n : Nat) (f : Nat → RR.R) (a b : Int) : covE ((List.range n).map f) a b = sumR n (fun i => ixE (f i) a * iyE (f i) b) := by simp [covE, sumR, Function.comp_def]
theorem covE_flat (n : Nat) (f : Nat → List RR.R) (a b : Int) : covE ((List.range n).flatMap f) a b = sumR n (fun i => covE (f i) a b) := by
  induction n with
  | zero => rfl
  | succ n ih => rw [List.range_succ, List.flatMap_append, covE_append, ih, sumR_succ]; simp
/-- is a point within a stretch? -/
def inI (lo hi a : Int) : Int := if lo ≤ a ∧ a < hi then 1 else 0
theorem inI_join {lo mid hi a : Int} (h1 : lo ≤ mid) (h2 : mid ≤ hi) : inI lo mid a + inI mid hi a = inI lo hi a := by
  unfold inI
  by_cases p : lo ≤ a <;> by_cases q : a < mid <;> by_cases r : a < hi <;> simp [p, q, r] <;> omega
/-- bands and the gaps before them cover what they take, once -/
theorem bands_cover (g : Int) (bs : List Int) (hg : 0 ≤ g) (hb : ∀ x ∈ bs, 0 ≤ x) (a : Int) : ∀ n, n ≤ bs.length →
    0 ≤ preW g n bs ∧ sumR n (fun i => inI (begW g bs i - g) (begW g bs i) a) + sumR n (fun i => inI (begW g bs i) (begW g bs (i + 1) - g) a) = inI 0 (begW g bs n - g) a := by
  intro n
  induction n with
  | zero => intro _; refine ⟨by simp [preW], ?_⟩; simp [sumR, begW, preW, inI]
  | succ n ih =>
    intro hn
    obtain ⟨h0, h1⟩ := ih (by omega)
    obtain ⟨x, hx⟩ : ∃ x, bs[n]? = some x := ⟨_, List.getElem?_eq_getElem (by omega)⟩
    have hs := preW_succ g n bs x hx
    have hx0 := hb x (List.mem_iff_getElem?.2 ⟨n, hx⟩)
    refine ⟨by omega, ?_⟩
    rw [sumR_succ, sumR_succ]
    have e1 := inI_join (lo := 0) (mid := begW g bs n - g) (hi := begW g bs n) (a := a) (by unfold begW; omega) (by omega)
    have e2 := inI_join (lo := 0) (mid := begW g bs n) (hi := begW g bs (n + 1) - g) (a := a) (by unfold begW; omega) (by unfold begW; omega)
    omega
/-- .. with the last gap -/
theorem bands_cover' (g : Int) (bs : List Int) (hg : 0 ≤ g) (hb : ∀ x ∈ bs, 0 ≤ x) (a : Int) :
    sumR (bs.length + 1) (fun i => inI (begW g bs i - g) (begW g bs i) a) + sumR bs.length (fun i => inI (begW g bs i) (begW g bs (i + 1) - g) a) = inI 0 (begW g bs bs.length) a := by
  obtain ⟨h0, h1⟩ := bands_cover g bs hg hb a bs.length (Nat.le_refl _)
  rw [sumR_succ]
  have e1 := inI_join (lo := 0) (mid := begW g bs bs.length - g) (hi := begW g bs bs.length) (a := a) (by unfold begW; omega) (by omega)
  omega
/-- cells and gutters cover each point of the whole just once -/
theorem net_cover (g0 g1 : Int) (cs rs : List Int) (h0 : 0 ≤ g0) (h1 : 0 ≤ g1) (hc : ∀ x ∈ cs, 0 ≤ x) (hr : ∀ x ∈ rs, 0 ≤ x) (a b : Int) :
    covE ((List.range rs.length).flatMap fun j => (List.range cs.length).map fun i => (⟨begW g0 cs i, begW g1 rs j, begW g0 cs (i + 1) - g0 - begW g0 cs i, begW g1 rs (j + 1) - g1 - begW g1 rs j⟩ : RR.R)) a b
    + (covE ((List.range (cs.length + 1)).map fun i => (⟨begW g0 cs i - g0, 0, g0, begW g1 rs rs.length⟩ : RR.R)) a b
    + covE ((List.range (rs.length + 1)).flatMap fun j => (List.range cs.length).map fun i => (⟨begW g0 cs i, begW g1 rs j - g1, begW g0 cs (i + 1) - g0 - begW g0 cs i, g1⟩ : RR.R)) a b)
    = covE [⟨0, 0, begW g0 cs cs.length, begW g1 rs rs.length⟩] a b := by
  have X := bands_cover' g0 cs h0 hc a
  have Y := bands_cover' g1 rs h1 hr b
  obtain ⟨SX, hSX⟩ : ∃ SX, sumR (cs.length + 1) (fun i => inI (begW g0 cs i - g0) (begW g0 cs i) a) = SX := ⟨_, rfl⟩
  obtain ⟨CX, hCX⟩ : ∃ CX, sumR cs.length (fun i => inI (begW g0 cs i) (begW g0 cs (i + 1) - g0) a) = CX := ⟨_, rfl⟩
  obtain ⟨SY, hSY⟩ : ∃ SY, sumR (rs.length + 1) (fun i => inI (begW g1 rs i - g1) (begW g1 rs i) b) = SY := ⟨_, rfl⟩
  obtain ⟨CY, hCY⟩ : ∃ CY, sumR rs.length (fun i => inI (begW g1 rs i) (begW g1 rs (i + 1) - g1) b) = CY := ⟨_, rfl⟩
  rw [hSX, hCX] at X
  rw [hSY, hCY] at Y
  have k1 : covE ((List.range rs.length).flatMap fun j => (List.range cs.length).map fun i => (⟨begW g0 cs i, begW g1 rs j, begW g0 cs (i + 1) - g0 - begW g0 cs i, begW g1 rs (j + 1) - g1 - begW g1 rs j⟩ : RR.R)) a b = CX * CY := by
    rw [covE_flat]
    rw [sumR_congr _ _ (fun j => inI (begW g1 rs j) (begW g1 rs (j + 1) - g1) b * CX) (fun j _ => by
      rw [covE_range, ← hCX, Int.mul_comm, ← sumR_mul]
      refine sumR_congr _ _ _ fun i _ => ?_
      simp only [ixE, iyE, inI]
      rw [show begW g0 cs i + (begW g0 cs (i + 1) - g0 - begW g0 cs i) = begW g0 cs (i + 1) - g0 by omega, show begW g1 rs j + (begW g1 rs (j + 1) - g1 - begW g1 rs j) = begW g1 rs (j + 1) - g1 by omega])]
    rw [sumR_mul, hCY, Int.mul_comm]
  have k2 : covE ((List.range (cs.length + 1)).map fun i => (⟨begW g0 cs i - g0, 0, g0, begW g1 rs rs.length⟩ : RR.R)) a b = SX * inI 0 (begW g1 rs rs.length) b := by
    rw [covE_range, ← hSX, ← sumR_mul]
    refine sumR_congr _ _ _ fun i _ => ?_
    simp only [ixE, iyE, inI]
    rw [show begW g0 cs i - g0 + g0 = begW g0 cs i by omega, show (0 : Int) + begW g1 rs rs.length = begW g1 rs rs.length by omega]
  have k3 : covE ((List.range (rs.length + 1)).flatMap fun j => (List.range cs.length).map fun i => (⟨begW g0 cs i, begW g1 rs j - g1, begW g0 cs (i + 1) - g0 - begW g0 cs i, g1⟩ : RR.R)) a b = CX * SY := by
    rw [covE_flat]
    rw [sumR_congr _ _ (fun j => inI (begW g1 rs j - g1) (begW g1 rs j) b * CX) (fun j _ => by
      rw [covE_range, ← hCX, Int.mul_comm, ← sumR_mul]
      refine sumR_congr _ _ _ fun i _ => ?_
      simp only [ixE, iyE, inI]
      rw [show begW g0 cs i + (begW g0 cs (i + 1) - g0 - begW g0 cs i) = begW g0 cs (i + 1) - g0 by omega, show begW g1 rs j - g1 + g1 = begW g1 rs j by omega])]
    rw [sumR_mul, hSY, Int.mul_comm]
  have k4 : covE [⟨0, 0, begW g0 cs cs.length, begW g1 rs rs.length⟩] a b = inI 0 (begW g0 cs cs.length) a * inI 0 (begW g1 rs rs.length) b := by
    simp [covE, ixE, iyE, inI]
  rw [k1, k2, k3, k4, ← X, ← Y, Int.add_mul, Int.mul_add, Int.mul_add]
  omega
end Go.Proofs.Ytlnfgmmgkmhehaa
