/- Cells and gutters tile the whole, in plain data: as the document's Tiles asks it. -/
import Derived.Test.YtlnfgmmgkmhehaaETileM
import Derived.Test.YtlnfgmmgkmhehaaQTile0
namespace Go.Proofs.Ytlnfgmmgkmhehaa
open Go.RowKit
set_option linter.unusedVariables false

/-- what covers each point of a rectangle just once, and none beside it, tiles it -/
theorem tilesDoc_of (r : RR.R) (l : List RR.R) (hl : ∀ q ∈ l, 0 ≤ q.w ∧ 0 ≤ q.h) (hc : ∀ a b, RR.cov l a b = if RR.hasB r a b = true then 1 else 0) : RR.TilesDoc r l := by
  have hin : ∀ q ∈ l, ∀ a b, RR.hasB q a b = true → RR.hasB r a b = true := fun q hq a b h => by
    have h1 := (RR.cov_pos l a b).2 ⟨q, hq, h⟩
    rw [hc] at h1
    cases hr : RR.hasB r a b with
    | true => rfl
    | false => rw [hr] at h1; simp at h1
  refine ⟨fun q hq he => ?_, ?_, fun x _ y _ h => ?_⟩
  · obtain ⟨hw, hh⟩ := hl q hq
    have hne := (RR.emptyB_not q).1 he
    have p1 := hin q hq q.x q.y (by unfold RR.hasB; simp; omega)
    have p2 := hin q hq (q.x + q.w - 1) (q.y + q.h - 1) (by unfold RR.hasB; simp; omega)
    rw [RR.meet_within r q ⟨hw, hh⟩ he]
    unfold RR.hasB at p1 p2
    simp only [decide_eq_true_eq] at p1 p2
    omega
  · have h1 : ∀ a b, RR.cov l a b ≤ 1 := fun a b => by rw [hc]; split <;> omega
    refine (RR.cov_apart l h1).imp fun {p q} h _ => ?_
    exact (RR.meet_empty p q).2 h
  · have h1 := hc x y
    rw [if_pos h] at h1
    exact (RR.cov_pos l x y).1 (by omega)
theorem cov_covE (l : List RR.R) (a b : Int) : RR.cov l a b = covE l a b := rfl
theorem wideE_eq (g : Int) (bs : List Int) (i : Nat) : wideW g bs i (i + 1) = begW g bs (i + 1) - g - begW g bs i := by
  rw [wideW_lt (by omega)]; unfold begW; omega
/-- all slots' places -/
def slotP (n m : Nat) : List Pz := (List.range n).flatMap fun (r : Nat) => (List.range m).map fun (c : Nat) => (⟨0, (r : Int), (c : Int), 1, 1⟩ : Pz)
def cellsL (g0 g1 : Int) (cs rs : List Int) : List RR.R := (slotP rs.length cs.length).map (cellE g0 g1 cs rs)
theorem gut_none (cs rs : List Int) (a b : Int) : covE (stdsE 0 0 cs rs (cs.length + 1) ++ lyJE 0 0 cs rs cs.length (rs.length + 1)) a b = 0 := by
  have h0 : ∀ l : List RR.R, (∀ q ∈ l, q.w = 0 ∨ q.h = 0) → covE l a b = 0 := by
    intro l h
    induction l with
    | nil => rfl
    | cons q l ih =>
      have hq := h q (by simp)
      have e : ixE q a * iyE q b = 0 := by
        rcases hq with e | e
        · have : ixE q a = 0 := by unfold ixE; rw [e]; rw [if_neg (by omega)]
          rw [this, Int.zero_mul]
        · have : iyE q b = 0 := by unfold iyE; rw [e]; rw [if_neg (by omega)]
          rw [this, Int.mul_zero]
      have := ih fun q hq => h q (by simp [hq])
      unfold covE at this ⊢
      rw [List.map_cons, List.sum_cons, e, this]; rfl
  refine h0 _ fun q hq => ?_
  rcases List.mem_append.1 hq with h | h
  · obtain ⟨i, _, rfl⟩ := List.mem_map.1 h; exact .inl rfl
  · obtain ⟨j, _, h⟩ := List.mem_flatMap.1 h
    obtain ⟨i, _, rfl⟩ := List.mem_map.1 h; exact .inr rfl
theorem all_cover (g0 g1 : Int) (cs rs : List Int) (h0 : 0 ≤ g0) (h1 : 0 ≤ g1) (hc : ∀ x ∈ cs, 0 ≤ x) (hr : ∀ x ∈ rs, 0 ≤ x) (n1 : cs.length ≠ 0) (n2 : rs.length ≠ 0) (a b : Int) :
    covE (cellsL g0 g1 cs rs ++ gutE g0 g1 cs rs) a b = covE [⟨0, 0, extW g0 cs, extW g1 rs⟩] a b := by
  have hN := net_cover g0 g1 cs rs h0 h1 hc hr a b
  have e1 : cellsL g0 g1 cs rs = (List.range rs.length).flatMap fun j => (List.range cs.length).map fun i => (⟨begW g0 cs i, begW g1 rs j, begW g0 cs (i + 1) - g0 - begW g0 cs i, begW g1 rs (j + 1) - g1 - begW g1 rs j⟩ : RR.R) := by
    unfold cellsL slotP
    rw [List.map_flatMap]
    congr 1
    funext j
    rw [List.map_map]
    refine List.map_congr_left fun i _ => ?_
    simp [cellE, wideE_eq]
  have e2 : stdsE g0 g1 cs rs (cs.length + 1) = (List.range (cs.length + 1)).map fun i => (⟨begW g0 cs i - g0, 0, g0, begW g1 rs rs.length⟩ : RR.R) := rfl
  have e3 : lyJE g0 g1 cs rs cs.length (rs.length + 1) = (List.range (rs.length + 1)).flatMap fun j => (List.range cs.length).map fun i => (⟨begW g0 cs i, begW g1 rs j - g1, begW g0 cs (i + 1) - g0 - begW g0 cs i, g1⟩ : RR.R) := by
    unfold lyJE lysE lyE
    simp only [wideE_eq]
  have e4 : extW g0 cs = begW g0 cs cs.length := by unfold extW; rw [if_neg n1]
  have e5 : extW g1 rs = begW g1 rs rs.length := by unfold extW; rw [if_neg n2]
  rw [e4, e5, ← hN, covE_append, e1]
  congr 1
  unfold gutE
  split
  · rename_i h
    have hg : g0 = 0 ∧ g1 = 0 := by omega
    obtain ⟨rfl, rfl⟩ := hg
    have := gut_none cs rs a b
    rw [covE_append, e2, e3] at this
    rw [this]; rfl
  · rw [covE_append, e2, e3]
end Go.Proofs.Ytlnfgmmgkmhehaa
