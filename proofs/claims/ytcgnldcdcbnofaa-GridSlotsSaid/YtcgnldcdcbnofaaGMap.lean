/- A map whose keys are slots: what it holds, as a list. -/
import Derived.Test.YtcgnldcdcbnofaaGSp
import Derived.Maps.Own
import Derived.Maps.OwnOps
import Derived.Maps.OwnSet
import Derived.Maps.OwnIn
import Derived.Maps.Views
import Derived.DeepKeys4
namespace Go.Proofs.Ytcgnldcdcbnofaa
open Go.RowKit Go.Shelf Go.Maps Go.ChangeMaps
set_option linter.unusedVariables false

theorem slotKeyed : Keyed Try.prog 43 := Keyed.of_law (deep_law_laid (m := 2) (by kernel_rfl) (by omega) (of_decide_eq_true (by kernel_rfl)) (by kernel_rfl) (by kernel_rfl))
theorem zeroInt (w : World) : (zeroValue 3).run Try.prog w = .ok (.int .i64 0) w := by kernel_rfl
def slotV (s : Nat × Nat) : Value := .agg #[.int .i64 (s.1 : Int), .int .i64 (s.2 : Int)]
theorem wf_small (n : Nat) (h : n ≤ 300000) : (Lit.int .i64 (n : Int)).wf = true := by
  simp [Lit.wf, IntKind.min, IntKind.max, IntKind.bits, IntKind.signed]; omega
theorem Try.sizeTypes : ∃ d, Try.prog.types.size + 1 = d + 1 + 1 := ⟨Try.prog.types.size - 1, by have : 1 ≤ Try.prog.types.size := of_decide_eq_true (by kernel_rfl); omega⟩
theorem slot_key (s : Nat × Nat) (h1 : s.1 ≤ 300000) (h2 : s.2 ≤ 300000) : ∃ l, keyOf Try.prog 43 (slotV s) = some l := by
  obtain ⟨d, hd⟩ := Try.sizeTypes
  have k1 : Try.prog.cellsOf 3 = 1 := by kernel_rfl
  have k2 : Try.prog.cellsOf 43 = 2 := by kernel_rfl
  have k3 : Try.prog.keyType 43 = true := by kernel_rfl
  have k4 : (slotV s).formed Try.prog 43 = true := by simp [slotV, Value.formed, Try.underlying43, k2]
  have e1 : Try.prog.keyLits (d + 1) 3 [.int .i64 (s.1 : Int)] = some [.int .i64 (s.1 : Int)] := by
    simp [Program.keyLits, Try.underlying3, wf_small s.1 h1]
  have e2 : Try.prog.keyLits (d + 1) 3 [.int .i64 (s.2 : Int)] = some [.int .i64 (s.2 : Int)] := by
    simp [Program.keyLits, Try.underlying3, wf_small s.2 h2]
  have e3 : Try.prog.keyLits (d + 1 + 1) 43 [.int .i64 (s.1 : Int), .int .i64 (s.2 : Int)] = some [.int .i64 (s.1 : Int), .int .i64 (s.2 : Int)] := by
    unfold Program.keyLits
    simp [Try.underlying43, k1, k2, List.range_succ, e1, e2]
  refine ⟨.string (keyBytes [.int .i64 (s.1 : Int), .int .i64 (s.2 : Int)]), ?_⟩
  unfold keyOf
  rw [Try.underlying43]
  simp only [k3, k4, Bool.and_self, if_true]
  rw [hd]
  show Option.map _ (Try.prog.keyLits (d + 1 + 1) 43 [.int .i64 (s.1 : Int), .int .i64 (s.2 : Int)]) = _
  rw [e3]
  rfl
/-- the owners that a map holds, the last first -/
def MapAt (X : World) (b : Nat) (ms : List ((Nat × Nat) × Nat)) : Prop :=
  ∃ D : DataW Unit, X.ownsMap Try.prog 43 (plainElem Try.prog 3) b ms.length D ∧ IsMap D ∧
    ∀ (s : Nat × Nat) (l : Lit), s.1 ≤ 300000 → s.2 ≤ 300000 → keyOf Try.prog 43 (slotV s) = some l →
      Maps.has D l = (ms.any fun e => e.1 == s) ∧ D.atKey l (.lit (.int .i64 0)) = .lit (.int .i64 (((ms.find? fun e => e.1 == s).map fun e => e.2).getD 0 : Nat))
theorem MapAt.new (w : World) : MapAt (w.alloc (.map #[] 0)) w.heap.size [] :=
  ⟨.map [], World.ownsMap_made w _ _ _, isMap_empty, fun s l h1 h2 hk => ⟨rfl, rfl⟩⟩
theorem MapAt.kept {X Y : World} {b : Nat} {ms : List ((Nat × Nat) × Nat)} {row : Option Nat} (h : MapAt X b ms) (hg : X.grownBy Y row) (hne : some b ≠ row) : MapAt Y b ms := by
  obtain ⟨D, h1, h2, h3⟩ := h
  exact ⟨D, h1.kept hg hne, h2, h3⟩
theorem MapAt.lt {X : World} {b : Nat} {ms : List ((Nat × Nat) × Nat)} (h : MapAt X b ms) : b < X.heap.size := by obtain ⟨D, h1, _⟩ := h; exact h1.lt
theorem slotV_inj {s t : Nat × Nat} (h : slotV s = slotV t) : s = t := by
  unfold slotV at h
  simp at h
  obtain ⟨h1, h2⟩ := h
  exact Prod.ext (by omega) (by omega)
/-- one slot more -/
theorem MapAt.put {X Y : World} {b : Nat} {ms : List ((Nat × Nat) × Nat)} {D : DataW Unit} (hD : IsMap D)
    (h3 : ∀ (s : Nat × Nat) (l : Lit), s.1 ≤ 300000 → s.2 ≤ 300000 → keyOf Try.prog 43 (slotV s) = some l → Maps.has D l = (ms.any fun e => e.1 == s) ∧ D.atKey l (.lit (.int .i64 0)) = .lit (.int .i64 (((ms.find? fun e => e.1 == s).map fun e => e.2).getD 0 : Nat)))
    (s : Nat × Nat) (v : Nat) (l : Lit) (hl : keyOf Try.prog 43 (slotV s) = some l) (hY : Y.ownsMap Try.prog 43 (plainElem Try.prog 3) b (ms.length + 1) (D.put l (.lit (.int .i64 (v : Int))))) :
    MapAt Y b ((s, v) :: ms) := by
  refine ⟨_, hY, hD.put _ _, fun s' l' g1 g2 hl' => ?_⟩
  have hkey : WideAt.IsKeyLit l := slotKeyed.key hl
  by_cases e : s = s'
  · subst e
    rw [hl] at hl'; cases hl'
    exact ⟨by rw [has_put_same hD hkey]; simp, by rw [atKey_put_same hD hkey]; simp⟩
  · have hne : l' ≠ l := fun h => e (slotV_inj (slotKeyed.inj hl (h ▸ hl')))
    obtain ⟨a1, a2⟩ := h3 s' l' g1 g2 hl'
    have hb : (s == s') = false := by simpa using e
    exact ⟨by rw [has_put_other hne, a1]; simp [hb], by rw [atKey_put_other hne, a2]; simp [hb]⟩
end Go.Proofs.Ytcgnldcdcbnofaa
