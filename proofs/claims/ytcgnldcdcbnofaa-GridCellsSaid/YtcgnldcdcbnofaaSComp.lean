/- Contract of style.Computed: the computed style, or an error. -/
import Derived.Test.YtcgnldcdcbnofaaSValid
import Derived.Laws.Tables
import Derived.Laws.ResultCell
namespace Go.Proofs.Ytcgnldcdcbnofaa
open Go.RowKit Go.Shelf
set_option linter.unusedVariables false
attribute [local go_sem] Oper.semAt_some

def noPan (Q : Exit → Act → World → Prop) : Exit → Act → World → Prop
  | .panic _, _, _ => False
  | e, a, w => Q e a w
theorem noPan_le {Q : Exit → Act → World → Prop} (e : Exit) (a : Act) (w : World) (h : noPan Q e a w) : Q e a w := by cases e <;> first | exact h | exact h.elim
theorem region_held_np {P : Program} {ops : Array Oper} {Q : Exit → Act → World → Prop} {S : World → Prop} {id : Nat} {a : Act} {w : World} (hm : P.follows .mixedOrders = true)
    (h : ∀ w2 : World, w.drew = w2 → wpAnyH P .any ops (noPan Q) S ops.size (Array.replicate ops.size false) a w2) : (Code.region id ops true).wp P Q a w :=
  (wpIn_wide (n := 0)).1 (wpIn_mono (wpIn_wide.2 (wp_region_held hm (h _ rfl))) noPan_le)
theorem whole_row {W : World} {g t : Nat} {xs : List Value} (h : Whole W g t xs) (ys : List Value) : Whole (W.setRow g ys.toArray) g t ys := setRow_heap W g xs.toArray ys.toArray t (0, 0) h
theorem below_row {B : Nat} (W : World) (g : Nat) (cs : Array Value) (h : B ≤ g) : Below B W (W.setRow g cs) := ⟨rfl, rfl, rfl, by simp, fun k hk => setRow_other W g k cs (by omega)⟩
theorem cells_one (s : Sty) : s.cells.toArray.all (·.oneCell') = true := by rw [s.cells_lit]; simp [Value.oneCell']
theorem cells_len (s : Sty) : s.cells.length = 29 := rfl
theorem results_sty {fn : Func} {W : World} {g : Nat} {s : Sty} {v : Value} {tmps : Array Value} (hf : fn.results = #[.cell 2 62, .tmp 3]) (ht : tmps[2]? = some (.pointer (some ⟨g, 0, none⟩))) (hv : tmps[3]? = some v) (h : Whole W g 62 s.cells) :
    (results fn tmps).run Try.prog W = .ok (.tuple #[s.val, v]) W := by
  have h2 : tmps.getD 2 undef = .pointer (some ⟨g, 0, none⟩) := by simp [Array.getD_eq_getD_getElem?, ht]
  have h3 : tmps.getD 3 undef = v := by simp [Array.getD_eq_getD_getElem?, hv]
  have hl := run_loadVar_row (P := Try.prog) W g 62 62 s.cells.toArray (0, 0) _ h Try.underlying62 rfl (by rw [Try.infoSty]; rfl)
  rw [results_cell_tmp hf, h2, h3]
  simp [asAddr, hl, Sty.val]
/-- what Computed returns -/
def compR (s : Sty) : Value := .tuple #[(if validS s then compS s else Sty.zero).val, .int .i64 (if validS s then 0 else 30)]
def midS (s : Sty) (pre : List (Nat × Sd)) : Sty := { s with sd := putS compSd s.sd pre }
def CI (s : Sty) (B Bs : Nat) (w : World) (pre : List (Nat × Sd)) (W : World) : Prop :=
  (Whole W B 62 (midS s pre).cells ∧ Whole W (B + 1) 62 Sty.zero.cells ∧ Bs < W.heap.size) ∧ Below B w W
theorem CI.own (s : Sty) (B Bs : Nat) (w : World) (K : Nat) (h1 : B ≤ w.heap.size) (h2 : B ≤ K) : OwnFrom K (CI s B Bs w) := fun pre X Y row ⟨⟨ha, hc, hz⟩, hb⟩ hg hr =>
  ⟨⟨ha.grown hg (ha.ne fun r e => (hr r e).2), hc.grown hg (hc.ne fun r e => (hr r e).2), Nat.lt_of_lt_of_le hz hg.size⟩, (ownFrom_below (β := Unit) h1 h2) () X Y row hb hg hr⟩
theorem cells_side (u : Sty) (k : Nat) (hk : k < 4) (x : Sd) (hs : x.s = (u.sd k).s) (hc : x.c = (u.sd k).c) : (u.cells.set (4 + k) (.int .i64 x.p)).set (8 + k * 3 + 1) (.int .i64 x.w) = ({ u with sd := fun j => if j = k then x else u.sd j } : Sty).cells := by
  obtain rfl | rfl | rfl | rfl : k = 0 ∨ k = 1 ∨ k = 2 ∨ k = 3 := by omega
  all_goals (rw [Sty.cells_lit, Sty.cells_lit]; simp [hs, hc])
theorem cells_pad (u : Sty) (k : Nat) (hk : k < 4) : u.cells[4 + k]? = some (.int .i64 (u.sd k).p) := by
  obtain rfl | rfl | rfl | rfl : k = 0 ∨ k = 1 ∨ k = 2 ∨ k = 3 := by omega
  all_goals rfl
theorem cells_wid (u : Sty) (k : Nat) (hk : k < 4) : u.cells[8 + k * 3 + 1]? = some (.int .i64 (u.sd k).w) := by
  obtain rfl | rfl | rfl | rfl : k = 0 ∨ k = 1 ∨ k = 2 ∨ k = 3 := by omega
  all_goals rfl
theorem mid_keeps (s : Sty) (n k : Nat) : ((midS s (sdEls s.sd n)).sd k).s = (s.sd k).s ∧ ((midS s (sdEls s.sd n)).sd k).c = (s.sd k).c := by
  unfold midS
  dsimp only
  rw [putS_els]
  dsimp only
  split
  · exact ⟨rfl, rfl⟩
  · exact ⟨rfl, rfl⟩
theorem mid_step (s : Sty) (k : Nat) (hk : k < 4) : ((midS s (sdEls s.sd k)).cells.set (4 + k) (.int .i64 (compSd (s.sd k)).p)).set (8 + k * 3 + 1) (.int .i64 (compSd (s.sd k)).w) = (midS s (sdEls s.sd k ++ [(k, s.sd k)])).cells := by
  have hm := mid_keeps s k k
  rw [cells_side _ k hk (compSd (s.sd k)) hm.1.symm hm.2.symm]
  congr 1
  unfold midS
  simp only [putS_snoc]
theorem mid_end (s : Sty) : (midS s (sdEls s.sd 4)).cells = ({ s with sd := fun k => compSd (s.sd k) } : Sty).cells := by
  have h : ∀ k, k < 4 → putS compSd s.sd (sdEls s.sd 4) k = compSd (s.sd k) := fun k hk => putS_all compSd s.sd s.sd 4 (fun k _ hz => by rw [hz]; rfl) k hk
  rw [Sty.cells_lit, Sty.cells_lit]
  unfold midS
  dsimp only
  rw [h 0 (by omega), h 1 (by omega), h 2 (by omega), h 3 (by omega)]
end Go.Proofs.Ytcgnldcdcbnofaa
