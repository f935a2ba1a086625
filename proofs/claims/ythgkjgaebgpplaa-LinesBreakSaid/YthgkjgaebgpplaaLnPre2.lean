/- The document's answers for a law's text. Written by mk_LnLaws.py. -/
import Derived.Test.YthgkjgaebgpplaaLnRefX
namespace Go.Proofs.Ythgkjgaebgpplaa
open Go.RowKit Go.Shelf
set_option linter.unusedVariables false
attribute [local go_sem] Oper.semAt_some

theorem tx_form {w : World} {g : Nat} {n0 n : Nd} {cs : Array Value} {X : World} (h : TxIn w g n0 n cs X) : ∃ p m c, n.wv = .slice p m c ∧ n.ws.length = m ∧ m ≤ c := by
  obtain ⟨p, m, c, hwv, hmc, _⟩ := h.nd.ok.2.2.2
  obtain ⟨p', c', hwv'⟩ := h.nd.ok.2.1.form
  exact ⟨p, m, c, hwv, by rw [hwv] at hwv'; injection hwv' with _ e _; exact e.symm, hmc⟩
theorem refRight_cs {w : World} {g : Nat} {n0 n : Nd} {cs : Array Value} {X : World} (h : TxIn w g n0 n cs X) :
    Calls Try.prog 14 #[.agg cs] X fun e Y => e = .returned (.bool (textB n)) ∧ Below X.heap.size X Y := by
  have := refRight_any n X h.nd.ok
  rwa [show n.val = .agg n.cells.toArray from rfl, h.eq] at this
theorem refLeast_cs {w : World} {g : Nat} {n0 n : Nd} {cs : Array Value} {X : World} (h : TxIn w g n0 n cs X) (ht : textB n = true) :
    Calls Try.prog 22 #[.agg cs] X fun e Y => e = .returned (.int .i64 (leastW n.ws)) ∧ Below X.heap.size X Y := by
  obtain ⟨p, m, c, hwv, hm, hmc⟩ := tx_form h
  have := refLeast_at n X p m c h.nd.ok hwv hm (by have := (textQ ht).ok.2.1; omega)
  rwa [show n.val = .agg n.cells.toArray from rfl, h.eq] at this
theorem refMost_cs {w : World} {g : Nat} {n0 n : Nd} {cs : Array Value} {X : World} (h : TxIn w g n0 n cs X) (ht : textB n = true) :
    Calls Try.prog 23 #[.agg cs] X fun e Y => e = .returned (.int .i64 (wideW n.b n.ws 0 n.ws.length)) ∧ Below X.heap.size X Y := by
  obtain ⟨p, m, c, hwv, hm, hmc⟩ := tx_form h
  have := refMost_at n X p m c n.b h.nd.ok (textQ ht).ok hwv hm rfl
  rwa [show n.val = .agg n.cells.toArray from rfl, h.eq, ← hm] at this
theorem refWide_cs {w : World} {g : Nat} {n0 n : Nd} {cs : Array Value} {X : World} (h : TxIn w g n0 n cs X) (ht : textB n = true) (fr to : Nat) (h1 : fr ≤ to) (h2 : to ≤ n.ws.length) :
    Calls Try.prog 24 #[.agg cs, .int .i64 fr, .int .i64 to] X fun e Y => e = .returned (.int .i64 (wideW n.b n.ws fr to)) ∧ Below X.heap.size X Y := by
  obtain ⟨p, m, c, hwv, hm, hmc⟩ := tx_form h
  have := refWide_at n X p m c fr to n.b h.nd.ok (textQ ht).ok hwv hm rfl h1 (by omega)
  rwa [show n.val = .agg n.cells.toArray from rfl, h.eq] at this
theorem refBreak_cs {w : World} {g : Nat} {n0 n : Nd} {cs : Array Value} {X : World} (h : TxIn w g n0 n cs X) (ht : textB n = true) (width : Int) :
    Calls Try.prog 17 #[.agg cs, .int .i64 width] X fun e W' => ∃ lv Ls, e = .returned lv ∧ Broke (IsLine n.b width n.ws) 0 Ls n.ws.length ∧ OwnL X.heap.size W' lv Ls ∧ Below X.heap.size X W' := by
  obtain ⟨p, m, c, hwv, hm, hmc⟩ := tx_form h
  have := refBreak_at n X p m c width n.b h.nd.ok (textQ ht).ok hwv hm rfl
  rwa [show n.val = .agg n.cells.toArray from rfl, h.eq] at this
theorem refBox_cs {w : World} {g : Nat} {n0 n : Nd} {cs : Array Value} {X : World} (h : TxIn w g n0 n cs X) (ht : textB n = true) (width : Int) :
    Calls Try.prog 18 #[.agg cs, .int .i64 width] X fun e W' => ∃ Ls, e = .returned (.agg (boxOf n Ls).toArray) ∧ Broke (IsLine n.b width n.ws) 0 Ls n.ws.length ∧ Below X.heap.size X W' := by
  obtain ⟨p, m, c, hwv, hm, hmc⟩ := tx_form h
  have := refBox_at n X width p m c n.h _ _ n.b h.nd.ok (textQ ht) hwv hm rfl rfl rfl rfl
  rwa [show n.val = .agg n.cells.toArray from rfl, h.eq] at this
theorem box_lit (n : Nd) (Ls : List (Nat × Nat)) : (boxOf n Ls).toArray = #[.int .i64 (leastW n.ws), .int .i64 (wideW n.b n.ws 0 n.ws.length), .int .i64 (Ls.length * n.h), .int .i64 (if 0 < Ls.length then n.h - n.h / 4 else 0), .bool (decide (0 < Ls.length))] := rfl
theorem box_eql (a b c d : Int) (e : Bool) (X : World) : (binOp .eql 43 (.agg #[.int .i64 a, .int .i64 b, .int .i64 c, .int .i64 d, .bool e]) (.agg #[.int .i64 a, .int .i64 b, .int .i64 c, .int .i64 d, .bool e])).run Try.prog X = .ok (.bool true) X := by
  cases e <;> go_simp
end Go.Proofs.Ythgkjgaebgpplaa
