/- A framing as one value: what the functions that take it answer. -/
/- requests and won of a course of a framing. -/
import Derived.Test.YtceippgkmoijdaaCoEp
namespace Go.Proofs.Ytceippgkmoijdaa
open Go.RowKit Go.Shelf Go.Sort Go.Maps
set_option linter.unusedVariables false
set_option linter.unusedSimpArgs false

theorem PsAt.formE {W : World} {sv : Value} {L : List Pz} (h : PsAt W sv L) : ∃ p c, sv = .slice p L.length c := by
  obtain ⟨hl, ⟨a0, c0, e0, rfl⟩ | ⟨b, off, c0, e0, hcell⟩⟩ := h
  · exact ⟨a0, c0, e0⟩
  · exact ⟨_, c0, e0⟩
theorem fa_net {W : World} {f : Fm} {v : FmV} (hf : FmAt W f v) : Calls Try.prog 23 #[f.val v] W (NetPost f W) := by
  obtain ⟨pp, pc, e1⟩ := hf.ps.formE
  obtain ⟨cp, cc, e2⟩ := hf.cs.slice
  obtain ⟨ap, ac, e3⟩ := hf.rr.slice
  obtain ⟨bp, bc, e4⟩ := hf.rg.slice
  obtain ⟨dp, dc, e5⟩ := hf.cr.slice
  obtain ⟨ep, ec, e6⟩ := hf.cg.slice
  obtain ⟨v1, v2, v3, v4, v5, v6⟩ := v
  obtain ⟨r, k, ps, cs, rr, rg, cr, cg, ⟨⟨a0, a1, a2⟩, ⟨b0, b1, b2⟩, ⟨c0, c1, c2⟩, ⟨d0, d1, d2⟩⟩⟩ := f
  dsimp only at e1 e2 e3 e4 e5 e6
  subst e1 e2 e3 e4 e5 e6
  exact netOf_at r k ps cs rr rg cr cg a0 a1 a2 b0 b1 b2 c0 c1 c2 d0 d1 d2 pp cp ap bp dp ep _ pc _ cc _ ac _ bc _ dc _ ec W hf
theorem fa_row {W : World} {f : Fm} {v : FmV} (hf : FmAt W f v) (hl : (f.rr ++ f.rg).length ≤ 400) : Calls Try.prog 31 #[f.val v] W fun e X => ∃ u, e = .returned u ∧ RowsK Sr.cells 20 X u (rwSt f) ∧ Below W.heap.size W X := by
  obtain ⟨ap, ac, e3⟩ := hf.rr.slice
  obtain ⟨bp, bc, e4⟩ := hf.rg.slice
  rw [List.length_append] at hl
  exact rowStr_any (f.cells v).toArray ap bp _ ac _ bc f.rr f.rg W (by rw [← e3]; rfl) (by rw [← e4]; rfl) (by rw [← e3]; exact hf.rr) (by rw [← e4]; exact hf.rg) (by omega) (by omega)
theorem fa_col {W : World} {f : Fm} {v : FmV} (hf : FmAt W f v) (hl : (f.cr ++ f.cg).length ≤ 400) : Calls Try.prog 32 #[f.val v] W fun e X => ∃ u, e = .returned u ∧ RowsK Sr.cells 20 X u (clSt f) ∧ Below W.heap.size W X := by
  obtain ⟨ap, ac, e3⟩ := hf.cr.slice
  obtain ⟨bp, bc, e4⟩ := hf.cg.slice
  rw [List.length_append] at hl
  exact colStr_any (f.cells v).toArray ap bp _ ac _ bc f.cr f.cg W (by rw [← e3]; rfl) (by rw [← e4]; rfl) (by rw [← e3]; exact hf.cr) (by rw [← e4]; exact hf.cg) (by omega) (by omega)
theorem fa_cell {W : World} {f : Fm} {v : FmV} (hf : FmAt W f v) (hlen : f.cs.length = f.ps.length) (o : Int) (k : Nat) (ho : OwN f.ps.length o) (hk : k < 4) : Calls Try.prog 58 #[f.val v, .int .i64 o, .int .i64 (k : Int)] W fun e X => e = .returned (cellP f.ps f.cs o k).val ∧ Below W.heap.size W X := by
  obtain ⟨pp, pc, e1⟩ := hf.ps.formE
  obtain ⟨cp, cc, e2⟩ := hf.cs.slice
  obtain ⟨v1, v2, v3, v4, v5, v6⟩ := v
  obtain ⟨r, kk, ps, cs, rr, rg, cr, cg, ⟨⟨a0, a1, a2⟩, ⟨b0, b1, b2⟩, ⟨c0, c1, c2⟩, ⟨d0, d1, d2⟩⟩⟩ := f
  have h1 := hf.ps
  have h2 := hf.cs
  dsimp only at e1 e2 h1 h2 hlen ho
  subst e1 e2
  rcases ho with rfl | ⟨i, hi, rfl⟩
  · exact cell_none r kk pp cp _ pc _ cc _ _ _ _ _ _ _ _ _ _ _ _ _ _ _ _ ps cs (-1) k W (by omega)
  · exact cell_at r kk pp cp _ pc _ cc _ _ _ _ _ _ _ _ _ _ _ _ _ _ _ _ ps cs i k hk W h1 h2 hi (by omega) rfl rfl
end Go.Proofs.Ytceippgkmoijdaa

namespace Go.Proofs.Ytceippgkmoijdaa
open Go.RowKit Go.Shelf Go.Sort Go.Maps
set_option linter.unusedVariables false
set_option linter.unusedSimpArgs false

theorem parN_le (l : Bool) {rn kn n : Nat} (h : rn ≤ n) (k : kn ≤ n) : parN l rn kn ≤ n := by cases l <;> simpa [parN]
theorem aloN_le (l : Bool) {rn kn n : Nat} (h : rn ≤ n) (k : kn ≤ n) : aloN l rn kn ≤ n := by cases l <;> simpa [aloN]
theorem all_good {f : Fm} {rn kn : Nat} (l : Bool) (h : okF f) (hh : HueF f rn kn) (k : Nat) (hk : k < 4) : ∀ s ∈ parS l f ++ (aloS l f ++ [wholeP (aloN l rn kn) f.tb]), rightS (s.sd k) = true ∧ (s.sd k).hue := fun s hs => by
  rcases List.mem_append.1 hs with hs | hs
  · exact ⟨(parS_good l h hh s hs).rt k hk, (parS_good l h hh s hs).hu k hk⟩
  · rcases List.mem_append.1 hs with hs | hs
    · exact ⟨(aloS_good l h hh s hs).rt k hk, (aloS_good l h hh s hs).hu k hk⟩
    · obtain rfl := List.mem_singleton.1 hs
      exact whole_right h hh _ k hk
theorem req_crs (l : Bool) (f : Fm) (rn kn g : Nat) (pp ap : Option Addr) (m pc m2 ac : Nat) (W : World) (hok : okF f) (hh : HueF f rn kn) (hp : RowsK Sr.cells 20 W (.slice pp m pc) (parS l f)) (ha : RowsK Sr.cells 20 W (.slice ap m2 ac) (aloS l f)) :
    Calls Try.prog 37 #[.agg (crs l rn kn g).toArray, .slice pp m pc, .slice ap m2 ac, f.tb.val] W fun e X => ∃ q1 q2 q3 c1 c2 c3, e = .returned (.agg #[.slice q1 (parN l rn kn + 1) c1, .slice q2 (aloN l rn kn) c2, .slice q3 (aloN l rn kn) c3]) ∧ RowsK Cl.cells 7 X (.slice q1 (parN l rn kn + 1) c1) (seamP (forN l) (reaN l) (parS l f) (parN l rn kn + 1)) ∧ RowsK Cl.cells 7 X (.slice q2 (aloN l rn kn) c2) (covP (forN l) (aloS l f ++ [wholeP (aloN l rn kn) f.tb]) (aloN l rn kn)) ∧ RowsK Cl.cells 7 X (.slice q3 (aloN l rn kn) c3) (covP (reaN l) (aloS l f ++ [wholeP (aloN l rn kn) f.tb]) (aloN l rn kn)) ∧ Below W.heap.size W X := by
  have e : (crs l rn kn g).toArray = #[.bool l, .int .i64 (parN l rn kn : Int), .int .i64 (aloN l rn kn : Int), .int .i64 (forN l : Int), .int .i64 (reaN l : Int), .func (.func (turnF l)) #[] #[], .func (.func (whoF l)) #[] #[.pointer (some ⟨g, 0, none⟩)]] := by cases l <;> rfl
  rw [e]
  have h1 := parS_len l hh
  have h2 := aloS_len l hh
  exact req_any l (parN l rn kn) (aloN l rn kn) (forN l) (reaN l) _ _ pp ap m pc m2 ac (parS l f) (aloS l f) f.tb W hp ha (Nat.le_trans (parN_le l hh.rl hh.kl) (by omega)) (Nat.le_trans (aloN_le l hh.rl hh.kl) (by omega)) (by rw [← hp.len]; exact h1) (by rw [← ha.len]; exact h2) (nk4 l).2 (nk4 l).1
    (fun s hs => ⟨(parS_good l hok hh s hs).lo, (parS_good l hok hh s hs).lt, (parS_good l hok hh s hs).hi⟩) (fun s hs => ⟨(aloS_good l hok hh s hs).lo, Int.le_of_lt (aloS_good l hok hh s hs).lt, (aloS_good l hok hh s hs).hi⟩)
    (fun k hk s hs => (all_good l hok hh k hk s hs).1) (fun k hk s hs => (all_good l hok hh k hk s hs).2)
theorem okc_le {M : Int} {c : Cl} (h : OkC M c) (hM : M ≤ 1000000000000000000) : OkC 1000000000000000000 c := ⟨⟨h.1.1, Int.le_trans h.1.2 hM⟩, h.2⟩
theorem clOf_ok {L : List Si} (h : ∀ x ∈ L, rightS x = true ∧ x.hue) (hl : L.length ≤ 1000000) : OkC 1000000000000000000 (clOf L) := okc_le (clOf_okc (fun x hx => (h x hx).1) (fun x hx => (h x hx).2)) (by omega)
theorem won_crs (l : Bool) (f : Fm) (rn kn gb : Nat) (po : Option Addr) (co B : Nat) (fa : Array Value) (q1 q2 q3 : Option Addr) (c1 c2 c3 : Nat) (W : World) (hok : okF f) (hh : HueF f rn kn) (hN : NK f.ps rn kn gb po co B W) (hfs : fa.size = 20)
    (HF : ∀ X, Below W.heap.size W X → ∀ o (k : Nat), OwN f.ps.length o → k < 4 → Calls Try.prog 58 #[.agg fa, .int .i64 o, .int .i64 (k : Int)] X fun e X' => e = .returned (cellP f.ps f.cs o k).val ∧ Below X.heap.size X X')
    (H1 : RowsK Cl.cells 7 W (.slice q1 (parN l rn kn + 1) c1) (seamP (forN l) (reaN l) (parS l f) (parN l rn kn + 1))) (H2 : RowsK Cl.cells 7 W (.slice q2 (aloN l rn kn) c2) (covP (forN l) (aloS l f ++ [wholeP (aloN l rn kn) f.tb]) (aloN l rn kn))) (H3 : RowsK Cl.cells 7 W (.slice q3 (aloN l rn kn) c3) (covP (reaN l) (aloS l f ++ [wholeP (aloN l rn kn) f.tb]) (aloN l rn kn))) :
    Calls Try.prog 36 #[.agg (crs l rn kn gb).toArray, .agg fa, .agg #[.slice q1 (parN l rn kn + 1) c1, .slice q2 (aloN l rn kn) c2, .slice q3 (aloN l rn kn) c3]] W fun e X => ∃ v, e = .returned v ∧ RowsK Ed.cells 10 X v (courseE l f rn kn) ∧ Below W.heap.size W X := by
  have hrl := hh.rl
  have hkl := hh.kl
  have hmul : (rn + 1) * (kn + 1) ≤ 101 * 101 := Nat.mul_le_mul (by omega) (by omega)
  have hat := fun s b hs hb => at_cl l hok hh s b hs hb
  rw [← won_course l hok hh _ hat]
  refine won_any l f.ps rn kn gb po co B fa _ (cellP f.ps f.cs) _ W hN (by omega) (by omega) (by omega) hfs rfl HF (fun X hX i j hi hj => ?_) (fun o k ho hk => ?_) (fun i j hi hj => ?_)
  · have hp := parN_le l hrl hkl
    refine at_any q1 q2 q3 _ _ _ c1 c2 c3 _ _ _ i j X (H1.below hX) (H2.below hX) (H3.below hX) hi hj hj (by omega) 1000000 (by omega) (fun c hc => ?_)
    simp only [List.mem_append] at hc
    have okk : ∀ L : List Si, (∀ x ∈ L, rightS x = true ∧ x.hue) → L.length ≤ 1000000 → OkC 1000000 (clOf L) := fun L h hl => by
      have := clOf_okc (L := L) (fun x hx => (h x hx).1) (fun x hx => (h x hx).2)
      exact ⟨⟨this.1.1, by have := this.1.2; omega⟩, this.2⟩
    rcases hc with (hc | hc) | hc
    · obtain ⟨s, _, rfl⟩ := List.mem_map.1 hc
      have := seamL_good l hok hh s
      exact okk _ this.1 (by omega)
    · obtain ⟨b, _, rfl⟩ := List.mem_map.1 hc
      have := hasL_good l hok hh b (nk4 l).2
      exact okk _ this.1 (by omega)
    · obtain ⟨b, _, rfl⟩ := List.mem_map.1 hc
      have := hasL_good l hok hh b (nk4 l).1
      exact okk _ this.1 (by omega)
  · rw [cellP_cl hok hh ho hk]
    refine clOf_ok (cellL_right hok hh ho hk) ?_
    unfold cellL
    split <;> simp
  · rw [hat i j hi hj]
    have := besL_good l hok hh i j
    exact clOf_ok this.1 (by omega)
end Go.Proofs.Ytceippgkmoijdaa
