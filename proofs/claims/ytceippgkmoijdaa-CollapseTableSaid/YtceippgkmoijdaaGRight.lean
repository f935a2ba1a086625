/- Contract of grid.within: whether some numbers lie between two. Written by program (mk_GWithin.py) out of the text on tree.within: the code is the same. -/
/- The places of cells, as a plain function. -/
/- Contract of grid.Right: whether rows of cells, with their ends, are right. -/
import Derived.Test.YtceippgkmoijdaaCBase
import Derived.Test.YtceippgkmoijdaaGSlotI
import Derived.Test.YtceippgkmoijdaaGPlain
namespace Go.Proofs.Ytceippgkmoijdaa
open Go.RowKit Go.Shelf
set_option linter.unusedVariables false

set_option maxHeartbeats 400000 in
theorem gout_any_k (n lo hi : Int) (a1 a2 : Addr) (w : World) (h1 : w.cell? a1 = some (.int .i64 lo)) (h2 : w.cell? a2 = some (.int .i64 hi)) :
    Calls Try.prog 103 #[.int .i64 n, .pointer (some a1), .pointer (some a2)] w fun e w' => e = .returned (.bool (outB lo hi n)) ∧ w = w' := by
  by_cases hl : n < lo
  · have hb := Lib.hid (outB_lo (hi := hi) hl)
    go_enter Try.func103, Try.ntmps103
    go_wp2
    go_ret
    exact ⟨by rw [hb.out]; first | rfl | (simp; done) | (simp; omega), rfl⟩
  · by_cases hh : hi < n
    · have hb := Lib.hid (outB_hi (lo := lo) hh)
      go_enter Try.func103, Try.ntmps103
      go_wp2
      go_ret
      exact ⟨by rw [hb.out]; first | rfl | (simp; done) | (simp; omega), rfl⟩
    · have hb := Lib.hid (outB_in (lo := lo) (hi := hi) (n := n) (by omega) (by omega))
      go_enter Try.func103, Try.ntmps103
      go_wp2
      go_ret
      exact ⟨by rw [hb.out]; first | rfl | (simp; done) | (simp; omega), rfl⟩
set_option maxHeartbeats 400000 in
theorem gidx_ints_k (b off cap : Nat) (zs : List Int) (lo hi : Int) (a1 a2 : Addr) (w : World) (hm : zs.length ≤ 9223372036854775807) (h1 : w.cell? a1 = some (.int .i64 lo)) (h2 : w.cell? a2 = some (.int .i64 hi))
    (hc : ∀ j, j < zs.length → w.cell? ⟨b, off + j, none⟩ = some (.int .i64 (zs[j]?.getD 0))) :
    Calls Try.prog 102 #[.slice (some ⟨b, off, none⟩) zs.length cap, .func (.func 103) #[] #[.pointer (some a1), .pointer (some a2)]] w (IdxPost (zs.any (outB lo hi)) w) := by
  have eg : ∀ args w, (callFunc 103 args).run Try.prog w = .ok (.enter 103 args) w := enters_of Try.func103 (by kernel_rfl) rfl
  have hout := fun n X => gout_any_k n lo hi a1 a2 X
  go_enter Try.func102, Try.ntmps102
  go_wp2
  go_loopg [5, 8] zs.length (fun gg _ s8 wr => ∃ kk : Nat, kk ≤ zs.length ∧ zs.length - kk ≤ gg ∧ s8 = .int .i64 kk ∧ w = wr ∧ Hid ((zs.take kk).any (outB lo hi) = false))
  case atStart => exact ⟨0, Nat.zero_le _, by omega, rfl, rfl, by simp [Lib.hid]⟩
  case round =>
    obtain ⟨kk, hkk, hg, rfl, rfl, A⟩ := hrel
    by_cases hlt : kk < zs.length
    · have hcell := hc kk hlt
      have hx : zs[kk]? = some (zs[kk]?.getD 0) := by simp [hlt]
      obtain ⟨y, hy⟩ : ∃ y, zs[kk]?.getD 0 = y := ⟨_, rfl⟩
      rw [hy] at hcell hx
      have HX := Lib.hid hx
      have HC := Lib.hid (hout y w h1 h2)
      clear hy hc hx hout
      cases hq : outB lo hi y with
      | true =>
        have R := Lib.hid (any_take_hit _ zs kk y hlt HX.out hq)
        have HC' := Lib.hid (hq ▸ HC.out)
        clear HC hq
        go_wp2_with (go_at_fn 103; refine HC'.out.mono ?_; rintro e w' ⟨rfl, rfl⟩)
        go_ret
        exact ⟨(kk : Int), rfl, by rw [R.out]; simp, rfl⟩
      | false =>
        have R := Lib.hid (any_take_step _ zs kk y hlt HX.out hq A.out)
        have HC' := Lib.hid (hq ▸ HC.out)
        clear HC hq
        go_wp2_with (go_at_fn 103; refine HC'.out.mono ?_; rintro e w' ⟨rfl, rfl⟩)
        go_roundg (zs.length - (kk + 1))
        case measure => omega
        case rel => exact ⟨kk + 1, by omega, by omega, by go_num, rfl, R⟩
    · have R := Lib.hid (show zs.any (outB lo hi) = false by have := A.out; rwa [List.take_of_length_le (by omega)] at this)
      go_wp2
      go_ret
      exact ⟨-1, rfl, by rw [R.out]; rfl, rfl⟩
set_option maxHeartbeats 400000 in
theorem gcontains_ints_k (sv : Value) (zs : List Int) (lo hi : Int) (a1 a2 : Addr) (w : World) (hI : Ints w sv zs) (h1 : w.cell? a1 = some (.int .i64 lo)) (h2 : w.cell? a2 = some (.int .i64 hi)) :
    Calls Try.prog 91 #[sv, .func (.func 103) #[] #[.pointer (some a1), .pointer (some a2)]] w fun e w' => e = .returned (.bool (zs.any (outB lo hi))) ∧ w = w' := by
  have hcall : Calls Try.prog 102 #[sv, .func (.func 103) #[] #[.pointer (some a1), .pointer (some a2)]] w (IdxPost (zs.any (outB lo hi)) w) := by
    obtain ⟨hm, ⟨a, cap, rfl, rfl⟩ | ⟨b, off, cap, rfl, hc⟩⟩ := hI
    · exact idx_ints_none_k _ _ _ _
    · exact gidx_ints_k b off cap zs lo hi a1 a2 w hm h1 h2 hc
  have HC := Lib.hid hcall
  clear hcall h1 h2 hI
  go_enter Try.func91, Try.ntmps91
  go_wp2_with fail
  refine HC.out.mono ?_
  rintro e w' ⟨i, rfl, hi, rfl⟩
  have HI := Lib.hid hi
  clear hi
  go_wp2
  go_ret
  exact ⟨by rw [← HI.out]; first | rfl | (simp; done), rfl⟩
set_option maxHeartbeats 400000 in
theorem gwithin_any_k (lo hi : Int) (sv : Value) (zs : List Int) (w : World) (hI : Ints w sv zs) :
    Calls Try.prog 93 #[.int .i64 lo, .int .i64 hi, sv] w fun e w' => e = .returned (.bool (!zs.any (outB lo hi))) ∧ Below w.heap.size w w' := by
  have hI' : Hid (Ints ((w.alloc (.cells #[.int .i64 lo] 3)).alloc (.cells #[.int .i64 hi] 3)) sv zs) := by
    have := hI.below (((Below.refl w.heap.size w).alloc (Nat.le_refl _) (.cells #[.int .i64 lo] 3)).alloc (by simp) (.cells #[.int .i64 hi] 3))
    exact Lib.hid this
  clear hI
  go_enter Try.func93, Try.ntmps93
  go_wp2_with fail
  refine (gcontains_ints_k sv zs lo hi _ _ _ hI'.out ?_ ?_).mono ?_
  · simp
  · simp
  rintro e w' ⟨rfl, rfl⟩
  go_wp2
  go_ret
  exact ⟨rfl, ((Below.refl _ _).alloc (Nat.le_refl _) _).alloc (by simp) _⟩
end Go.Proofs.Ytceippgkmoijdaa

namespace Go.Proofs.Ytceippgkmoijdaa
set_option linter.unusedVariables false

/-- where one is while cells are placed -/
structure LS where
  t : List Nat
  ps : List Pl
  last : Pl
def LS.zero : LS := ⟨[], [], ⟨0, 0, 0, 0, 0⟩⟩
def fromP (s : LS) (row : Nat) : Nat := if row = s.last.r then s.last.c + s.last.w else 0
def endP (ends : List Int) (row : Nat) : Nat := (ends[row]?.getD 0).toNat
def placeP (ends : List Int) (s : LS) (x : Nat × Sp) : Pl :=
  ⟨x.2.n, x.1, firstF s.t x.1 (fromP s x.1), highF x.2.r (endP ends x.1 - x.1), wideF s.t x.1 (firstF s.t x.1 (fromP s x.1)) x.2.c.toNat⟩
def stepP (ends : List Int) (s : LS) (x : Nat × Sp) : LS :=
  ⟨takeN s.t (placeP ends s x).c (x.1 + (placeP ends s x).h) (placeP ends s x).w, s.ps ++ [placeP ends s x], placeP ends s x⟩
def runP (ends : List Int) : List (Nat × Sp) → LS → Option LS
  | [], s => some s
  | x :: l, s => if 10000 < (stepP ends s x).t.length then none else runP ends l (stepP ends s x)
theorem runP_append (ends : List Int) : ∀ (l k : List (Nat × Sp)) (s : LS), runP ends (l ++ k) s = (runP ends l s).bind (runP ends k)
  | [], k, s => rfl
  | x :: l, k, s => by
    simp only [List.cons_append, runP]
    split
    · rfl
    · exact runP_append ends l k _
theorem runP_snoc (ends : List Int) (l : List (Nat × Sp)) (x : Nat × Sp) (s s' : LS) (h : runP ends l s = some s') : runP ends (l ++ [x]) s = if 10000 < (stepP ends s' x).t.length then none else some (stepP ends s' x) := by
  rw [runP_append, h]
  simp only [Option.bind_some, runP]
theorem runP_more (ends : List Int) (l k : List (Nat × Sp)) (s : LS) (h : runP ends l s = none) : runP ends (l ++ k) s = none := by
  rw [runP_append, h]; rfl
/-- what holds at every step -/
structure Okay (s : LS) : Prop where
  few : s.t.length ≤ 10000
  last : s.last.c + s.last.w ≤ s.t.length
theorem Okay.zero : Okay LS.zero := ⟨Nat.zero_le _, Nat.le_refl _⟩
theorem Okay.from (s : LS) (h : Okay s) (row : Nat) : fromP s row ≤ s.t.length := by
  unfold fromP; split
  · exact h.last
  · omega
theorem place_col {ends : List Int} {s : LS} (h : Okay s) (x : Nat × Sp) : (placeP ends s x).c ≤ s.t.length := firstF_le _ _ _ (h.from s _)
theorem Okay.step {ends : List Int} {s : LS} (h : Okay s) (x : Nat × Sp) (hl : ¬ 10000 < (stepP ends s x).t.length) : Okay (stepP ends s x) := by
  refine ⟨by omega, ?_⟩
  have := takeN_len s.t (placeP ends s x).c (x.1 + (placeP ends s x).h) (place_col h x) (placeP ends s x).w
  show (placeP ends s x).c + (placeP ends s x).w ≤ (takeN s.t (placeP ends s x).c (x.1 + (placeP ends s x).h) (placeP ends s x).w).length
  omega
theorem runP_okay (ends : List Int) : ∀ (l : List (Nat × Sp)) (s s' : LS), Okay s → runP ends l s = some s' → Okay s' ∧ s'.ps.length = s.ps.length + l.length
  | [], s, s', h, hr => by cases hr; exact ⟨h, rfl⟩
  | x :: l, s, s', h, hr => by
    simp only [runP] at hr
    split at hr
    · cases hr
    · rename_i hl
      obtain ⟨h1, h2⟩ := runP_okay ends l _ s' (h.step x hl) hr
      refine ⟨h1, ?_⟩
      rw [h2]
      show (s.ps ++ [placeP ends s x]).length + l.length = s.ps.length + (l.length + 1)
      simp; omega
def layP (rows : List (List Sp)) (ends : List Int) : Option LS := runP ends (cellsF 0 rows) LS.zero
/-- each cell comes with a row that there is -/
theorem cellsF_row : ∀ (k : Nat) (rows : List (List Sp)) (x : Nat × Sp), x ∈ cellsF k rows → k ≤ x.1 ∧ x.1 < k + rows.length
  | _, [], x, h => by simp [cellsF] at h
  | k, row :: r, x, h => by
    simp only [cellsF, List.mem_append, List.mem_map] at h
    rcases h with ⟨y, _, rfl⟩ | h
    · simp
    · have := cellsF_row (k + 1) r x h
      simp; omega
end Go.Proofs.Ytceippgkmoijdaa

namespace Go.Proofs.Ytceippgkmoijdaa
open Go.RowKit Go.Shelf
set_option linter.unusedVariables false
attribute [local go_sem] Oper.semAt_some

def okC (x : Sp) : Bool := (!([x.c].any (outB 1 1000))) && (!([x.r].any (outB 0 1000)))
def okE (m t : Nat) (e : Int) : Bool := !([e].any (outB ((t : Int) + 1) m))
/-- rows of cells and their ends are right -/
structure RightQ (rows : List (List Sp)) (ends : List Int) : Prop where
  many : rows.length ≤ 65536
  len : ends.length = rows.length
  ends : ∀ i e, ends[i]? = some e → okE rows.length i e = true
  cells : ∀ x ∈ cellsF 0 rows, okC x.2 = true
theorem kept_below {W W' : World} (h : Below W.heap.size W W') : KeepsOthers W W' := ⟨h.size, fun k o hk ho' => (h.block k (Array.getElem?_eq_some_iff.1 hk).1).trans hk⟩
theorem results_cell_bool4 {W : World} {g : Nat} {b : Bool} {tmps : Array Value} {fn : Func} (hf : fn.results = #[.cell 4 4]) (ht : tmps[4]? = some (.pointer (some ⟨g, 0, none⟩))) (h : Whole W g 4 [.bool b]) :
    (results fn tmps).run Try.prog W = .ok (.bool b) W := by
  have c0 := h.cellAt 0
  simp [results, hf, go_sem, ht, c0]
def RIg (g : Nat) (B : Nat) (w : World) (pre : List (Nat × Sp)) (W : World) : Prop := Whole W g 4 [.bool false] ∧ (∀ x ∈ pre, okC x.2 = true) ∧ Below B w W
def RX (bad : Prop) (g : Nat) (B : Nat) (w : World) (c : Code) (pre : List (Nat × Sp)) (W : World) : Prop := c = .ret ∧ bad ∧ Whole W g 4 [.bool false] ∧ Below B w W
theorem RIg.own (g B : Nat) (w : World) (K : Nat) (h1 : B ≤ w.heap.size) (h2 : B ≤ K) : OwnFrom K (RIg g B w) := fun pre X Y row ⟨ha, hp, hb⟩ hg hr =>
  ⟨ha.grown hg (ha.ne fun r e => (hr r e).2), hp, (ownFrom_below (β := Unit) h1 h2) () X Y row hb hg hr⟩
theorem RX.own (bad : Prop) (g B : Nat) (w : World) (K : Nat) (h1 : B ≤ w.heap.size) (h2 : B ≤ K) (c : Code) : OwnFrom K (RX bad g B w c) := fun pre X Y row ⟨hc, hz, hw, hb⟩ hg hr =>
  ⟨hc, hz, hw.grown hg (hw.ne fun r e => (hr r e).2), (ownFrom_below (β := Unit) h1 h2) () X Y row hb hg hr⟩
theorem okC_of (x : Sp) (d1 d2 : Bool) (h1 : (!([x.c].any (outB 1 1000))) = d1) (h2 : (!([x.r].any (outB 0 1000))) = d2) : okC x = (d1 && d2) := by unfold okC; rw [h1, h2]
end Go.Proofs.Ytceippgkmoijdaa
