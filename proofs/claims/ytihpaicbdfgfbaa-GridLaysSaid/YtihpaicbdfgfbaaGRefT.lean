/- Which slots are taken: the document's own question (taken, in), against the list of columns. -/
import Derived.Test.YtihpaicbdfgfbaaGRefR
namespace Go.Proofs.Ytihpaicbdfgfbaa
open Go.RowKit Go.Shelf
set_option linter.unusedVariables false
attribute [local go_sem] Oper.semAt_some

def inB (p : Pl) (r c : Nat) : Bool := decide (p.r ≤ r) && decide (r < p.r + p.h) && decide (p.c ≤ c) && decide (c < p.c + p.w)
def takenB (ps : List Pl) (r c : Nat) : Bool := ps.any fun p => inB p r c
/-- what is small enough to be added -/
def Few (p : Pl) : Prop := p.r ≤ 200000 ∧ p.c ≤ 200000 ∧ p.h ≤ 200000 ∧ p.w ≤ 200000
theorem inB_iff (p : Pl) (r c : Nat) : inB p r c = true ↔ p.r ≤ r ∧ r < p.r + p.h ∧ p.c ≤ c ∧ c < p.c + p.w := by
  unfold inB; simp [and_assoc]
set_option maxHeartbeats 1000000 in
theorem refIn_any (p : Pl) (hp : Few p) (r c : Nat) (w : World) :
    Calls Try.prog 42 #[.agg #[.int .i64 p.n, .int .i64 (p.r : Int), .int .i64 (p.c : Int), .int .i64 (p.h : Int), .int .i64 (p.w : Int)], .int .i64 (r : Int), .int .i64 (c : Int)] w fun e W' => e = .returned (.bool (inB p r c)) ∧ Below w.heap.size w W' := by
  obtain ⟨pn, pr, pc, ph, pw⟩ := p
  obtain ⟨h1, h2, h3, h4⟩ := hp
  dsimp only at h1 h2 h3 h4 ⊢
  have HB : Hid (Below w.heap.size w (w.alloc (.cells #[.int .i64 pn, .int .i64 (pr : Int), .int .i64 (pc : Int), .int .i64 (ph : Int), .int .i64 (pw : Int)] 52))) := Lib.hid ((Below.refl _ w).alloc (Nat.le_refl _) _)
  have key : ∀ b : Bool, inB ⟨pn, pr, pc, ph, pw⟩ r c = b → Hid (inB ⟨pn, pr, pc, ph, pw⟩ r c = b) := fun _ h => Lib.hid h
  by_cases g1 : pr ≤ r
  · have d1 : decide ((r : Int) ≥ (pr : Int)) = true := by simp; omega
    by_cases g2 : r < pr + ph
    · have d2 : decide ((r : Int) < (pr : Int) + (ph : Int)) = true := by simp; omega
      by_cases g3 : pc ≤ c
      · have d3 : decide ((c : Int) ≥ (pc : Int)) = true := by simp; omega
        by_cases g4 : c < pc + pw
        · have d4 : decide ((c : Int) < (pc : Int) + (pw : Int)) = true := by simp; omega
          have K := key true ((inB_iff _ _ _).2 ⟨g1, g2, g3, g4⟩)
          clear key
          go_enter Try.func42, Try.ntmps42
          go_wp2
          go_ret
          exact ⟨by rw [K.out]; first | rfl | simp, HB.out⟩
        · have d4 : decide ((c : Int) < (pc : Int) + (pw : Int)) = false := by simp; omega
          have K := key false (by unfold inB; simp; omega)
          clear key
          go_enter Try.func42, Try.ntmps42
          go_wp2
          go_ret
          exact ⟨by rw [K.out]; first | rfl | simp, HB.out⟩
      · have d3 : decide ((c : Int) ≥ (pc : Int)) = false := by simp; omega
        have K := key false (by unfold inB; simp; omega)
        clear key
        go_enter Try.func42, Try.ntmps42
        go_wp2
        go_ret
        exact ⟨by rw [K.out]; first | rfl | simp, HB.out⟩
    · have d2 : decide ((r : Int) < (pr : Int) + (ph : Int)) = false := by simp; omega
      have K := key false (by unfold inB; simp; omega)
      clear key
      go_enter Try.func42, Try.ntmps42
      go_wp2
      go_ret
      exact ⟨by rw [K.out]; first | rfl | simp, HB.out⟩
  · have d1 : decide ((r : Int) ≥ (pr : Int)) = false := by simp; omega
    have K := key false (by unfold inB; simp; omega)
    clear key
    go_enter Try.func42, Try.ntmps42
    go_wp2
    go_ret
    exact ⟨by rw [K.out]; first | rfl | simp, HB.out⟩
theorem any_hit {α : Type} (p : α → Bool) (zs : List α) (k : Nat) (x : α) (hx : zs[k]? = some x) (hp : p x = true) : zs.any p = true := by
  rw [List.any_eq_true]; exact ⟨x, List.mem_iff_getElem?.2 ⟨k, hx⟩, hp⟩
theorem any_step {α : Type} (p : α → Bool) (zs : List α) (k : Nat) (x : α) (hx : zs[k]? = some x) (hp : p x = false) (ht : (zs.take k).any p = false) : (zs.take (k + 1)).any p = false := by
  rw [List.take_add_one, hx, List.any_append, ht]; simp [hp]
set_option maxHeartbeats 2000000 in
theorem refTaken_at (p : Option Addr) (l cp : Nat) (ps : List Pl) (r c : Nat) (w : World) (hl : ps.length = l) (hl2 : l ≤ 9223372036854775807) (hP : PsAt w (.slice p l cp) (ps.map Pl.z)) (hF : ∀ x ∈ ps, Few x) :
    Calls Try.prog 30 #[.slice p l cp, .int .i64 (r : Int), .int .i64 (c : Int)] w fun e W' => e = .returned (.bool (takenB ps r c)) ∧ Below w.heap.size w W' := by
  have HP := Lib.hid hP
  have HF := Lib.hid hF
  have HL := Lib.hid hl
  clear hP hF hl
  go_enter Try.func30, Try.ntmps30
  go_wp2
  go_loopw [7] (fun s7 X => ∃ k : Nat, k ≤ l ∧ s7 = .int .i64 (k : Int) ∧ Hid ((ps.take k).any (fun p => inB p r c) = false) ∧ Hid (Below w.heap.size w X)) (fun s7 _ => l - (intOf s7).toNat)
  case atStart => exact ⟨0, Nat.zero_le _, rfl, Lib.hid (by simp), Lib.hid (Below.refl _ _)⟩
  case round =>
    obtain ⟨k, hk, rfl, HA, HB⟩ := hrel
    by_cases hlt : k < l
    · obtain ⟨x, hx⟩ : ∃ x, ps[k]? = some x := ⟨_, List.getElem?_eq_getElem (by rw [HL.out]; exact hlt)⟩
      obtain ⟨b, off, rfl, lb, c0, c1, c2, c3, c4⟩ := HP.out.at k x.z (by rw [List.getElem?_map, hx]; rfl)
      have HX := Lib.hid hx
      have HFX := Lib.hid (HF.out x (List.mem_iff_getElem?.2 ⟨k, hx⟩))
      have e0 := (HB.out.cell (p := ⟨b, off + k * 5, none⟩) lb).trans c0
      have e1 := (HB.out.cell (p := ⟨b, off + k * 5 + 1, none⟩) lb).trans c1
      have e2 := (HB.out.cell (p := ⟨b, off + k * 5 + 2, none⟩) lb).trans c2
      have e3 := (HB.out.cell (p := ⟨b, off + k * 5 + 3, none⟩) lb).trans c3
      have e4 := (HB.out.cell (p := ⟨b, off + k * 5 + 4, none⟩) lb).trans c4
      dsimp only [Pl.z] at e0 e1 e2 e3 e4
      have lb2 : b < wr.heap.size := by have := HB.out.size; omega
      have hIN := refIn_any x HFX.out r c wr
      have hzw := HB.out.size
      clear hx c0 c1 c2 c3 c4
      cases hq : inB x r c with
      | true =>
        rw [hq] at hIN
        have HIN := Lib.hid hIN
        have R := Lib.hid (any_hit (fun p => inB p r c) ps k x HX.out hq)
        clear hq hIN HA
        go_wp2_with (go_at_call 42; refine HIN.out.mono ?_; clear HIN; rintro e w3 ⟨rfl, hb3⟩; have HB3 := Lib.hid (HB.out.trans (hb3.mono hzw)); clear hb3)
        go_ret
        exact ⟨by unfold takenB; rw [R.out]; rfl, HB3.out⟩
      | false =>
        rw [hq] at hIN
        have HIN := Lib.hid hIN
        have R := Lib.hid (any_step (fun p => inB p r c) ps k x HX.out hq HA.out)
        clear hq hIN HA
        go_wp2_with (go_at_call 42; refine HIN.out.mono ?_; clear HIN; rintro e w3 ⟨rfl, hb3⟩; have HB3 := Lib.hid (HB.out.trans (hb3.mono hzw)); clear hb3)
        go_roundw
        case rel => exact ⟨k + 1, by omega, by go_num, R, HB3⟩
        case measure => simp [intOf]; omega
    · have R := Lib.hid (show takenB ps r c = false by have := HA.out; rw [List.take_of_length_le (by rw [HL.out]; omega)] at this; exact this)
      clear HA
      go_wp2
      go_ret
      exact ⟨by rw [R.out]; rfl, HB.out⟩
/-- the places say what the list of columns says, from a row on -/
def Mirror (s : LS) (r : Nat) : Prop := ∀ r', r ≤ r' → ∀ c, takenB s.ps r' c = !freeB s.t r' c
theorem Mirror.zero (r : Nat) : Mirror LS.zero r := fun r' _ c => by unfold takenB freeB LS.zero; simp
theorem Mirror.mono {s : LS} {r r2 : Nat} (h : Mirror s r) (hr : r ≤ r2) : Mirror s r2 := fun r' h' c => h r' (by omega) c
theorem Mirror.step {ends : List Int} {s : LS} {i : Nat} {x : Sp} (h : Mirror s i) (hok : Okay s) (hh : 1 ≤ (placeP ends s (i, x)).h) : Mirror (stepP ends s (i, x)) i := by
  intro r' hr c
  have hc := place_col hok (ends := ends) (i, x)
  have hwf := (wideF_spec s.t i (firstF s.t i (fromP s i)) x.c.toNat).2.1
  have hfree : ∀ j, j < (placeP ends s (i, x)).w → freeB s.t i ((placeP ends s (i, x)).c + j) = true := fun j hj => hwf j hj
  show takenB (s.ps ++ [placeP ends s (i, x)]) r' c = !freeB (takeN s.t (placeP ends s (i, x)).c (i + (placeP ends s (i, x)).h) (placeP ends s (i, x)).w) r' c
  have hpr : (placeP ends s (i, x)).r = i := rfl
  generalize placeP ends s (i, x) = p at *
  have hold := h r' hr c
  unfold takenB at hold ⊢
  rw [List.any_append, hold]
  simp only [List.any_cons, List.any_nil, Bool.or_false]
  have hg := takeN_get s.t p.c (i + p.h) hc p.w c
  by_cases hin : p.c ≤ c ∧ c < p.c + p.w
  · rw [if_pos hin] at hg
    rw [freeB_at hg]
    have hf := hfree (c - p.c) (by omega)
    rw [show p.c + (c - p.c) = c by omega] at hf
    have hf2 : freeB s.t r' c = true := by
      unfold freeB at hf ⊢
      cases hq : s.t[c]? with
      | none => rfl
      | some z => rw [hq] at hf; simp at hf ⊢; omega
    rw [hf2]
    unfold inB
    by_cases hr2 : r' < i + p.h
    · simp [hpr, hr, hin, hr2]
    · simp [hpr, hr2]; omega
  · rw [if_neg hin] at hg
    have e : freeB (takeN s.t p.c (i + p.h) p.w) r' c = freeB s.t r' c := by unfold freeB; rw [hg]
    rw [e]
    have : inB p r' c = false := by
      cases hq : inB p r' c with
      | false => rfl
      | true => have := (inB_iff _ _ _).1 hq; omega
    rw [this, Bool.or_false]
end Go.Proofs.Ytihpaicbdfgfbaa
