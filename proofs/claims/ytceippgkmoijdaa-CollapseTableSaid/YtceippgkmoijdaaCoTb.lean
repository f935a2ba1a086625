/- A table's border alone, in plain data: what is drawn at its edges. -/
import Derived.Test.YtceippgkmoijdaaCoOpn
namespace Go.Proofs.Ytceippgkmoijdaa
open Go.RowKit Go.Shelf Go.Sort Go.Maps
set_option linter.unusedVariables false
set_option linter.unusedSimpArgs false

theorem whoL_none (l : Bool) (rn kn : Nat) (i j : Int) : whoL l [] rn kn i j = -1 := by
  have h : ∀ i j, whoP [] rn kn i j = -1 := fun i j => by
    unfold whoP
    split <;> rfl
  unfold whoL
  split <;> exact h _ _
/-- the table's line at a side, as what is drawn -/
def tbS (t : Fr) (k : Nat) : Si := ⟨(t.at k).st, (t.at k).wd, (t.at k).co, 5, 0, 0⟩
theorem wholeP_sd (n : Nat) (t : Fr) (k : Nat) : (wholeP n t).sd k = tbS t k := rfl
theorem hasL_whole (n : Nat) (t : Fr) (b : Nat) (hb : b < n) : hasL [wholeP n t] b = [wholeP n t] := by
  unfold hasL wholeP
  simp [hb]
/-- a framing without places and runs -/
def tabF (n m : Int) (t : Fr) : Fm := ⟨n, m, [], [], [], [], [], [], t⟩
theorem tab_par (l : Bool) (n m : Int) (t : Fr) : parS l (tabF n m t) = [] := by cases l <;> rfl
theorem tab_alo (l : Bool) (n m : Int) (t : Fr) : aloS l (tabF n m t) = [] := by cases l <;> rfl
theorem tab_req (l : Bool) (n m : Nat) (t : Fr) (s b : Nat) (hb : b < aloN l n m) : reqL l (tabF n m t) n m ((s : Int), (b : Int)) = (if s = 0 then [tbS t (forN l)] else []) ++ (if s = parN l n m then [tbS t (reaN l)] else []) := by
  unfold reqL besL
  rw [show (tabF n m t).ps = [] from rfl, show (tabF n m t).cs = [] from rfl, show (tabF n m t).tb = t from rfl, whoL_none, whoL_none, tab_par, tab_alo]
  simp only [List.nil_append, Int.toNat_natCast, hasL_whole _ t b hb, List.map_cons, List.map_nil, wholeP_sd]
  have e1 : ∀ k, cellL [] [] (-1) k = [] := fun k => rfl
  have e2 : ∀ a c, seamL a c [] s = [] := fun a c => rfl
  rw [e1, e1, e2, List.nil_append, List.nil_append, List.nil_append]
  have : (s + 1 = parN l n m + 1) = (s = parN l n m) := by simp
  simp only [this]
theorem win_one {s : Si} (h : rightS s = true) : (winR [s]).1 = s := by
  rw [winR_cons s [] (by simpa using h)]; rfl
/-- what is drawn at an edge of a table without anything else -/
def wantS (n m : Int) (t : Fr) (e : Ed) : Si :=
  if e.lies = true ∧ e.row = 0 then tbS t 0 else if e.lies = true ∧ e.row = n then tbS t 2 else if e.lies = false ∧ e.col = 0 then tbS t 3 else if e.lies = false ∧ e.col = m then tbS t 1 else Si.zero
theorem tab_edges (n m : Nat) (hn : 1 ≤ n) (hm : 1 ≤ m) (t : Fr) (ht : frB t = true) : ∀ e ∈ edgesP (tabF n m t) n m, e.won = wantS n m t e := fun e he => by
  have key : ∀ l, e ∈ courseE l (tabF n m t) n m → e.won = wantS n m t e := fun l hl => by
    obtain ⟨x, hx, rfl⟩ := List.mem_map.1 hl
    obtain ⟨s, b, rfl, hs, hb⟩ := edT_at hx
    have hr : ∀ k, k < 4 → rightS (tbS t k) = true := fun k hk => side_right (Fr.at_right ht hk) ⟨by omega, by omega⟩ ⟨by omega, by omega⟩ ⟨by omega, by omega⟩
    have hp : 1 ≤ parN l n m := by cases l <;> simp [parN] <;> omega
    have hk := nk4 l
    show (winR (reqL l (tabF n m t) n m ((s : Int), (b : Int)))).1 = _
    rw [tab_req l n m t s b hb]
    unfold wantS edgeP
    by_cases h0 : s = 0
    · subst h0
      rw [if_pos rfl, if_neg (by omega), List.append_nil, win_one (hr _ hk.2)]
      cases l
      · rw [if_neg (by simp), if_neg (by simp), if_pos (by simp [turnP])]; rfl
      · rw [if_pos (by simp [turnP])]; rfl
    · rw [if_neg h0, List.nil_append]
      by_cases h1 : s = parN l n m
      · rw [if_pos h1, win_one (hr _ hk.1)]
        cases l
        · have : s = m := h1
          subst this
          rw [if_neg (by simp), if_neg (by simp), if_neg (by simp [turnP]; omega), if_pos (by simp [turnP])]; rfl
        · have : s = n := h1
          subst this
          rw [if_neg (by simp [turnP]; omega), if_pos (by simp [turnP])]; rfl
      · rw [if_neg h1]
        cases l
        · have : s ≠ m := h1
          rw [if_neg (by simp), if_neg (by simp), if_neg (by simp [turnP]; omega), if_neg (by simp [turnP]; omega)]; rfl
        · have : s ≠ n := h1
          rw [if_neg (by simp [turnP]; omega), if_neg (by simp [turnP]; omega), if_neg (by simp), if_neg (by simp)]; rfl
  rcases List.mem_append.1 he with he | he
  · exact key true he
  · exact key false he
theorem tab_ok (n m : Nat) (hn : n ≤ 8) (hm : m ≤ 8) (t : Fr) (ht : frB t = true) : okF (tabF n m t) := by
  have h3 : (n : Int) * (m : Int) ≤ 64 ∧ 0 ≤ (n : Int) * (m : Int) := by
    have h1 : n * m ≤ 8 * 8 := Nat.mul_le_mul hn hm
    have h2 : ((n * m : Nat) : Int) = (n : Int) * (m : Int) := Int.natCast_mul n m
    constructor <;> omega
  refine ⟨?_, rfl, by rfl, by rfl, by rfl, ht, ⟨⟨by show (0 : Int) ≤ (n : Int); omega, by show (n : Int) ≤ 65536; omega⟩, ⟨by show (0 : Int) ≤ (m : Int); omega, by show (m : Int) ≤ 10000; omega⟩, ?_⟩, ?_⟩
  · show ¬ 10000 < IntKind.i64.wrap ((n : Int) * (m : Int))
    rw [show IntKind.i64.wrap ((n : Int) * (m : Int)) = (n : Int) * (m : Int) by rw [IntKind.wrap_i64]; omega]
    omega
  · show (n : Int) * (m : Int) ≤ 1000000
    omega
  · exact ⟨by intro p hp; simp [tabF] at hp, by simp [tabF, entL]⟩
theorem tab_no (n m : Int) (t : Fr) (h : okF (tabF n m t)) : frB t = true := h.tb
theorem tab_hue (n m : Nat) (hn : n ≤ 8) (hm : m ≤ 8) (t : Fr) (ht : t.hue) : HueF (tabF n m t) n m :=
  ⟨rfl, rfl, by omega, by omega, by intro c hc; simp [tabF] at hc, by intro r hr; simp [tabF] at hr, by intro r hr; simp [tabF] at hr, ht, by simp [tabF], by simp [tabF]⟩
end Go.Proofs.Ytceippgkmoijdaa
