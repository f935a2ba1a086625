/- Contract of the weights of layer 1 (fixed): those that count, and their sum; or none, if one is out of range. -/
import Derived.Test.YtpbkboandiigfaaRepeat
import Derived.Test.YtpbkboandiigfaaArith
import Derived.Test.YtpbkboandiigfaaMarks
import Derived.BigQuiet
import Derived.Deep.QuietTactic
namespace Go.Proofs.Ytpbkboandiigfaa
open Go.RowKit Go.Shelf
set_option linter.unusedVariables false
attribute [local go_sem] Oper.semAt_some

theorem Nums.lies {W : World} {a : Option Addr} {len cap : Nat} {zs : List Int} (h : Nums .i64 W (.slice a len cap) zs) : len = zs.length ∧ Lies W.heap.size W (.slice a len cap) zs.length (fun j => .int .i64 (zs[j]?.getD 0)) := by
  obtain ⟨hm, ⟨a', c', h1, _, h2⟩ | ⟨b, off, cap', h1, h2, h3, hc⟩⟩ := h
  · simp only [Value.slice.injEq] at h1
    obtain ⟨rfl, rfl, rfl⟩ := h1
    subst h2
    exact ⟨rfl, .inl ⟨_, _, rfl, rfl⟩⟩
  · simp only [Value.slice.injEq] at h1
    obtain ⟨rfl, rfl, rfl⟩ := h1
    refine ⟨rfl, ?_⟩
    exact .inr ⟨b, off, cap, rfl, fun hz => cell_lt (hc 0 hz), hc⟩

def sumL (pre : List (Nat × Int)) : Int := (pre.map (·.2)).foldl (· + ·) 0
theorem foldl_add (l : List Int) (s : Int) : l.foldl (· + ·) s = s + l.foldl (· + ·) 0 := by
  induction l generalizing s with
  | nil => simp
  | cons a l ih => simp only [List.foldl_cons]; rw [ih (s + a), ih (0 + a)]; omega
theorem sumL_snoc (pre : List (Nat × Int)) (x : Nat × Int) : sumL (pre ++ [x]) = sumL pre + x.2 := by simp [sumL]
def InRange (x : Nat × Int) : Prop := 0 ≤ x.2 ∧ x.2 ≤ 1125899906842623
theorem sumL_bd (pre : List (Nat × Int)) (h : ∀ x ∈ pre, InRange x) : 0 ≤ sumL pre ∧ sumL pre ≤ pre.length * 1125899906842623 := by
  unfold sumL
  suffices ∀ (l : List Int) (s : Int), (∀ x ∈ l, 0 ≤ x ∧ x ≤ 1125899906842623) → s ≤ l.foldl (· + ·) s ∧ l.foldl (· + ·) s ≤ s + l.length * 1125899906842623 by
    have := this (pre.map (·.2)) 0 (by intro x hx; obtain ⟨y, hy, rfl⟩ := List.mem_map.1 hx; exact h y hy)
    simpa using this
  intro l
  induction l with
  | nil => intro s _; simp
  | cons a l ih =>
    intro s h
    have h1 := h a (by simp)
    have h2 := ih (s + a) (fun x hx => h x (by simp [hx]))
    simp only [List.foldl_cons, List.length_cons]
    omega

/-- what lies between two rounds: the sum so far in block S; all that has come is in range -/
def WI (S : Nat) (W2 : World) (pre : List (Nat × Int)) (W : World) : Prop :=
  ((∀ x ∈ pre, InRange x) ∧ W.cell? ⟨S, 0, none⟩ = some (.int .u64 (sumL pre)) ∧ W.frozen? ⟨S, 0, none⟩ = false) ∧ Below S W2 W
/-- .. a round has left: one is out of range, and block R says so -/
def WX (R : Nat) (W2 : World) (c : Code) (pre : List (Nat × Int)) (W : World) : Prop :=
  (c = .exit 0 ∧ (∃ x ∈ pre, ¬ InRange x) ∧ W.cell? ⟨R, 0, none⟩ = some (.bool false)) ∧ Below R W2 W

def marksOf (Ds : List Nat) : List Deferred := Ds.map fun D => ({ target := .collected D, args := #[] } : Deferred)
def sumZ (zs : List Int) : Int := zs.foldl (· + ·) 0
def OkW (zs : List Int) : Prop := ∀ z ∈ zs, 0 ≤ z ∧ z ≤ 1125899906842623
/-- what holds at the jump back: each weight counts 1 -/
def JW (sl0 : Value) (B0 n : Nat) (w : World) (a : Act) (W : World) : Prop :=
  ∃ (a1 : Option Addr) (len1 cap1 : Nat) (R : Nat) (Ds : List Nat) (u1 u7 u8 u9 u10 u11 u12 u13 u14 u15 u16 u17 u18 u19 u20 u21 u22 u23 u24 u25 u26 u27 u28 u29 u30 u31 u32 u33 : Value),
    a = { tmps := #[sl0, u1, .slice none 0 0, .int .u64 0, .bool false, .slice a1 len1 cap1, .pointer (some ⟨R, 0, none⟩), u7, u8, u9, u10, u11, u12, u13, u14, u15, u16, u17, u18, u19, u20, u21, u22, u23, u24, u25, u26, u27, u28, u29, u30, u31, u32, u33], defers := marksOf Ds } ∧
    Nums .i64 W (.slice a1 len1 cap1) (List.replicate n 1) ∧ Boxed W R 4 (.bool true) ∧ B0 ≤ R ∧ Marks B0 Ds W ∧ (∀ D ∈ Ds, D < W.heap.size) ∧ Below B0 w W

/-- the code behind the label -/
noncomputable def weighX : Code := match Try.f69.body with
  | some (.seq _ (.scope c)) => match findLabel c 0 with | some (.seq _ X) => X | _ => .skip
  | _ => .skip

theorem Nums.below {k : IntKind} {W W' : World} {v : Value} {zs : List Int} (h : Nums k W v zs) (hb : Below W.heap.size W W') : Nums k W' v zs := by
  obtain ⟨hm, h | ⟨b, off, cap, h1, h2, h3, hc⟩⟩ := h
  · exact ⟨hm, .inl h⟩
  · exact ⟨hm, .inr ⟨b, off, cap, h1, h2, h3, fun j hj => (hb.cell (p := ⟨b, off + j, none⟩) (cell_lt (hc j hj))).trans (hc j hj)⟩⟩
theorem Nums.kept {k : IntKind} {W W' : World} {v : Value} {zs : List Int} (h : Nums k W v zs) (hb : CellsKept W W') : Nums k W' v zs := by
  obtain ⟨hm, h | ⟨b, off, cap, h1, h2, h3, hc⟩⟩ := h
  · exact ⟨hm, .inl h⟩
  · exact ⟨hm, .inr ⟨b, off, cap, h1, h2, h3, fun j hj => hb.cell (hc j hj)⟩⟩
theorem Nums.drewN {k : IntKind} {W : World} {v : Value} {zs : List Int} (h : Nums k W v zs) (n : Nat) : Nums k (W.drewN n) v zs := h
theorem Marks.drewN {B : Nat} {Ds : List Nat} {W : World} (h : Marks B Ds W) (n : Nat) : Marks B Ds (W.drewN n) := h
theorem Marks.later {B : Nat} {Ds : List Nat} {W W' : World} (h : Marks B Ds W) (hb : Below W.heap.size W W') (hl : ∀ D ∈ Ds, D < W.heap.size) : Marks B Ds W' :=
  ⟨h.1, fun D hD => ⟨(h.2 D hD).1, (hb.block D (hl D hD)).trans (h.2 D hD).2⟩⟩
theorem sumL_upto (zs : List Int) : sumL (upto (fun j => (j, zs[j]?.getD 0)) zs.length) = sumZ zs := by
  unfold sumL sumZ upto
  congr 1
  apply List.ext_getElem
  · simp
  · intro i h1 h2; simp [h2]
theorem okw_upto {zs : List Int} {k : Nat} (hk : k ≤ zs.length) (h : ∃ x ∈ upto (fun j => (j, zs[j]?.getD 0)) k, ¬ InRange x) : ¬ OkW zs := by
  obtain ⟨x, hx, hn⟩ := h
  intro ho
  apply hn
  simp only [upto, List.mem_map, List.mem_range] at hx
  obtain ⟨j, hj, rfl⟩ := hx
  have hj' : j < zs.length := by omega
  have := ho zs[j] (List.getElem_mem hj')
  simpa [InRange, hj'] using this
theorem okw_all {zs : List Int} (h : ∀ x ∈ upto (fun j => (j, zs[j]?.getD 0)) zs.length, InRange x) : OkW zs := by
  intro z hz
  obtain ⟨j, hj, rfl⟩ := List.getElem_of_mem hz
  have := h (j, zs[j]?.getD 0) (by simp only [upto, List.mem_map, List.mem_range]; exact ⟨j, hj, rfl⟩)
  simpa [InRange, hj] using this
theorem WI.own (S B : Nat) (W2 : World) (h1 : S ≤ W2.heap.size) (h2 : S ≤ B) : OwnFrom B (WI S W2) :=
  OwnFrom.and (Own.from (fun s A C row hs hg hr => ⟨hs.1, cell_kept hs.2.1 hg hr, (frozen_kept hs.2.1 hg hr).trans hs.2.2⟩) _) (ownFrom_below h1 h2)
theorem WX.own (R B : Nat) (W2 : World) (c : Code) (h1 : R ≤ W2.heap.size) (h2 : R ≤ B) : OwnFrom B (WX R W2 c) :=
  OwnFrom.and (Own.from (fun s A C row hs hg hr => ⟨hs.1, hs.2.1, cell_kept hs.2.2 hg hr⟩) _) (ownFrom_below h1 h2)

set_option maxHeartbeats 2000000 in
theorem weigh_pass (J : Act → World → Prop) (Rz : Ending → World → Prop) (a0 : Option Addr) (cap0 : Nat) (u1 u7 u8 u9 u10 u11 u12 u13 u14 u15 u16 u17 u18 u19 u20 u21 u22 u23 u24 u25 u26 u27 u28 u29 u30 u31 u32 u33 : Value) (a1 : Option Addr) (cap1 R B0 : Nat) (zs : List Int) (Ds : List Nat) (W : World)
    (hI : Nums .i64 W (.slice a1 zs.length cap1) zs) (hn : zs.length ≤ 10000) (hR : Boxed W R 4 (.bool true)) (hB : B0 ≤ R) (hM : Marks B0 Ds W) (hMl : ∀ D ∈ Ds, D < W.heap.size) (hn0 : 1 ≤ zs.length) (hDs : ¬ OkW zs → Ds = [])
    (hgoto : Hid (sumZ zs = 0 → OkW zs → ∀ a W', JW (.slice a0 zs.length cap0) B0 zs.length W a W' → J a W'))
    (hbad : Hid (¬ OkW zs → ∀ W', Below B0 W W' → Rz (.returned (.tuple #[.slice none 0 0, .int .u64 0, .bool false])) W'))
    (hgood : Hid (OkW zs → sumZ zs ≠ 0 → ∀ W', Nums .i64 W' (.slice a1 zs.length cap1) zs → Below B0 W W' → Rz (.returned (.tuple #[.slice a1 zs.length cap1, .int .u64 (sumZ zs), .bool true])) W')) :
    weighX.wp Try.prog (Exit.jump 0 J (bodyPostM Fence.wide 3 Try.prog Try.f69 Rz)) { tmps := #[.slice a0 zs.length cap0, u1, .slice none 0 0, .int .u64 0, .bool false, .slice a1 zs.length cap1, .pointer (some ⟨R, 0, none⟩), u7, u8, u9, u10, u11, u12, u13, u14, u15, u16, u17, u18, u19, u20, u21, u22, u23, u24, u25, u26, u27, u28, u29, u30, u31, u32, u33], defers := marksOf Ds } W := by
  have hRl := hR.lt
  have hL := hI.lies.2
  conv => arg 2; whnf
  go_wp2
  go_step3
  go_wp2_with (go_at_call 78; refine (all_any _ _ _ _).mono ?_; rintro e w' ⟨rfl, rfl⟩)
  have bS := (Boxed.new W 68 (.int .u64 0)).alloc (.cells #[.slice a1 zs.length cap1] 22)
  have bN := Boxed.new (W.alloc (.cells #[.int .u64 0] 68)) 22 (.slice a1 zs.length cap1)
  have hB2 : Below W.heap.size W ((W.alloc (.cells #[.int .u64 0] 68)).alloc (.cells #[.slice a1 zs.length cap1] 22)) := ((Below.refl _ W).alloc (Nat.le_refl _) _).alloc (by simp) _
  have hsz : ((W.alloc (.cells #[.int .u64 0] 68)).alloc (.cells #[.slice a1 zs.length cap1] 22)).heap.size = W.heap.size + 2 := by simp
  rw [World.size_alloc] at bN
  obtain ⟨W2, hW2⟩ : ∃ W2, ((W.alloc (.cells #[.int .u64 0] 68)).alloc (.cells #[.slice a1 zs.length cap1] 22)) = W2 := ⟨_, rfl⟩
  rw [hW2] at bS bN hB2 hsz ⊢
  clear hW2
  have hR2 : Boxed W2 R 4 (.bool true) := (hB2.block R hRl).trans hR
  refine (wpIn_wide (n := 3)).1 (wpIn_rangeFunc_ownG (F := Fence.wide) rfl (by omega) (gf := 86) (lb := #[.pointer (some ⟨W.heap.size + 1, 0, none⟩)]) rfl trivial (enters_of Try.func86 (by kernel_rfl) rfl)
    (all_stops Fence.wide _ trivial rfl (by omega) (W.heap.size + 1) W.heap.size (.slice a1 zs.length cap1) zs.length (by omega) W2 (by omega) (by omega) (fun j => (j, zs[j]?.getD 0)) (fun x : Nat × Int => #[.int .i64 (x.1 : Int), .int .i64 x.2]) (fun j => .int .i64 (zs[j]?.getD 0)) (fun _ _ => rfl) bN.cell (hL.below hB2)) belowK_t (belowK_b (by omega)) (Below.refl _ _) (fun _ => rfl)
    (WI W.heap.size W2) (WX R W2) (WI.own _ _ _ (by omega) (by omega)) (fun c => WX.own _ _ _ c (by omega) (by omega)) ⟨⟨by simp, bS.cell, bS.frozen⟩, Below.refl _ _⟩
    (fun x => { tmps := #[.slice a0 zs.length cap0, u1, .slice none 0 0, .int .u64 0, .bool false, .slice a1 zs.length cap1, .pointer (some ⟨R, 0, none⟩), .pointer (some ⟨W.heap.size, 0, none⟩), u8, .int .i64 x.2, u10, .slice a1 zs.length cap1, .func (.func 86) #[] #[.pointer (some ⟨W.heap.size + 1, 0, none⟩)], .int .i64 (x.1 : Int), .int .i64 x.2, u15, u16, u17, u18, u19, u20, u21, u22, u23, u24, u25, u26, u27, u28, u29, u30, u31, u32, u33], defers := [] }) ?assign ?body ?done ?stop)
  case assign =>
    intro l x V K hK
    gi_wp2
    exact hK
  case body =>
    rintro l pre x V hWI hlen
    have hbd := sumL_bd pre hWI.1.1
    obtain ⟨⟨hin, hc, hf⟩, hb⟩ := hWI
    have hR3 : Boxed V R 4 (.bool true) := (hb.block R hRl).trans hR2
    have hR3c := hR3.cell
    have hR3f := hR3.frozen
    have hlen2 : pre.length ≤ 9999 := by omega
    have s0 := hbd.1
    have s1 : sumL pre ≤ 11258999068426230000 := by have := hbd.2; omega
    obtain ⟨s, hs⟩ : ∃ s, sumL pre = s := ⟨_, rfl⟩
    rw [hs] at hc s0 s1
    have HIN := Lib.hid hin
    have HB := Lib.hid hb
    have HS := Lib.hid hs
    clear hs hin hbd hlen hR3 hR2 hR bS bN hI
    obtain ⟨j, z⟩ := x
    dsimp only
    by_cases h1 : z < 0
    · gi_wp2
      exact ⟨(KeepsOthers.setCell _ _ _).from _, ⟨rfl, ⟨(j, z), by simp, fun k => by have := k.1; simp at this; omega⟩, World.cell?_setCell_same' _ _ _ (by rw [hR3c]; rfl)⟩, (HB.out.mono (B' := R) (by omega)).setCell (p := ⟨R, 0, none⟩) (Nat.le_refl _) _⟩
    · by_cases h2 : 1125899906842623 < z
      · gi_wp2
        exact ⟨(KeepsOthers.setCell _ _ _).from _, ⟨rfl, ⟨(j, z), by simp, fun k => by have := k.2; simp at this; omega⟩, World.cell?_setCell_same' _ _ _ (by rw [hR3c]; rfl)⟩, (HB.out.mono (B' := R) (by omega)).setCell (p := ⟨R, 0, none⟩) (Nat.le_refl _) _⟩
      · gi_wp2
        refine ⟨(KeepsOthers.setCell _ _ _).from _, (Below.refl W.heap.size V).setCell (p := ⟨W.heap.size, 0, none⟩) (Nat.le_refl _) _, ⟨fun y hy => ?_, ?_, ?_⟩, HB.out.setCell (p := ⟨W.heap.size, 0, none⟩) (Nat.le_refl _) _⟩
        · rcases List.mem_append.1 hy with hy | hy
          · exact HIN.out y hy
          · simp at hy; subst hy; exact ⟨by simp; omega, by simp; omega⟩
        · rw [sumL_snoc, HS.out]; exact World.cell?_setCell_same' _ _ _ (by rw [hc]; rfl)
        · rw [World.frozen?_setCell]; exact hf
  case done =>
    rintro D ys V hD rfl ⟨⟨hin, hc, hf⟩, hb⟩ hK
    have hok := okw_all hin
    rw [sumL_upto] at hc
    have hWV : Below W.heap.size W V := hB2.trans hb
    have hR3 : Boxed V R 4 (.bool true) := (hb.block R hRl).trans hR2
    have hR3c := hR3.cell
    have hM3 : Marks B0 (D :: Ds) V := (hM.later hWV hMl).cons (by omega) hK (fun E hE => by have := hMl E hE; omega)
    have hB0W : B0 ≤ W.heap.size := by omega
    have hDV : D < V.heap.size := (Array.getElem?_eq_some_iff.1 hK).1
    have HI := Lib.hid (hI.below hWV)
    have HB := Lib.hid (hWV.mono hB0W)
    have HM := Lib.hid hM3
    have HR := Lib.hid hR3
    have HW := Lib.hid hWV
    have HOK := Lib.hid hok
    have HML := Lib.hid hMl
    have hsb : 0 ≤ sumZ zs ∧ sumZ zs ≤ 11258999068426230000 := by
      have := sumL_bd _ hin; rw [sumL_upto, upto_length] at this; omega
    clear hin hM3 hM hMl hI hR hR2 bS bN hL hWV hb hB2 hK hR3 hok
    by_cases hz : sumZ zs = 0
    · rw [hz] at hc
      have HZ := Lib.hid hz
      clear hz hsb
      go_wp2_with (go_at_call 79; refine (repeat_any _ 0 1 1 zs.length _ (Boxed.new V 2 (.int .i64 1)).cell hn0 hn).mono ?_; rintro e w' ⟨⟨v, rfl, hv⟩, hbv⟩)
      have hVw := hbv.size
      have hm1 : Marks B0 (D :: Ds) w' := HM.out.later ((((Below.refl V.heap.size V).alloc (Nat.le_refl _) _).trans (hbv.mono (by simp)))) (fun E hE => by rcases List.mem_cons.1 hE with rfl | hE; exact hDV; have := HML.out E hE; have := HW.out.size; omega)
      have hb1 : Below B0 W w' := HB.out.trans (((Below.refl B0 V).alloc (by have := HW.out.size; omega) _).trans (hbv.mono (by simp; have := HW.out.size; omega)))
      have hr1 : Boxed w' R 4 (.bool true) := ((hbv.block R (by have := HR.out.lt; simp; omega)).trans ((HR.out.alloc _)))
      have hml1 : ∀ E ∈ D :: Ds, E < w'.heap.size := fun E hE => (Array.getElem?_eq_some_iff.1 (hm1.2 E hE).2).1
      have hnv := hv.nums (by simp; omega)
      go_step3
      have hsh : ∃ (a1 : Option Addr) (len1 cap1 : Nat), v = .slice a1 len1 cap1 := by
        obtain ⟨_, ⟨a', c', h, _⟩ | ⟨b, off, cap, h, _⟩⟩ := hnv
        · exact ⟨_, _, _, h⟩
        · exact ⟨_, _, _, h⟩
      obtain ⟨a1, len1, cap1, rfl⟩ := hsh
      refine ⟨rfl, hgoto.out HZ.out HOK.out _ _ ?_⟩
      exact ⟨a1, len1, cap1, R, D :: Ds, _, _, _, _, _, _, _, _, _, _, _, _, _, _, _, _, _, _, _, _, _, _, _, _, _, _, _, _, rfl, hnv, hr1, hB, hm1, hml1, hb1⟩
    · obtain ⟨s, hs⟩ : ∃ s, sumZ zs = s := ⟨_, rfl⟩
      rw [hs] at hc hsb hz
      have HS := Lib.hid hs
      have hz' : (s == 0) = false := by simpa using hz
      have HZ := Lib.hid hz
      clear hs hz
      go_wp2
      go_quiet (fail)
      go_wp2
      refine leaves_marks B0 (D :: Ds) _ (HM.out.drewN _) (fun W' hck hbk => ⟨_, results_tmp3 rfl _ _ _, ?_⟩)
      have := hgood.out HOK.out (by rw [HS.out]; exact HZ.out) W' ((HI.out.drewN _).kept hck) ((HB.out.trans (below_dn _ _ _)).trans hbk)
      rw [HS.out] at this
      exact this
  case stop =>
    rintro D c pre V hD ⟨k, hk, rfl⟩ ⟨⟨rfl, hbad', hc⟩, hb⟩ hK
    have hno := okw_upto hk hbad'
    have hWV : Below R W V := (hB2.mono (by omega)).trans hb
    have hM3 : Marks B0 (D :: Ds) V := by rw [hDs hno]; exact (Marks.nil _ _).cons (by omega) hK (fun E hE => by cases hE)
    have HB := Lib.hid (hWV.mono hB)
    have HM := Lib.hid hM3
    have HNO := Lib.hid hno
    clear hbad' hM3 hM hMl hI hR hR2 bS bN hL hWV hb hB2 hK hno
    refine wpIn_wide.2 ?_
    go_wp2
    refine leaves_marks B0 (D :: Ds) _ HM.out (fun W' hck hbk => ⟨_, results_tmp3 rfl _ _ _, ?_⟩)
    exact hbad.out HNO.out W' (HB.out.trans hbk)

/-- what the weights come to -/
def counted (zs : List Int) : List Int := if sumZ zs = 0 then List.replicate zs.length 1 else zs
def WeighPost (zs : List Int) (w : World) (e : Ending) (W' : World) : Prop :=
  Below w.heap.size w W' ∧ ((¬ OkW zs ∧ e = .returned (.tuple #[.slice none 0 0, .int .u64 0, .bool false])) ∨
    (OkW zs ∧ ∃ (a1 : Option Addr) (cap1 : Nat), e = .returned (.tuple #[.slice a1 zs.length cap1, .int .u64 (sumZ (counted zs)), .bool true]) ∧ Nums .i64 W' (.slice a1 zs.length cap1) (counted zs)))
theorem sumZ_ones (n : Nat) : sumZ (List.replicate n 1) = n := by
  unfold sumZ
  induction n with
  | zero => rfl
  | succ n ih => rw [List.replicate_succ, List.foldl_cons, foldl_add, ih]; omega
theorem okw_ones (n : Nat) : OkW (List.replicate n 1) := fun z hz => by rw [(List.mem_replicate.1 hz).2]; omega

set_option maxHeartbeats 1000000 in
theorem weigh_any (a0 : Option Addr) (cap0 : Nat) (zs : List Int) (w : World) (hI : Nums .i64 w (.slice a0 zs.length cap0) zs) (hn : zs.length ≤ 10000) (hn0 : 1 ≤ zs.length) :
    Calls Try.prog 69 #[.slice a0 zs.length cap0] w (WeighPost zs w) := by
  refine (callsIn_wide (n := 3)).1 (callsIn_of_wp_marks Try.func69 rfl trivial (wpIn_wide.2 ?_) rfl)
  simp only [Try.ntmps69, List.size_toArray, List.length_cons, List.length_nil, Nat.reduceAdd, Nat.reduceSub, Array.replicate_succ, Array.replicate_zero, List.push_toArray, List.append_toArray, List.nil_append, List.cons_append]
  go_wp2
  refine wp_scope_jumps 0 (fun a W => (sumZ zs = 0 ∧ OkW zs) ∧ JW (.slice a0 zs.length cap0) w.heap.size zs.length w a W) (fun _ _ => 0) rfl ?_ ?_
  · go_wp2
    have bR := Boxed.new w 4 (.bool true)
    have hb0 : Below w.heap.size w (w.alloc (.cells #[.bool true] 4)) := (Below.refl _ w).alloc (Nat.le_refl _) _
    apply wp_label
    rename_i hK
    refine hK _ _ (weigh_pass _ _ a0 cap0 _ _ _ _ _ _ _ _ _ _ _ _ _ _ _ _ _ _ _ _ _ _ _ _ _ _ _ _ a0 cap0 w.heap.size w.heap.size zs [] _ (hI.below hb0) hn bR (Nat.le_refl _) (Marks.nil _ _) (fun _ h => by cases h) hn0 (fun _ => rfl) ?_ ?_ ?_)
    · rintro hz hok a W' ⟨a1, len1, cap1, R, Ds, u1, u7, u8, u9, u10, u11, u12, u13, u14, u15, u16, u17, u18, u19, u20, u21, u22, u23, u24, u25, u26, u27, u28, u29, u30, u31, u32, u33, h1, h2, h3, h4, h5, h6, h7⟩
      exact ⟨⟨hz, hok⟩, a1, len1, cap1, R, Ds, u1, u7, u8, u9, u10, u11, u12, u13, u14, u15, u16, u17, u18, u19, u20, u21, u22, u23, u24, u25, u26, u27, u28, u29, u30, u31, u32, u33, h1, h2, h3, h4, h5, h6, hb0.trans h7⟩
    · exact fun hno W' hb => ⟨hb0.trans hb, .inl ⟨hno, rfl⟩⟩
    · intro hok hz W' hN hb
      exact ⟨hb0.trans hb, .inr ⟨hok, a0, cap0, by rw [counted, if_neg hz], by rw [counted, if_neg hz]; exact hN⟩⟩
  · rintro a W ⟨⟨hz0, hok0⟩, a1, len1, cap1, R, Ds, u1, u7, u8, u9, u10, u11, u12, u13, u14, u15, u16, u17, u18, u19, u20, u21, u22, u23, u24, u25, u26, u27, u28, u29, u30, u31, u32, u33, rfl, hN, hR, hB, hM, hMl, hBel⟩
    obtain ⟨ys, hys⟩ : ∃ ys, ys = List.replicate zs.length (1 : Int) := ⟨_, rfl⟩
    have hlen : ys.length = zs.length := by rw [hys]; simp
    rw [← hys] at hN
    obtain ⟨rfl, _⟩ := hN.lies
    refine wp_seq (wp_skip ?_)
    have hsum : sumZ ys = ys.length := by rw [hys, sumZ_ones]; simp
    have hoky : OkW ys := by rw [hys]; exact okw_ones _
    rw [← hlen]
    refine weigh_pass _ _ a0 cap0 _ _ _ _ _ _ _ _ _ _ _ _ _ _ _ _ _ _ _ _ _ _ _ _ _ _ _ _ a1 cap1 R w.heap.size ys Ds W hN (by omega) hR hB hM hMl (by omega) (fun h => absurd hoky h) ?_ ?_ ?_
    · intro hz; omega
    · exact fun hno => absurd hoky hno
    · intro hok hz W' hN' hb
      have hc : counted zs = ys := by rw [counted, if_pos hz0, hys]
      exact ⟨hBel.trans hb, .inr ⟨hok0, a1, cap1, by rw [hc, hlen], by rw [hc, ← hlen]; exact hN'⟩⟩
end Go.Proofs.Ytpbkboandiigfaa
