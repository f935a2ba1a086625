/- The iterator over words' widths (lines.widths). -/
import Derived.Test.YthgkjgaebgpplaaLnPlain
import Derived.Test.YthgkjgaebgpplaaSlice
import Derived.Test.YthgkjgaebgpplaaSNext
import Derived.Test.YthgkjgaebgpplaaMarks
import Derived.WalkSpells
import Derived.Lib.Hide
import Derived.LoopTactic
import Derived.BigQuiet
import Derived.Deep.QuietTactic
import Derived.Deep.LoopGhost
import Derived.Shelf.Abstract
import Derived.Shelf.RegionOpen
import Derived.ScopeJumps
import Derived.WalkMore
namespace Go.Proofs.Ythgkjgaebgpplaa
open Go.RowKit Go.Shelf
set_option linter.unusedVariables false
attribute [local go_sem] Oper.semAt_some

/-- numbers that lie below B -/
def LowI (B : Nat) (X : World) (v : Value) (zs : List Int) : Prop :=
  zs.length ≤ 9223372036854775807 ∧ ((∃ (a : Option Addr) (cap : Nat), v = .slice a 0 cap ∧ zs = []) ∨ ∃ b off cap, v = .slice (some ⟨b, off, none⟩) zs.length cap ∧ b < B ∧ ∀ j, j < zs.length → X.cell? ⟨b, off + j, none⟩ = some (.int .i64 (zs[j]?.getD 0)))
theorem LowI.of {X : World} {v : Value} {zs : List Int} (h : Ints X v zs) : LowI X.heap.size X v zs := by
  obtain ⟨hm, ⟨a, cap, rfl, rfl⟩ | ⟨b, off, cap, rfl, hc⟩⟩ := h
  · exact ⟨hm, .inl ⟨a, cap, rfl, rfl⟩⟩
  · by_cases h0 : zs.length = 0
    · obtain rfl := List.length_eq_zero_iff.1 h0
      exact ⟨hm, .inl ⟨_, cap, rfl, rfl⟩⟩
    · exact ⟨hm, .inr ⟨b, off, cap, rfl, by have := cell_lt (hc 0 (by omega)); exact this, hc⟩⟩
theorem LowI.keep {B : Nat} {X Y : World} {v : Value} {zs : List Int} (h : LowI B X v zs) (hb : ∀ k, k < B → Y.heap[k]? = X.heap[k]?) : LowI B Y v zs := by
  refine ⟨h.1, h.2.imp id ?_⟩
  rintro ⟨b, off, c, e, hB, hc⟩
  refine ⟨b, off, c, e, hB, fun j hj => ?_⟩
  have := hc j hj
  simp only [World.cell?] at this ⊢; rw [hb b hB]; exact this
theorem LowI.mono {B C : Nat} {X : World} {v : Value} {zs : List Int} (h : LowI B X v zs) (hb : B ≤ C) : LowI C X v zs := by
  refine ⟨h.1, h.2.imp id ?_⟩
  rintro ⟨b, off, c, e, hB, hc⟩
  exact ⟨b, off, c, e, by omega, hc⟩
theorem LowI.ints {B : Nat} {X : World} {v : Value} {zs : List Int} (h : LowI B X v zs) : Ints X v zs := by
  refine ⟨h.1, h.2.imp id ?_⟩
  rintro ⟨b, off, c, e, hB, hc⟩
  exact ⟨b, off, c, e, hc⟩
theorem LowI.form {B : Nat} {X : World} {v : Value} {zs : List Int} (h : LowI B X v zs) : ∃ p c, v = .slice p zs.length c := by
  rcases h.2 with ⟨a, c, rfl, rfl⟩ | ⟨b, off, c, rfl, _⟩
  · exact ⟨_, _, rfl⟩
  · exact ⟨_, _, rfl⟩
theorem LowI.at {B : Nat} {X : World} {p : Option Addr} {l c : Nat} {zs : List Int} (h : LowI B X (.slice p l c) zs) (i : Nat) (z : Int) (hz : zs[i]? = some z) :
    ∃ b off, p = some ⟨b, off, none⟩ ∧ b < B ∧ X.cell? ⟨b, off + i, none⟩ = some (.int .i64 z) := by
  rcases h.2 with ⟨a, c', _, rfl⟩ | ⟨b, off, c', e, hB, hc⟩
  · simp at hz
  · injection e with e1 e2 e3
    have := hc i (List.getElem?_eq_some_iff.1 hz).1
    rw [hz] at this
    exact ⟨b, off, e1, hB, this⟩
/-- what the iterator reads: its boxes, and the words, which lie below B -/
structure WidMem (B g1 g2 : Nat) (b : Int) (v : Value) (ws : List Int) (X : World) : Prop where
  size : B ≤ X.heap.size
  l1 : g1 < X.heap.size
  l2 : g2 < X.heap.size
  c1 : X.cell? ⟨g1, 0, none⟩ = some (.int .i64 b)
  c2 : X.cell? ⟨g2, 0, none⟩ = some v
  low : LowI B X v ws
theorem WidMem.keep {B g1 g2 : Nat} {b : Int} {v : Value} {ws : List Int} {X Y : World} (h : WidMem B g1 g2 b v ws X) (hs : X.heap.size ≤ Y.heap.size) (hb : ∀ k, k < B → Y.heap[k]? = X.heap[k]?) (h1 : Y.heap[g1]? = X.heap[g1]?) (h2 : Y.heap[g2]? = X.heap[g2]?) : WidMem B g1 g2 b v ws Y :=
  ⟨Nat.le_trans h.size hs, Nat.lt_of_lt_of_le h.l1 hs, Nat.lt_of_lt_of_le h.l2 hs, by have := h.c1; simp only [World.cell?] at this ⊢; rw [h1]; exact this, by have := h.c2; simp only [World.cell?] at this ⊢; rw [h2]; exact this, h.low.keep hb⟩
theorem WidMem.below {B g1 g2 : Nat} {b : Int} {v : Value} {ws : List Int} {X Y : World} (h : WidMem B g1 g2 b v ws X) (hb : Below X.heap.size X Y) : WidMem B g1 g2 b v ws Y :=
  h.keep hb.size (fun k hk => hb.block k (Nat.lt_of_lt_of_le hk h.size)) (hb.block g1 h.l1) (hb.block g2 h.l2)
def KeepL (R : World → Prop) (V W : World) : Prop := V.heap.size ≤ W.heap.size ∧ (R V → R W)
theorem KeepL.trans {R : World → Prop} {U V W : World} (h : KeepL R U V) (k : KeepL R V W) : KeepL R U W := ⟨Nat.le_trans h.1 k.1, fun x => k.2 (h.2 x)⟩
theorem grownL {W W' : World} (hb : Below W.heap.size W W') : W.grownBy W' none := ⟨hb.os, hb.tape, hb.output, hb.size, fun k hk _ => hb.block k hk⟩
theorem abidesL {β : Type} {B : Nat} {J : β → World → Prop} (h : AbidesFrom B J) {s : β} {W W' : World} (hs : J s W) (hb : Below W.heap.size W W') : J s W' :=
  h s W W' none hs (grownL hb) (fun r e => by cases e)
/-- the k-th element: the words up to the k-th one -/
def encW (b : Int) (ws : List Int) (k : Nat) : Array Value := #[.int .i64 (k : Int), .int .i64 (preW b (k + 1) ws - b)]
def nxtW (ws : List Int) (pre : List Nat) (x : Nat) : Prop := x = pre.length ∧ x < ws.length
theorem addS3 (a b c : Int) (h1 : -9223372036854775808 ≤ a) (h2 : a ≤ 9223372036854775807) (h3 : -9223372036854775808 ≤ a + b) (h4 : a + b ≤ 9223372036854775807) (h5 : -9223372036854775808 ≤ a + b + c) (h6 : a + b + c ≤ 9223372036854775807) : addS [a, b, c] = a + b + c := by
  simp only [addS, List.foldl_cons, List.foldl_nil]
  rw [show (0 : Int) + a = a by omega, sat_in h1 h2, sat_in h3 h4, sat_in h5 h6]
set_option maxRecDepth 100000 in
set_option maxHeartbeats 2000000 in
theorem widths_in (n : Nat) (hn : 1 ≤ n) (l B g1 g2 m c : Nat) (p : Option Addr) (b : Int) (ws : List Int) (hm : ws.length = m) (hok : okW b ws) (J Jx : List Nat → World → Prop)
    (hY : ∀ pre x W, J pre W → nxtW ws pre x → YieldAt Fence.wide (n - 1) Try.prog l (encW b ws x) W fun e W' =>
      (e = .returned (.bool true) ∧ J (pre ++ [x]) W' ∧ KeepL (WidMem B g1 g2 b (.slice p m c) ws) W W') ∨ (e = .returned (.bool false) ∧ Jx (pre ++ [x]) W'))
    (W : World) (hJ : AbidesFrom W.heap.size J) (hR : WidMem B g1 g2 b (.slice p m c) ws W) (h0 : J [] W) :
    CallsIn Fence.wide n Try.prog 29 #[.func (.yield l) #[] #[], .pointer (some ⟨g1, 0, none⟩), .pointer (some ⟨g2, 0, none⟩)] W fun e W' => (∃ v, e = .returned v) ∧
      ((∃ ys, ys.length = ws.length ∧ J ys W') ∨ (∃ pre, True ∧ Jx pre W')) := by
  refine callsIn_of_wp Try.func29 rfl trivial ?_ rfl
  simp only [Try.ntmps29, List.size_toArray, List.length_cons, List.length_nil, Nat.reduceAdd, Nat.reduceSub, Array.replicate_succ, Array.replicate_zero, List.push_toArray, List.append_toArray, List.nil_append, List.cons_append]
  have HY := Lib.hid hY
  have HJ := Lib.hid hJ
  have HR0 := Lib.hid hR
  have H0 := Lib.hid h0
  have HM := Lib.hid hm
  have HO := Lib.hid hok
  have hmm : m ≤ 10000 := by have := hok.2.1; omega
  have hb1 := hok.1.1
  have hb2 := hok.1.2
  have bx := hR.c1
  have bx2 := hR.c2
  have lb := hR.l1
  have lb2 := hR.l2
  clear hY hJ h0 hm hR hok
  gi_wp2
  gi_loopw [4, 11] (fun s4 s11 X => ∃ (t : Nat) (pre : List Nat), t ≤ m ∧ s11 = .int .i64 t ∧ s4 = .int .i64 (preW b t ws - b) ∧ Hid (pre.length = t) ∧ Hid (J pre X) ∧ Hid (WidMem B g1 g2 b (.slice p m c) ws X) ∧ Hid (W.heap.size ≤ X.heap.size)) (fun _ s11 _ => m - (intOf s11).toNat)
  case atStart => exact ⟨0, [], Nat.zero_le _, rfl, by simp [preW]; try omega, Lib.hid rfl, H0, HR0, Lib.hid (Nat.le_refl _)⟩
  case round =>
    obtain ⟨t, pre, ht, rfl, rfl, HE, HJ1, HR, HZ⟩ := hrel
    clear bx bx2 lb lb2
    by_cases hlt : t < m
    · obtain ⟨x, hx⟩ : ∃ x, ws[t]? = some x := ⟨_, List.getElem?_eq_getElem (by rw [HM.out]; exact hlt)⟩
      obtain ⟨bb, off, rfl, hbB, crow⟩ := HR.out.low.at t x hx
      have hbs : bb < wr.heap.size := by have := HR.out.size; omega
      have bx := HR.out.c1
      have lb := HR.out.l1
      have hx2 := HO.out.2.2 x (List.mem_iff_getElem?.2 ⟨t, hx⟩)
      have hp := preW_bd HO.out t (by have := HM.out; omega)
      have HS := Lib.hid (preW_succ b t ws x hx)
      obtain ⟨q, hq⟩ : ∃ q, preW b t ws = q := ⟨_, rfl⟩
      have hS2 : addS [q - b, b, x] = preW b (t + 1) ws - b := by rw [HS.out, hq]; rw [addS3 _ _ _ (by omega) (by omega) (by omega) (by omega) (by omega) (by omega)]; omega
      have HS2 := Lib.hid hS2
      rw [hq]
      obtain ⟨V, hV⟩ : ∃ V, wr.alloc (.cells #[.int .i64 (q - b), .int .i64 b, .int .i64 x] 2) = V := ⟨_, rfl⟩
      have bV : Below wr.heap.size wr V := hV ▸ (Below.refl _ wr).alloc (Nat.le_refl _) _
      have HN : Hid (Nums .i64 V (.slice (some ⟨wr.heap.size, 0, none⟩) 3 3) [q - b, b, x]) := Lib.hid ⟨by simp, .inr ⟨wr.heap.size, 0, 3, rfl, by simp, by omega, fun j hj => by
        have := (whole_new wr [.int .i64 (q - b), .int .i64 b, .int .i64 x] 2 _ rfl).cellAt j
        rw [hV] at this
        rw [Nat.zero_add, this]
        simp only [List.length_cons, List.length_nil] at hj
        rcases j with _ | _ | _ | j <;> first | rfl | omega⟩⟩
      have HI64 : Hid (In64 [q - b, b, x]) := Lib.hid fun j hj => by
        simp only [List.length_cons, List.length_nil] at hj
        rcases j with _ | _ | _ | j <;> simp <;> omega
      have hJV := abidesL HJ.out HJ1.out bV
      have hS : Hid (WidMem B g1 g2 b (.slice (some ⟨bb, off, none⟩) m c) ws V) := Lib.hid (HR.out.below bV)
      have hZV : Hid (W.heap.size ≤ V.heap.size) := Lib.hid (Nat.le_trans HZ.out bV.size)
      obtain ⟨fn, tmps, assign, body, hy, hRR⟩ := HY.out pre t V hJV ⟨HE.out.symm, by rw [HM.out]; exact hlt⟩
      dsimp only [encW] at hy
      rw [← HS2.out] at hy
      have HRn := Lib.hid hRR
      clear hJV HR HJ1 HZ hRR HY HS hp hx hS2
      gi_wp2_with (refine ⟨trivial, ?_⟩; gi_at_call 30; refine (callsIn_wide.2 (add_any _ _ _ HN.out HI64.out)).mono ?_; rintro e w7 ⟨rfl, rfl⟩)
      refine HRn.out.mono ?_
      rintro e W3 (⟨rfl, hJ3, hk3⟩ | ⟨rfl, hJx3⟩)
      · have H3 := Lib.hid hJ3
        have K3 := Lib.hid hk3
        clear hJ3 hk3 HRn hV hy
        gi_wp2
        go_roundw
        case rel => exact ⟨t + 1, pre ++ [t], by omega, by go_num, by rw [HS2.out], Lib.hid (by simp [HE.out]), H3, Lib.hid (K3.out.2 hS.out), Lib.hid (Nat.le_trans hZV.out K3.out.1)⟩
        case measure => simp [intOf]; omega
      · have H3 := Lib.hid hJx3
        clear hJx3 HRn hV hy
        gi_wp2
        refine bodyPost_ret (results_none rfl _ _ _) rfl ?_
        exact ⟨⟨_, rfl⟩, .inr ⟨_, trivial, H3.out⟩⟩
    · have HE2 : Hid (pre.length = ws.length) := Lib.hid (by rw [HE.out, HM.out]; omega)
      gi_wp2
      go_end0
      exact ⟨⟨_, rfl⟩, .inl ⟨_, HE2.out, HJ1.out⟩⟩
theorem widths_next (n : Nat) (hn : 1 ≤ n) (B g1 g2 : Nat) (b : Int) (v : Value) (ws : List Int) (w : World) (hok : okW b ws) (hR : WidMem B g1 g2 b v ws w) :
    SeqNext Fence.wide n Try.prog 29 #[.pointer (some ⟨g1, 0, none⟩), .pointer (some ⟨g2, 0, none⟩)] (encW b ws) (KeepL (WidMem B g1 g2 b v ws)) (nxtW ws) (fun ys => ys.length = ws.length) (fun _ => True) w := by
  obtain ⟨p, c, rfl⟩ := hR.low.form
  exact fun l J Jx W hW hJ hY h0 => widths_in n hn l _ g1 g2 ws.length c p b ws rfl hok J Jx hY W hJ (hR.below hW) h0
theorem widthsF_any (b : Int) (p : Option Addr) (m c : Nat) (w : World) :
    Calls Try.prog 25 #[.int .i64 b, .slice p m c] w fun e w' => e = .returned (.func (.func 29) #[] #[.pointer (some ⟨w.heap.size, 0, none⟩), .pointer (some ⟨w.heap.size + 1, 0, none⟩)]) ∧
      w' = (w.alloc (.cells #[.int .i64 b] 2)).alloc (.cells #[.slice p m c] 33) := by
  go_enter Try.func25, Try.ntmps25
  go_wp2
  go_ret
  exact ⟨rfl, rfl⟩
end Go.Proofs.Ythgkjgaebgpplaa
