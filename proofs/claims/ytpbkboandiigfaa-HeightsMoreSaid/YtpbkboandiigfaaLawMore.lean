/- One cell more of one row changes that row alone, for any requested heights (the first sixty), heights (the first hundred), any row and height. -/
import Derived.Test.YtpbkboandiigfaaRows
import Derived.WalkKit
import Derived.ProofKit
import Derived.OpenShut
import Derived.Below
import Derived.Test.YtpbkboandiigfaaHMor
import Derived.ShutString
namespace Go.Proofs.Ytpbkboandiigfaa.heightsMore
open Go.ChangeShapes Go.WideShapes Go.ChangeAt Go.RowKit
set_option linter.unusedVariables false

theorem own : ownKnob Try.prog.godebug = none := by kernel_rfl
theorem laidOut : laidOutB Try.prog = true := by kernel_rfl

open Go.Shelf
attribute [local go_sem] Oper.semAt_some
def plM (n i : Nat) : List Pc := (List.range i).map fun j => pcB ((j % n : Nat) : Int)
theorem plM_succ (n i : Nat) : plM n (i + 1) = plM n i ++ [pcB ((i % n : Nat) : Int)] := by simp [plM, List.range_succ]
theorem plM_len (n i : Nat) : (plM n i).length = i := by simp [plM]
theorem plM_one (n i : Nat) : ∀ p ∈ plM n i, p.rs = 1 := fun p hp => by
  obtain ⟨j, _, rfl⟩ := List.mem_map.1 hp
  rfl
theorem plM_fit (n i : Nat) (n1 : 1 ≤ n) (n2 : n ≤ 60) : ∀ p ∈ plM n i, p.fit := fun p hp => by
  obtain ⟨j, _, rfl⟩ := List.mem_map.1 hp
  have : j % n < n := Nat.mod_lt _ (by omega)
  simp only [pcB, Pc.fit, I64H]
  omega
set_option maxRecDepth 100000 in
set_option maxHeartbeats 16000000 in
theorem walk (w : World) (a0 : Option Addr) (len0 cap0 : Nat) (z0 : List Int) (w0 : IntArg w a0 len0 cap0 z0) (a1 : Option Addr) (len1 cap1 : Nat) (z1 : List Int) (w1 : IntArg w a1 len1 cap1 z1) (a2 : Int) (h2 : (Lit.int .i64 a2).wf = true) (a3 : Int) (h3 : (Lit.int .i64 a3).wf = true) :
    Calls Try.prog 8 #[.slice a0 len0 cap0, .slice a1 len1 cap1, .int .i64 a2, .int .i64 a3] w fun e w' => e = .returned (.bool true) ∧ Below w.heap.size w w' := by
  obtain ⟨hw, hwf, hw1, hw2, hw3⟩ := IntArg.take w0 60
  obtain ⟨hh, hhf, hh1, hh2, hh3⟩ := IntArg.take w1 100
  have HS := Lib.hid (fun X => shown16_any X)
  have hmin : min (len0 : Int) 60 = ((min len0 60 : Nat) : Int) := by omega
  have hmin1 : min (len1 : Int) 100 = ((min len1 100 : Nat) : Int) := by omega
  have hml : min len0 60 ≤ 60 := by omega
  have hml1 : min len1 100 ≤ 100 := by omega
  have hmc : min len0 60 ≤ cap0 := by omega
  have hmc1 : min len1 100 ≤ cap1 := by omega
  have hcs : (a0 = none ∧ min len0 60 = 0 ∧ cap0 = 0 ∧ len0 = 0) ∨ ∃ g off mm, a0 = some ⟨g, off, mm⟩ := by
    rcases hw3 with ⟨h1, h2, h3⟩ | h
    · exact .inl ⟨h1, by omega, h3, h2⟩
    · exact .inr h
  have hcs1 : (a1 = none ∧ min len1 100 = 0 ∧ cap1 = 0 ∧ len1 = 0) ∨ ∃ g off mm, a1 = some ⟨g, off, mm⟩ := by
    rcases hh3 with ⟨h1, h2, h3⟩ | h
    · exact .inl ⟨h1, by omega, h3, h2⟩
    · exact .inr h
  generalize min len0 60 = n at *
  generalize min len1 100 = m at *
  generalize z0.take 60 = ws at *
  generalize z1.take 100 = hs at *
  have HIW := Lib.hid (fun X (hX : Below w.heap.size w X) => hw.below hX)
  have HHA := Lib.hid (fun X (hX : Below w.heap.size w X) => (hh.below hX).ints)
  have HWL := Lib.hid hw.len
  have HHL := Lib.hid hh.len
  have hi2 := i64H h2
  have hi3 := i64H h3
  clear w0 w1 hw hwf hw1 hw2 hw3 hh hhf hh1 hh2 hh3 h2 h3
  by_cases hb : a2 < 0 ∨ a2 ≥ (n : Int) ∨ a3 < 0 ∨ a3 > 1125899906842623
  · have hcase : a2 < 0 ∨ (¬ a2 < 0 ∧ a2 ≥ (n : Int)) ∨ (¬ a2 < 0 ∧ ¬ a2 ≥ (n : Int) ∧ a3 < 0) ∨ (¬ a2 < 0 ∧ ¬ a2 ≥ (n : Int) ∧ ¬ a3 < 0 ∧ a3 > 1125899906842623) := by omega
    clear hb hi2 hi3 HIW HHA HWL HHL
    rcases hcs with ⟨rfl, rfl, rfl, rfl⟩ | ⟨g, off, mm, rfl⟩
    all_goals
      rcases hcs1 with ⟨rfl, rfl, rfl, rfl⟩ | ⟨g1, off1, mm1, rfl⟩
      all_goals
        rcases hcase with k1 | ⟨k1, k2⟩ | ⟨k1, k2, k3⟩ | ⟨k1, k2, k3, k4⟩
        all_goals
          first
          | (exfalso; omega)
          | (go_enter Try.func8, Try.ntmps8
             go_wp2_with fail
             refine (HS.out _).mono ?_
             rintro e wa ⟨rfl, ba⟩
             have BA := Lib.hid ba
             clear ba HS
             go_wp2
             go_ret
             exact ⟨by first | rfl | (simp; done), BA.out⟩)
  obtain ⟨r, rfl⟩ : ∃ r : Nat, a2 = (r : Int) := ⟨a2.toNat, by omega⟩
  have hrn : r < n := by omega
  have k1 : ¬ (r : Int) ≥ (n : Int) := by omega
  have k2 : ¬ a3 < 0 := by omega
  have k3 : ¬ a3 > 1125899906842623 := by omega
  obtain ⟨g, off, mm, rfl⟩ : ∃ g off mm, a0 = some ⟨g, off, mm⟩ := by
    rcases hcs with ⟨_, h, _⟩ | h
    · omega
    · exact h
  clear hcs hb hi2
  obtain ⟨zc, hzc, hmk⟩ : ∃ zc : Array Value, zc.size = 101 ∧ ∀ X : World, (Instr.makeSlice 22 (.int .i64 0) (.int .i64 101)).run Try.prog X = .ok (.slice (some ⟨X.heap.size, 0, none⟩) 0 101) (X.alloc (.cells zc 2)) := by
    obtain ⟨i0, hi, hz0, hz1, hz2⟩ := info_partsH Try.infoI64N
    refine ⟨_, ?_, fun X => run_make (P := Try.prog) X 22 2 i0 _ Try.underlying22 hi hz0 .i64 .i64 0 101 (by omega) (by omega) (by rw [hz2]; omega) (by omega)⟩
    rw [hz1]; simp [madeCells, Value.cells]
  have HZC := Lib.hid hzc
  clear hzc
  have hps1 := plM_len n m
  have HRR := Lib.hid (right_snoc (ws := ws) (ps := plM n m) (hs := hs) (gap := 0) (r := (r : Int)) (h := a3) (by rw [HHL.out, hps1]) (by omega) (by have := HWL.out; omega) (by omega) (by omega))
  have HLS := Lib.hid (fun hR => least_snoc (ws := ws) (ps := plM n m) (hs := hs) (gap := 0) (r := r) (h := a3) (by rw [HHL.out, hps1]) (plM_one n m) hR (by have := HWL.out; omega))
  have HFT := Lib.hid (plM_fit n m (by omega) hml)
  rcases hcs1 with ⟨rfl, rfl, rfl, rfl⟩ | ⟨g1, off1, mm1, rfl⟩
  ·
    go_enter Try.func8, Try.ntmps8
    go_wp2_with fail
    refine (HS.out _).mono ?_
    rintro e wa ⟨rfl, ba⟩
    have BA := Lib.hid ba
    have T0 := Lib.hid (TwoG.nil wa wa (Below.refl _ _))
    clear ba HS
    go_wp2
    try generalize decide (n ≤ r) = db
    go_loopw [10, 11] (fun s10 s11 X => ∃ (i : Nat) (v : Value), i ≤ 0 ∧ v = s10 ∧ s11 = .int .i64 (i : Int) ∧ Hid (TwoG wa wa.heap.size (plM n i) [] v (.slice none 0 0) X)) (fun _ s11 _ => 0 - (intOf s11).toNat)
    case atStart => exact ⟨0, _, Nat.zero_le _, rfl, rfl, T0⟩
    case round =>
      clear T0
      obtain ⟨i, v, hi, rfl, rfl, HT⟩ := hrel
      by_cases hlt : i < 0
      · exfalso; omega
      · obtain rfl : 0 = i := by omega
        have BW := BA.out.trans (HT.out.lo.mono BA.out.size)
        have BX := Lib.hid BW
        obtain ⟨p1, c1, hf1⟩ := own_formH HT.out.o1
        rw [hps1] at hf1
        have HV := Lib.hid hf1
        have C1 := Lib.hid (least_any (some ⟨g, off, mm⟩) p1 none n cap0 0 c1 0 0 ws (plM n 0) hs 0 wr (HIW.out wr BW) (by omega) (by rw [← hf1]; exact own_plcs HT.out.o1 (by omega)) hps1 (HHA.out wr BW) HHL.out (plc_fit HFT.out) (by omega) (by omega))
        rw [← hf1] at C1
        have HRL : Hid (leastR ws (plM n 0 ++ [pcB (r : Int)]) (hs ++ [a3]) 0 = leastR ws (plM n 0) hs 0) := Lib.hid (by
          unfold leastR
          rw [HRR.out, List.length_append, hps1]
          have e1 : decide (0 + [pcB (r : Int)].length ≤ 1000) = true := by first | (simp; done) | (simp; omega)
          have e2 : decide (0 ≤ 1000) = true := by first | (simp; done) | (simp; omega)
          rw [e1, e2])
        clear hf1 BW
        go_wp2_with fail
        refine C1.out.mono ?_
        rintro e w5 ⟨b5, hpost⟩
        -- what the first Least answered
        obtain ⟨va, ea, PBa, rfl, hpba, hfa, hrr⟩ : ∃ (va : Value) (ea : Int) (PBa : List (Nat × Obj)), e = .returned (.tuple #[va, .int .i64 ea]) ∧ (∀ q ∈ PBa, w5.heap[q.1]? = some q.2 ∧ wr.heap.size ≤ q.1) ∧ (∀ X : World, (∀ q ∈ PBa, X.heap[q.1]? = some q.2) → (ea = 0 ∧ (leastP ws (htZ (plM n 0) hs) 0).length = n ∧ ∃ G c, va = .slice (some ⟨G, 0, none⟩) n c ∧ ∀ j, j < n → X.cell? ⟨G, j, none⟩ = some (.int .i64 ((leastP ws (htZ (plM n 0) hs) 0)[j]?.getD 0))) ∨ (ea = 160 ∧ va = .slice none 0 0)) ∧ ((ea = 0 ∧ leastR ws (plM n 0) hs 0 = true) ∨ (ea = 160 ∧ leastR ws (plM n 0) hs 0 = false)) := by
          rcases hpost with ⟨hR, p5, c5, rfl, hn5, hl5, hp5⟩ | ⟨hno, rfl⟩
          · rw [HWL.out] at hp5 hn5 hl5
            obtain ⟨G, rfl, hG⟩ : ∃ G, p5 = some ⟨G, 0, none⟩ ∧ wr.heap.size ≤ G := by
              rcases hp5 with ⟨_, h0, _⟩ | h
              · omega
              · exact h
            obtain ⟨_, ⟨a', c', e, _, e2⟩ | ⟨b, off', c', e, _, _, hc⟩⟩ := hn5
            · rw [e2] at hl5; simp at hl5; omega
            · rw [hl5] at hc
              injection e with e1 e3 e4
              injection e1 with e1
              injection e1 with e1 e5 e6
              subst e1 e5
              have hlt := cell_lt (hc 0 (by omega))
              refine ⟨_, 0, [(G, w5.heap[G])], by rw [HWL.out], fun q hq => ?_, fun X hX => .inl ⟨rfl, hl5, G, c5, rfl, fun j hj => ?_⟩, .inl ⟨rfl, hR⟩⟩
              · obtain rfl : q = _ := by simpa using hq
                exact ⟨Array.getElem?_eq_getElem hlt, hG⟩
              · have h1 := hX (G, w5.heap[G]) (by simp)
                have h2 := hc j hj
                rw [Nat.zero_add] at h2
                exact (World.cell?_of_block (a := ⟨G, j, none⟩) (by rw [h1]; exact (Array.getElem?_eq_getElem hlt).symm)).trans h2
          · exact ⟨_, 160, [], rfl, fun q hq => by simp at hq, fun X _ => .inr ⟨rfl, rfl⟩, .inr ⟨rfl, hno⟩⟩
        have MS0 : Hid (MS wa wa.heap.size (plM n 0) [] v (.slice none 0 0) PBa w5) := Lib.hid ⟨HT.out.below b5, Nat.le_refl _, fun q hq => ⟨(hpba q hq).1, fun e => by have := (HT.out.o1.lt _ e).2; have := (hpba q hq).2; omega, fun e => by simp [Value.ownBlock] at e⟩⟩
        have HBB := BA
        obtain ⟨L, hL⟩ : ∃ L, leastP ws (htZ (plM n 0) hs) 0 = L := ⟨_, rfl⟩
        -- what the second is to answer
        have HLE2 : Hid (∀ X v1 v2 PB, MS wa wa.heap.size (plM n 0 ++ [pcB (r : Int)]) (hs ++ [a3]) v1 v2 PB X → Calls Try.prog 12 #[.slice (some ⟨g, off, mm⟩) n cap0, v1, v2, .int .i64 0] X fun e Y => ∃ vb fb, e = .returned (.tuple #[vb, .int .i64 fb]) ∧ (fb = ea ∧ (ea = 0 → ∃ G c, vb = .slice (some ⟨G, 0, none⟩) n c ∧ ∀ j, j < n → Y.cell? ⟨G, j, none⟩ = some (.int .i64 ((L.set r (max (L[r]?.getD 0) a3))[j]?.getD 0)))) ∧ Below X.heap.size X Y) := Lib.hid (fun X v1 v2 PB h => by
          have hX := BA.out.trans (h.lo.mono BA.out.size)
          have hl1 : (plM n 0 ++ [pcB (r : Int)]).length = 0 + 1 := by simp [hps1]
          have hl2 : (hs ++ [a3]).length = 0 + 1 := by simp [HHL.out]
          obtain ⟨p1, c1, hf1⟩ := own_formH h.g.o1
          obtain ⟨p2, c2, hf2⟩ := own_formH h.g.o2
          have P1 := own_plcs h.g.o1 (by omega)
          have P2 := own_intsH h.g.o2 (by omega)
          rw [hl1] at hf1
          rw [hl2] at hf2
          subst hf1 hf2
          refine (least_any (some ⟨g, off, mm⟩) p1 p2 n cap0 (0 + 1) c1 (0 + 1) c2 ws _ _ 0 X (HIW.out X hX) (by omega) P1 hl1 P2 hl2 (plc_fit (fun p hp => by
            rcases List.mem_append.1 hp with hp | hp
            · exact HFT.out p hp
            · obtain rfl : p = _ := by simpa using hp
              simp only [pcB, Pc.fit, I64H]; omega)) (by omega) (by omega)).mono ?_
          rintro e Y ⟨bY, ⟨hR, p5, c5, rfl, hn5, hl5, hp5⟩ | ⟨hno, rfl⟩⟩
          · rcases hrr with ⟨he, hr1⟩ | ⟨he, hr1⟩
            · rw [HLS.out (by unfold leastR at hR; rw [Bool.and_eq_true] at hR; exact hR.2), hL] at hn5 hl5
              rw [HWL.out] at hp5 hn5 hl5 ⊢
              obtain ⟨G, rfl, hG⟩ : ∃ G, p5 = some ⟨G, 0, none⟩ ∧ X.heap.size ≤ G := by
                rcases hp5 with ⟨_, h0, _⟩ | h
                · omega
                · exact h
              refine ⟨_, 0, rfl, ⟨he.symm, fun _ => ⟨G, c5, rfl, fun j hj => ?_⟩⟩, bY⟩
              obtain ⟨_, ⟨a', c', e, _, e2⟩ | ⟨b, off', c', e, _, _, hc⟩⟩ := hn5
              · rw [e2] at hl5; simp at hl5; omega
              · rw [hl5] at hc
                injection e with e1 e3 e4
                injection e1 with e1
                injection e1 with e1 e5 e6
                subst e1 e5
                have := hc j hj
                rwa [Nat.zero_add] at this
            · rw [HRL.out, hr1] at hR; cases hR
          · rcases hrr with ⟨he, hr1⟩ | ⟨he, hr1⟩
            · rw [HRL.out, hr1] at hno; cases hno
            · exact ⟨_, 160, rfl, ⟨he.symm, fun h => by omega⟩, bY⟩)
        rw [hL] at hfa
        have HFA := Lib.hid hfa
        have HPL := Lib.hid hps1
        clear hL hfa hrr hpba hpost b5 C1 HT HRR HLS HFT HRL HV BX
        go_wp2
        rename_i KK hKK
        obtain ⟨HT, -⟩ : Hid (∀ (x4 x5 x6 x7 x10 x11 x16 x17 x18 x19 x20 x21 x22 x23 x24 x25 x26 x27 x28 x29 x30 x31 x32 x33 x34 x35 x36 x37 x38 x39 x40 x41 x42 x43 x44 x45 x46 x47 x48 x49 x50 x51 x52 x53 x54 x55 x56 x57 x58 x59 x60 x61 x62 x63 x64 x65 x66 x67 x68 x69 x70 x71 x72 x73 x74 x75 x76 x77 x78 x79 x80 x81 x82 x83 x84 x85 x86 x87 x88 x89 x90 x91 x92 x93 x94 x95 x96 x97 x98 x99 x100 x101 x102 x103 x104 x105 x106 x107 x108 x109 x110 x111 x112 x113 x114 x115 x116 x117 x118 x119 x120 x121 x122 x123 x124 x125 x126 x127 x128 x129 x130 x131 x132 x133 x134 x135 x136 x137 vb : Value) (fb : Int) (X : World), Below wa.heap.size wa X → (∀ q ∈ PBa, X.heap[q.1]? = some q.2) → (fb = ea ∧ (ea = 0 → ∃ G c, vb = .slice (some ⟨G, 0, none⟩) n c ∧ ∀ j, j < n → X.cell? ⟨G, j, none⟩ = some (.int .i64 ((L.set r (max (L[r]?.getD 0) a3))[j]?.getD 0)))) → KK { tmps := #[.slice (some ⟨g, off, mm⟩) n cap0, .slice none 0 0, .int .i64 (r : Int), .int .i64 a3, x4, x5, x6, x7, .bool false, .bool true, x10, x11, va, .int .i64 ea, vb, .int .i64 fb, x16, x17, x18, x19, x20, x21, x22, x23, x24, x25, x26, x27, x28, x29, x30, x31, x32, x33, x34, x35, x36, x37, x38, x39, x40, x41, x42, x43, x44, x45, x46, x47, x48, x49, x50, x51, x52, x53, x54, x55, x56, x57, x58, x59, x60, x61, x62, x63, x64, x65, x66, x67, x68, x69, x70, x71, x72, x73, x74, x75, x76, x77, x78, x79, x80, x81, x82, x83, x84, x85, x86, x87, x88, x89, x90, x91, x92, x93, x94, x95, x96, x97, x98, x99, x100, x101, x102, x103, x104, x105, x106, x107, x108, x109, x110, x111, x112, x113, x114, x115, x116, x117, x118, x119, x120, x121, x122, x123, x124, x125, x126, x127, x128, x129, x130, x131, x132, x133, x134, x135, x136, x137], defers := [] } X) ∧ True := ⟨Lib.hid (by
          intro x4 x5 x6 x7 x10 x11 x16 x17 x18 x19 x20 x21 x22 x23 x24 x25 x26 x27 x28 x29 x30 x31 x32 x33 x34 x35 x36 x37 x38 x39 x40 x41 x42 x43 x44 x45 x46 x47 x48 x49 x50 x51 x52 x53 x54 x55 x56 x57 x58 x59 x60 x61 x62 x63 x64 x65 x66 x67 x68 x69 x70 x71 x72 x73 x74 x75 x76 x77 x78 x79 x80 x81 x82 x83 x84 x85 x86 x87 x88 x89 x90 x91 x92 x93 x94 x95 x96 x97 x98 x99 x100 x101 x102 x103 x104 x105 x106 x107 x108 x109 x110 x111 x112 x113 x114 x115 x116 x117 x118 x119 x120 x121 x122 x123 x124 x125 x126 x127 x128 x129 x130 x131 x132 x133 x134 x135 x136 x137 vb fb X hX hPB hP2
          refine hKK _ _ ?_
          clear hKK hmk HLE2 MS0 HZC HIW HHA
          have HBX := Lib.hid (BA.out.trans (hX.mono BA.out.size))
          have hf0 := HFA.out X hPB
          clear HFA hPB BA hX HBB
          obtain ⟨hfe, hb2⟩ := hP2
          subst hfe
          rcases hf0 with ⟨he, hLl, G, c, hva, hca⟩ | ⟨he, hva⟩
          · obtain ⟨G2, c2, hvb, hcb⟩ := hb2 he
            subst he hva hvb
            have HCA := Lib.hid hca
            have HCB := Lib.hid hcb
            have HLL := Lib.hid hLl
            clear hca hcb hLl hb2
            go_wp2
            go_loopw [16] (fun s16 Y => ∃ i : Nat, i ≤ n ∧ s16 = .int .i64 (i : Int) ∧ Hid (Below X.heap.size X Y)) (fun s16 _ => n - (intOf s16).toNat)
            case atStart => exact ⟨0, Nat.zero_le _, rfl, Lib.hid (Below.refl _ _)⟩
            case round =>
              obtain ⟨i, hi, rfl, HX⟩ := hrel
              by_cases hlt : i < n
              · have ca0 := HCA.out i hlt
                have cb0 := HCB.out i hlt
                have ca := (HX.out.cell (p := ⟨G, i, none⟩) (cell_lt ca0)).trans ca0
                have cb := (HX.out.cell (p := ⟨G2, i, none⟩) (cell_lt cb0)).trans cb0
                have la := cell_lt ca
                have lb := cell_lt cb
                clear ca0 cb0
                by_cases hir : i = r
                · subst hir
                  have hset : (L.set i (max (L[i]?.getD 0) a3))[i]?.getD 0 = max (L[i]?.getD 0) a3 := by
                    rw [List.getElem?_set_self (by rw [HLL.out]; exact hlt)]; rfl
                  rw [hset] at cb
                  generalize L[i]?.getD 0 = z at *
                  have d1 : ((i : Int) != (i : Int)) = false := by simp
                  have d2 : ((i : Int) == (i : Int)) = true := by simp
                  have d3 : (max z a3 != max z a3) = false := by simp
                  clear hset HCA HCB
                  go_wp2
                  go_quiet (fail)
                  go_wp2
                  go_roundw
                  case rel => exact ⟨i + 1, by omega, by go_num, Lib.hid (by first | exact HX.out.trans (below_dn _ _ _) | exact HX.out)⟩
                  case measure => simp [intOf]; omega
                · have hset : (L.set r (max (L[r]?.getD 0) a3))[i]?.getD 0 = L[i]?.getD 0 := by
                    rw [List.getElem?_set_ne (by omega)]
                  rw [hset] at cb
                  generalize L[i]?.getD 0 = z at *
                  have d1 : ((i : Int) != (r : Int)) = true := by simp; omega
                  have d2 : ((i : Int) == (r : Int)) = false := by simp; omega
                  have d3 : (z != z) = false := by simp
                  clear hset HCA HCB
                  go_wp2
                  go_quiet (fail)
                  go_wp2
                  go_roundw
                  case rel => exact ⟨i + 1, by omega, by go_num, Lib.hid (by first | exact HX.out.trans (below_dn _ _ _) | exact HX.out)⟩
                  case measure => simp [intOf]; omega
              · obtain rfl : n = i := by omega
                clear HCA HCB
                go_wp2
                go_ret
                exact ⟨by first | rfl | (simp; done), HBX.out.trans (HX.out.mono HBX.out.size)⟩
          · subst he hva
            clear hb2
            go_wp2
            go_ret
            exact ⟨by first | rfl | (simp; done), HBX.out⟩), trivial⟩
        refine region_held_atC (S := fun X => Hid (Below wa.heap.size wa X)) (by kernel_rfl) (fun w9 hw9 => ?_)
        obtain ⟨B, hB⟩ : ∃ B, wa.heap.size = B := ⟨_, rfl⟩
        have SV : Hid (MS wa B (plM n 0) [] v (.slice none 0 0) PBa w9) := Lib.hid (by
          rw [← hB, ← hw9]; exact MS0.out.below (Below.refl _ _).drew)
        rw [hB] at HLE2
        clear hw9 hB MS0
        try simp only [Act.put, List.setIfInBounds_toArray, List.set_cons_succ, List.set_cons_zero]
        refine wpAnyH_takeC (i := 0) (v := .slice (some ⟨g, off, mm⟩) n cap0) (some 67) rfl rfl (by kernel_rfl) (by kernel_rfl) (by kernel_rfl) (fun _ _ _ h => h) (Or.inl ⟨by rfl, fun X hX => by go_simp <;> (first | omega | decide | simp)⟩) (Lib.hid SV.out.lo) ?_
        try simp only [Act.put, List.setIfInBounds_toArray, List.set_cons_succ, List.set_cons_zero]
        refine wpAnyH_takeC (i := 1) (v := v) (some 68) rfl rfl (by kernel_rfl) (by kernel_rfl) (by kernel_rfl) (fun _ _ _ h => h) (Or.inl ⟨by rfl, fun X hX => by go_simp <;> (first | omega | decide | simp)⟩) (Lib.hid SV.out.lo) ?_
        try simp only [Act.put, List.setIfInBounds_toArray, List.set_cons_succ, List.set_cons_zero]
        refine wpAnyH_takeC (i := 2) (v := .int .i64 (r : Int)) (some 69) rfl rfl (by kernel_rfl) (by kernel_rfl) (by kernel_rfl) (fun _ _ _ h => h) (Or.inl ⟨by rfl, fun X hX => by go_simp <;> (first | omega | decide | simp)⟩) (Lib.hid SV.out.lo) ?_
        try simp only [Act.put, List.setIfInBounds_toArray, List.set_cons_succ, List.set_cons_zero]
        refine wpAnyH_takeC (i := 3) (v := .agg #[.int .i64 0, .int .i64 (r : Int), .int .i64 0, .int .i64 1, .int .i64 1]) (some 70) rfl rfl (by kernel_rfl) (by kernel_rfl) (by kernel_rfl) (fun _ _ _ h => h) (Or.inl ⟨by rfl, fun X hX => by go_simp <;> (first | omega | decide | simp)⟩) (Lib.hid SV.out.lo) ?_
        try simp only [Act.put, List.setIfInBounds_toArray, List.set_cons_succ, List.set_cons_zero]
        refine wpAnyH_takeC (i := 7) (v := .slice none 0 0) (some 74) rfl rfl (by kernel_rfl) (by kernel_rfl) (by kernel_rfl) (fun _ _ _ h => h) (Or.inl ⟨by rfl, fun X hX => by go_simp <;> (first | omega | decide | simp)⟩) (Lib.hid SV.out.lo) ?_
        try simp only [Act.put, List.setIfInBounds_toArray, List.set_cons_succ, List.set_cons_zero]
        refine wpAnyH_takeC (i := 9) (v := .int .i64 a3) (some 76) rfl rfl (by kernel_rfl) (by kernel_rfl) (by kernel_rfl) (fun _ _ _ h => h) (Or.inl ⟨by rfl, fun X hX => by go_simp <;> (first | omega | decide | simp)⟩) (Lib.hid SV.out.lo) ?_
        try simp only [Act.put, List.setIfInBounds_toArray, List.set_cons_succ, List.set_cons_zero]
        refine wpAnyH_all (rs := [4, 6, 10]) (by kernel_rfl) (by simp) ?_
        intro ii hii
        rcases (show ii = 4 ∨ ii = 6 ∨ ii = 10 by simpa using hii) with rfl | rfl | rfl
        · clear hii
          refine wpOp_step rfl (fun K hK => ?_)
          go_simp
          have SX := Lib.hid (SV.out.put 35 [.int .i64 0, .int .i64 (r : Int), .int .i64 0, .int .i64 1, .int .i64 1])
          refine hK _ _ ⟨Lib.hid SX.out.lo, ?_⟩
          clear hK K SV
          obtain ⟨gP1, hgP⟩ : ∃ g, (World.heap w9).size = g := ⟨_, rfl⟩
          rw [hgP] at SX ⊢
          clear hgP
          have SV := SX
          clear SX
          generalize World.alloc w9 _ = x1 at SV ⊢
          try simp only [Act.put, List.setIfInBounds_toArray, List.set_cons_succ, List.set_cons_zero]
          refine wpAnyH_all (rs := [5, 6, 10]) (by kernel_rfl) (by simp) ?_
          intro ii hii
          rcases (show ii = 5 ∨ ii = 6 ∨ ii = 10 by simpa using hii) with rfl | rfl | rfl
          · clear hii
            refine wpOp_step rfl (fun K hK => ?_)
            have hB := (SV.out.pb (gP1, .cells #[.int .i64 0, .int .i64 (r : Int), .int .i64 0, .int .i64 1, .int .i64 1] 35 (0, 0)) (by simp)).1
            obtain ⟨vA2, x2, hr, ho, hg, hat⟩ := append_plcH x1 B 23 v _ _ SV.out.g.o1 gP1 (pcB r) (show Whole _ gP1 35 (pcB r).cells from hB) (by rw [HPL.out]; omega) SV.out.g.sz
            have SX := Lib.hid (SV.out.app1 ho hg hat)
            refine wp_append_runH (some 72) rfl _ _ _ rfl v _ vA2 rfl rfl hr ?_
            refine hK _ _ ⟨Lib.hid SX.out.lo, ?_⟩
            clear hK K SV
            clear hr ho hg hat hB
            have SV := SX
            clear SX
            try simp only [Act.put, List.setIfInBounds_toArray, List.set_cons_succ, List.set_cons_zero]
            refine wpAnyH_all (rs := [6, 10]) (by kernel_rfl) (by simp) ?_
            intro ii hii
            rcases (show ii = 6 ∨ ii = 10 by simpa using hii) with rfl | rfl
            · clear hii
              refine wpOp_step rfl (fun K hK => ?_)
              go_simp
              have SX := Lib.hid (SV.out.made zc 101 HZC.out (by unfold maxLen; omega))
              refine hK _ _ ⟨Lib.hid SX.out.lo, ?_⟩
              clear hK K SV
              obtain ⟨vM3, hvM⟩ : ∃ vv, Value.slice (some ⟨(World.heap x2).size, 0, none⟩) 0 101 = vv := ⟨_, rfl⟩
              rw [hvM] at SX ⊢
              clear hvM
              have SV := SX
              clear SX
              generalize World.alloc x2 (.cells zc 2) = x3 at SV ⊢
              try simp only [Act.put, List.setIfInBounds_toArray, List.set_cons_succ, List.set_cons_zero]
              refine wpAnyH_all (rs := [8, 10]) (by kernel_rfl) (by simp) ?_
              intro ii hii
              rcases (show ii = 8 ∨ ii = 10 by simpa using hii) with rfl | rfl
              · clear hii
                refine wpOp_step rfl (fun K hK => ?_)
                obtain ⟨vB4, x4, hr, ho, hg, hat⟩ := append_intsH x3 B 22 vM3 _ _ SV.out.g.o2 none 0 0 hs (HHA.out _ (HBB.out.trans (SV.out.lo.mono HBB.out.size))) HHL.out (by first | (simp; done) | (simp; omega)) SV.out.g.sz
                have SX := Lib.hid (SV.out.app2 (zs := hs) (by rw [HHL.out]; exact ho) hg hat)
                refine wp_append_runH (some 75) rfl _ _ _ rfl vM3 _ vB4 rfl rfl hr ?_
                refine hK _ _ ⟨Lib.hid SX.out.lo, ?_⟩
                clear hK K SV
                clear hr ho hg hat
                have SV := SX
                clear SX
                try simp only [Act.put, List.setIfInBounds_toArray, List.set_cons_succ, List.set_cons_zero]
                refine wpAnyH_all (rs := [10]) (by kernel_rfl) (by simp) ?_
                intro ii hii
                obtain rfl : ii = 10 := by simpa using hii
                clear hii
                refine wpOp_step rfl (fun K hK => ?_)
                go_simp
                have SX := Lib.hid (SV.out.put 2 [.int .i64 a3])
                refine hK _ _ ⟨Lib.hid SX.out.lo, ?_⟩
                clear hK K SV
                obtain ⟨gH5, hgH⟩ : ∃ g, (World.heap x4).size = g := ⟨_, rfl⟩
                rw [hgH] at SX ⊢
                clear hgH
                have SV := SX
                clear SX
                generalize World.alloc x4 _ = x5 at SV ⊢
                try simp only [Act.put, List.setIfInBounds_toArray, List.set_cons_succ, List.set_cons_zero]
                refine wpAnyH_all (rs := [11]) (by kernel_rfl) (by simp) ?_
                intro ii hii
                obtain rfl : ii = 11 := by simpa using hii
                clear hii
                refine wpOp_step rfl (fun K hK => ?_)
                have hB := (SV.out.pb (gH5, .cells #[.int .i64 a3] 2 (0, 0)) (by simp)).1
                obtain ⟨vC6, x6, hr, ho, hg, hat⟩ := append_intsH x5 B 22 vB4 _ _ SV.out.g.o2 (some ⟨gH5, 0, none⟩) 1 1 [a3] (Ints.whole (n := 1) (show Whole _ gH5 2 ([a3].map (Value.int .i64)) from hB) rfl (by omega)) rfl (by simp; have := HHL.out; omega) SV.out.g.sz
                have SX := Lib.hid (SV.out.app2 (zs := [a3]) ho hg hat)
                refine wp_append_runH (some 78) rfl _ _ _ rfl vB4 _ vC6 rfl rfl hr ?_
                refine hK _ _ ⟨Lib.hid SX.out.lo, ?_⟩
                clear hK K SV
                clear hr ho hg hat hB
                have SV := SX
                clear SX
                try simp only [Act.put, List.setIfInBounds_toArray, List.set_cons_succ, List.set_cons_zero]
                refine wpAnyH_all (rs := [12]) (by kernel_rfl) (by simp) ?_
                intro ii hii
                obtain rfl : ii = 12 := by simpa using hii
                clear hii
                refine wpOp_step rfl (fun K hK => ?_)
                go_simp
                refine (HLE2.out _ vA2 vC6 _ SV.out).mono ?_
                rintro e x7 ⟨vb, fb, rfl, hp2, hb6⟩
                have SX := Lib.hid (SV.out.below hb6)
                have PX := Lib.hid hp2
                refine hK _ _ ⟨Lib.hid SX.out.lo, ?_⟩
                clear hK K SV
                clear hp2 hb6
                have SV := SX
                clear SX
                try simp only [Act.put, List.setIfInBounds_toArray, List.set_cons_succ, List.set_cons_zero]
                refine wpAnyH_takeC (i := 13) (v := .tuple #[vb, .int .i64 fb]) (some 66) rfl rfl (by kernel_rfl) (by kernel_rfl) (by kernel_rfl) (fun _ _ _ h => h) (Or.inl ⟨by rfl, fun X hX => by go_simp <;> (first | omega | decide | simp)⟩) (Lib.hid SV.out.lo) ?_
                try simp only [Act.put, List.setIfInBounds_toArray, List.set_cons_succ, List.set_cons_zero]
                refine wpAnyH_takeC (i := 14) (v := vb) (some 80) rfl rfl (by kernel_rfl) (by kernel_rfl) (by kernel_rfl) (fun _ _ _ h => h) (Or.inl ⟨by rfl, fun X hX => by go_simp <;> (first | omega | decide | simp)⟩) (Lib.hid SV.out.lo) ?_
                try simp only [Act.put, List.setIfInBounds_toArray, List.set_cons_succ, List.set_cons_zero]
                refine wpAnyH_takeC (i := 15) (v := .int .i64 fb) (some 81) rfl rfl (by kernel_rfl) (by kernel_rfl) (by kernel_rfl) (fun _ _ _ h => h) (Or.inl ⟨by rfl, fun X hX => by go_simp <;> (first | omega | decide | simp)⟩) (Lib.hid SV.out.lo) ?_
                try simp only [Act.put, List.setIfInBounds_toArray, List.set_cons_succ, List.set_cons_zero]
                refine wpAnyH_takeC (i := 16) (v := vb) (some 14) rfl rfl (by kernel_rfl) (by kernel_rfl) (by kernel_rfl) (fun _ _ _ h => h) (Or.inl ⟨by rfl, fun X hX => by go_simp <;> (first | omega | decide | simp)⟩) (Lib.hid SV.out.lo) ?_
                try simp only [Act.put, List.setIfInBounds_toArray, List.set_cons_succ, List.set_cons_zero]
                refine wpAnyH_takeC (i := 17) (v := .int .i64 fb) (some 15) rfl rfl (by kernel_rfl) (by kernel_rfl) (by kernel_rfl) (fun _ _ _ h => h) (Or.inl ⟨by rfl, fun X hX => by go_simp <;> (first | omega | decide | simp)⟩) (Lib.hid SV.out.lo) ?_
                try simp only [Act.put, List.setIfInBounds_toArray, List.set_cons_succ, List.set_cons_zero]
                refine wpAnyH_done (by kernel_rfl) ?_ _
                simp only [Exit.then]
                exact HT.out _ _ _ _ _ _ _ _ _ _ _ _ _ _ _ _ _ _ _ _ _ _ _ _ _ _ _ _ _ _ _ _ _ _ _ _ _ _ _ _ _ _ _ _ _ _ _ _ _ _ _ _ _ _ _ _ _ _ _ _ _ _ _ _ _ _ _ _ _ _ _ _ _ _ _ _ _ _ _ _ _ _ _ _ _ _ _ _ _ _ _ _ _ _ _ _ _ _ _ _ _ _ _ _ _ _ _ _ _ _ _ _ _ _ _ _ _ _ _ _ _ _ _ _ _ _ _ _ vb fb _ SV.out.lo (fun q hq => (SV.out.pb q (by simp [hq])).1) PX.out
              · clear hii
                refine wpOp_step rfl (fun K hK => ?_)
                go_simp
                have SX := Lib.hid (SV.out.put 2 [.int .i64 a3])
                refine hK _ _ ⟨Lib.hid SX.out.lo, ?_⟩
                clear hK K SV
                obtain ⟨gH8, hgH⟩ : ∃ g, (World.heap x3).size = g := ⟨_, rfl⟩
                rw [hgH] at SX ⊢
                clear hgH
                have SV := SX
                clear SX
                generalize World.alloc x3 _ = x8 at SV ⊢
                try simp only [Act.put, List.setIfInBounds_toArray, List.set_cons_succ, List.set_cons_zero]
                refine wpAnyH_all (rs := [8]) (by kernel_rfl) (by simp) ?_
                intro ii hii
                obtain rfl : ii = 8 := by simpa using hii
                clear hii
                refine wpOp_step rfl (fun K hK => ?_)
                obtain ⟨vB9, x9, hr, ho, hg, hat⟩ := append_intsH x8 B 22 vM3 _ _ SV.out.g.o2 none 0 0 hs (HHA.out _ (HBB.out.trans (SV.out.lo.mono HBB.out.size))) HHL.out (by first | (simp; done) | (simp; omega)) SV.out.g.sz
                have SX := Lib.hid (SV.out.app2 (zs := hs) (by rw [HHL.out]; exact ho) hg hat)
                refine wp_append_runH (some 75) rfl _ _ _ rfl vM3 _ vB9 rfl rfl hr ?_
                refine hK _ _ ⟨Lib.hid SX.out.lo, ?_⟩
                clear hK K SV
                clear hr ho hg hat
                have SV := SX
                clear SX
                try simp only [Act.put, List.setIfInBounds_toArray, List.set_cons_succ, List.set_cons_zero]
                refine wpAnyH_all (rs := [11]) (by kernel_rfl) (by simp) ?_
                intro ii hii
                obtain rfl : ii = 11 := by simpa using hii
                clear hii
                refine wpOp_step rfl (fun K hK => ?_)
                have hB := (SV.out.pb (gH8, .cells #[.int .i64 a3] 2 (0, 0)) (by simp)).1
                obtain ⟨vC10, x10, hr, ho, hg, hat⟩ := append_intsH x9 B 22 vB9 _ _ SV.out.g.o2 (some ⟨gH8, 0, none⟩) 1 1 [a3] (Ints.whole (n := 1) (show Whole _ gH8 2 ([a3].map (Value.int .i64)) from hB) rfl (by omega)) rfl (by simp; have := HHL.out; omega) SV.out.g.sz
                have SX := Lib.hid (SV.out.app2 (zs := [a3]) ho hg hat)
                refine wp_append_runH (some 78) rfl _ _ _ rfl vB9 _ vC10 rfl rfl hr ?_
                refine hK _ _ ⟨Lib.hid SX.out.lo, ?_⟩
                clear hK K SV
                clear hr ho hg hat hB
                have SV := SX
                clear SX
                try simp only [Act.put, List.setIfInBounds_toArray, List.set_cons_succ, List.set_cons_zero]
                refine wpAnyH_all (rs := [12]) (by kernel_rfl) (by simp) ?_
                intro ii hii
                obtain rfl : ii = 12 := by simpa using hii
                clear hii
                refine wpOp_step rfl (fun K hK => ?_)
                go_simp
                refine (HLE2.out _ vA2 vC10 _ SV.out).mono ?_
                rintro e x11 ⟨vb, fb, rfl, hp2, hb6⟩
                have SX := Lib.hid (SV.out.below hb6)
                have PX := Lib.hid hp2
                refine hK _ _ ⟨Lib.hid SX.out.lo, ?_⟩
                clear hK K SV
                clear hp2 hb6
                have SV := SX
                clear SX
                try simp only [Act.put, List.setIfInBounds_toArray, List.set_cons_succ, List.set_cons_zero]
                refine wpAnyH_takeC (i := 13) (v := .tuple #[vb, .int .i64 fb]) (some 66) rfl rfl (by kernel_rfl) (by kernel_rfl) (by kernel_rfl) (fun _ _ _ h => h) (Or.inl ⟨by rfl, fun X hX => by go_simp <;> (first | omega | decide | simp)⟩) (Lib.hid SV.out.lo) ?_
                try simp only [Act.put, List.setIfInBounds_toArray, List.set_cons_succ, List.set_cons_zero]
                refine wpAnyH_takeC (i := 14) (v := vb) (some 80) rfl rfl (by kernel_rfl) (by kernel_rfl) (by kernel_rfl) (fun _ _ _ h => h) (Or.inl ⟨by rfl, fun X hX => by go_simp <;> (first | omega | decide | simp)⟩) (Lib.hid SV.out.lo) ?_
                try simp only [Act.put, List.setIfInBounds_toArray, List.set_cons_succ, List.set_cons_zero]
                refine wpAnyH_takeC (i := 15) (v := .int .i64 fb) (some 81) rfl rfl (by kernel_rfl) (by kernel_rfl) (by kernel_rfl) (fun _ _ _ h => h) (Or.inl ⟨by rfl, fun X hX => by go_simp <;> (first | omega | decide | simp)⟩) (Lib.hid SV.out.lo) ?_
                try simp only [Act.put, List.setIfInBounds_toArray, List.set_cons_succ, List.set_cons_zero]
                refine wpAnyH_takeC (i := 16) (v := vb) (some 14) rfl rfl (by kernel_rfl) (by kernel_rfl) (by kernel_rfl) (fun _ _ _ h => h) (Or.inl ⟨by rfl, fun X hX => by go_simp <;> (first | omega | decide | simp)⟩) (Lib.hid SV.out.lo) ?_
                try simp only [Act.put, List.setIfInBounds_toArray, List.set_cons_succ, List.set_cons_zero]
                refine wpAnyH_takeC (i := 17) (v := .int .i64 fb) (some 15) rfl rfl (by kernel_rfl) (by kernel_rfl) (by kernel_rfl) (fun _ _ _ h => h) (Or.inl ⟨by rfl, fun X hX => by go_simp <;> (first | omega | decide | simp)⟩) (Lib.hid SV.out.lo) ?_
                try simp only [Act.put, List.setIfInBounds_toArray, List.set_cons_succ, List.set_cons_zero]
                refine wpAnyH_done (by kernel_rfl) ?_ _
                simp only [Exit.then]
                exact HT.out _ _ _ _ _ _ _ _ _ _ _ _ _ _ _ _ _ _ _ _ _ _ _ _ _ _ _ _ _ _ _ _ _ _ _ _ _ _ _ _ _ _ _ _ _ _ _ _ _ _ _ _ _ _ _ _ _ _ _ _ _ _ _ _ _ _ _ _ _ _ _ _ _ _ _ _ _ _ _ _ _ _ _ _ _ _ _ _ _ _ _ _ _ _ _ _ _ _ _ _ _ _ _ _ _ _ _ _ _ _ _ _ _ _ _ _ _ _ _ _ _ _ _ _ _ _ _ _ vb fb _ SV.out.lo (fun q hq => (SV.out.pb q (by simp [hq])).1) PX.out
            · clear hii
              refine wpOp_step rfl (fun K hK => ?_)
              go_simp
              have SX := Lib.hid (SV.out.put 2 [.int .i64 a3])
              refine hK _ _ ⟨Lib.hid SX.out.lo, ?_⟩
              clear hK K SV
              obtain ⟨gH12, hgH⟩ : ∃ g, (World.heap x2).size = g := ⟨_, rfl⟩
              rw [hgH] at SX ⊢
              clear hgH
              have SV := SX
              clear SX
              generalize World.alloc x2 _ = x12 at SV ⊢
              try simp only [Act.put, List.setIfInBounds_toArray, List.set_cons_succ, List.set_cons_zero]
              refine wpAnyH_all (rs := [6]) (by kernel_rfl) (by simp) ?_
              intro ii hii
              obtain rfl : ii = 6 := by simpa using hii
              clear hii
              refine wpOp_step rfl (fun K hK => ?_)
              go_simp
              have SX := Lib.hid (SV.out.made zc 101 HZC.out (by unfold maxLen; omega))
              refine hK _ _ ⟨Lib.hid SX.out.lo, ?_⟩
              clear hK K SV
              obtain ⟨vM13, hvM⟩ : ∃ vv, Value.slice (some ⟨(World.heap x12).size, 0, none⟩) 0 101 = vv := ⟨_, rfl⟩
              rw [hvM] at SX ⊢
              clear hvM
              have SV := SX
              clear SX
              generalize World.alloc x12 (.cells zc 2) = x13 at SV ⊢
              try simp only [Act.put, List.setIfInBounds_toArray, List.set_cons_succ, List.set_cons_zero]
              refine wpAnyH_all (rs := [8]) (by kernel_rfl) (by simp) ?_
              intro ii hii
              obtain rfl : ii = 8 := by simpa using hii
              clear hii
              refine wpOp_step rfl (fun K hK => ?_)
              obtain ⟨vB14, x14, hr, ho, hg, hat⟩ := append_intsH x13 B 22 vM13 _ _ SV.out.g.o2 none 0 0 hs (HHA.out _ (HBB.out.trans (SV.out.lo.mono HBB.out.size))) HHL.out (by first | (simp; done) | (simp; omega)) SV.out.g.sz
              have SX := Lib.hid (SV.out.app2 (zs := hs) (by rw [HHL.out]; exact ho) hg hat)
              refine wp_append_runH (some 75) rfl _ _ _ rfl vM13 _ vB14 rfl rfl hr ?_
              refine hK _ _ ⟨Lib.hid SX.out.lo, ?_⟩
              clear hK K SV
              clear hr ho hg hat
              have SV := SX
              clear SX
              try simp only [Act.put, List.setIfInBounds_toArray, List.set_cons_succ, List.set_cons_zero]
              refine wpAnyH_all (rs := [11]) (by kernel_rfl) (by simp) ?_
              intro ii hii
              obtain rfl : ii = 11 := by simpa using hii
              clear hii
              refine wpOp_step rfl (fun K hK => ?_)
              have hB := (SV.out.pb (gH12, .cells #[.int .i64 a3] 2 (0, 0)) (by simp)).1
              obtain ⟨vC15, x15, hr, ho, hg, hat⟩ := append_intsH x14 B 22 vB14 _ _ SV.out.g.o2 (some ⟨gH12, 0, none⟩) 1 1 [a3] (Ints.whole (n := 1) (show Whole _ gH12 2 ([a3].map (Value.int .i64)) from hB) rfl (by omega)) rfl (by simp; have := HHL.out; omega) SV.out.g.sz
              have SX := Lib.hid (SV.out.app2 (zs := [a3]) ho hg hat)
              refine wp_append_runH (some 78) rfl _ _ _ rfl vB14 _ vC15 rfl rfl hr ?_
              refine hK _ _ ⟨Lib.hid SX.out.lo, ?_⟩
              clear hK K SV
              clear hr ho hg hat hB
              have SV := SX
              clear SX
              try simp only [Act.put, List.setIfInBounds_toArray, List.set_cons_succ, List.set_cons_zero]
              refine wpAnyH_all (rs := [12]) (by kernel_rfl) (by simp) ?_
              intro ii hii
              obtain rfl : ii = 12 := by simpa using hii
              clear hii
              refine wpOp_step rfl (fun K hK => ?_)
              go_simp
              refine (HLE2.out _ vA2 vC15 _ SV.out).mono ?_
              rintro e x16 ⟨vb, fb, rfl, hp2, hb6⟩
              have SX := Lib.hid (SV.out.below hb6)
              have PX := Lib.hid hp2
              refine hK _ _ ⟨Lib.hid SX.out.lo, ?_⟩
              clear hK K SV
              clear hp2 hb6
              have SV := SX
              clear SX
              try simp only [Act.put, List.setIfInBounds_toArray, List.set_cons_succ, List.set_cons_zero]
              refine wpAnyH_takeC (i := 13) (v := .tuple #[vb, .int .i64 fb]) (some 66) rfl rfl (by kernel_rfl) (by kernel_rfl) (by kernel_rfl) (fun _ _ _ h => h) (Or.inl ⟨by rfl, fun X hX => by go_simp <;> (first | omega | decide | simp)⟩) (Lib.hid SV.out.lo) ?_
              try simp only [Act.put, List.setIfInBounds_toArray, List.set_cons_succ, List.set_cons_zero]
              refine wpAnyH_takeC (i := 14) (v := vb) (some 80) rfl rfl (by kernel_rfl) (by kernel_rfl) (by kernel_rfl) (fun _ _ _ h => h) (Or.inl ⟨by rfl, fun X hX => by go_simp <;> (first | omega | decide | simp)⟩) (Lib.hid SV.out.lo) ?_
              try simp only [Act.put, List.setIfInBounds_toArray, List.set_cons_succ, List.set_cons_zero]
              refine wpAnyH_takeC (i := 15) (v := .int .i64 fb) (some 81) rfl rfl (by kernel_rfl) (by kernel_rfl) (by kernel_rfl) (fun _ _ _ h => h) (Or.inl ⟨by rfl, fun X hX => by go_simp <;> (first | omega | decide | simp)⟩) (Lib.hid SV.out.lo) ?_
              try simp only [Act.put, List.setIfInBounds_toArray, List.set_cons_succ, List.set_cons_zero]
              refine wpAnyH_takeC (i := 16) (v := vb) (some 14) rfl rfl (by kernel_rfl) (by kernel_rfl) (by kernel_rfl) (fun _ _ _ h => h) (Or.inl ⟨by rfl, fun X hX => by go_simp <;> (first | omega | decide | simp)⟩) (Lib.hid SV.out.lo) ?_
              try simp only [Act.put, List.setIfInBounds_toArray, List.set_cons_succ, List.set_cons_zero]
              refine wpAnyH_takeC (i := 17) (v := .int .i64 fb) (some 15) rfl rfl (by kernel_rfl) (by kernel_rfl) (by kernel_rfl) (fun _ _ _ h => h) (Or.inl ⟨by rfl, fun X hX => by go_simp <;> (first | omega | decide | simp)⟩) (Lib.hid SV.out.lo) ?_
              try simp only [Act.put, List.setIfInBounds_toArray, List.set_cons_succ, List.set_cons_zero]
              refine wpAnyH_done (by kernel_rfl) ?_ _
              simp only [Exit.then]
              exact HT.out _ _ _ _ _ _ _ _ _ _ _ _ _ _ _ _ _ _ _ _ _ _ _ _ _ _ _ _ _ _ _ _ _ _ _ _ _ _ _ _ _ _ _ _ _ _ _ _ _ _ _ _ _ _ _ _ _ _ _ _ _ _ _ _ _ _ _ _ _ _ _ _ _ _ _ _ _ _ _ _ _ _ _ _ _ _ _ _ _ _ _ _ _ _ _ _ _ _ _ _ _ _ _ _ _ _ _ _ _ _ _ _ _ _ _ _ _ _ _ _ _ _ _ _ _ _ _ _ vb fb _ SV.out.lo (fun q hq => (SV.out.pb q (by simp [hq])).1) PX.out
          · clear hii
            refine wpOp_step rfl (fun K hK => ?_)
            go_simp
            have SX := Lib.hid (SV.out.made zc 101 HZC.out (by unfold maxLen; omega))
            refine hK _ _ ⟨Lib.hid SX.out.lo, ?_⟩
            clear hK K SV
            obtain ⟨vM17, hvM⟩ : ∃ vv, Value.slice (some ⟨(World.heap x1).size, 0, none⟩) 0 101 = vv := ⟨_, rfl⟩
            rw [hvM] at SX ⊢
            clear hvM
            have SV := SX
            clear SX
            generalize World.alloc x1 (.cells zc 2) = x17 at SV ⊢
            try simp only [Act.put, List.setIfInBounds_toArray, List.set_cons_succ, List.set_cons_zero]
            refine wpAnyH_all (rs := [5, 10]) (by kernel_rfl) (by simp) ?_
            intro ii hii
            rcases (show ii = 5 ∨ ii = 10 by simpa using hii) with rfl | rfl
            · clear hii
              refine wpOp_step rfl (fun K hK => ?_)
              have hB := (SV.out.pb (gP1, .cells #[.int .i64 0, .int .i64 (r : Int), .int .i64 0, .int .i64 1, .int .i64 1] 35 (0, 0)) (by simp)).1
              obtain ⟨vA18, x18, hr, ho, hg, hat⟩ := append_plcH x17 B 23 v _ _ SV.out.g.o1 gP1 (pcB r) (show Whole _ gP1 35 (pcB r).cells from hB) (by rw [HPL.out]; omega) SV.out.g.sz
              have SX := Lib.hid (SV.out.app1 ho hg hat)
              refine wp_append_runH (some 72) rfl _ _ _ rfl v _ vA18 rfl rfl hr ?_
              refine hK _ _ ⟨Lib.hid SX.out.lo, ?_⟩
              clear hK K SV
              clear hr ho hg hat hB
              have SV := SX
              clear SX
              try simp only [Act.put, List.setIfInBounds_toArray, List.set_cons_succ, List.set_cons_zero]
              refine wpAnyH_all (rs := [8, 10]) (by kernel_rfl) (by simp) ?_
              intro ii hii
              rcases (show ii = 8 ∨ ii = 10 by simpa using hii) with rfl | rfl
              · clear hii
                refine wpOp_step rfl (fun K hK => ?_)
                obtain ⟨vB19, x19, hr, ho, hg, hat⟩ := append_intsH x18 B 22 vM17 _ _ SV.out.g.o2 none 0 0 hs (HHA.out _ (HBB.out.trans (SV.out.lo.mono HBB.out.size))) HHL.out (by first | (simp; done) | (simp; omega)) SV.out.g.sz
                have SX := Lib.hid (SV.out.app2 (zs := hs) (by rw [HHL.out]; exact ho) hg hat)
                refine wp_append_runH (some 75) rfl _ _ _ rfl vM17 _ vB19 rfl rfl hr ?_
                refine hK _ _ ⟨Lib.hid SX.out.lo, ?_⟩
                clear hK K SV
                clear hr ho hg hat
                have SV := SX
                clear SX
                try simp only [Act.put, List.setIfInBounds_toArray, List.set_cons_succ, List.set_cons_zero]
                refine wpAnyH_all (rs := [10]) (by kernel_rfl) (by simp) ?_
                intro ii hii
                obtain rfl : ii = 10 := by simpa using hii
                clear hii
                refine wpOp_step rfl (fun K hK => ?_)
                go_simp
                have SX := Lib.hid (SV.out.put 2 [.int .i64 a3])
                refine hK _ _ ⟨Lib.hid SX.out.lo, ?_⟩
                clear hK K SV
                obtain ⟨gH20, hgH⟩ : ∃ g, (World.heap x19).size = g := ⟨_, rfl⟩
                rw [hgH] at SX ⊢
                clear hgH
                have SV := SX
                clear SX
                generalize World.alloc x19 _ = x20 at SV ⊢
                try simp only [Act.put, List.setIfInBounds_toArray, List.set_cons_succ, List.set_cons_zero]
                refine wpAnyH_all (rs := [11]) (by kernel_rfl) (by simp) ?_
                intro ii hii
                obtain rfl : ii = 11 := by simpa using hii
                clear hii
                refine wpOp_step rfl (fun K hK => ?_)
                have hB := (SV.out.pb (gH20, .cells #[.int .i64 a3] 2 (0, 0)) (by simp)).1
                obtain ⟨vC21, x21, hr, ho, hg, hat⟩ := append_intsH x20 B 22 vB19 _ _ SV.out.g.o2 (some ⟨gH20, 0, none⟩) 1 1 [a3] (Ints.whole (n := 1) (show Whole _ gH20 2 ([a3].map (Value.int .i64)) from hB) rfl (by omega)) rfl (by simp; have := HHL.out; omega) SV.out.g.sz
                have SX := Lib.hid (SV.out.app2 (zs := [a3]) ho hg hat)
                refine wp_append_runH (some 78) rfl _ _ _ rfl vB19 _ vC21 rfl rfl hr ?_
                refine hK _ _ ⟨Lib.hid SX.out.lo, ?_⟩
                clear hK K SV
                clear hr ho hg hat hB
                have SV := SX
                clear SX
                try simp only [Act.put, List.setIfInBounds_toArray, List.set_cons_succ, List.set_cons_zero]
                refine wpAnyH_all (rs := [12]) (by kernel_rfl) (by simp) ?_
                intro ii hii
                obtain rfl : ii = 12 := by simpa using hii
                clear hii
                refine wpOp_step rfl (fun K hK => ?_)
                go_simp
                refine (HLE2.out _ vA18 vC21 _ SV.out).mono ?_
                rintro e x22 ⟨vb, fb, rfl, hp2, hb6⟩
                have SX := Lib.hid (SV.out.below hb6)
                have PX := Lib.hid hp2
                refine hK _ _ ⟨Lib.hid SX.out.lo, ?_⟩
                clear hK K SV
                clear hp2 hb6
                have SV := SX
                clear SX
                try simp only [Act.put, List.setIfInBounds_toArray, List.set_cons_succ, List.set_cons_zero]
                refine wpAnyH_takeC (i := 13) (v := .tuple #[vb, .int .i64 fb]) (some 66) rfl rfl (by kernel_rfl) (by kernel_rfl) (by kernel_rfl) (fun _ _ _ h => h) (Or.inl ⟨by rfl, fun X hX => by go_simp <;> (first | omega | decide | simp)⟩) (Lib.hid SV.out.lo) ?_
                try simp only [Act.put, List.setIfInBounds_toArray, List.set_cons_succ, List.set_cons_zero]
                refine wpAnyH_takeC (i := 14) (v := vb) (some 80) rfl rfl (by kernel_rfl) (by kernel_rfl) (by kernel_rfl) (fun _ _ _ h => h) (Or.inl ⟨by rfl, fun X hX => by go_simp <;> (first | omega | decide | simp)⟩) (Lib.hid SV.out.lo) ?_
                try simp only [Act.put, List.setIfInBounds_toArray, List.set_cons_succ, List.set_cons_zero]
                refine wpAnyH_takeC (i := 15) (v := .int .i64 fb) (some 81) rfl rfl (by kernel_rfl) (by kernel_rfl) (by kernel_rfl) (fun _ _ _ h => h) (Or.inl ⟨by rfl, fun X hX => by go_simp <;> (first | omega | decide | simp)⟩) (Lib.hid SV.out.lo) ?_
                try simp only [Act.put, List.setIfInBounds_toArray, List.set_cons_succ, List.set_cons_zero]
                refine wpAnyH_takeC (i := 16) (v := vb) (some 14) rfl rfl (by kernel_rfl) (by kernel_rfl) (by kernel_rfl) (fun _ _ _ h => h) (Or.inl ⟨by rfl, fun X hX => by go_simp <;> (first | omega | decide | simp)⟩) (Lib.hid SV.out.lo) ?_
                try simp only [Act.put, List.setIfInBounds_toArray, List.set_cons_succ, List.set_cons_zero]
                refine wpAnyH_takeC (i := 17) (v := .int .i64 fb) (some 15) rfl rfl (by kernel_rfl) (by kernel_rfl) (by kernel_rfl) (fun _ _ _ h => h) (Or.inl ⟨by rfl, fun X hX => by go_simp <;> (first | omega | decide | simp)⟩) (Lib.hid SV.out.lo) ?_
                try simp only [Act.put, List.setIfInBounds_toArray, List.set_cons_succ, List.set_cons_zero]
                refine wpAnyH_done (by kernel_rfl) ?_ _
                simp only [Exit.then]
                exact HT.out _ _ _ _ _ _ _ _ _ _ _ _ _ _ _ _ _ _ _ _ _ _ _ _ _ _ _ _ _ _ _ _ _ _ _ _ _ _ _ _ _ _ _ _ _ _ _ _ _ _ _ _ _ _ _ _ _ _ _ _ _ _ _ _ _ _ _ _ _ _ _ _ _ _ _ _ _ _ _ _ _ _ _ _ _ _ _ _ _ _ _ _ _ _ _ _ _ _ _ _ _ _ _ _ _ _ _ _ _ _ _ _ _ _ _ _ _ _ _ _ _ _ _ _ _ _ _ _ vb fb _ SV.out.lo (fun q hq => (SV.out.pb q (by simp [hq])).1) PX.out
              · clear hii
                refine wpOp_step rfl (fun K hK => ?_)
                go_simp
                have SX := Lib.hid (SV.out.put 2 [.int .i64 a3])
                refine hK _ _ ⟨Lib.hid SX.out.lo, ?_⟩
                clear hK K SV
                obtain ⟨gH23, hgH⟩ : ∃ g, (World.heap x18).size = g := ⟨_, rfl⟩
                rw [hgH] at SX ⊢
                clear hgH
                have SV := SX
                clear SX
                generalize World.alloc x18 _ = x23 at SV ⊢
                try simp only [Act.put, List.setIfInBounds_toArray, List.set_cons_succ, List.set_cons_zero]
                refine wpAnyH_all (rs := [8]) (by kernel_rfl) (by simp) ?_
                intro ii hii
                obtain rfl : ii = 8 := by simpa using hii
                clear hii
                refine wpOp_step rfl (fun K hK => ?_)
                obtain ⟨vB24, x24, hr, ho, hg, hat⟩ := append_intsH x23 B 22 vM17 _ _ SV.out.g.o2 none 0 0 hs (HHA.out _ (HBB.out.trans (SV.out.lo.mono HBB.out.size))) HHL.out (by first | (simp; done) | (simp; omega)) SV.out.g.sz
                have SX := Lib.hid (SV.out.app2 (zs := hs) (by rw [HHL.out]; exact ho) hg hat)
                refine wp_append_runH (some 75) rfl _ _ _ rfl vM17 _ vB24 rfl rfl hr ?_
                refine hK _ _ ⟨Lib.hid SX.out.lo, ?_⟩
                clear hK K SV
                clear hr ho hg hat
                have SV := SX
                clear SX
                try simp only [Act.put, List.setIfInBounds_toArray, List.set_cons_succ, List.set_cons_zero]
                refine wpAnyH_all (rs := [11]) (by kernel_rfl) (by simp) ?_
                intro ii hii
                obtain rfl : ii = 11 := by simpa using hii
                clear hii
                refine wpOp_step rfl (fun K hK => ?_)
                have hB := (SV.out.pb (gH23, .cells #[.int .i64 a3] 2 (0, 0)) (by simp)).1
                obtain ⟨vC25, x25, hr, ho, hg, hat⟩ := append_intsH x24 B 22 vB24 _ _ SV.out.g.o2 (some ⟨gH23, 0, none⟩) 1 1 [a3] (Ints.whole (n := 1) (show Whole _ gH23 2 ([a3].map (Value.int .i64)) from hB) rfl (by omega)) rfl (by simp; have := HHL.out; omega) SV.out.g.sz
                have SX := Lib.hid (SV.out.app2 (zs := [a3]) ho hg hat)
                refine wp_append_runH (some 78) rfl _ _ _ rfl vB24 _ vC25 rfl rfl hr ?_
                refine hK _ _ ⟨Lib.hid SX.out.lo, ?_⟩
                clear hK K SV
                clear hr ho hg hat hB
                have SV := SX
                clear SX
                try simp only [Act.put, List.setIfInBounds_toArray, List.set_cons_succ, List.set_cons_zero]
                refine wpAnyH_all (rs := [12]) (by kernel_rfl) (by simp) ?_
                intro ii hii
                obtain rfl : ii = 12 := by simpa using hii
                clear hii
                refine wpOp_step rfl (fun K hK => ?_)
                go_simp
                refine (HLE2.out _ vA18 vC25 _ SV.out).mono ?_
                rintro e x26 ⟨vb, fb, rfl, hp2, hb6⟩
                have SX := Lib.hid (SV.out.below hb6)
                have PX := Lib.hid hp2
                refine hK _ _ ⟨Lib.hid SX.out.lo, ?_⟩
                clear hK K SV
                clear hp2 hb6
                have SV := SX
                clear SX
                try simp only [Act.put, List.setIfInBounds_toArray, List.set_cons_succ, List.set_cons_zero]
                refine wpAnyH_takeC (i := 13) (v := .tuple #[vb, .int .i64 fb]) (some 66) rfl rfl (by kernel_rfl) (by kernel_rfl) (by kernel_rfl) (fun _ _ _ h => h) (Or.inl ⟨by rfl, fun X hX => by go_simp <;> (first | omega | decide | simp)⟩) (Lib.hid SV.out.lo) ?_
                try simp only [Act.put, List.setIfInBounds_toArray, List.set_cons_succ, List.set_cons_zero]
                refine wpAnyH_takeC (i := 14) (v := vb) (some 80) rfl rfl (by kernel_rfl) (by kernel_rfl) (by kernel_rfl) (fun _ _ _ h => h) (Or.inl ⟨by rfl, fun X hX => by go_simp <;> (first | omega | decide | simp)⟩) (Lib.hid SV.out.lo) ?_
                try simp only [Act.put, List.setIfInBounds_toArray, List.set_cons_succ, List.set_cons_zero]
                refine wpAnyH_takeC (i := 15) (v := .int .i64 fb) (some 81) rfl rfl (by kernel_rfl) (by kernel_rfl) (by kernel_rfl) (fun _ _ _ h => h) (Or.inl ⟨by rfl, fun X hX => by go_simp <;> (first | omega | decide | simp)⟩) (Lib.hid SV.out.lo) ?_
                try simp only [Act.put, List.setIfInBounds_toArray, List.set_cons_succ, List.set_cons_zero]
                refine wpAnyH_takeC (i := 16) (v := vb) (some 14) rfl rfl (by kernel_rfl) (by kernel_rfl) (by kernel_rfl) (fun _ _ _ h => h) (Or.inl ⟨by rfl, fun X hX => by go_simp <;> (first | omega | decide | simp)⟩) (Lib.hid SV.out.lo) ?_
                try simp only [Act.put, List.setIfInBounds_toArray, List.set_cons_succ, List.set_cons_zero]
                refine wpAnyH_takeC (i := 17) (v := .int .i64 fb) (some 15) rfl rfl (by kernel_rfl) (by kernel_rfl) (by kernel_rfl) (fun _ _ _ h => h) (Or.inl ⟨by rfl, fun X hX => by go_simp <;> (first | omega | decide | simp)⟩) (Lib.hid SV.out.lo) ?_
                try simp only [Act.put, List.setIfInBounds_toArray, List.set_cons_succ, List.set_cons_zero]
                refine wpAnyH_done (by kernel_rfl) ?_ _
                simp only [Exit.then]
                exact HT.out _ _ _ _ _ _ _ _ _ _ _ _ _ _ _ _ _ _ _ _ _ _ _ _ _ _ _ _ _ _ _ _ _ _ _ _ _ _ _ _ _ _ _ _ _ _ _ _ _ _ _ _ _ _ _ _ _ _ _ _ _ _ _ _ _ _ _ _ _ _ _ _ _ _ _ _ _ _ _ _ _ _ _ _ _ _ _ _ _ _ _ _ _ _ _ _ _ _ _ _ _ _ _ _ _ _ _ _ _ _ _ _ _ _ _ _ _ _ _ _ _ _ _ _ _ _ _ _ vb fb _ SV.out.lo (fun q hq => (SV.out.pb q (by simp [hq])).1) PX.out
            · clear hii
              refine wpOp_step rfl (fun K hK => ?_)
              go_simp
              have SX := Lib.hid (SV.out.put 2 [.int .i64 a3])
              refine hK _ _ ⟨Lib.hid SX.out.lo, ?_⟩
              clear hK K SV
              obtain ⟨gH27, hgH⟩ : ∃ g, (World.heap x17).size = g := ⟨_, rfl⟩
              rw [hgH] at SX ⊢
              clear hgH
              have SV := SX
              clear SX
              generalize World.alloc x17 _ = x27 at SV ⊢
              try simp only [Act.put, List.setIfInBounds_toArray, List.set_cons_succ, List.set_cons_zero]
              refine wpAnyH_all (rs := [5]) (by kernel_rfl) (by simp) ?_
              intro ii hii
              obtain rfl : ii = 5 := by simpa using hii
              clear hii
              refine wpOp_step rfl (fun K hK => ?_)
              have hB := (SV.out.pb (gP1, .cells #[.int .i64 0, .int .i64 (r : Int), .int .i64 0, .int .i64 1, .int .i64 1] 35 (0, 0)) (by simp)).1
              obtain ⟨vA28, x28, hr, ho, hg, hat⟩ := append_plcH x27 B 23 v _ _ SV.out.g.o1 gP1 (pcB r) (show Whole _ gP1 35 (pcB r).cells from hB) (by rw [HPL.out]; omega) SV.out.g.sz
              have SX := Lib.hid (SV.out.app1 ho hg hat)
              refine wp_append_runH (some 72) rfl _ _ _ rfl v _ vA28 rfl rfl hr ?_
              refine hK _ _ ⟨Lib.hid SX.out.lo, ?_⟩
              clear hK K SV
              clear hr ho hg hat hB
              have SV := SX
              clear SX
              try simp only [Act.put, List.setIfInBounds_toArray, List.set_cons_succ, List.set_cons_zero]
              refine wpAnyH_all (rs := [8]) (by kernel_rfl) (by simp) ?_
              intro ii hii
              obtain rfl : ii = 8 := by simpa using hii
              clear hii
              refine wpOp_step rfl (fun K hK => ?_)
              obtain ⟨vB29, x29, hr, ho, hg, hat⟩ := append_intsH x28 B 22 vM17 _ _ SV.out.g.o2 none 0 0 hs (HHA.out _ (HBB.out.trans (SV.out.lo.mono HBB.out.size))) HHL.out (by first | (simp; done) | (simp; omega)) SV.out.g.sz
              have SX := Lib.hid (SV.out.app2 (zs := hs) (by rw [HHL.out]; exact ho) hg hat)
              refine wp_append_runH (some 75) rfl _ _ _ rfl vM17 _ vB29 rfl rfl hr ?_
              refine hK _ _ ⟨Lib.hid SX.out.lo, ?_⟩
              clear hK K SV
              clear hr ho hg hat
              have SV := SX
              clear SX
              try simp only [Act.put, List.setIfInBounds_toArray, List.set_cons_succ, List.set_cons_zero]
              refine wpAnyH_all (rs := [11]) (by kernel_rfl) (by simp) ?_
              intro ii hii
              obtain rfl : ii = 11 := by simpa using hii
              clear hii
              refine wpOp_step rfl (fun K hK => ?_)
              have hB := (SV.out.pb (gH27, .cells #[.int .i64 a3] 2 (0, 0)) (by simp)).1
              obtain ⟨vC30, x30, hr, ho, hg, hat⟩ := append_intsH x29 B 22 vB29 _ _ SV.out.g.o2 (some ⟨gH27, 0, none⟩) 1 1 [a3] (Ints.whole (n := 1) (show Whole _ gH27 2 ([a3].map (Value.int .i64)) from hB) rfl (by omega)) rfl (by simp; have := HHL.out; omega) SV.out.g.sz
              have SX := Lib.hid (SV.out.app2 (zs := [a3]) ho hg hat)
              refine wp_append_runH (some 78) rfl _ _ _ rfl vB29 _ vC30 rfl rfl hr ?_
              refine hK _ _ ⟨Lib.hid SX.out.lo, ?_⟩
              clear hK K SV
              clear hr ho hg hat hB
              have SV := SX
              clear SX
              try simp only [Act.put, List.setIfInBounds_toArray, List.set_cons_succ, List.set_cons_zero]
              refine wpAnyH_all (rs := [12]) (by kernel_rfl) (by simp) ?_
              intro ii hii
              obtain rfl : ii = 12 := by simpa using hii
              clear hii
              refine wpOp_step rfl (fun K hK => ?_)
              go_simp
              refine (HLE2.out _ vA28 vC30 _ SV.out).mono ?_
              rintro e x31 ⟨vb, fb, rfl, hp2, hb6⟩
              have SX := Lib.hid (SV.out.below hb6)
              have PX := Lib.hid hp2
              refine hK _ _ ⟨Lib.hid SX.out.lo, ?_⟩
              clear hK K SV
              clear hp2 hb6
              have SV := SX
              clear SX
              try simp only [Act.put, List.setIfInBounds_toArray, List.set_cons_succ, List.set_cons_zero]
              refine wpAnyH_takeC (i := 13) (v := .tuple #[vb, .int .i64 fb]) (some 66) rfl rfl (by kernel_rfl) (by kernel_rfl) (by kernel_rfl) (fun _ _ _ h => h) (Or.inl ⟨by rfl, fun X hX => by go_simp <;> (first | omega | decide | simp)⟩) (Lib.hid SV.out.lo) ?_
              try simp only [Act.put, List.setIfInBounds_toArray, List.set_cons_succ, List.set_cons_zero]
              refine wpAnyH_takeC (i := 14) (v := vb) (some 80) rfl rfl (by kernel_rfl) (by kernel_rfl) (by kernel_rfl) (fun _ _ _ h => h) (Or.inl ⟨by rfl, fun X hX => by go_simp <;> (first | omega | decide | simp)⟩) (Lib.hid SV.out.lo) ?_
              try simp only [Act.put, List.setIfInBounds_toArray, List.set_cons_succ, List.set_cons_zero]
              refine wpAnyH_takeC (i := 15) (v := .int .i64 fb) (some 81) rfl rfl (by kernel_rfl) (by kernel_rfl) (by kernel_rfl) (fun _ _ _ h => h) (Or.inl ⟨by rfl, fun X hX => by go_simp <;> (first | omega | decide | simp)⟩) (Lib.hid SV.out.lo) ?_
              try simp only [Act.put, List.setIfInBounds_toArray, List.set_cons_succ, List.set_cons_zero]
              refine wpAnyH_takeC (i := 16) (v := vb) (some 14) rfl rfl (by kernel_rfl) (by kernel_rfl) (by kernel_rfl) (fun _ _ _ h => h) (Or.inl ⟨by rfl, fun X hX => by go_simp <;> (first | omega | decide | simp)⟩) (Lib.hid SV.out.lo) ?_
              try simp only [Act.put, List.setIfInBounds_toArray, List.set_cons_succ, List.set_cons_zero]
              refine wpAnyH_takeC (i := 17) (v := .int .i64 fb) (some 15) rfl rfl (by kernel_rfl) (by kernel_rfl) (by kernel_rfl) (fun _ _ _ h => h) (Or.inl ⟨by rfl, fun X hX => by go_simp <;> (first | omega | decide | simp)⟩) (Lib.hid SV.out.lo) ?_
              try simp only [Act.put, List.setIfInBounds_toArray, List.set_cons_succ, List.set_cons_zero]
              refine wpAnyH_done (by kernel_rfl) ?_ _
              simp only [Exit.then]
              exact HT.out _ _ _ _ _ _ _ _ _ _ _ _ _ _ _ _ _ _ _ _ _ _ _ _ _ _ _ _ _ _ _ _ _ _ _ _ _ _ _ _ _ _ _ _ _ _ _ _ _ _ _ _ _ _ _ _ _ _ _ _ _ _ _ _ _ _ _ _ _ _ _ _ _ _ _ _ _ _ _ _ _ _ _ _ _ _ _ _ _ _ _ _ _ _ _ _ _ _ _ _ _ _ _ _ _ _ _ _ _ _ _ _ _ _ _ _ _ _ _ _ _ _ _ _ _ _ _ _ vb fb _ SV.out.lo (fun q hq => (SV.out.pb q (by simp [hq])).1) PX.out
          · clear hii
            refine wpOp_step rfl (fun K hK => ?_)
            go_simp
            have SX := Lib.hid (SV.out.put 2 [.int .i64 a3])
            refine hK _ _ ⟨Lib.hid SX.out.lo, ?_⟩
            clear hK K SV
            obtain ⟨gH32, hgH⟩ : ∃ g, (World.heap x1).size = g := ⟨_, rfl⟩
            rw [hgH] at SX ⊢
            clear hgH
            have SV := SX
            clear SX
            generalize World.alloc x1 _ = x32 at SV ⊢
            try simp only [Act.put, List.setIfInBounds_toArray, List.set_cons_succ, List.set_cons_zero]
            refine wpAnyH_all (rs := [5, 6]) (by kernel_rfl) (by simp) ?_
            intro ii hii
            rcases (show ii = 5 ∨ ii = 6 by simpa using hii) with rfl | rfl
            · clear hii
              refine wpOp_step rfl (fun K hK => ?_)
              have hB := (SV.out.pb (gP1, .cells #[.int .i64 0, .int .i64 (r : Int), .int .i64 0, .int .i64 1, .int .i64 1] 35 (0, 0)) (by simp)).1
              obtain ⟨vA33, x33, hr, ho, hg, hat⟩ := append_plcH x32 B 23 v _ _ SV.out.g.o1 gP1 (pcB r) (show Whole _ gP1 35 (pcB r).cells from hB) (by rw [HPL.out]; omega) SV.out.g.sz
              have SX := Lib.hid (SV.out.app1 ho hg hat)
              refine wp_append_runH (some 72) rfl _ _ _ rfl v _ vA33 rfl rfl hr ?_
              refine hK _ _ ⟨Lib.hid SX.out.lo, ?_⟩
              clear hK K SV
              clear hr ho hg hat hB
              have SV := SX
              clear SX
              try simp only [Act.put, List.setIfInBounds_toArray, List.set_cons_succ, List.set_cons_zero]
              refine wpAnyH_all (rs := [6]) (by kernel_rfl) (by simp) ?_
              intro ii hii
              obtain rfl : ii = 6 := by simpa using hii
              clear hii
              refine wpOp_step rfl (fun K hK => ?_)
              go_simp
              have SX := Lib.hid (SV.out.made zc 101 HZC.out (by unfold maxLen; omega))
              refine hK _ _ ⟨Lib.hid SX.out.lo, ?_⟩
              clear hK K SV
              obtain ⟨vM34, hvM⟩ : ∃ vv, Value.slice (some ⟨(World.heap x33).size, 0, none⟩) 0 101 = vv := ⟨_, rfl⟩
              rw [hvM] at SX ⊢
              clear hvM
              have SV := SX
              clear SX
              generalize World.alloc x33 (.cells zc 2) = x34 at SV ⊢
              try simp only [Act.put, List.setIfInBounds_toArray, List.set_cons_succ, List.set_cons_zero]
              refine wpAnyH_all (rs := [8]) (by kernel_rfl) (by simp) ?_
              intro ii hii
              obtain rfl : ii = 8 := by simpa using hii
              clear hii
              refine wpOp_step rfl (fun K hK => ?_)
              obtain ⟨vB35, x35, hr, ho, hg, hat⟩ := append_intsH x34 B 22 vM34 _ _ SV.out.g.o2 none 0 0 hs (HHA.out _ (HBB.out.trans (SV.out.lo.mono HBB.out.size))) HHL.out (by first | (simp; done) | (simp; omega)) SV.out.g.sz
              have SX := Lib.hid (SV.out.app2 (zs := hs) (by rw [HHL.out]; exact ho) hg hat)
              refine wp_append_runH (some 75) rfl _ _ _ rfl vM34 _ vB35 rfl rfl hr ?_
              refine hK _ _ ⟨Lib.hid SX.out.lo, ?_⟩
              clear hK K SV
              clear hr ho hg hat
              have SV := SX
              clear SX
              try simp only [Act.put, List.setIfInBounds_toArray, List.set_cons_succ, List.set_cons_zero]
              refine wpAnyH_all (rs := [11]) (by kernel_rfl) (by simp) ?_
              intro ii hii
              obtain rfl : ii = 11 := by simpa using hii
              clear hii
              refine wpOp_step rfl (fun K hK => ?_)
              have hB := (SV.out.pb (gH32, .cells #[.int .i64 a3] 2 (0, 0)) (by simp)).1
              obtain ⟨vC36, x36, hr, ho, hg, hat⟩ := append_intsH x35 B 22 vB35 _ _ SV.out.g.o2 (some ⟨gH32, 0, none⟩) 1 1 [a3] (Ints.whole (n := 1) (show Whole _ gH32 2 ([a3].map (Value.int .i64)) from hB) rfl (by omega)) rfl (by simp; have := HHL.out; omega) SV.out.g.sz
              have SX := Lib.hid (SV.out.app2 (zs := [a3]) ho hg hat)
              refine wp_append_runH (some 78) rfl _ _ _ rfl vB35 _ vC36 rfl rfl hr ?_
              refine hK _ _ ⟨Lib.hid SX.out.lo, ?_⟩
              clear hK K SV
              clear hr ho hg hat hB
              have SV := SX
              clear SX
              try simp only [Act.put, List.setIfInBounds_toArray, List.set_cons_succ, List.set_cons_zero]
              refine wpAnyH_all (rs := [12]) (by kernel_rfl) (by simp) ?_
              intro ii hii
              obtain rfl : ii = 12 := by simpa using hii
              clear hii
              refine wpOp_step rfl (fun K hK => ?_)
              go_simp
              refine (HLE2.out _ vA33 vC36 _ SV.out).mono ?_
              rintro e x37 ⟨vb, fb, rfl, hp2, hb6⟩
              have SX := Lib.hid (SV.out.below hb6)
              have PX := Lib.hid hp2
              refine hK _ _ ⟨Lib.hid SX.out.lo, ?_⟩
              clear hK K SV
              clear hp2 hb6
              have SV := SX
              clear SX
              try simp only [Act.put, List.setIfInBounds_toArray, List.set_cons_succ, List.set_cons_zero]
              refine wpAnyH_takeC (i := 13) (v := .tuple #[vb, .int .i64 fb]) (some 66) rfl rfl (by kernel_rfl) (by kernel_rfl) (by kernel_rfl) (fun _ _ _ h => h) (Or.inl ⟨by rfl, fun X hX => by go_simp <;> (first | omega | decide | simp)⟩) (Lib.hid SV.out.lo) ?_
              try simp only [Act.put, List.setIfInBounds_toArray, List.set_cons_succ, List.set_cons_zero]
              refine wpAnyH_takeC (i := 14) (v := vb) (some 80) rfl rfl (by kernel_rfl) (by kernel_rfl) (by kernel_rfl) (fun _ _ _ h => h) (Or.inl ⟨by rfl, fun X hX => by go_simp <;> (first | omega | decide | simp)⟩) (Lib.hid SV.out.lo) ?_
              try simp only [Act.put, List.setIfInBounds_toArray, List.set_cons_succ, List.set_cons_zero]
              refine wpAnyH_takeC (i := 15) (v := .int .i64 fb) (some 81) rfl rfl (by kernel_rfl) (by kernel_rfl) (by kernel_rfl) (fun _ _ _ h => h) (Or.inl ⟨by rfl, fun X hX => by go_simp <;> (first | omega | decide | simp)⟩) (Lib.hid SV.out.lo) ?_
              try simp only [Act.put, List.setIfInBounds_toArray, List.set_cons_succ, List.set_cons_zero]
              refine wpAnyH_takeC (i := 16) (v := vb) (some 14) rfl rfl (by kernel_rfl) (by kernel_rfl) (by kernel_rfl) (fun _ _ _ h => h) (Or.inl ⟨by rfl, fun X hX => by go_simp <;> (first | omega | decide | simp)⟩) (Lib.hid SV.out.lo) ?_
              try simp only [Act.put, List.setIfInBounds_toArray, List.set_cons_succ, List.set_cons_zero]
              refine wpAnyH_takeC (i := 17) (v := .int .i64 fb) (some 15) rfl rfl (by kernel_rfl) (by kernel_rfl) (by kernel_rfl) (fun _ _ _ h => h) (Or.inl ⟨by rfl, fun X hX => by go_simp <;> (first | omega | decide | simp)⟩) (Lib.hid SV.out.lo) ?_
              try simp only [Act.put, List.setIfInBounds_toArray, List.set_cons_succ, List.set_cons_zero]
              refine wpAnyH_done (by kernel_rfl) ?_ _
              simp only [Exit.then]
              exact HT.out _ _ _ _ _ _ _ _ _ _ _ _ _ _ _ _ _ _ _ _ _ _ _ _ _ _ _ _ _ _ _ _ _ _ _ _ _ _ _ _ _ _ _ _ _ _ _ _ _ _ _ _ _ _ _ _ _ _ _ _ _ _ _ _ _ _ _ _ _ _ _ _ _ _ _ _ _ _ _ _ _ _ _ _ _ _ _ _ _ _ _ _ _ _ _ _ _ _ _ _ _ _ _ _ _ _ _ _ _ _ _ _ _ _ _ _ _ _ _ _ _ _ _ _ _ _ _ _ vb fb _ SV.out.lo (fun q hq => (SV.out.pb q (by simp [hq])).1) PX.out
            · clear hii
              refine wpOp_step rfl (fun K hK => ?_)
              go_simp
              have SX := Lib.hid (SV.out.made zc 101 HZC.out (by unfold maxLen; omega))
              refine hK _ _ ⟨Lib.hid SX.out.lo, ?_⟩
              clear hK K SV
              obtain ⟨vM38, hvM⟩ : ∃ vv, Value.slice (some ⟨(World.heap x32).size, 0, none⟩) 0 101 = vv := ⟨_, rfl⟩
              rw [hvM] at SX ⊢
              clear hvM
              have SV := SX
              clear SX
              generalize World.alloc x32 (.cells zc 2) = x38 at SV ⊢
              try simp only [Act.put, List.setIfInBounds_toArray, List.set_cons_succ, List.set_cons_zero]
              refine wpAnyH_all (rs := [5]) (by kernel_rfl) (by simp) ?_
              intro ii hii
              obtain rfl : ii = 5 := by simpa using hii
              clear hii
              refine wpOp_step rfl (fun K hK => ?_)
              have hB := (SV.out.pb (gP1, .cells #[.int .i64 0, .int .i64 (r : Int), .int .i64 0, .int .i64 1, .int .i64 1] 35 (0, 0)) (by simp)).1
              obtain ⟨vA39, x39, hr, ho, hg, hat⟩ := append_plcH x38 B 23 v _ _ SV.out.g.o1 gP1 (pcB r) (show Whole _ gP1 35 (pcB r).cells from hB) (by rw [HPL.out]; omega) SV.out.g.sz
              have SX := Lib.hid (SV.out.app1 ho hg hat)
              refine wp_append_runH (some 72) rfl _ _ _ rfl v _ vA39 rfl rfl hr ?_
              refine hK _ _ ⟨Lib.hid SX.out.lo, ?_⟩
              clear hK K SV
              clear hr ho hg hat hB
              have SV := SX
              clear SX
              try simp only [Act.put, List.setIfInBounds_toArray, List.set_cons_succ, List.set_cons_zero]
              refine wpAnyH_all (rs := [8]) (by kernel_rfl) (by simp) ?_
              intro ii hii
              obtain rfl : ii = 8 := by simpa using hii
              clear hii
              refine wpOp_step rfl (fun K hK => ?_)
              obtain ⟨vB40, x40, hr, ho, hg, hat⟩ := append_intsH x39 B 22 vM38 _ _ SV.out.g.o2 none 0 0 hs (HHA.out _ (HBB.out.trans (SV.out.lo.mono HBB.out.size))) HHL.out (by first | (simp; done) | (simp; omega)) SV.out.g.sz
              have SX := Lib.hid (SV.out.app2 (zs := hs) (by rw [HHL.out]; exact ho) hg hat)
              refine wp_append_runH (some 75) rfl _ _ _ rfl vM38 _ vB40 rfl rfl hr ?_
              refine hK _ _ ⟨Lib.hid SX.out.lo, ?_⟩
              clear hK K SV
              clear hr ho hg hat
              have SV := SX
              clear SX
              try simp only [Act.put, List.setIfInBounds_toArray, List.set_cons_succ, List.set_cons_zero]
              refine wpAnyH_all (rs := [11]) (by kernel_rfl) (by simp) ?_
              intro ii hii
              obtain rfl : ii = 11 := by simpa using hii
              clear hii
              refine wpOp_step rfl (fun K hK => ?_)
              have hB := (SV.out.pb (gH32, .cells #[.int .i64 a3] 2 (0, 0)) (by simp)).1
              obtain ⟨vC41, x41, hr, ho, hg, hat⟩ := append_intsH x40 B 22 vB40 _ _ SV.out.g.o2 (some ⟨gH32, 0, none⟩) 1 1 [a3] (Ints.whole (n := 1) (show Whole _ gH32 2 ([a3].map (Value.int .i64)) from hB) rfl (by omega)) rfl (by simp; have := HHL.out; omega) SV.out.g.sz
              have SX := Lib.hid (SV.out.app2 (zs := [a3]) ho hg hat)
              refine wp_append_runH (some 78) rfl _ _ _ rfl vB40 _ vC41 rfl rfl hr ?_
              refine hK _ _ ⟨Lib.hid SX.out.lo, ?_⟩
              clear hK K SV
              clear hr ho hg hat hB
              have SV := SX
              clear SX
              try simp only [Act.put, List.setIfInBounds_toArray, List.set_cons_succ, List.set_cons_zero]
              refine wpAnyH_all (rs := [12]) (by kernel_rfl) (by simp) ?_
              intro ii hii
              obtain rfl : ii = 12 := by simpa using hii
              clear hii
              refine wpOp_step rfl (fun K hK => ?_)
              go_simp
              refine (HLE2.out _ vA39 vC41 _ SV.out).mono ?_
              rintro e x42 ⟨vb, fb, rfl, hp2, hb6⟩
              have SX := Lib.hid (SV.out.below hb6)
              have PX := Lib.hid hp2
              refine hK _ _ ⟨Lib.hid SX.out.lo, ?_⟩
              clear hK K SV
              clear hp2 hb6
              have SV := SX
              clear SX
              try simp only [Act.put, List.setIfInBounds_toArray, List.set_cons_succ, List.set_cons_zero]
              refine wpAnyH_takeC (i := 13) (v := .tuple #[vb, .int .i64 fb]) (some 66) rfl rfl (by kernel_rfl) (by kernel_rfl) (by kernel_rfl) (fun _ _ _ h => h) (Or.inl ⟨by rfl, fun X hX => by go_simp <;> (first | omega | decide | simp)⟩) (Lib.hid SV.out.lo) ?_
              try simp only [Act.put, List.setIfInBounds_toArray, List.set_cons_succ, List.set_cons_zero]
              refine wpAnyH_takeC (i := 14) (v := vb) (some 80) rfl rfl (by kernel_rfl) (by kernel_rfl) (by kernel_rfl) (fun _ _ _ h => h) (Or.inl ⟨by rfl, fun X hX => by go_simp <;> (first | omega | decide | simp)⟩) (Lib.hid SV.out.lo) ?_
              try simp only [Act.put, List.setIfInBounds_toArray, List.set_cons_succ, List.set_cons_zero]
              refine wpAnyH_takeC (i := 15) (v := .int .i64 fb) (some 81) rfl rfl (by kernel_rfl) (by kernel_rfl) (by kernel_rfl) (fun _ _ _ h => h) (Or.inl ⟨by rfl, fun X hX => by go_simp <;> (first | omega | decide | simp)⟩) (Lib.hid SV.out.lo) ?_
              try simp only [Act.put, List.setIfInBounds_toArray, List.set_cons_succ, List.set_cons_zero]
              refine wpAnyH_takeC (i := 16) (v := vb) (some 14) rfl rfl (by kernel_rfl) (by kernel_rfl) (by kernel_rfl) (fun _ _ _ h => h) (Or.inl ⟨by rfl, fun X hX => by go_simp <;> (first | omega | decide | simp)⟩) (Lib.hid SV.out.lo) ?_
              try simp only [Act.put, List.setIfInBounds_toArray, List.set_cons_succ, List.set_cons_zero]
              refine wpAnyH_takeC (i := 17) (v := .int .i64 fb) (some 15) rfl rfl (by kernel_rfl) (by kernel_rfl) (by kernel_rfl) (fun _ _ _ h => h) (Or.inl ⟨by rfl, fun X hX => by go_simp <;> (first | omega | decide | simp)⟩) (Lib.hid SV.out.lo) ?_
              try simp only [Act.put, List.setIfInBounds_toArray, List.set_cons_succ, List.set_cons_zero]
              refine wpAnyH_done (by kernel_rfl) ?_ _
              simp only [Exit.then]
              exact HT.out _ _ _ _ _ _ _ _ _ _ _ _ _ _ _ _ _ _ _ _ _ _ _ _ _ _ _ _ _ _ _ _ _ _ _ _ _ _ _ _ _ _ _ _ _ _ _ _ _ _ _ _ _ _ _ _ _ _ _ _ _ _ _ _ _ _ _ _ _ _ _ _ _ _ _ _ _ _ _ _ _ _ _ _ _ _ _ _ _ _ _ _ _ _ _ _ _ _ _ _ _ _ _ _ _ _ _ _ _ _ _ _ _ _ _ _ _ _ _ _ _ _ _ _ _ _ _ _ vb fb _ SV.out.lo (fun q hq => (SV.out.pb q (by simp [hq])).1) PX.out
        · clear hii
          refine wpOp_step rfl (fun K hK => ?_)
          go_simp
          have SX := Lib.hid (SV.out.made zc 101 HZC.out (by unfold maxLen; omega))
          refine hK _ _ ⟨Lib.hid SX.out.lo, ?_⟩
          clear hK K SV
          obtain ⟨vM43, hvM⟩ : ∃ vv, Value.slice (some ⟨(World.heap w9).size, 0, none⟩) 0 101 = vv := ⟨_, rfl⟩
          rw [hvM] at SX ⊢
          clear hvM
          have SV := SX
          clear SX
          generalize World.alloc w9 (.cells zc 2) = x43 at SV ⊢
          try simp only [Act.put, List.setIfInBounds_toArray, List.set_cons_succ, List.set_cons_zero]
          refine wpAnyH_all (rs := [4, 10]) (by kernel_rfl) (by simp) ?_
          intro ii hii
          rcases (show ii = 4 ∨ ii = 10 by simpa using hii) with rfl | rfl
          · clear hii
            refine wpOp_step rfl (fun K hK => ?_)
            go_simp
            have SX := Lib.hid (SV.out.put 35 [.int .i64 0, .int .i64 (r : Int), .int .i64 0, .int .i64 1, .int .i64 1])
            refine hK _ _ ⟨Lib.hid SX.out.lo, ?_⟩
            clear hK K SV
            obtain ⟨gP44, hgP⟩ : ∃ g, (World.heap x43).size = g := ⟨_, rfl⟩
            rw [hgP] at SX ⊢
            clear hgP
            have SV := SX
            clear SX
            generalize World.alloc x43 _ = x44 at SV ⊢
            try simp only [Act.put, List.setIfInBounds_toArray, List.set_cons_succ, List.set_cons_zero]
            refine wpAnyH_all (rs := [5, 10]) (by kernel_rfl) (by simp) ?_
            intro ii hii
            rcases (show ii = 5 ∨ ii = 10 by simpa using hii) with rfl | rfl
            · clear hii
              refine wpOp_step rfl (fun K hK => ?_)
              have hB := (SV.out.pb (gP44, .cells #[.int .i64 0, .int .i64 (r : Int), .int .i64 0, .int .i64 1, .int .i64 1] 35 (0, 0)) (by simp)).1
              obtain ⟨vA45, x45, hr, ho, hg, hat⟩ := append_plcH x44 B 23 v _ _ SV.out.g.o1 gP44 (pcB r) (show Whole _ gP44 35 (pcB r).cells from hB) (by rw [HPL.out]; omega) SV.out.g.sz
              have SX := Lib.hid (SV.out.app1 ho hg hat)
              refine wp_append_runH (some 72) rfl _ _ _ rfl v _ vA45 rfl rfl hr ?_
              refine hK _ _ ⟨Lib.hid SX.out.lo, ?_⟩
              clear hK K SV
              clear hr ho hg hat hB
              have SV := SX
              clear SX
              try simp only [Act.put, List.setIfInBounds_toArray, List.set_cons_succ, List.set_cons_zero]
              refine wpAnyH_all (rs := [8, 10]) (by kernel_rfl) (by simp) ?_
              intro ii hii
              rcases (show ii = 8 ∨ ii = 10 by simpa using hii) with rfl | rfl
              · clear hii
                refine wpOp_step rfl (fun K hK => ?_)
                obtain ⟨vB46, x46, hr, ho, hg, hat⟩ := append_intsH x45 B 22 vM43 _ _ SV.out.g.o2 none 0 0 hs (HHA.out _ (HBB.out.trans (SV.out.lo.mono HBB.out.size))) HHL.out (by first | (simp; done) | (simp; omega)) SV.out.g.sz
                have SX := Lib.hid (SV.out.app2 (zs := hs) (by rw [HHL.out]; exact ho) hg hat)
                refine wp_append_runH (some 75) rfl _ _ _ rfl vM43 _ vB46 rfl rfl hr ?_
                refine hK _ _ ⟨Lib.hid SX.out.lo, ?_⟩
                clear hK K SV
                clear hr ho hg hat
                have SV := SX
                clear SX
                try simp only [Act.put, List.setIfInBounds_toArray, List.set_cons_succ, List.set_cons_zero]
                refine wpAnyH_all (rs := [10]) (by kernel_rfl) (by simp) ?_
                intro ii hii
                obtain rfl : ii = 10 := by simpa using hii
                clear hii
                refine wpOp_step rfl (fun K hK => ?_)
                go_simp
                have SX := Lib.hid (SV.out.put 2 [.int .i64 a3])
                refine hK _ _ ⟨Lib.hid SX.out.lo, ?_⟩
                clear hK K SV
                obtain ⟨gH47, hgH⟩ : ∃ g, (World.heap x46).size = g := ⟨_, rfl⟩
                rw [hgH] at SX ⊢
                clear hgH
                have SV := SX
                clear SX
                generalize World.alloc x46 _ = x47 at SV ⊢
                try simp only [Act.put, List.setIfInBounds_toArray, List.set_cons_succ, List.set_cons_zero]
                refine wpAnyH_all (rs := [11]) (by kernel_rfl) (by simp) ?_
                intro ii hii
                obtain rfl : ii = 11 := by simpa using hii
                clear hii
                refine wpOp_step rfl (fun K hK => ?_)
                have hB := (SV.out.pb (gH47, .cells #[.int .i64 a3] 2 (0, 0)) (by simp)).1
                obtain ⟨vC48, x48, hr, ho, hg, hat⟩ := append_intsH x47 B 22 vB46 _ _ SV.out.g.o2 (some ⟨gH47, 0, none⟩) 1 1 [a3] (Ints.whole (n := 1) (show Whole _ gH47 2 ([a3].map (Value.int .i64)) from hB) rfl (by omega)) rfl (by simp; have := HHL.out; omega) SV.out.g.sz
                have SX := Lib.hid (SV.out.app2 (zs := [a3]) ho hg hat)
                refine wp_append_runH (some 78) rfl _ _ _ rfl vB46 _ vC48 rfl rfl hr ?_
                refine hK _ _ ⟨Lib.hid SX.out.lo, ?_⟩
                clear hK K SV
                clear hr ho hg hat hB
                have SV := SX
                clear SX
                try simp only [Act.put, List.setIfInBounds_toArray, List.set_cons_succ, List.set_cons_zero]
                refine wpAnyH_all (rs := [12]) (by kernel_rfl) (by simp) ?_
                intro ii hii
                obtain rfl : ii = 12 := by simpa using hii
                clear hii
                refine wpOp_step rfl (fun K hK => ?_)
                go_simp
                refine (HLE2.out _ vA45 vC48 _ SV.out).mono ?_
                rintro e x49 ⟨vb, fb, rfl, hp2, hb6⟩
                have SX := Lib.hid (SV.out.below hb6)
                have PX := Lib.hid hp2
                refine hK _ _ ⟨Lib.hid SX.out.lo, ?_⟩
                clear hK K SV
                clear hp2 hb6
                have SV := SX
                clear SX
                try simp only [Act.put, List.setIfInBounds_toArray, List.set_cons_succ, List.set_cons_zero]
                refine wpAnyH_takeC (i := 13) (v := .tuple #[vb, .int .i64 fb]) (some 66) rfl rfl (by kernel_rfl) (by kernel_rfl) (by kernel_rfl) (fun _ _ _ h => h) (Or.inl ⟨by rfl, fun X hX => by go_simp <;> (first | omega | decide | simp)⟩) (Lib.hid SV.out.lo) ?_
                try simp only [Act.put, List.setIfInBounds_toArray, List.set_cons_succ, List.set_cons_zero]
                refine wpAnyH_takeC (i := 14) (v := vb) (some 80) rfl rfl (by kernel_rfl) (by kernel_rfl) (by kernel_rfl) (fun _ _ _ h => h) (Or.inl ⟨by rfl, fun X hX => by go_simp <;> (first | omega | decide | simp)⟩) (Lib.hid SV.out.lo) ?_
                try simp only [Act.put, List.setIfInBounds_toArray, List.set_cons_succ, List.set_cons_zero]
                refine wpAnyH_takeC (i := 15) (v := .int .i64 fb) (some 81) rfl rfl (by kernel_rfl) (by kernel_rfl) (by kernel_rfl) (fun _ _ _ h => h) (Or.inl ⟨by rfl, fun X hX => by go_simp <;> (first | omega | decide | simp)⟩) (Lib.hid SV.out.lo) ?_
                try simp only [Act.put, List.setIfInBounds_toArray, List.set_cons_succ, List.set_cons_zero]
                refine wpAnyH_takeC (i := 16) (v := vb) (some 14) rfl rfl (by kernel_rfl) (by kernel_rfl) (by kernel_rfl) (fun _ _ _ h => h) (Or.inl ⟨by rfl, fun X hX => by go_simp <;> (first | omega | decide | simp)⟩) (Lib.hid SV.out.lo) ?_
                try simp only [Act.put, List.setIfInBounds_toArray, List.set_cons_succ, List.set_cons_zero]
                refine wpAnyH_takeC (i := 17) (v := .int .i64 fb) (some 15) rfl rfl (by kernel_rfl) (by kernel_rfl) (by kernel_rfl) (fun _ _ _ h => h) (Or.inl ⟨by rfl, fun X hX => by go_simp <;> (first | omega | decide | simp)⟩) (Lib.hid SV.out.lo) ?_
                try simp only [Act.put, List.setIfInBounds_toArray, List.set_cons_succ, List.set_cons_zero]
                refine wpAnyH_done (by kernel_rfl) ?_ _
                simp only [Exit.then]
                exact HT.out _ _ _ _ _ _ _ _ _ _ _ _ _ _ _ _ _ _ _ _ _ _ _ _ _ _ _ _ _ _ _ _ _ _ _ _ _ _ _ _ _ _ _ _ _ _ _ _ _ _ _ _ _ _ _ _ _ _ _ _ _ _ _ _ _ _ _ _ _ _ _ _ _ _ _ _ _ _ _ _ _ _ _ _ _ _ _ _ _ _ _ _ _ _ _ _ _ _ _ _ _ _ _ _ _ _ _ _ _ _ _ _ _ _ _ _ _ _ _ _ _ _ _ _ _ _ _ _ vb fb _ SV.out.lo (fun q hq => (SV.out.pb q (by simp [hq])).1) PX.out
              · clear hii
                refine wpOp_step rfl (fun K hK => ?_)
                go_simp
                have SX := Lib.hid (SV.out.put 2 [.int .i64 a3])
                refine hK _ _ ⟨Lib.hid SX.out.lo, ?_⟩
                clear hK K SV
                obtain ⟨gH50, hgH⟩ : ∃ g, (World.heap x45).size = g := ⟨_, rfl⟩
                rw [hgH] at SX ⊢
                clear hgH
                have SV := SX
                clear SX
                generalize World.alloc x45 _ = x50 at SV ⊢
                try simp only [Act.put, List.setIfInBounds_toArray, List.set_cons_succ, List.set_cons_zero]
                refine wpAnyH_all (rs := [8]) (by kernel_rfl) (by simp) ?_
                intro ii hii
                obtain rfl : ii = 8 := by simpa using hii
                clear hii
                refine wpOp_step rfl (fun K hK => ?_)
                obtain ⟨vB51, x51, hr, ho, hg, hat⟩ := append_intsH x50 B 22 vM43 _ _ SV.out.g.o2 none 0 0 hs (HHA.out _ (HBB.out.trans (SV.out.lo.mono HBB.out.size))) HHL.out (by first | (simp; done) | (simp; omega)) SV.out.g.sz
                have SX := Lib.hid (SV.out.app2 (zs := hs) (by rw [HHL.out]; exact ho) hg hat)
                refine wp_append_runH (some 75) rfl _ _ _ rfl vM43 _ vB51 rfl rfl hr ?_
                refine hK _ _ ⟨Lib.hid SX.out.lo, ?_⟩
                clear hK K SV
                clear hr ho hg hat
                have SV := SX
                clear SX
                try simp only [Act.put, List.setIfInBounds_toArray, List.set_cons_succ, List.set_cons_zero]
                refine wpAnyH_all (rs := [11]) (by kernel_rfl) (by simp) ?_
                intro ii hii
                obtain rfl : ii = 11 := by simpa using hii
                clear hii
                refine wpOp_step rfl (fun K hK => ?_)
                have hB := (SV.out.pb (gH50, .cells #[.int .i64 a3] 2 (0, 0)) (by simp)).1
                obtain ⟨vC52, x52, hr, ho, hg, hat⟩ := append_intsH x51 B 22 vB51 _ _ SV.out.g.o2 (some ⟨gH50, 0, none⟩) 1 1 [a3] (Ints.whole (n := 1) (show Whole _ gH50 2 ([a3].map (Value.int .i64)) from hB) rfl (by omega)) rfl (by simp; have := HHL.out; omega) SV.out.g.sz
                have SX := Lib.hid (SV.out.app2 (zs := [a3]) ho hg hat)
                refine wp_append_runH (some 78) rfl _ _ _ rfl vB51 _ vC52 rfl rfl hr ?_
                refine hK _ _ ⟨Lib.hid SX.out.lo, ?_⟩
                clear hK K SV
                clear hr ho hg hat hB
                have SV := SX
                clear SX
                try simp only [Act.put, List.setIfInBounds_toArray, List.set_cons_succ, List.set_cons_zero]
                refine wpAnyH_all (rs := [12]) (by kernel_rfl) (by simp) ?_
                intro ii hii
                obtain rfl : ii = 12 := by simpa using hii
                clear hii
                refine wpOp_step rfl (fun K hK => ?_)
                go_simp
                refine (HLE2.out _ vA45 vC52 _ SV.out).mono ?_
                rintro e x53 ⟨vb, fb, rfl, hp2, hb6⟩
                have SX := Lib.hid (SV.out.below hb6)
                have PX := Lib.hid hp2
                refine hK _ _ ⟨Lib.hid SX.out.lo, ?_⟩
                clear hK K SV
                clear hp2 hb6
                have SV := SX
                clear SX
                try simp only [Act.put, List.setIfInBounds_toArray, List.set_cons_succ, List.set_cons_zero]
                refine wpAnyH_takeC (i := 13) (v := .tuple #[vb, .int .i64 fb]) (some 66) rfl rfl (by kernel_rfl) (by kernel_rfl) (by kernel_rfl) (fun _ _ _ h => h) (Or.inl ⟨by rfl, fun X hX => by go_simp <;> (first | omega | decide | simp)⟩) (Lib.hid SV.out.lo) ?_
                try simp only [Act.put, List.setIfInBounds_toArray, List.set_cons_succ, List.set_cons_zero]
                refine wpAnyH_takeC (i := 14) (v := vb) (some 80) rfl rfl (by kernel_rfl) (by kernel_rfl) (by kernel_rfl) (fun _ _ _ h => h) (Or.inl ⟨by rfl, fun X hX => by go_simp <;> (first | omega | decide | simp)⟩) (Lib.hid SV.out.lo) ?_
                try simp only [Act.put, List.setIfInBounds_toArray, List.set_cons_succ, List.set_cons_zero]
                refine wpAnyH_takeC (i := 15) (v := .int .i64 fb) (some 81) rfl rfl (by kernel_rfl) (by kernel_rfl) (by kernel_rfl) (fun _ _ _ h => h) (Or.inl ⟨by rfl, fun X hX => by go_simp <;> (first | omega | decide | simp)⟩) (Lib.hid SV.out.lo) ?_
                try simp only [Act.put, List.setIfInBounds_toArray, List.set_cons_succ, List.set_cons_zero]
                refine wpAnyH_takeC (i := 16) (v := vb) (some 14) rfl rfl (by kernel_rfl) (by kernel_rfl) (by kernel_rfl) (fun _ _ _ h => h) (Or.inl ⟨by rfl, fun X hX => by go_simp <;> (first | omega | decide | simp)⟩) (Lib.hid SV.out.lo) ?_
                try simp only [Act.put, List.setIfInBounds_toArray, List.set_cons_succ, List.set_cons_zero]
                refine wpAnyH_takeC (i := 17) (v := .int .i64 fb) (some 15) rfl rfl (by kernel_rfl) (by kernel_rfl) (by kernel_rfl) (fun _ _ _ h => h) (Or.inl ⟨by rfl, fun X hX => by go_simp <;> (first | omega | decide | simp)⟩) (Lib.hid SV.out.lo) ?_
                try simp only [Act.put, List.setIfInBounds_toArray, List.set_cons_succ, List.set_cons_zero]
                refine wpAnyH_done (by kernel_rfl) ?_ _
                simp only [Exit.then]
                exact HT.out _ _ _ _ _ _ _ _ _ _ _ _ _ _ _ _ _ _ _ _ _ _ _ _ _ _ _ _ _ _ _ _ _ _ _ _ _ _ _ _ _ _ _ _ _ _ _ _ _ _ _ _ _ _ _ _ _ _ _ _ _ _ _ _ _ _ _ _ _ _ _ _ _ _ _ _ _ _ _ _ _ _ _ _ _ _ _ _ _ _ _ _ _ _ _ _ _ _ _ _ _ _ _ _ _ _ _ _ _ _ _ _ _ _ _ _ _ _ _ _ _ _ _ _ _ _ _ _ vb fb _ SV.out.lo (fun q hq => (SV.out.pb q (by simp [hq])).1) PX.out
            · clear hii
              refine wpOp_step rfl (fun K hK => ?_)
              go_simp
              have SX := Lib.hid (SV.out.put 2 [.int .i64 a3])
              refine hK _ _ ⟨Lib.hid SX.out.lo, ?_⟩
              clear hK K SV
              obtain ⟨gH54, hgH⟩ : ∃ g, (World.heap x44).size = g := ⟨_, rfl⟩
              rw [hgH] at SX ⊢
              clear hgH
              have SV := SX
              clear SX
              generalize World.alloc x44 _ = x54 at SV ⊢
              try simp only [Act.put, List.setIfInBounds_toArray, List.set_cons_succ, List.set_cons_zero]
              refine wpAnyH_all (rs := [5]) (by kernel_rfl) (by simp) ?_
              intro ii hii
              obtain rfl : ii = 5 := by simpa using hii
              clear hii
              refine wpOp_step rfl (fun K hK => ?_)
              have hB := (SV.out.pb (gP44, .cells #[.int .i64 0, .int .i64 (r : Int), .int .i64 0, .int .i64 1, .int .i64 1] 35 (0, 0)) (by simp)).1
              obtain ⟨vA55, x55, hr, ho, hg, hat⟩ := append_plcH x54 B 23 v _ _ SV.out.g.o1 gP44 (pcB r) (show Whole _ gP44 35 (pcB r).cells from hB) (by rw [HPL.out]; omega) SV.out.g.sz
              have SX := Lib.hid (SV.out.app1 ho hg hat)
              refine wp_append_runH (some 72) rfl _ _ _ rfl v _ vA55 rfl rfl hr ?_
              refine hK _ _ ⟨Lib.hid SX.out.lo, ?_⟩
              clear hK K SV
              clear hr ho hg hat hB
              have SV := SX
              clear SX
              try simp only [Act.put, List.setIfInBounds_toArray, List.set_cons_succ, List.set_cons_zero]
              refine wpAnyH_all (rs := [8]) (by kernel_rfl) (by simp) ?_
              intro ii hii
              obtain rfl : ii = 8 := by simpa using hii
              clear hii
              refine wpOp_step rfl (fun K hK => ?_)
              obtain ⟨vB56, x56, hr, ho, hg, hat⟩ := append_intsH x55 B 22 vM43 _ _ SV.out.g.o2 none 0 0 hs (HHA.out _ (HBB.out.trans (SV.out.lo.mono HBB.out.size))) HHL.out (by first | (simp; done) | (simp; omega)) SV.out.g.sz
              have SX := Lib.hid (SV.out.app2 (zs := hs) (by rw [HHL.out]; exact ho) hg hat)
              refine wp_append_runH (some 75) rfl _ _ _ rfl vM43 _ vB56 rfl rfl hr ?_
              refine hK _ _ ⟨Lib.hid SX.out.lo, ?_⟩
              clear hK K SV
              clear hr ho hg hat
              have SV := SX
              clear SX
              try simp only [Act.put, List.setIfInBounds_toArray, List.set_cons_succ, List.set_cons_zero]
              refine wpAnyH_all (rs := [11]) (by kernel_rfl) (by simp) ?_
              intro ii hii
              obtain rfl : ii = 11 := by simpa using hii
              clear hii
              refine wpOp_step rfl (fun K hK => ?_)
              have hB := (SV.out.pb (gH54, .cells #[.int .i64 a3] 2 (0, 0)) (by simp)).1
              obtain ⟨vC57, x57, hr, ho, hg, hat⟩ := append_intsH x56 B 22 vB56 _ _ SV.out.g.o2 (some ⟨gH54, 0, none⟩) 1 1 [a3] (Ints.whole (n := 1) (show Whole _ gH54 2 ([a3].map (Value.int .i64)) from hB) rfl (by omega)) rfl (by simp; have := HHL.out; omega) SV.out.g.sz
              have SX := Lib.hid (SV.out.app2 (zs := [a3]) ho hg hat)
              refine wp_append_runH (some 78) rfl _ _ _ rfl vB56 _ vC57 rfl rfl hr ?_
              refine hK _ _ ⟨Lib.hid SX.out.lo, ?_⟩
              clear hK K SV
              clear hr ho hg hat hB
              have SV := SX
              clear SX
              try simp only [Act.put, List.setIfInBounds_toArray, List.set_cons_succ, List.set_cons_zero]
              refine wpAnyH_all (rs := [12]) (by kernel_rfl) (by simp) ?_
              intro ii hii
              obtain rfl : ii = 12 := by simpa using hii
              clear hii
              refine wpOp_step rfl (fun K hK => ?_)
              go_simp
              refine (HLE2.out _ vA55 vC57 _ SV.out).mono ?_
              rintro e x58 ⟨vb, fb, rfl, hp2, hb6⟩
              have SX := Lib.hid (SV.out.below hb6)
              have PX := Lib.hid hp2
              refine hK _ _ ⟨Lib.hid SX.out.lo, ?_⟩
              clear hK K SV
              clear hp2 hb6
              have SV := SX
              clear SX
              try simp only [Act.put, List.setIfInBounds_toArray, List.set_cons_succ, List.set_cons_zero]
              refine wpAnyH_takeC (i := 13) (v := .tuple #[vb, .int .i64 fb]) (some 66) rfl rfl (by kernel_rfl) (by kernel_rfl) (by kernel_rfl) (fun _ _ _ h => h) (Or.inl ⟨by rfl, fun X hX => by go_simp <;> (first | omega | decide | simp)⟩) (Lib.hid SV.out.lo) ?_
              try simp only [Act.put, List.setIfInBounds_toArray, List.set_cons_succ, List.set_cons_zero]
              refine wpAnyH_takeC (i := 14) (v := vb) (some 80) rfl rfl (by kernel_rfl) (by kernel_rfl) (by kernel_rfl) (fun _ _ _ h => h) (Or.inl ⟨by rfl, fun X hX => by go_simp <;> (first | omega | decide | simp)⟩) (Lib.hid SV.out.lo) ?_
              try simp only [Act.put, List.setIfInBounds_toArray, List.set_cons_succ, List.set_cons_zero]
              refine wpAnyH_takeC (i := 15) (v := .int .i64 fb) (some 81) rfl rfl (by kernel_rfl) (by kernel_rfl) (by kernel_rfl) (fun _ _ _ h => h) (Or.inl ⟨by rfl, fun X hX => by go_simp <;> (first | omega | decide | simp)⟩) (Lib.hid SV.out.lo) ?_
              try simp only [Act.put, List.setIfInBounds_toArray, List.set_cons_succ, List.set_cons_zero]
              refine wpAnyH_takeC (i := 16) (v := vb) (some 14) rfl rfl (by kernel_rfl) (by kernel_rfl) (by kernel_rfl) (fun _ _ _ h => h) (Or.inl ⟨by rfl, fun X hX => by go_simp <;> (first | omega | decide | simp)⟩) (Lib.hid SV.out.lo) ?_
              try simp only [Act.put, List.setIfInBounds_toArray, List.set_cons_succ, List.set_cons_zero]
              refine wpAnyH_takeC (i := 17) (v := .int .i64 fb) (some 15) rfl rfl (by kernel_rfl) (by kernel_rfl) (by kernel_rfl) (fun _ _ _ h => h) (Or.inl ⟨by rfl, fun X hX => by go_simp <;> (first | omega | decide | simp)⟩) (Lib.hid SV.out.lo) ?_
              try simp only [Act.put, List.setIfInBounds_toArray, List.set_cons_succ, List.set_cons_zero]
              refine wpAnyH_done (by kernel_rfl) ?_ _
              simp only [Exit.then]
              exact HT.out _ _ _ _ _ _ _ _ _ _ _ _ _ _ _ _ _ _ _ _ _ _ _ _ _ _ _ _ _ _ _ _ _ _ _ _ _ _ _ _ _ _ _ _ _ _ _ _ _ _ _ _ _ _ _ _ _ _ _ _ _ _ _ _ _ _ _ _ _ _ _ _ _ _ _ _ _ _ _ _ _ _ _ _ _ _ _ _ _ _ _ _ _ _ _ _ _ _ _ _ _ _ _ _ _ _ _ _ _ _ _ _ _ _ _ _ _ _ _ _ _ _ _ _ _ _ _ _ vb fb _ SV.out.lo (fun q hq => (SV.out.pb q (by simp [hq])).1) PX.out
          · clear hii
            refine wpOp_step rfl (fun K hK => ?_)
            go_simp
            have SX := Lib.hid (SV.out.put 2 [.int .i64 a3])
            refine hK _ _ ⟨Lib.hid SX.out.lo, ?_⟩
            clear hK K SV
            obtain ⟨gH59, hgH⟩ : ∃ g, (World.heap x43).size = g := ⟨_, rfl⟩
            rw [hgH] at SX ⊢
            clear hgH
            have SV := SX
            clear SX
            generalize World.alloc x43 _ = x59 at SV ⊢
            try simp only [Act.put, List.setIfInBounds_toArray, List.set_cons_succ, List.set_cons_zero]
            refine wpAnyH_all (rs := [4]) (by kernel_rfl) (by simp) ?_
            intro ii hii
            obtain rfl : ii = 4 := by simpa using hii
            clear hii
            refine wpOp_step rfl (fun K hK => ?_)
            go_simp
            have SX := Lib.hid (SV.out.put 35 [.int .i64 0, .int .i64 (r : Int), .int .i64 0, .int .i64 1, .int .i64 1])
            refine hK _ _ ⟨Lib.hid SX.out.lo, ?_⟩
            clear hK K SV
            obtain ⟨gP60, hgP⟩ : ∃ g, (World.heap x59).size = g := ⟨_, rfl⟩
            rw [hgP] at SX ⊢
            clear hgP
            have SV := SX
            clear SX
            generalize World.alloc x59 _ = x60 at SV ⊢
            try simp only [Act.put, List.setIfInBounds_toArray, List.set_cons_succ, List.set_cons_zero]
            refine wpAnyH_all (rs := [5]) (by kernel_rfl) (by simp) ?_
            intro ii hii
            obtain rfl : ii = 5 := by simpa using hii
            clear hii
            refine wpOp_step rfl (fun K hK => ?_)
            have hB := (SV.out.pb (gP60, .cells #[.int .i64 0, .int .i64 (r : Int), .int .i64 0, .int .i64 1, .int .i64 1] 35 (0, 0)) (by simp)).1
            obtain ⟨vA61, x61, hr, ho, hg, hat⟩ := append_plcH x60 B 23 v _ _ SV.out.g.o1 gP60 (pcB r) (show Whole _ gP60 35 (pcB r).cells from hB) (by rw [HPL.out]; omega) SV.out.g.sz
            have SX := Lib.hid (SV.out.app1 ho hg hat)
            refine wp_append_runH (some 72) rfl _ _ _ rfl v _ vA61 rfl rfl hr ?_
            refine hK _ _ ⟨Lib.hid SX.out.lo, ?_⟩
            clear hK K SV
            clear hr ho hg hat hB
            have SV := SX
            clear SX
            try simp only [Act.put, List.setIfInBounds_toArray, List.set_cons_succ, List.set_cons_zero]
            refine wpAnyH_all (rs := [8]) (by kernel_rfl) (by simp) ?_
            intro ii hii
            obtain rfl : ii = 8 := by simpa using hii
            clear hii
            refine wpOp_step rfl (fun K hK => ?_)
            obtain ⟨vB62, x62, hr, ho, hg, hat⟩ := append_intsH x61 B 22 vM43 _ _ SV.out.g.o2 none 0 0 hs (HHA.out _ (HBB.out.trans (SV.out.lo.mono HBB.out.size))) HHL.out (by first | (simp; done) | (simp; omega)) SV.out.g.sz
            have SX := Lib.hid (SV.out.app2 (zs := hs) (by rw [HHL.out]; exact ho) hg hat)
            refine wp_append_runH (some 75) rfl _ _ _ rfl vM43 _ vB62 rfl rfl hr ?_
            refine hK _ _ ⟨Lib.hid SX.out.lo, ?_⟩
            clear hK K SV
            clear hr ho hg hat
            have SV := SX
            clear SX
            try simp only [Act.put, List.setIfInBounds_toArray, List.set_cons_succ, List.set_cons_zero]
            refine wpAnyH_all (rs := [11]) (by kernel_rfl) (by simp) ?_
            intro ii hii
            obtain rfl : ii = 11 := by simpa using hii
            clear hii
            refine wpOp_step rfl (fun K hK => ?_)
            have hB := (SV.out.pb (gH59, .cells #[.int .i64 a3] 2 (0, 0)) (by simp)).1
            obtain ⟨vC63, x63, hr, ho, hg, hat⟩ := append_intsH x62 B 22 vB62 _ _ SV.out.g.o2 (some ⟨gH59, 0, none⟩) 1 1 [a3] (Ints.whole (n := 1) (show Whole _ gH59 2 ([a3].map (Value.int .i64)) from hB) rfl (by omega)) rfl (by simp; have := HHL.out; omega) SV.out.g.sz
            have SX := Lib.hid (SV.out.app2 (zs := [a3]) ho hg hat)
            refine wp_append_runH (some 78) rfl _ _ _ rfl vB62 _ vC63 rfl rfl hr ?_
            refine hK _ _ ⟨Lib.hid SX.out.lo, ?_⟩
            clear hK K SV
            clear hr ho hg hat hB
            have SV := SX
            clear SX
            try simp only [Act.put, List.setIfInBounds_toArray, List.set_cons_succ, List.set_cons_zero]
            refine wpAnyH_all (rs := [12]) (by kernel_rfl) (by simp) ?_
            intro ii hii
            obtain rfl : ii = 12 := by simpa using hii
            clear hii
            refine wpOp_step rfl (fun K hK => ?_)
            go_simp
            refine (HLE2.out _ vA61 vC63 _ SV.out).mono ?_
            rintro e x64 ⟨vb, fb, rfl, hp2, hb6⟩
            have SX := Lib.hid (SV.out.below hb6)
            have PX := Lib.hid hp2
            refine hK _ _ ⟨Lib.hid SX.out.lo, ?_⟩
            clear hK K SV
            clear hp2 hb6
            have SV := SX
            clear SX
            try simp only [Act.put, List.setIfInBounds_toArray, List.set_cons_succ, List.set_cons_zero]
            refine wpAnyH_takeC (i := 13) (v := .tuple #[vb, .int .i64 fb]) (some 66) rfl rfl (by kernel_rfl) (by kernel_rfl) (by kernel_rfl) (fun _ _ _ h => h) (Or.inl ⟨by rfl, fun X hX => by go_simp <;> (first | omega | decide | simp)⟩) (Lib.hid SV.out.lo) ?_
            try simp only [Act.put, List.setIfInBounds_toArray, List.set_cons_succ, List.set_cons_zero]
            refine wpAnyH_takeC (i := 14) (v := vb) (some 80) rfl rfl (by kernel_rfl) (by kernel_rfl) (by kernel_rfl) (fun _ _ _ h => h) (Or.inl ⟨by rfl, fun X hX => by go_simp <;> (first | omega | decide | simp)⟩) (Lib.hid SV.out.lo) ?_
            try simp only [Act.put, List.setIfInBounds_toArray, List.set_cons_succ, List.set_cons_zero]
            refine wpAnyH_takeC (i := 15) (v := .int .i64 fb) (some 81) rfl rfl (by kernel_rfl) (by kernel_rfl) (by kernel_rfl) (fun _ _ _ h => h) (Or.inl ⟨by rfl, fun X hX => by go_simp <;> (first | omega | decide | simp)⟩) (Lib.hid SV.out.lo) ?_
            try simp only [Act.put, List.setIfInBounds_toArray, List.set_cons_succ, List.set_cons_zero]
            refine wpAnyH_takeC (i := 16) (v := vb) (some 14) rfl rfl (by kernel_rfl) (by kernel_rfl) (by kernel_rfl) (fun _ _ _ h => h) (Or.inl ⟨by rfl, fun X hX => by go_simp <;> (first | omega | decide | simp)⟩) (Lib.hid SV.out.lo) ?_
            try simp only [Act.put, List.setIfInBounds_toArray, List.set_cons_succ, List.set_cons_zero]
            refine wpAnyH_takeC (i := 17) (v := .int .i64 fb) (some 15) rfl rfl (by kernel_rfl) (by kernel_rfl) (by kernel_rfl) (fun _ _ _ h => h) (Or.inl ⟨by rfl, fun X hX => by go_simp <;> (first | omega | decide | simp)⟩) (Lib.hid SV.out.lo) ?_
            try simp only [Act.put, List.setIfInBounds_toArray, List.set_cons_succ, List.set_cons_zero]
            refine wpAnyH_done (by kernel_rfl) ?_ _
            simp only [Exit.then]
            exact HT.out _ _ _ _ _ _ _ _ _ _ _ _ _ _ _ _ _ _ _ _ _ _ _ _ _ _ _ _ _ _ _ _ _ _ _ _ _ _ _ _ _ _ _ _ _ _ _ _ _ _ _ _ _ _ _ _ _ _ _ _ _ _ _ _ _ _ _ _ _ _ _ _ _ _ _ _ _ _ _ _ _ _ _ _ _ _ _ _ _ _ _ _ _ _ _ _ _ _ _ _ _ _ _ _ _ _ _ _ _ _ _ _ _ _ _ _ _ _ _ _ _ _ _ _ _ _ _ _ vb fb _ SV.out.lo (fun q hq => (SV.out.pb q (by simp [hq])).1) PX.out
        · clear hii
          refine wpOp_step rfl (fun K hK => ?_)
          go_simp
          have SX := Lib.hid (SV.out.put 2 [.int .i64 a3])
          refine hK _ _ ⟨Lib.hid SX.out.lo, ?_⟩
          clear hK K SV
          obtain ⟨gH65, hgH⟩ : ∃ g, (World.heap w9).size = g := ⟨_, rfl⟩
          rw [hgH] at SX ⊢
          clear hgH
          have SV := SX
          clear SX
          generalize World.alloc w9 _ = x65 at SV ⊢
          try simp only [Act.put, List.setIfInBounds_toArray, List.set_cons_succ, List.set_cons_zero]
          refine wpAnyH_all (rs := [4, 6]) (by kernel_rfl) (by simp) ?_
          intro ii hii
          rcases (show ii = 4 ∨ ii = 6 by simpa using hii) with rfl | rfl
          · clear hii
            refine wpOp_step rfl (fun K hK => ?_)
            go_simp
            have SX := Lib.hid (SV.out.put 35 [.int .i64 0, .int .i64 (r : Int), .int .i64 0, .int .i64 1, .int .i64 1])
            refine hK _ _ ⟨Lib.hid SX.out.lo, ?_⟩
            clear hK K SV
            obtain ⟨gP66, hgP⟩ : ∃ g, (World.heap x65).size = g := ⟨_, rfl⟩
            rw [hgP] at SX ⊢
            clear hgP
            have SV := SX
            clear SX
            generalize World.alloc x65 _ = x66 at SV ⊢
            try simp only [Act.put, List.setIfInBounds_toArray, List.set_cons_succ, List.set_cons_zero]
            refine wpAnyH_all (rs := [5, 6]) (by kernel_rfl) (by simp) ?_
            intro ii hii
            rcases (show ii = 5 ∨ ii = 6 by simpa using hii) with rfl | rfl
            · clear hii
              refine wpOp_step rfl (fun K hK => ?_)
              have hB := (SV.out.pb (gP66, .cells #[.int .i64 0, .int .i64 (r : Int), .int .i64 0, .int .i64 1, .int .i64 1] 35 (0, 0)) (by simp)).1
              obtain ⟨vA67, x67, hr, ho, hg, hat⟩ := append_plcH x66 B 23 v _ _ SV.out.g.o1 gP66 (pcB r) (show Whole _ gP66 35 (pcB r).cells from hB) (by rw [HPL.out]; omega) SV.out.g.sz
              have SX := Lib.hid (SV.out.app1 ho hg hat)
              refine wp_append_runH (some 72) rfl _ _ _ rfl v _ vA67 rfl rfl hr ?_
              refine hK _ _ ⟨Lib.hid SX.out.lo, ?_⟩
              clear hK K SV
              clear hr ho hg hat hB
              have SV := SX
              clear SX
              try simp only [Act.put, List.setIfInBounds_toArray, List.set_cons_succ, List.set_cons_zero]
              refine wpAnyH_all (rs := [6]) (by kernel_rfl) (by simp) ?_
              intro ii hii
              obtain rfl : ii = 6 := by simpa using hii
              clear hii
              refine wpOp_step rfl (fun K hK => ?_)
              go_simp
              have SX := Lib.hid (SV.out.made zc 101 HZC.out (by unfold maxLen; omega))
              refine hK _ _ ⟨Lib.hid SX.out.lo, ?_⟩
              clear hK K SV
              obtain ⟨vM68, hvM⟩ : ∃ vv, Value.slice (some ⟨(World.heap x67).size, 0, none⟩) 0 101 = vv := ⟨_, rfl⟩
              rw [hvM] at SX ⊢
              clear hvM
              have SV := SX
              clear SX
              generalize World.alloc x67 (.cells zc 2) = x68 at SV ⊢
              try simp only [Act.put, List.setIfInBounds_toArray, List.set_cons_succ, List.set_cons_zero]
              refine wpAnyH_all (rs := [8]) (by kernel_rfl) (by simp) ?_
              intro ii hii
              obtain rfl : ii = 8 := by simpa using hii
              clear hii
              refine wpOp_step rfl (fun K hK => ?_)
              obtain ⟨vB69, x69, hr, ho, hg, hat⟩ := append_intsH x68 B 22 vM68 _ _ SV.out.g.o2 none 0 0 hs (HHA.out _ (HBB.out.trans (SV.out.lo.mono HBB.out.size))) HHL.out (by first | (simp; done) | (simp; omega)) SV.out.g.sz
              have SX := Lib.hid (SV.out.app2 (zs := hs) (by rw [HHL.out]; exact ho) hg hat)
              refine wp_append_runH (some 75) rfl _ _ _ rfl vM68 _ vB69 rfl rfl hr ?_
              refine hK _ _ ⟨Lib.hid SX.out.lo, ?_⟩
              clear hK K SV
              clear hr ho hg hat
              have SV := SX
              clear SX
              try simp only [Act.put, List.setIfInBounds_toArray, List.set_cons_succ, List.set_cons_zero]
              refine wpAnyH_all (rs := [11]) (by kernel_rfl) (by simp) ?_
              intro ii hii
              obtain rfl : ii = 11 := by simpa using hii
              clear hii
              refine wpOp_step rfl (fun K hK => ?_)
              have hB := (SV.out.pb (gH65, .cells #[.int .i64 a3] 2 (0, 0)) (by simp)).1
              obtain ⟨vC70, x70, hr, ho, hg, hat⟩ := append_intsH x69 B 22 vB69 _ _ SV.out.g.o2 (some ⟨gH65, 0, none⟩) 1 1 [a3] (Ints.whole (n := 1) (show Whole _ gH65 2 ([a3].map (Value.int .i64)) from hB) rfl (by omega)) rfl (by simp; have := HHL.out; omega) SV.out.g.sz
              have SX := Lib.hid (SV.out.app2 (zs := [a3]) ho hg hat)
              refine wp_append_runH (some 78) rfl _ _ _ rfl vB69 _ vC70 rfl rfl hr ?_
              refine hK _ _ ⟨Lib.hid SX.out.lo, ?_⟩
              clear hK K SV
              clear hr ho hg hat hB
              have SV := SX
              clear SX
              try simp only [Act.put, List.setIfInBounds_toArray, List.set_cons_succ, List.set_cons_zero]
              refine wpAnyH_all (rs := [12]) (by kernel_rfl) (by simp) ?_
              intro ii hii
              obtain rfl : ii = 12 := by simpa using hii
              clear hii
              refine wpOp_step rfl (fun K hK => ?_)
              go_simp
              refine (HLE2.out _ vA67 vC70 _ SV.out).mono ?_
              rintro e x71 ⟨vb, fb, rfl, hp2, hb6⟩
              have SX := Lib.hid (SV.out.below hb6)
              have PX := Lib.hid hp2
              refine hK _ _ ⟨Lib.hid SX.out.lo, ?_⟩
              clear hK K SV
              clear hp2 hb6
              have SV := SX
              clear SX
              try simp only [Act.put, List.setIfInBounds_toArray, List.set_cons_succ, List.set_cons_zero]
              refine wpAnyH_takeC (i := 13) (v := .tuple #[vb, .int .i64 fb]) (some 66) rfl rfl (by kernel_rfl) (by kernel_rfl) (by kernel_rfl) (fun _ _ _ h => h) (Or.inl ⟨by rfl, fun X hX => by go_simp <;> (first | omega | decide | simp)⟩) (Lib.hid SV.out.lo) ?_
              try simp only [Act.put, List.setIfInBounds_toArray, List.set_cons_succ, List.set_cons_zero]
              refine wpAnyH_takeC (i := 14) (v := vb) (some 80) rfl rfl (by kernel_rfl) (by kernel_rfl) (by kernel_rfl) (fun _ _ _ h => h) (Or.inl ⟨by rfl, fun X hX => by go_simp <;> (first | omega | decide | simp)⟩) (Lib.hid SV.out.lo) ?_
              try simp only [Act.put, List.setIfInBounds_toArray, List.set_cons_succ, List.set_cons_zero]
              refine wpAnyH_takeC (i := 15) (v := .int .i64 fb) (some 81) rfl rfl (by kernel_rfl) (by kernel_rfl) (by kernel_rfl) (fun _ _ _ h => h) (Or.inl ⟨by rfl, fun X hX => by go_simp <;> (first | omega | decide | simp)⟩) (Lib.hid SV.out.lo) ?_
              try simp only [Act.put, List.setIfInBounds_toArray, List.set_cons_succ, List.set_cons_zero]
              refine wpAnyH_takeC (i := 16) (v := vb) (some 14) rfl rfl (by kernel_rfl) (by kernel_rfl) (by kernel_rfl) (fun _ _ _ h => h) (Or.inl ⟨by rfl, fun X hX => by go_simp <;> (first | omega | decide | simp)⟩) (Lib.hid SV.out.lo) ?_
              try simp only [Act.put, List.setIfInBounds_toArray, List.set_cons_succ, List.set_cons_zero]
              refine wpAnyH_takeC (i := 17) (v := .int .i64 fb) (some 15) rfl rfl (by kernel_rfl) (by kernel_rfl) (by kernel_rfl) (fun _ _ _ h => h) (Or.inl ⟨by rfl, fun X hX => by go_simp <;> (first | omega | decide | simp)⟩) (Lib.hid SV.out.lo) ?_
              try simp only [Act.put, List.setIfInBounds_toArray, List.set_cons_succ, List.set_cons_zero]
              refine wpAnyH_done (by kernel_rfl) ?_ _
              simp only [Exit.then]
              exact HT.out _ _ _ _ _ _ _ _ _ _ _ _ _ _ _ _ _ _ _ _ _ _ _ _ _ _ _ _ _ _ _ _ _ _ _ _ _ _ _ _ _ _ _ _ _ _ _ _ _ _ _ _ _ _ _ _ _ _ _ _ _ _ _ _ _ _ _ _ _ _ _ _ _ _ _ _ _ _ _ _ _ _ _ _ _ _ _ _ _ _ _ _ _ _ _ _ _ _ _ _ _ _ _ _ _ _ _ _ _ _ _ _ _ _ _ _ _ _ _ _ _ _ _ _ _ _ _ _ vb fb _ SV.out.lo (fun q hq => (SV.out.pb q (by simp [hq])).1) PX.out
            · clear hii
              refine wpOp_step rfl (fun K hK => ?_)
              go_simp
              have SX := Lib.hid (SV.out.made zc 101 HZC.out (by unfold maxLen; omega))
              refine hK _ _ ⟨Lib.hid SX.out.lo, ?_⟩
              clear hK K SV
              obtain ⟨vM72, hvM⟩ : ∃ vv, Value.slice (some ⟨(World.heap x66).size, 0, none⟩) 0 101 = vv := ⟨_, rfl⟩
              rw [hvM] at SX ⊢
              clear hvM
              have SV := SX
              clear SX
              generalize World.alloc x66 (.cells zc 2) = x72 at SV ⊢
              try simp only [Act.put, List.setIfInBounds_toArray, List.set_cons_succ, List.set_cons_zero]
              refine wpAnyH_all (rs := [5]) (by kernel_rfl) (by simp) ?_
              intro ii hii
              obtain rfl : ii = 5 := by simpa using hii
              clear hii
              refine wpOp_step rfl (fun K hK => ?_)
              have hB := (SV.out.pb (gP66, .cells #[.int .i64 0, .int .i64 (r : Int), .int .i64 0, .int .i64 1, .int .i64 1] 35 (0, 0)) (by simp)).1
              obtain ⟨vA73, x73, hr, ho, hg, hat⟩ := append_plcH x72 B 23 v _ _ SV.out.g.o1 gP66 (pcB r) (show Whole _ gP66 35 (pcB r).cells from hB) (by rw [HPL.out]; omega) SV.out.g.sz
              have SX := Lib.hid (SV.out.app1 ho hg hat)
              refine wp_append_runH (some 72) rfl _ _ _ rfl v _ vA73 rfl rfl hr ?_
              refine hK _ _ ⟨Lib.hid SX.out.lo, ?_⟩
              clear hK K SV
              clear hr ho hg hat hB
              have SV := SX
              clear SX
              try simp only [Act.put, List.setIfInBounds_toArray, List.set_cons_succ, List.set_cons_zero]
              refine wpAnyH_all (rs := [8]) (by kernel_rfl) (by simp) ?_
              intro ii hii
              obtain rfl : ii = 8 := by simpa using hii
              clear hii
              refine wpOp_step rfl (fun K hK => ?_)
              obtain ⟨vB74, x74, hr, ho, hg, hat⟩ := append_intsH x73 B 22 vM72 _ _ SV.out.g.o2 none 0 0 hs (HHA.out _ (HBB.out.trans (SV.out.lo.mono HBB.out.size))) HHL.out (by first | (simp; done) | (simp; omega)) SV.out.g.sz
              have SX := Lib.hid (SV.out.app2 (zs := hs) (by rw [HHL.out]; exact ho) hg hat)
              refine wp_append_runH (some 75) rfl _ _ _ rfl vM72 _ vB74 rfl rfl hr ?_
              refine hK _ _ ⟨Lib.hid SX.out.lo, ?_⟩
              clear hK K SV
              clear hr ho hg hat
              have SV := SX
              clear SX
              try simp only [Act.put, List.setIfInBounds_toArray, List.set_cons_succ, List.set_cons_zero]
              refine wpAnyH_all (rs := [11]) (by kernel_rfl) (by simp) ?_
              intro ii hii
              obtain rfl : ii = 11 := by simpa using hii
              clear hii
              refine wpOp_step rfl (fun K hK => ?_)
              have hB := (SV.out.pb (gH65, .cells #[.int .i64 a3] 2 (0, 0)) (by simp)).1
              obtain ⟨vC75, x75, hr, ho, hg, hat⟩ := append_intsH x74 B 22 vB74 _ _ SV.out.g.o2 (some ⟨gH65, 0, none⟩) 1 1 [a3] (Ints.whole (n := 1) (show Whole _ gH65 2 ([a3].map (Value.int .i64)) from hB) rfl (by omega)) rfl (by simp; have := HHL.out; omega) SV.out.g.sz
              have SX := Lib.hid (SV.out.app2 (zs := [a3]) ho hg hat)
              refine wp_append_runH (some 78) rfl _ _ _ rfl vB74 _ vC75 rfl rfl hr ?_
              refine hK _ _ ⟨Lib.hid SX.out.lo, ?_⟩
              clear hK K SV
              clear hr ho hg hat hB
              have SV := SX
              clear SX
              try simp only [Act.put, List.setIfInBounds_toArray, List.set_cons_succ, List.set_cons_zero]
              refine wpAnyH_all (rs := [12]) (by kernel_rfl) (by simp) ?_
              intro ii hii
              obtain rfl : ii = 12 := by simpa using hii
              clear hii
              refine wpOp_step rfl (fun K hK => ?_)
              go_simp
              refine (HLE2.out _ vA73 vC75 _ SV.out).mono ?_
              rintro e x76 ⟨vb, fb, rfl, hp2, hb6⟩
              have SX := Lib.hid (SV.out.below hb6)
              have PX := Lib.hid hp2
              refine hK _ _ ⟨Lib.hid SX.out.lo, ?_⟩
              clear hK K SV
              clear hp2 hb6
              have SV := SX
              clear SX
              try simp only [Act.put, List.setIfInBounds_toArray, List.set_cons_succ, List.set_cons_zero]
              refine wpAnyH_takeC (i := 13) (v := .tuple #[vb, .int .i64 fb]) (some 66) rfl rfl (by kernel_rfl) (by kernel_rfl) (by kernel_rfl) (fun _ _ _ h => h) (Or.inl ⟨by rfl, fun X hX => by go_simp <;> (first | omega | decide | simp)⟩) (Lib.hid SV.out.lo) ?_
              try simp only [Act.put, List.setIfInBounds_toArray, List.set_cons_succ, List.set_cons_zero]
              refine wpAnyH_takeC (i := 14) (v := vb) (some 80) rfl rfl (by kernel_rfl) (by kernel_rfl) (by kernel_rfl) (fun _ _ _ h => h) (Or.inl ⟨by rfl, fun X hX => by go_simp <;> (first | omega | decide | simp)⟩) (Lib.hid SV.out.lo) ?_
              try simp only [Act.put, List.setIfInBounds_toArray, List.set_cons_succ, List.set_cons_zero]
              refine wpAnyH_takeC (i := 15) (v := .int .i64 fb) (some 81) rfl rfl (by kernel_rfl) (by kernel_rfl) (by kernel_rfl) (fun _ _ _ h => h) (Or.inl ⟨by rfl, fun X hX => by go_simp <;> (first | omega | decide | simp)⟩) (Lib.hid SV.out.lo) ?_
              try simp only [Act.put, List.setIfInBounds_toArray, List.set_cons_succ, List.set_cons_zero]
              refine wpAnyH_takeC (i := 16) (v := vb) (some 14) rfl rfl (by kernel_rfl) (by kernel_rfl) (by kernel_rfl) (fun _ _ _ h => h) (Or.inl ⟨by rfl, fun X hX => by go_simp <;> (first | omega | decide | simp)⟩) (Lib.hid SV.out.lo) ?_
              try simp only [Act.put, List.setIfInBounds_toArray, List.set_cons_succ, List.set_cons_zero]
              refine wpAnyH_takeC (i := 17) (v := .int .i64 fb) (some 15) rfl rfl (by kernel_rfl) (by kernel_rfl) (by kernel_rfl) (fun _ _ _ h => h) (Or.inl ⟨by rfl, fun X hX => by go_simp <;> (first | omega | decide | simp)⟩) (Lib.hid SV.out.lo) ?_
              try simp only [Act.put, List.setIfInBounds_toArray, List.set_cons_succ, List.set_cons_zero]
              refine wpAnyH_done (by kernel_rfl) ?_ _
              simp only [Exit.then]
              exact HT.out _ _ _ _ _ _ _ _ _ _ _ _ _ _ _ _ _ _ _ _ _ _ _ _ _ _ _ _ _ _ _ _ _ _ _ _ _ _ _ _ _ _ _ _ _ _ _ _ _ _ _ _ _ _ _ _ _ _ _ _ _ _ _ _ _ _ _ _ _ _ _ _ _ _ _ _ _ _ _ _ _ _ _ _ _ _ _ _ _ _ _ _ _ _ _ _ _ _ _ _ _ _ _ _ _ _ _ _ _ _ _ _ _ _ _ _ _ _ _ _ _ _ _ _ _ _ _ _ vb fb _ SV.out.lo (fun q hq => (SV.out.pb q (by simp [hq])).1) PX.out
          · clear hii
            refine wpOp_step rfl (fun K hK => ?_)
            go_simp
            have SX := Lib.hid (SV.out.made zc 101 HZC.out (by unfold maxLen; omega))
            refine hK _ _ ⟨Lib.hid SX.out.lo, ?_⟩
            clear hK K SV
            obtain ⟨vM77, hvM⟩ : ∃ vv, Value.slice (some ⟨(World.heap x65).size, 0, none⟩) 0 101 = vv := ⟨_, rfl⟩
            rw [hvM] at SX ⊢
            clear hvM
            have SV := SX
            clear SX
            generalize World.alloc x65 (.cells zc 2) = x77 at SV ⊢
            try simp only [Act.put, List.setIfInBounds_toArray, List.set_cons_succ, List.set_cons_zero]
            refine wpAnyH_all (rs := [4]) (by kernel_rfl) (by simp) ?_
            intro ii hii
            obtain rfl : ii = 4 := by simpa using hii
            clear hii
            refine wpOp_step rfl (fun K hK => ?_)
            go_simp
            have SX := Lib.hid (SV.out.put 35 [.int .i64 0, .int .i64 (r : Int), .int .i64 0, .int .i64 1, .int .i64 1])
            refine hK _ _ ⟨Lib.hid SX.out.lo, ?_⟩
            clear hK K SV
            obtain ⟨gP78, hgP⟩ : ∃ g, (World.heap x77).size = g := ⟨_, rfl⟩
            rw [hgP] at SX ⊢
            clear hgP
            have SV := SX
            clear SX
            generalize World.alloc x77 _ = x78 at SV ⊢
            try simp only [Act.put, List.setIfInBounds_toArray, List.set_cons_succ, List.set_cons_zero]
            refine wpAnyH_all (rs := [5]) (by kernel_rfl) (by simp) ?_
            intro ii hii
            obtain rfl : ii = 5 := by simpa using hii
            clear hii
            refine wpOp_step rfl (fun K hK => ?_)
            have hB := (SV.out.pb (gP78, .cells #[.int .i64 0, .int .i64 (r : Int), .int .i64 0, .int .i64 1, .int .i64 1] 35 (0, 0)) (by simp)).1
            obtain ⟨vA79, x79, hr, ho, hg, hat⟩ := append_plcH x78 B 23 v _ _ SV.out.g.o1 gP78 (pcB r) (show Whole _ gP78 35 (pcB r).cells from hB) (by rw [HPL.out]; omega) SV.out.g.sz
            have SX := Lib.hid (SV.out.app1 ho hg hat)
            refine wp_append_runH (some 72) rfl _ _ _ rfl v _ vA79 rfl rfl hr ?_
            refine hK _ _ ⟨Lib.hid SX.out.lo, ?_⟩
            clear hK K SV
            clear hr ho hg hat hB
            have SV := SX
            clear SX
            try simp only [Act.put, List.setIfInBounds_toArray, List.set_cons_succ, List.set_cons_zero]
            refine wpAnyH_all (rs := [8]) (by kernel_rfl) (by simp) ?_
            intro ii hii
            obtain rfl : ii = 8 := by simpa using hii
            clear hii
            refine wpOp_step rfl (fun K hK => ?_)
            obtain ⟨vB80, x80, hr, ho, hg, hat⟩ := append_intsH x79 B 22 vM77 _ _ SV.out.g.o2 none 0 0 hs (HHA.out _ (HBB.out.trans (SV.out.lo.mono HBB.out.size))) HHL.out (by first | (simp; done) | (simp; omega)) SV.out.g.sz
            have SX := Lib.hid (SV.out.app2 (zs := hs) (by rw [HHL.out]; exact ho) hg hat)
            refine wp_append_runH (some 75) rfl _ _ _ rfl vM77 _ vB80 rfl rfl hr ?_
            refine hK _ _ ⟨Lib.hid SX.out.lo, ?_⟩
            clear hK K SV
            clear hr ho hg hat
            have SV := SX
            clear SX
            try simp only [Act.put, List.setIfInBounds_toArray, List.set_cons_succ, List.set_cons_zero]
            refine wpAnyH_all (rs := [11]) (by kernel_rfl) (by simp) ?_
            intro ii hii
            obtain rfl : ii = 11 := by simpa using hii
            clear hii
            refine wpOp_step rfl (fun K hK => ?_)
            have hB := (SV.out.pb (gH65, .cells #[.int .i64 a3] 2 (0, 0)) (by simp)).1
            obtain ⟨vC81, x81, hr, ho, hg, hat⟩ := append_intsH x80 B 22 vB80 _ _ SV.out.g.o2 (some ⟨gH65, 0, none⟩) 1 1 [a3] (Ints.whole (n := 1) (show Whole _ gH65 2 ([a3].map (Value.int .i64)) from hB) rfl (by omega)) rfl (by simp; have := HHL.out; omega) SV.out.g.sz
            have SX := Lib.hid (SV.out.app2 (zs := [a3]) ho hg hat)
            refine wp_append_runH (some 78) rfl _ _ _ rfl vB80 _ vC81 rfl rfl hr ?_
            refine hK _ _ ⟨Lib.hid SX.out.lo, ?_⟩
            clear hK K SV
            clear hr ho hg hat hB
            have SV := SX
            clear SX
            try simp only [Act.put, List.setIfInBounds_toArray, List.set_cons_succ, List.set_cons_zero]
            refine wpAnyH_all (rs := [12]) (by kernel_rfl) (by simp) ?_
            intro ii hii
            obtain rfl : ii = 12 := by simpa using hii
            clear hii
            refine wpOp_step rfl (fun K hK => ?_)
            go_simp
            refine (HLE2.out _ vA79 vC81 _ SV.out).mono ?_
            rintro e x82 ⟨vb, fb, rfl, hp2, hb6⟩
            have SX := Lib.hid (SV.out.below hb6)
            have PX := Lib.hid hp2
            refine hK _ _ ⟨Lib.hid SX.out.lo, ?_⟩
            clear hK K SV
            clear hp2 hb6
            have SV := SX
            clear SX
            try simp only [Act.put, List.setIfInBounds_toArray, List.set_cons_succ, List.set_cons_zero]
            refine wpAnyH_takeC (i := 13) (v := .tuple #[vb, .int .i64 fb]) (some 66) rfl rfl (by kernel_rfl) (by kernel_rfl) (by kernel_rfl) (fun _ _ _ h => h) (Or.inl ⟨by rfl, fun X hX => by go_simp <;> (first | omega | decide | simp)⟩) (Lib.hid SV.out.lo) ?_
            try simp only [Act.put, List.setIfInBounds_toArray, List.set_cons_succ, List.set_cons_zero]
            refine wpAnyH_takeC (i := 14) (v := vb) (some 80) rfl rfl (by kernel_rfl) (by kernel_rfl) (by kernel_rfl) (fun _ _ _ h => h) (Or.inl ⟨by rfl, fun X hX => by go_simp <;> (first | omega | decide | simp)⟩) (Lib.hid SV.out.lo) ?_
            try simp only [Act.put, List.setIfInBounds_toArray, List.set_cons_succ, List.set_cons_zero]
            refine wpAnyH_takeC (i := 15) (v := .int .i64 fb) (some 81) rfl rfl (by kernel_rfl) (by kernel_rfl) (by kernel_rfl) (fun _ _ _ h => h) (Or.inl ⟨by rfl, fun X hX => by go_simp <;> (first | omega | decide | simp)⟩) (Lib.hid SV.out.lo) ?_
            try simp only [Act.put, List.setIfInBounds_toArray, List.set_cons_succ, List.set_cons_zero]
            refine wpAnyH_takeC (i := 16) (v := vb) (some 14) rfl rfl (by kernel_rfl) (by kernel_rfl) (by kernel_rfl) (fun _ _ _ h => h) (Or.inl ⟨by rfl, fun X hX => by go_simp <;> (first | omega | decide | simp)⟩) (Lib.hid SV.out.lo) ?_
            try simp only [Act.put, List.setIfInBounds_toArray, List.set_cons_succ, List.set_cons_zero]
            refine wpAnyH_takeC (i := 17) (v := .int .i64 fb) (some 15) rfl rfl (by kernel_rfl) (by kernel_rfl) (by kernel_rfl) (fun _ _ _ h => h) (Or.inl ⟨by rfl, fun X hX => by go_simp <;> (first | omega | decide | simp)⟩) (Lib.hid SV.out.lo) ?_
            try simp only [Act.put, List.setIfInBounds_toArray, List.set_cons_succ, List.set_cons_zero]
            refine wpAnyH_done (by kernel_rfl) ?_ _
            simp only [Exit.then]
            exact HT.out _ _ _ _ _ _ _ _ _ _ _ _ _ _ _ _ _ _ _ _ _ _ _ _ _ _ _ _ _ _ _ _ _ _ _ _ _ _ _ _ _ _ _ _ _ _ _ _ _ _ _ _ _ _ _ _ _ _ _ _ _ _ _ _ _ _ _ _ _ _ _ _ _ _ _ _ _ _ _ _ _ _ _ _ _ _ _ _ _ _ _ _ _ _ _ _ _ _ _ _ _ _ _ _ _ _ _ _ _ _ _ _ _ _ _ _ _ _ _ _ _ _ _ _ _ _ _ _ vb fb _ SV.out.lo (fun q hq => (SV.out.pb q (by simp [hq])).1) PX.out
  ·
    go_enter Try.func8, Try.ntmps8
    go_wp2_with fail
    refine (HS.out _).mono ?_
    rintro e wa ⟨rfl, ba⟩
    have BA := Lib.hid ba
    have T0 := Lib.hid (TwoG.nil wa wa (Below.refl _ _))
    clear ba HS
    go_wp2
    try generalize decide (n ≤ r) = db
    go_loopw [10, 11] (fun s10 s11 X => ∃ (i : Nat) (v : Value), i ≤ m ∧ v = s10 ∧ s11 = .int .i64 (i : Int) ∧ Hid (TwoG wa wa.heap.size (plM n i) [] v (.slice none 0 0) X)) (fun _ s11 _ => m - (intOf s11).toNat)
    case atStart => exact ⟨0, _, Nat.zero_le _, rfl, rfl, T0⟩
    case round =>
      clear T0
      obtain ⟨i, v, hi, rfl, rfl, HT⟩ := hrel
      by_cases hlt : i < m
      · have hps := plM_succ n i
        have hpl := plM_len n i
        have hmd : i % n < n := Nat.mod_lt _ (by omega)
        obtain ⟨q, hq⟩ : ∃ q, i % n = q := ⟨_, rfl⟩
        have e2 : Int.tmod (i : Int) (n : Int) = (q : Int) := by rw [← hq]; rfl
        rw [hq] at hps hmd
        have hnI : ((n : Int) == 0) = false := by simp; omega
        have HPS := Lib.hid hps
        obtain ⟨PL, hPL⟩ : ∃ L, plM n i = L := ⟨_, rfl⟩
        rw [hPL] at HT HPS hpl
        have HK1 := Lib.hid (whole_new wr (pcB (q : Int)).cells 35 wr.heap.size rfl)
        have HT1 := Lib.hid (HT.out.below ((Below.refl _ wr).alloc (Nat.le_refl _) (.cells (pcB (q : Int)).cells.toArray 35)))
        have hPC : (pcB (q : Int)).cells.toArray = #[.int .i64 0, .int .i64 (q : Int), .int .i64 0, .int .i64 1, .int .i64 1] := rfl
        rw [hPC] at HK1 HT1
        clear HT hPC hps hPL hq HRR HLS HFT HIW HHA hmk
        go_wp2_with (first
          | (at_builtin; refine wpList_appP (some 58) rfl rfl _ _ rfl wa.heap.size v PL rfl HT1.out.o1 wr.heap.size (pcB (q : Int)) rfl (fun j u hj => (HK1.out.cellAt j).trans hj) (by omega) HT1.out.sz ?_; intro v1' w' h1 h2 h3; refine Hid.out ?_)
          | fail)
        have HT2 := Lib.hid (HT1.out.app1 (Nat.le_refl _) h1 h2 h3)
        rw [← HPS.out] at HT2
        clear h1 h2 h3 HT1 HK1
        refine Lib.hid ?_
        go_wp2
        go_roundw
        case rel => exact ⟨i + 1, _, by omega, rfl, by go_num, HT2⟩
        case measure => simp [intOf]; omega
      · obtain rfl : m = i := by omega
        have BW := BA.out.trans (HT.out.lo.mono BA.out.size)
        have BX := Lib.hid BW
        obtain ⟨p1, c1, hf1⟩ := own_formH HT.out.o1
        rw [hps1] at hf1
        have HV := Lib.hid hf1
        have C1 := Lib.hid (least_any (some ⟨g, off, mm⟩) p1 (some ⟨g1, off1, mm1⟩) n cap0 m c1 m cap1 ws (plM n m) hs 0 wr (HIW.out wr BW) (by omega) (by rw [← hf1]; exact own_plcs HT.out.o1 (by omega)) hps1 (HHA.out wr BW) HHL.out (plc_fit HFT.out) (by omega) (by omega))
        rw [← hf1] at C1
        have HRL : Hid (leastR ws (plM n m ++ [pcB (r : Int)]) (hs ++ [a3]) 0 = leastR ws (plM n m) hs 0) := Lib.hid (by
          unfold leastR
          rw [HRR.out, List.length_append, hps1]
          have e1 : decide (m + [pcB (r : Int)].length ≤ 1000) = true := by first | (simp; done) | (simp; omega)
          have e2 : decide (m ≤ 1000) = true := by first | (simp; done) | (simp; omega)
          rw [e1, e2])
        clear hf1 BW
        go_wp2_with fail
        refine C1.out.mono ?_
        rintro e w5 ⟨b5, hpost⟩
        -- what the first Least answered
        obtain ⟨va, ea, PBa, rfl, hpba, hfa, hrr⟩ : ∃ (va : Value) (ea : Int) (PBa : List (Nat × Obj)), e = .returned (.tuple #[va, .int .i64 ea]) ∧ (∀ q ∈ PBa, w5.heap[q.1]? = some q.2 ∧ wr.heap.size ≤ q.1) ∧ (∀ X : World, (∀ q ∈ PBa, X.heap[q.1]? = some q.2) → (ea = 0 ∧ (leastP ws (htZ (plM n m) hs) 0).length = n ∧ ∃ G c, va = .slice (some ⟨G, 0, none⟩) n c ∧ ∀ j, j < n → X.cell? ⟨G, j, none⟩ = some (.int .i64 ((leastP ws (htZ (plM n m) hs) 0)[j]?.getD 0))) ∨ (ea = 160 ∧ va = .slice none 0 0)) ∧ ((ea = 0 ∧ leastR ws (plM n m) hs 0 = true) ∨ (ea = 160 ∧ leastR ws (plM n m) hs 0 = false)) := by
          rcases hpost with ⟨hR, p5, c5, rfl, hn5, hl5, hp5⟩ | ⟨hno, rfl⟩
          · rw [HWL.out] at hp5 hn5 hl5
            obtain ⟨G, rfl, hG⟩ : ∃ G, p5 = some ⟨G, 0, none⟩ ∧ wr.heap.size ≤ G := by
              rcases hp5 with ⟨_, h0, _⟩ | h
              · omega
              · exact h
            obtain ⟨_, ⟨a', c', e, _, e2⟩ | ⟨b, off', c', e, _, _, hc⟩⟩ := hn5
            · rw [e2] at hl5; simp at hl5; omega
            · rw [hl5] at hc
              injection e with e1 e3 e4
              injection e1 with e1
              injection e1 with e1 e5 e6
              subst e1 e5
              have hlt := cell_lt (hc 0 (by omega))
              refine ⟨_, 0, [(G, w5.heap[G])], by rw [HWL.out], fun q hq => ?_, fun X hX => .inl ⟨rfl, hl5, G, c5, rfl, fun j hj => ?_⟩, .inl ⟨rfl, hR⟩⟩
              · obtain rfl : q = _ := by simpa using hq
                exact ⟨Array.getElem?_eq_getElem hlt, hG⟩
              · have h1 := hX (G, w5.heap[G]) (by simp)
                have h2 := hc j hj
                rw [Nat.zero_add] at h2
                exact (World.cell?_of_block (a := ⟨G, j, none⟩) (by rw [h1]; exact (Array.getElem?_eq_getElem hlt).symm)).trans h2
          · exact ⟨_, 160, [], rfl, fun q hq => by simp at hq, fun X _ => .inr ⟨rfl, rfl⟩, .inr ⟨rfl, hno⟩⟩
        have MS0 : Hid (MS wa wa.heap.size (plM n m) [] v (.slice none 0 0) PBa w5) := Lib.hid ⟨HT.out.below b5, Nat.le_refl _, fun q hq => ⟨(hpba q hq).1, fun e => by have := (HT.out.o1.lt _ e).2; have := (hpba q hq).2; omega, fun e => by simp [Value.ownBlock] at e⟩⟩
        have HBB := BA
        obtain ⟨L, hL⟩ : ∃ L, leastP ws (htZ (plM n m) hs) 0 = L := ⟨_, rfl⟩
        -- what the second is to answer
        have HLE2 : Hid (∀ X v1 v2 PB, MS wa wa.heap.size (plM n m ++ [pcB (r : Int)]) (hs ++ [a3]) v1 v2 PB X → Calls Try.prog 12 #[.slice (some ⟨g, off, mm⟩) n cap0, v1, v2, .int .i64 0] X fun e Y => ∃ vb fb, e = .returned (.tuple #[vb, .int .i64 fb]) ∧ (fb = ea ∧ (ea = 0 → ∃ G c, vb = .slice (some ⟨G, 0, none⟩) n c ∧ ∀ j, j < n → Y.cell? ⟨G, j, none⟩ = some (.int .i64 ((L.set r (max (L[r]?.getD 0) a3))[j]?.getD 0)))) ∧ Below X.heap.size X Y) := Lib.hid (fun X v1 v2 PB h => by
          have hX := BA.out.trans (h.lo.mono BA.out.size)
          have hl1 : (plM n m ++ [pcB (r : Int)]).length = m + 1 := by simp [hps1]
          have hl2 : (hs ++ [a3]).length = m + 1 := by simp [HHL.out]
          obtain ⟨p1, c1, hf1⟩ := own_formH h.g.o1
          obtain ⟨p2, c2, hf2⟩ := own_formH h.g.o2
          have P1 := own_plcs h.g.o1 (by omega)
          have P2 := own_intsH h.g.o2 (by omega)
          rw [hl1] at hf1
          rw [hl2] at hf2
          subst hf1 hf2
          refine (least_any (some ⟨g, off, mm⟩) p1 p2 n cap0 (m + 1) c1 (m + 1) c2 ws _ _ 0 X (HIW.out X hX) (by omega) P1 hl1 P2 hl2 (plc_fit (fun p hp => by
            rcases List.mem_append.1 hp with hp | hp
            · exact HFT.out p hp
            · obtain rfl : p = _ := by simpa using hp
              simp only [pcB, Pc.fit, I64H]; omega)) (by omega) (by omega)).mono ?_
          rintro e Y ⟨bY, ⟨hR, p5, c5, rfl, hn5, hl5, hp5⟩ | ⟨hno, rfl⟩⟩
          · rcases hrr with ⟨he, hr1⟩ | ⟨he, hr1⟩
            · rw [HLS.out (by unfold leastR at hR; rw [Bool.and_eq_true] at hR; exact hR.2), hL] at hn5 hl5
              rw [HWL.out] at hp5 hn5 hl5 ⊢
              obtain ⟨G, rfl, hG⟩ : ∃ G, p5 = some ⟨G, 0, none⟩ ∧ X.heap.size ≤ G := by
                rcases hp5 with ⟨_, h0, _⟩ | h
                · omega
                · exact h
              refine ⟨_, 0, rfl, ⟨he.symm, fun _ => ⟨G, c5, rfl, fun j hj => ?_⟩⟩, bY⟩
              obtain ⟨_, ⟨a', c', e, _, e2⟩ | ⟨b, off', c', e, _, _, hc⟩⟩ := hn5
              · rw [e2] at hl5; simp at hl5; omega
              · rw [hl5] at hc
                injection e with e1 e3 e4
                injection e1 with e1
                injection e1 with e1 e5 e6
                subst e1 e5
                have := hc j hj
                rwa [Nat.zero_add] at this
            · rw [HRL.out, hr1] at hR; cases hR
          · rcases hrr with ⟨he, hr1⟩ | ⟨he, hr1⟩
            · rw [HRL.out, hr1] at hno; cases hno
            · exact ⟨_, 160, rfl, ⟨he.symm, fun h => by omega⟩, bY⟩)
        rw [hL] at hfa
        have HFA := Lib.hid hfa
        have HPL := Lib.hid hps1
        clear hL hfa hrr hpba hpost b5 C1 HT HRR HLS HFT HRL HV BX
        go_wp2
        rename_i KK hKK
        obtain ⟨HT, -⟩ : Hid (∀ (x4 x5 x6 x7 x10 x11 x16 x17 x18 x19 x20 x21 x22 x23 x24 x25 x26 x27 x28 x29 x30 x31 x32 x33 x34 x35 x36 x37 x38 x39 x40 x41 x42 x43 x44 x45 x46 x47 x48 x49 x50 x51 x52 x53 x54 x55 x56 x57 x58 x59 x60 x61 x62 x63 x64 x65 x66 x67 x68 x69 x70 x71 x72 x73 x74 x75 x76 x77 x78 x79 x80 x81 x82 x83 x84 x85 x86 x87 x88 x89 x90 x91 x92 x93 x94 x95 x96 x97 x98 x99 x100 x101 x102 x103 x104 x105 x106 x107 x108 x109 x110 x111 x112 x113 x114 x115 x116 x117 x118 x119 x120 x121 x122 x123 x124 x125 x126 x127 x128 x129 x130 x131 x132 x133 x134 x135 x136 x137 vb : Value) (fb : Int) (X : World), Below wa.heap.size wa X → (∀ q ∈ PBa, X.heap[q.1]? = some q.2) → (fb = ea ∧ (ea = 0 → ∃ G c, vb = .slice (some ⟨G, 0, none⟩) n c ∧ ∀ j, j < n → X.cell? ⟨G, j, none⟩ = some (.int .i64 ((L.set r (max (L[r]?.getD 0) a3))[j]?.getD 0)))) → KK { tmps := #[.slice (some ⟨g, off, mm⟩) n cap0, .slice (some ⟨g1, off1, mm1⟩) m cap1, .int .i64 (r : Int), .int .i64 a3, x4, x5, x6, x7, .bool false, .bool true, x10, x11, va, .int .i64 ea, vb, .int .i64 fb, x16, x17, x18, x19, x20, x21, x22, x23, x24, x25, x26, x27, x28, x29, x30, x31, x32, x33, x34, x35, x36, x37, x38, x39, x40, x41, x42, x43, x44, x45, x46, x47, x48, x49, x50, x51, x52, x53, x54, x55, x56, x57, x58, x59, x60, x61, x62, x63, x64, x65, x66, x67, x68, x69, x70, x71, x72, x73, x74, x75, x76, x77, x78, x79, x80, x81, x82, x83, x84, x85, x86, x87, x88, x89, x90, x91, x92, x93, x94, x95, x96, x97, x98, x99, x100, x101, x102, x103, x104, x105, x106, x107, x108, x109, x110, x111, x112, x113, x114, x115, x116, x117, x118, x119, x120, x121, x122, x123, x124, x125, x126, x127, x128, x129, x130, x131, x132, x133, x134, x135, x136, x137], defers := [] } X) ∧ True := ⟨Lib.hid (by
          intro x4 x5 x6 x7 x10 x11 x16 x17 x18 x19 x20 x21 x22 x23 x24 x25 x26 x27 x28 x29 x30 x31 x32 x33 x34 x35 x36 x37 x38 x39 x40 x41 x42 x43 x44 x45 x46 x47 x48 x49 x50 x51 x52 x53 x54 x55 x56 x57 x58 x59 x60 x61 x62 x63 x64 x65 x66 x67 x68 x69 x70 x71 x72 x73 x74 x75 x76 x77 x78 x79 x80 x81 x82 x83 x84 x85 x86 x87 x88 x89 x90 x91 x92 x93 x94 x95 x96 x97 x98 x99 x100 x101 x102 x103 x104 x105 x106 x107 x108 x109 x110 x111 x112 x113 x114 x115 x116 x117 x118 x119 x120 x121 x122 x123 x124 x125 x126 x127 x128 x129 x130 x131 x132 x133 x134 x135 x136 x137 vb fb X hX hPB hP2
          refine hKK _ _ ?_
          clear hKK hmk HLE2 MS0 HZC HIW HHA
          have HBX := Lib.hid (BA.out.trans (hX.mono BA.out.size))
          have hf0 := HFA.out X hPB
          clear HFA hPB BA hX HBB
          obtain ⟨hfe, hb2⟩ := hP2
          subst hfe
          rcases hf0 with ⟨he, hLl, G, c, hva, hca⟩ | ⟨he, hva⟩
          · obtain ⟨G2, c2, hvb, hcb⟩ := hb2 he
            subst he hva hvb
            have HCA := Lib.hid hca
            have HCB := Lib.hid hcb
            have HLL := Lib.hid hLl
            clear hca hcb hLl hb2
            go_wp2
            go_loopw [16] (fun s16 Y => ∃ i : Nat, i ≤ n ∧ s16 = .int .i64 (i : Int) ∧ Hid (Below X.heap.size X Y)) (fun s16 _ => n - (intOf s16).toNat)
            case atStart => exact ⟨0, Nat.zero_le _, rfl, Lib.hid (Below.refl _ _)⟩
            case round =>
              obtain ⟨i, hi, rfl, HX⟩ := hrel
              by_cases hlt : i < n
              · have ca0 := HCA.out i hlt
                have cb0 := HCB.out i hlt
                have ca := (HX.out.cell (p := ⟨G, i, none⟩) (cell_lt ca0)).trans ca0
                have cb := (HX.out.cell (p := ⟨G2, i, none⟩) (cell_lt cb0)).trans cb0
                have la := cell_lt ca
                have lb := cell_lt cb
                clear ca0 cb0
                by_cases hir : i = r
                · subst hir
                  have hset : (L.set i (max (L[i]?.getD 0) a3))[i]?.getD 0 = max (L[i]?.getD 0) a3 := by
                    rw [List.getElem?_set_self (by rw [HLL.out]; exact hlt)]; rfl
                  rw [hset] at cb
                  generalize L[i]?.getD 0 = z at *
                  have d1 : ((i : Int) != (i : Int)) = false := by simp
                  have d2 : ((i : Int) == (i : Int)) = true := by simp
                  have d3 : (max z a3 != max z a3) = false := by simp
                  clear hset HCA HCB
                  go_wp2
                  go_quiet (fail)
                  go_wp2
                  go_roundw
                  case rel => exact ⟨i + 1, by omega, by go_num, Lib.hid (by first | exact HX.out.trans (below_dn _ _ _) | exact HX.out)⟩
                  case measure => simp [intOf]; omega
                · have hset : (L.set r (max (L[r]?.getD 0) a3))[i]?.getD 0 = L[i]?.getD 0 := by
                    rw [List.getElem?_set_ne (by omega)]
                  rw [hset] at cb
                  generalize L[i]?.getD 0 = z at *
                  have d1 : ((i : Int) != (r : Int)) = true := by simp; omega
                  have d2 : ((i : Int) == (r : Int)) = false := by simp; omega
                  have d3 : (z != z) = false := by simp
                  clear hset HCA HCB
                  go_wp2
                  go_quiet (fail)
                  go_wp2
                  go_roundw
                  case rel => exact ⟨i + 1, by omega, by go_num, Lib.hid (by first | exact HX.out.trans (below_dn _ _ _) | exact HX.out)⟩
                  case measure => simp [intOf]; omega
              · obtain rfl : n = i := by omega
                clear HCA HCB
                go_wp2
                go_ret
                exact ⟨by first | rfl | (simp; done), HBX.out.trans (HX.out.mono HBX.out.size)⟩
          · subst he hva
            clear hb2
            go_wp2
            go_ret
            exact ⟨by first | rfl | (simp; done), HBX.out⟩), trivial⟩
        refine region_held_atC (S := fun X => Hid (Below wa.heap.size wa X)) (by kernel_rfl) (fun w9 hw9 => ?_)
        obtain ⟨B, hB⟩ : ∃ B, wa.heap.size = B := ⟨_, rfl⟩
        have SV : Hid (MS wa B (plM n m) [] v (.slice none 0 0) PBa w9) := Lib.hid (by
          rw [← hB, ← hw9]; exact MS0.out.below (Below.refl _ _).drew)
        rw [hB] at HLE2
        clear hw9 hB MS0
        try simp only [Act.put, List.setIfInBounds_toArray, List.set_cons_succ, List.set_cons_zero]
        refine wpAnyH_takeC (i := 0) (v := .slice (some ⟨g, off, mm⟩) n cap0) (some 67) rfl rfl (by kernel_rfl) (by kernel_rfl) (by kernel_rfl) (fun _ _ _ h => h) (Or.inl ⟨by rfl, fun X hX => by go_simp <;> (first | omega | decide | simp)⟩) (Lib.hid SV.out.lo) ?_
        try simp only [Act.put, List.setIfInBounds_toArray, List.set_cons_succ, List.set_cons_zero]
        refine wpAnyH_takeC (i := 1) (v := v) (some 68) rfl rfl (by kernel_rfl) (by kernel_rfl) (by kernel_rfl) (fun _ _ _ h => h) (Or.inl ⟨by rfl, fun X hX => by go_simp <;> (first | omega | decide | simp)⟩) (Lib.hid SV.out.lo) ?_
        try simp only [Act.put, List.setIfInBounds_toArray, List.set_cons_succ, List.set_cons_zero]
        refine wpAnyH_takeC (i := 2) (v := .int .i64 (r : Int)) (some 69) rfl rfl (by kernel_rfl) (by kernel_rfl) (by kernel_rfl) (fun _ _ _ h => h) (Or.inl ⟨by rfl, fun X hX => by go_simp <;> (first | omega | decide | simp)⟩) (Lib.hid SV.out.lo) ?_
        try simp only [Act.put, List.setIfInBounds_toArray, List.set_cons_succ, List.set_cons_zero]
        refine wpAnyH_takeC (i := 3) (v := .agg #[.int .i64 0, .int .i64 (r : Int), .int .i64 0, .int .i64 1, .int .i64 1]) (some 70) rfl rfl (by kernel_rfl) (by kernel_rfl) (by kernel_rfl) (fun _ _ _ h => h) (Or.inl ⟨by rfl, fun X hX => by go_simp <;> (first | omega | decide | simp)⟩) (Lib.hid SV.out.lo) ?_
        try simp only [Act.put, List.setIfInBounds_toArray, List.set_cons_succ, List.set_cons_zero]
        refine wpAnyH_takeC (i := 7) (v := .slice (some ⟨g1, off1, mm1⟩) m cap1) (some 74) rfl rfl (by kernel_rfl) (by kernel_rfl) (by kernel_rfl) (fun _ _ _ h => h) (Or.inl ⟨by rfl, fun X hX => by go_simp <;> (first | omega | decide | simp)⟩) (Lib.hid SV.out.lo) ?_
        try simp only [Act.put, List.setIfInBounds_toArray, List.set_cons_succ, List.set_cons_zero]
        refine wpAnyH_takeC (i := 9) (v := .int .i64 a3) (some 76) rfl rfl (by kernel_rfl) (by kernel_rfl) (by kernel_rfl) (fun _ _ _ h => h) (Or.inl ⟨by rfl, fun X hX => by go_simp <;> (first | omega | decide | simp)⟩) (Lib.hid SV.out.lo) ?_
        try simp only [Act.put, List.setIfInBounds_toArray, List.set_cons_succ, List.set_cons_zero]
        refine wpAnyH_all (rs := [4, 6, 10]) (by kernel_rfl) (by simp) ?_
        intro ii hii
        rcases (show ii = 4 ∨ ii = 6 ∨ ii = 10 by simpa using hii) with rfl | rfl | rfl
        · clear hii
          refine wpOp_step rfl (fun K hK => ?_)
          go_simp
          have SX := Lib.hid (SV.out.put 35 [.int .i64 0, .int .i64 (r : Int), .int .i64 0, .int .i64 1, .int .i64 1])
          refine hK _ _ ⟨Lib.hid SX.out.lo, ?_⟩
          clear hK K SV
          obtain ⟨gP1, hgP⟩ : ∃ g, (World.heap w9).size = g := ⟨_, rfl⟩
          rw [hgP] at SX ⊢
          clear hgP
          have SV := SX
          clear SX
          generalize World.alloc w9 _ = x1 at SV ⊢
          try simp only [Act.put, List.setIfInBounds_toArray, List.set_cons_succ, List.set_cons_zero]
          refine wpAnyH_all (rs := [5, 6, 10]) (by kernel_rfl) (by simp) ?_
          intro ii hii
          rcases (show ii = 5 ∨ ii = 6 ∨ ii = 10 by simpa using hii) with rfl | rfl | rfl
          · clear hii
            refine wpOp_step rfl (fun K hK => ?_)
            have hB := (SV.out.pb (gP1, .cells #[.int .i64 0, .int .i64 (r : Int), .int .i64 0, .int .i64 1, .int .i64 1] 35 (0, 0)) (by simp)).1
            obtain ⟨vA2, x2, hr, ho, hg, hat⟩ := append_plcH x1 B 23 v _ _ SV.out.g.o1 gP1 (pcB r) (show Whole _ gP1 35 (pcB r).cells from hB) (by rw [HPL.out]; omega) SV.out.g.sz
            have SX := Lib.hid (SV.out.app1 ho hg hat)
            refine wp_append_runH (some 72) rfl _ _ _ rfl v _ vA2 rfl rfl hr ?_
            refine hK _ _ ⟨Lib.hid SX.out.lo, ?_⟩
            clear hK K SV
            clear hr ho hg hat hB
            have SV := SX
            clear SX
            try simp only [Act.put, List.setIfInBounds_toArray, List.set_cons_succ, List.set_cons_zero]
            refine wpAnyH_all (rs := [6, 10]) (by kernel_rfl) (by simp) ?_
            intro ii hii
            rcases (show ii = 6 ∨ ii = 10 by simpa using hii) with rfl | rfl
            · clear hii
              refine wpOp_step rfl (fun K hK => ?_)
              go_simp
              have SX := Lib.hid (SV.out.made zc 101 HZC.out (by unfold maxLen; omega))
              refine hK _ _ ⟨Lib.hid SX.out.lo, ?_⟩
              clear hK K SV
              obtain ⟨vM3, hvM⟩ : ∃ vv, Value.slice (some ⟨(World.heap x2).size, 0, none⟩) 0 101 = vv := ⟨_, rfl⟩
              rw [hvM] at SX ⊢
              clear hvM
              have SV := SX
              clear SX
              generalize World.alloc x2 (.cells zc 2) = x3 at SV ⊢
              try simp only [Act.put, List.setIfInBounds_toArray, List.set_cons_succ, List.set_cons_zero]
              refine wpAnyH_all (rs := [8, 10]) (by kernel_rfl) (by simp) ?_
              intro ii hii
              rcases (show ii = 8 ∨ ii = 10 by simpa using hii) with rfl | rfl
              · clear hii
                refine wpOp_step rfl (fun K hK => ?_)
                obtain ⟨vB4, x4, hr, ho, hg, hat⟩ := append_intsH x3 B 22 vM3 _ _ SV.out.g.o2 (some ⟨g1, off1, mm1⟩) m cap1 hs (HHA.out _ (HBB.out.trans (SV.out.lo.mono HBB.out.size))) HHL.out (by first | (simp; done) | (simp; omega)) SV.out.g.sz
                have SX := Lib.hid (SV.out.app2 (zs := hs) (by rw [HHL.out]; exact ho) hg hat)
                refine wp_append_runH (some 75) rfl _ _ _ rfl vM3 _ vB4 rfl rfl hr ?_
                refine hK _ _ ⟨Lib.hid SX.out.lo, ?_⟩
                clear hK K SV
                clear hr ho hg hat
                have SV := SX
                clear SX
                try simp only [Act.put, List.setIfInBounds_toArray, List.set_cons_succ, List.set_cons_zero]
                refine wpAnyH_all (rs := [10]) (by kernel_rfl) (by simp) ?_
                intro ii hii
                obtain rfl : ii = 10 := by simpa using hii
                clear hii
                refine wpOp_step rfl (fun K hK => ?_)
                go_simp
                have SX := Lib.hid (SV.out.put 2 [.int .i64 a3])
                refine hK _ _ ⟨Lib.hid SX.out.lo, ?_⟩
                clear hK K SV
                obtain ⟨gH5, hgH⟩ : ∃ g, (World.heap x4).size = g := ⟨_, rfl⟩
                rw [hgH] at SX ⊢
                clear hgH
                have SV := SX
                clear SX
                generalize World.alloc x4 _ = x5 at SV ⊢
                try simp only [Act.put, List.setIfInBounds_toArray, List.set_cons_succ, List.set_cons_zero]
                refine wpAnyH_all (rs := [11]) (by kernel_rfl) (by simp) ?_
                intro ii hii
                obtain rfl : ii = 11 := by simpa using hii
                clear hii
                refine wpOp_step rfl (fun K hK => ?_)
                have hB := (SV.out.pb (gH5, .cells #[.int .i64 a3] 2 (0, 0)) (by simp)).1
                obtain ⟨vC6, x6, hr, ho, hg, hat⟩ := append_intsH x5 B 22 vB4 _ _ SV.out.g.o2 (some ⟨gH5, 0, none⟩) 1 1 [a3] (Ints.whole (n := 1) (show Whole _ gH5 2 ([a3].map (Value.int .i64)) from hB) rfl (by omega)) rfl (by simp; have := HHL.out; omega) SV.out.g.sz
                have SX := Lib.hid (SV.out.app2 (zs := [a3]) ho hg hat)
                refine wp_append_runH (some 78) rfl _ _ _ rfl vB4 _ vC6 rfl rfl hr ?_
                refine hK _ _ ⟨Lib.hid SX.out.lo, ?_⟩
                clear hK K SV
                clear hr ho hg hat hB
                have SV := SX
                clear SX
                try simp only [Act.put, List.setIfInBounds_toArray, List.set_cons_succ, List.set_cons_zero]
                refine wpAnyH_all (rs := [12]) (by kernel_rfl) (by simp) ?_
                intro ii hii
                obtain rfl : ii = 12 := by simpa using hii
                clear hii
                refine wpOp_step rfl (fun K hK => ?_)
                go_simp
                refine (HLE2.out _ vA2 vC6 _ SV.out).mono ?_
                rintro e x7 ⟨vb, fb, rfl, hp2, hb6⟩
                have SX := Lib.hid (SV.out.below hb6)
                have PX := Lib.hid hp2
                refine hK _ _ ⟨Lib.hid SX.out.lo, ?_⟩
                clear hK K SV
                clear hp2 hb6
                have SV := SX
                clear SX
                try simp only [Act.put, List.setIfInBounds_toArray, List.set_cons_succ, List.set_cons_zero]
                refine wpAnyH_takeC (i := 13) (v := .tuple #[vb, .int .i64 fb]) (some 66) rfl rfl (by kernel_rfl) (by kernel_rfl) (by kernel_rfl) (fun _ _ _ h => h) (Or.inl ⟨by rfl, fun X hX => by go_simp <;> (first | omega | decide | simp)⟩) (Lib.hid SV.out.lo) ?_
                try simp only [Act.put, List.setIfInBounds_toArray, List.set_cons_succ, List.set_cons_zero]
                refine wpAnyH_takeC (i := 14) (v := vb) (some 80) rfl rfl (by kernel_rfl) (by kernel_rfl) (by kernel_rfl) (fun _ _ _ h => h) (Or.inl ⟨by rfl, fun X hX => by go_simp <;> (first | omega | decide | simp)⟩) (Lib.hid SV.out.lo) ?_
                try simp only [Act.put, List.setIfInBounds_toArray, List.set_cons_succ, List.set_cons_zero]
                refine wpAnyH_takeC (i := 15) (v := .int .i64 fb) (some 81) rfl rfl (by kernel_rfl) (by kernel_rfl) (by kernel_rfl) (fun _ _ _ h => h) (Or.inl ⟨by rfl, fun X hX => by go_simp <;> (first | omega | decide | simp)⟩) (Lib.hid SV.out.lo) ?_
                try simp only [Act.put, List.setIfInBounds_toArray, List.set_cons_succ, List.set_cons_zero]
                refine wpAnyH_takeC (i := 16) (v := vb) (some 14) rfl rfl (by kernel_rfl) (by kernel_rfl) (by kernel_rfl) (fun _ _ _ h => h) (Or.inl ⟨by rfl, fun X hX => by go_simp <;> (first | omega | decide | simp)⟩) (Lib.hid SV.out.lo) ?_
                try simp only [Act.put, List.setIfInBounds_toArray, List.set_cons_succ, List.set_cons_zero]
                refine wpAnyH_takeC (i := 17) (v := .int .i64 fb) (some 15) rfl rfl (by kernel_rfl) (by kernel_rfl) (by kernel_rfl) (fun _ _ _ h => h) (Or.inl ⟨by rfl, fun X hX => by go_simp <;> (first | omega | decide | simp)⟩) (Lib.hid SV.out.lo) ?_
                try simp only [Act.put, List.setIfInBounds_toArray, List.set_cons_succ, List.set_cons_zero]
                refine wpAnyH_done (by kernel_rfl) ?_ _
                simp only [Exit.then]
                exact HT.out _ _ _ _ _ _ _ _ _ _ _ _ _ _ _ _ _ _ _ _ _ _ _ _ _ _ _ _ _ _ _ _ _ _ _ _ _ _ _ _ _ _ _ _ _ _ _ _ _ _ _ _ _ _ _ _ _ _ _ _ _ _ _ _ _ _ _ _ _ _ _ _ _ _ _ _ _ _ _ _ _ _ _ _ _ _ _ _ _ _ _ _ _ _ _ _ _ _ _ _ _ _ _ _ _ _ _ _ _ _ _ _ _ _ _ _ _ _ _ _ _ _ _ _ _ _ _ _ vb fb _ SV.out.lo (fun q hq => (SV.out.pb q (by simp [hq])).1) PX.out
              · clear hii
                refine wpOp_step rfl (fun K hK => ?_)
                go_simp
                have SX := Lib.hid (SV.out.put 2 [.int .i64 a3])
                refine hK _ _ ⟨Lib.hid SX.out.lo, ?_⟩
                clear hK K SV
                obtain ⟨gH8, hgH⟩ : ∃ g, (World.heap x3).size = g := ⟨_, rfl⟩
                rw [hgH] at SX ⊢
                clear hgH
                have SV := SX
                clear SX
                generalize World.alloc x3 _ = x8 at SV ⊢
                try simp only [Act.put, List.setIfInBounds_toArray, List.set_cons_succ, List.set_cons_zero]
                refine wpAnyH_all (rs := [8]) (by kernel_rfl) (by simp) ?_
                intro ii hii
                obtain rfl : ii = 8 := by simpa using hii
                clear hii
                refine wpOp_step rfl (fun K hK => ?_)
                obtain ⟨vB9, x9, hr, ho, hg, hat⟩ := append_intsH x8 B 22 vM3 _ _ SV.out.g.o2 (some ⟨g1, off1, mm1⟩) m cap1 hs (HHA.out _ (HBB.out.trans (SV.out.lo.mono HBB.out.size))) HHL.out (by first | (simp; done) | (simp; omega)) SV.out.g.sz
                have SX := Lib.hid (SV.out.app2 (zs := hs) (by rw [HHL.out]; exact ho) hg hat)
                refine wp_append_runH (some 75) rfl _ _ _ rfl vM3 _ vB9 rfl rfl hr ?_
                refine hK _ _ ⟨Lib.hid SX.out.lo, ?_⟩
                clear hK K SV
                clear hr ho hg hat
                have SV := SX
                clear SX
                try simp only [Act.put, List.setIfInBounds_toArray, List.set_cons_succ, List.set_cons_zero]
                refine wpAnyH_all (rs := [11]) (by kernel_rfl) (by simp) ?_
                intro ii hii
                obtain rfl : ii = 11 := by simpa using hii
                clear hii
                refine wpOp_step rfl (fun K hK => ?_)
                have hB := (SV.out.pb (gH8, .cells #[.int .i64 a3] 2 (0, 0)) (by simp)).1
                obtain ⟨vC10, x10, hr, ho, hg, hat⟩ := append_intsH x9 B 22 vB9 _ _ SV.out.g.o2 (some ⟨gH8, 0, none⟩) 1 1 [a3] (Ints.whole (n := 1) (show Whole _ gH8 2 ([a3].map (Value.int .i64)) from hB) rfl (by omega)) rfl (by simp; have := HHL.out; omega) SV.out.g.sz
                have SX := Lib.hid (SV.out.app2 (zs := [a3]) ho hg hat)
                refine wp_append_runH (some 78) rfl _ _ _ rfl vB9 _ vC10 rfl rfl hr ?_
                refine hK _ _ ⟨Lib.hid SX.out.lo, ?_⟩
                clear hK K SV
                clear hr ho hg hat hB
                have SV := SX
                clear SX
                try simp only [Act.put, List.setIfInBounds_toArray, List.set_cons_succ, List.set_cons_zero]
                refine wpAnyH_all (rs := [12]) (by kernel_rfl) (by simp) ?_
                intro ii hii
                obtain rfl : ii = 12 := by simpa using hii
                clear hii
                refine wpOp_step rfl (fun K hK => ?_)
                go_simp
                refine (HLE2.out _ vA2 vC10 _ SV.out).mono ?_
                rintro e x11 ⟨vb, fb, rfl, hp2, hb6⟩
                have SX := Lib.hid (SV.out.below hb6)
                have PX := Lib.hid hp2
                refine hK _ _ ⟨Lib.hid SX.out.lo, ?_⟩
                clear hK K SV
                clear hp2 hb6
                have SV := SX
                clear SX
                try simp only [Act.put, List.setIfInBounds_toArray, List.set_cons_succ, List.set_cons_zero]
                refine wpAnyH_takeC (i := 13) (v := .tuple #[vb, .int .i64 fb]) (some 66) rfl rfl (by kernel_rfl) (by kernel_rfl) (by kernel_rfl) (fun _ _ _ h => h) (Or.inl ⟨by rfl, fun X hX => by go_simp <;> (first | omega | decide | simp)⟩) (Lib.hid SV.out.lo) ?_
                try simp only [Act.put, List.setIfInBounds_toArray, List.set_cons_succ, List.set_cons_zero]
                refine wpAnyH_takeC (i := 14) (v := vb) (some 80) rfl rfl (by kernel_rfl) (by kernel_rfl) (by kernel_rfl) (fun _ _ _ h => h) (Or.inl ⟨by rfl, fun X hX => by go_simp <;> (first | omega | decide | simp)⟩) (Lib.hid SV.out.lo) ?_
                try simp only [Act.put, List.setIfInBounds_toArray, List.set_cons_succ, List.set_cons_zero]
                refine wpAnyH_takeC (i := 15) (v := .int .i64 fb) (some 81) rfl rfl (by kernel_rfl) (by kernel_rfl) (by kernel_rfl) (fun _ _ _ h => h) (Or.inl ⟨by rfl, fun X hX => by go_simp <;> (first | omega | decide | simp)⟩) (Lib.hid SV.out.lo) ?_
                try simp only [Act.put, List.setIfInBounds_toArray, List.set_cons_succ, List.set_cons_zero]
                refine wpAnyH_takeC (i := 16) (v := vb) (some 14) rfl rfl (by kernel_rfl) (by kernel_rfl) (by kernel_rfl) (fun _ _ _ h => h) (Or.inl ⟨by rfl, fun X hX => by go_simp <;> (first | omega | decide | simp)⟩) (Lib.hid SV.out.lo) ?_
                try simp only [Act.put, List.setIfInBounds_toArray, List.set_cons_succ, List.set_cons_zero]
                refine wpAnyH_takeC (i := 17) (v := .int .i64 fb) (some 15) rfl rfl (by kernel_rfl) (by kernel_rfl) (by kernel_rfl) (fun _ _ _ h => h) (Or.inl ⟨by rfl, fun X hX => by go_simp <;> (first | omega | decide | simp)⟩) (Lib.hid SV.out.lo) ?_
                try simp only [Act.put, List.setIfInBounds_toArray, List.set_cons_succ, List.set_cons_zero]
                refine wpAnyH_done (by kernel_rfl) ?_ _
                simp only [Exit.then]
                exact HT.out _ _ _ _ _ _ _ _ _ _ _ _ _ _ _ _ _ _ _ _ _ _ _ _ _ _ _ _ _ _ _ _ _ _ _ _ _ _ _ _ _ _ _ _ _ _ _ _ _ _ _ _ _ _ _ _ _ _ _ _ _ _ _ _ _ _ _ _ _ _ _ _ _ _ _ _ _ _ _ _ _ _ _ _ _ _ _ _ _ _ _ _ _ _ _ _ _ _ _ _ _ _ _ _ _ _ _ _ _ _ _ _ _ _ _ _ _ _ _ _ _ _ _ _ _ _ _ _ vb fb _ SV.out.lo (fun q hq => (SV.out.pb q (by simp [hq])).1) PX.out
            · clear hii
              refine wpOp_step rfl (fun K hK => ?_)
              go_simp
              have SX := Lib.hid (SV.out.put 2 [.int .i64 a3])
              refine hK _ _ ⟨Lib.hid SX.out.lo, ?_⟩
              clear hK K SV
              obtain ⟨gH12, hgH⟩ : ∃ g, (World.heap x2).size = g := ⟨_, rfl⟩
              rw [hgH] at SX ⊢
              clear hgH
              have SV := SX
              clear SX
              generalize World.alloc x2 _ = x12 at SV ⊢
              try simp only [Act.put, List.setIfInBounds_toArray, List.set_cons_succ, List.set_cons_zero]
              refine wpAnyH_all (rs := [6]) (by kernel_rfl) (by simp) ?_
              intro ii hii
              obtain rfl : ii = 6 := by simpa using hii
              clear hii
              refine wpOp_step rfl (fun K hK => ?_)
              go_simp
              have SX := Lib.hid (SV.out.made zc 101 HZC.out (by unfold maxLen; omega))
              refine hK _ _ ⟨Lib.hid SX.out.lo, ?_⟩
              clear hK K SV
              obtain ⟨vM13, hvM⟩ : ∃ vv, Value.slice (some ⟨(World.heap x12).size, 0, none⟩) 0 101 = vv := ⟨_, rfl⟩
              rw [hvM] at SX ⊢
              clear hvM
              have SV := SX
              clear SX
              generalize World.alloc x12 (.cells zc 2) = x13 at SV ⊢
              try simp only [Act.put, List.setIfInBounds_toArray, List.set_cons_succ, List.set_cons_zero]
              refine wpAnyH_all (rs := [8]) (by kernel_rfl) (by simp) ?_
              intro ii hii
              obtain rfl : ii = 8 := by simpa using hii
              clear hii
              refine wpOp_step rfl (fun K hK => ?_)
              obtain ⟨vB14, x14, hr, ho, hg, hat⟩ := append_intsH x13 B 22 vM13 _ _ SV.out.g.o2 (some ⟨g1, off1, mm1⟩) m cap1 hs (HHA.out _ (HBB.out.trans (SV.out.lo.mono HBB.out.size))) HHL.out (by first | (simp; done) | (simp; omega)) SV.out.g.sz
              have SX := Lib.hid (SV.out.app2 (zs := hs) (by rw [HHL.out]; exact ho) hg hat)
              refine wp_append_runH (some 75) rfl _ _ _ rfl vM13 _ vB14 rfl rfl hr ?_
              refine hK _ _ ⟨Lib.hid SX.out.lo, ?_⟩
              clear hK K SV
              clear hr ho hg hat
              have SV := SX
              clear SX
              try simp only [Act.put, List.setIfInBounds_toArray, List.set_cons_succ, List.set_cons_zero]
              refine wpAnyH_all (rs := [11]) (by kernel_rfl) (by simp) ?_
              intro ii hii
              obtain rfl : ii = 11 := by simpa using hii
              clear hii
              refine wpOp_step rfl (fun K hK => ?_)
              have hB := (SV.out.pb (gH12, .cells #[.int .i64 a3] 2 (0, 0)) (by simp)).1
              obtain ⟨vC15, x15, hr, ho, hg, hat⟩ := append_intsH x14 B 22 vB14 _ _ SV.out.g.o2 (some ⟨gH12, 0, none⟩) 1 1 [a3] (Ints.whole (n := 1) (show Whole _ gH12 2 ([a3].map (Value.int .i64)) from hB) rfl (by omega)) rfl (by simp; have := HHL.out; omega) SV.out.g.sz
              have SX := Lib.hid (SV.out.app2 (zs := [a3]) ho hg hat)
              refine wp_append_runH (some 78) rfl _ _ _ rfl vB14 _ vC15 rfl rfl hr ?_
              refine hK _ _ ⟨Lib.hid SX.out.lo, ?_⟩
              clear hK K SV
              clear hr ho hg hat hB
              have SV := SX
              clear SX
              try simp only [Act.put, List.setIfInBounds_toArray, List.set_cons_succ, List.set_cons_zero]
              refine wpAnyH_all (rs := [12]) (by kernel_rfl) (by simp) ?_
              intro ii hii
              obtain rfl : ii = 12 := by simpa using hii
              clear hii
              refine wpOp_step rfl (fun K hK => ?_)
              go_simp
              refine (HLE2.out _ vA2 vC15 _ SV.out).mono ?_
              rintro e x16 ⟨vb, fb, rfl, hp2, hb6⟩
              have SX := Lib.hid (SV.out.below hb6)
              have PX := Lib.hid hp2
              refine hK _ _ ⟨Lib.hid SX.out.lo, ?_⟩
              clear hK K SV
              clear hp2 hb6
              have SV := SX
              clear SX
              try simp only [Act.put, List.setIfInBounds_toArray, List.set_cons_succ, List.set_cons_zero]
              refine wpAnyH_takeC (i := 13) (v := .tuple #[vb, .int .i64 fb]) (some 66) rfl rfl (by kernel_rfl) (by kernel_rfl) (by kernel_rfl) (fun _ _ _ h => h) (Or.inl ⟨by rfl, fun X hX => by go_simp <;> (first | omega | decide | simp)⟩) (Lib.hid SV.out.lo) ?_
              try simp only [Act.put, List.setIfInBounds_toArray, List.set_cons_succ, List.set_cons_zero]
              refine wpAnyH_takeC (i := 14) (v := vb) (some 80) rfl rfl (by kernel_rfl) (by kernel_rfl) (by kernel_rfl) (fun _ _ _ h => h) (Or.inl ⟨by rfl, fun X hX => by go_simp <;> (first | omega | decide | simp)⟩) (Lib.hid SV.out.lo) ?_
              try simp only [Act.put, List.setIfInBounds_toArray, List.set_cons_succ, List.set_cons_zero]
              refine wpAnyH_takeC (i := 15) (v := .int .i64 fb) (some 81) rfl rfl (by kernel_rfl) (by kernel_rfl) (by kernel_rfl) (fun _ _ _ h => h) (Or.inl ⟨by rfl, fun X hX => by go_simp <;> (first | omega | decide | simp)⟩) (Lib.hid SV.out.lo) ?_
              try simp only [Act.put, List.setIfInBounds_toArray, List.set_cons_succ, List.set_cons_zero]
              refine wpAnyH_takeC (i := 16) (v := vb) (some 14) rfl rfl (by kernel_rfl) (by kernel_rfl) (by kernel_rfl) (fun _ _ _ h => h) (Or.inl ⟨by rfl, fun X hX => by go_simp <;> (first | omega | decide | simp)⟩) (Lib.hid SV.out.lo) ?_
              try simp only [Act.put, List.setIfInBounds_toArray, List.set_cons_succ, List.set_cons_zero]
              refine wpAnyH_takeC (i := 17) (v := .int .i64 fb) (some 15) rfl rfl (by kernel_rfl) (by kernel_rfl) (by kernel_rfl) (fun _ _ _ h => h) (Or.inl ⟨by rfl, fun X hX => by go_simp <;> (first | omega | decide | simp)⟩) (Lib.hid SV.out.lo) ?_
              try simp only [Act.put, List.setIfInBounds_toArray, List.set_cons_succ, List.set_cons_zero]
              refine wpAnyH_done (by kernel_rfl) ?_ _
              simp only [Exit.then]
              exact HT.out _ _ _ _ _ _ _ _ _ _ _ _ _ _ _ _ _ _ _ _ _ _ _ _ _ _ _ _ _ _ _ _ _ _ _ _ _ _ _ _ _ _ _ _ _ _ _ _ _ _ _ _ _ _ _ _ _ _ _ _ _ _ _ _ _ _ _ _ _ _ _ _ _ _ _ _ _ _ _ _ _ _ _ _ _ _ _ _ _ _ _ _ _ _ _ _ _ _ _ _ _ _ _ _ _ _ _ _ _ _ _ _ _ _ _ _ _ _ _ _ _ _ _ _ _ _ _ _ vb fb _ SV.out.lo (fun q hq => (SV.out.pb q (by simp [hq])).1) PX.out
          · clear hii
            refine wpOp_step rfl (fun K hK => ?_)
            go_simp
            have SX := Lib.hid (SV.out.made zc 101 HZC.out (by unfold maxLen; omega))
            refine hK _ _ ⟨Lib.hid SX.out.lo, ?_⟩
            clear hK K SV
            obtain ⟨vM17, hvM⟩ : ∃ vv, Value.slice (some ⟨(World.heap x1).size, 0, none⟩) 0 101 = vv := ⟨_, rfl⟩
            rw [hvM] at SX ⊢
            clear hvM
            have SV := SX
            clear SX
            generalize World.alloc x1 (.cells zc 2) = x17 at SV ⊢
            try simp only [Act.put, List.setIfInBounds_toArray, List.set_cons_succ, List.set_cons_zero]
            refine wpAnyH_all (rs := [5, 10]) (by kernel_rfl) (by simp) ?_
            intro ii hii
            rcases (show ii = 5 ∨ ii = 10 by simpa using hii) with rfl | rfl
            · clear hii
              refine wpOp_step rfl (fun K hK => ?_)
              have hB := (SV.out.pb (gP1, .cells #[.int .i64 0, .int .i64 (r : Int), .int .i64 0, .int .i64 1, .int .i64 1] 35 (0, 0)) (by simp)).1
              obtain ⟨vA18, x18, hr, ho, hg, hat⟩ := append_plcH x17 B 23 v _ _ SV.out.g.o1 gP1 (pcB r) (show Whole _ gP1 35 (pcB r).cells from hB) (by rw [HPL.out]; omega) SV.out.g.sz
              have SX := Lib.hid (SV.out.app1 ho hg hat)
              refine wp_append_runH (some 72) rfl _ _ _ rfl v _ vA18 rfl rfl hr ?_
              refine hK _ _ ⟨Lib.hid SX.out.lo, ?_⟩
              clear hK K SV
              clear hr ho hg hat hB
              have SV := SX
              clear SX
              try simp only [Act.put, List.setIfInBounds_toArray, List.set_cons_succ, List.set_cons_zero]
              refine wpAnyH_all (rs := [8, 10]) (by kernel_rfl) (by simp) ?_
              intro ii hii
              rcases (show ii = 8 ∨ ii = 10 by simpa using hii) with rfl | rfl
              · clear hii
                refine wpOp_step rfl (fun K hK => ?_)
                obtain ⟨vB19, x19, hr, ho, hg, hat⟩ := append_intsH x18 B 22 vM17 _ _ SV.out.g.o2 (some ⟨g1, off1, mm1⟩) m cap1 hs (HHA.out _ (HBB.out.trans (SV.out.lo.mono HBB.out.size))) HHL.out (by first | (simp; done) | (simp; omega)) SV.out.g.sz
                have SX := Lib.hid (SV.out.app2 (zs := hs) (by rw [HHL.out]; exact ho) hg hat)
                refine wp_append_runH (some 75) rfl _ _ _ rfl vM17 _ vB19 rfl rfl hr ?_
                refine hK _ _ ⟨Lib.hid SX.out.lo, ?_⟩
                clear hK K SV
                clear hr ho hg hat
                have SV := SX
                clear SX
                try simp only [Act.put, List.setIfInBounds_toArray, List.set_cons_succ, List.set_cons_zero]
                refine wpAnyH_all (rs := [10]) (by kernel_rfl) (by simp) ?_
                intro ii hii
                obtain rfl : ii = 10 := by simpa using hii
                clear hii
                refine wpOp_step rfl (fun K hK => ?_)
                go_simp
                have SX := Lib.hid (SV.out.put 2 [.int .i64 a3])
                refine hK _ _ ⟨Lib.hid SX.out.lo, ?_⟩
                clear hK K SV
                obtain ⟨gH20, hgH⟩ : ∃ g, (World.heap x19).size = g := ⟨_, rfl⟩
                rw [hgH] at SX ⊢
                clear hgH
                have SV := SX
                clear SX
                generalize World.alloc x19 _ = x20 at SV ⊢
                try simp only [Act.put, List.setIfInBounds_toArray, List.set_cons_succ, List.set_cons_zero]
                refine wpAnyH_all (rs := [11]) (by kernel_rfl) (by simp) ?_
                intro ii hii
                obtain rfl : ii = 11 := by simpa using hii
                clear hii
                refine wpOp_step rfl (fun K hK => ?_)
                have hB := (SV.out.pb (gH20, .cells #[.int .i64 a3] 2 (0, 0)) (by simp)).1
                obtain ⟨vC21, x21, hr, ho, hg, hat⟩ := append_intsH x20 B 22 vB19 _ _ SV.out.g.o2 (some ⟨gH20, 0, none⟩) 1 1 [a3] (Ints.whole (n := 1) (show Whole _ gH20 2 ([a3].map (Value.int .i64)) from hB) rfl (by omega)) rfl (by simp; have := HHL.out; omega) SV.out.g.sz
                have SX := Lib.hid (SV.out.app2 (zs := [a3]) ho hg hat)
                refine wp_append_runH (some 78) rfl _ _ _ rfl vB19 _ vC21 rfl rfl hr ?_
                refine hK _ _ ⟨Lib.hid SX.out.lo, ?_⟩
                clear hK K SV
                clear hr ho hg hat hB
                have SV := SX
                clear SX
                try simp only [Act.put, List.setIfInBounds_toArray, List.set_cons_succ, List.set_cons_zero]
                refine wpAnyH_all (rs := [12]) (by kernel_rfl) (by simp) ?_
                intro ii hii
                obtain rfl : ii = 12 := by simpa using hii
                clear hii
                refine wpOp_step rfl (fun K hK => ?_)
                go_simp
                refine (HLE2.out _ vA18 vC21 _ SV.out).mono ?_
                rintro e x22 ⟨vb, fb, rfl, hp2, hb6⟩
                have SX := Lib.hid (SV.out.below hb6)
                have PX := Lib.hid hp2
                refine hK _ _ ⟨Lib.hid SX.out.lo, ?_⟩
                clear hK K SV
                clear hp2 hb6
                have SV := SX
                clear SX
                try simp only [Act.put, List.setIfInBounds_toArray, List.set_cons_succ, List.set_cons_zero]
                refine wpAnyH_takeC (i := 13) (v := .tuple #[vb, .int .i64 fb]) (some 66) rfl rfl (by kernel_rfl) (by kernel_rfl) (by kernel_rfl) (fun _ _ _ h => h) (Or.inl ⟨by rfl, fun X hX => by go_simp <;> (first | omega | decide | simp)⟩) (Lib.hid SV.out.lo) ?_
                try simp only [Act.put, List.setIfInBounds_toArray, List.set_cons_succ, List.set_cons_zero]
                refine wpAnyH_takeC (i := 14) (v := vb) (some 80) rfl rfl (by kernel_rfl) (by kernel_rfl) (by kernel_rfl) (fun _ _ _ h => h) (Or.inl ⟨by rfl, fun X hX => by go_simp <;> (first | omega | decide | simp)⟩) (Lib.hid SV.out.lo) ?_
                try simp only [Act.put, List.setIfInBounds_toArray, List.set_cons_succ, List.set_cons_zero]
                refine wpAnyH_takeC (i := 15) (v := .int .i64 fb) (some 81) rfl rfl (by kernel_rfl) (by kernel_rfl) (by kernel_rfl) (fun _ _ _ h => h) (Or.inl ⟨by rfl, fun X hX => by go_simp <;> (first | omega | decide | simp)⟩) (Lib.hid SV.out.lo) ?_
                try simp only [Act.put, List.setIfInBounds_toArray, List.set_cons_succ, List.set_cons_zero]
                refine wpAnyH_takeC (i := 16) (v := vb) (some 14) rfl rfl (by kernel_rfl) (by kernel_rfl) (by kernel_rfl) (fun _ _ _ h => h) (Or.inl ⟨by rfl, fun X hX => by go_simp <;> (first | omega | decide | simp)⟩) (Lib.hid SV.out.lo) ?_
                try simp only [Act.put, List.setIfInBounds_toArray, List.set_cons_succ, List.set_cons_zero]
                refine wpAnyH_takeC (i := 17) (v := .int .i64 fb) (some 15) rfl rfl (by kernel_rfl) (by kernel_rfl) (by kernel_rfl) (fun _ _ _ h => h) (Or.inl ⟨by rfl, fun X hX => by go_simp <;> (first | omega | decide | simp)⟩) (Lib.hid SV.out.lo) ?_
                try simp only [Act.put, List.setIfInBounds_toArray, List.set_cons_succ, List.set_cons_zero]
                refine wpAnyH_done (by kernel_rfl) ?_ _
                simp only [Exit.then]
                exact HT.out _ _ _ _ _ _ _ _ _ _ _ _ _ _ _ _ _ _ _ _ _ _ _ _ _ _ _ _ _ _ _ _ _ _ _ _ _ _ _ _ _ _ _ _ _ _ _ _ _ _ _ _ _ _ _ _ _ _ _ _ _ _ _ _ _ _ _ _ _ _ _ _ _ _ _ _ _ _ _ _ _ _ _ _ _ _ _ _ _ _ _ _ _ _ _ _ _ _ _ _ _ _ _ _ _ _ _ _ _ _ _ _ _ _ _ _ _ _ _ _ _ _ _ _ _ _ _ _ vb fb _ SV.out.lo (fun q hq => (SV.out.pb q (by simp [hq])).1) PX.out
              · clear hii
                refine wpOp_step rfl (fun K hK => ?_)
                go_simp
                have SX := Lib.hid (SV.out.put 2 [.int .i64 a3])
                refine hK _ _ ⟨Lib.hid SX.out.lo, ?_⟩
                clear hK K SV
                obtain ⟨gH23, hgH⟩ : ∃ g, (World.heap x18).size = g := ⟨_, rfl⟩
                rw [hgH] at SX ⊢
                clear hgH
                have SV := SX
                clear SX
                generalize World.alloc x18 _ = x23 at SV ⊢
                try simp only [Act.put, List.setIfInBounds_toArray, List.set_cons_succ, List.set_cons_zero]
                refine wpAnyH_all (rs := [8]) (by kernel_rfl) (by simp) ?_
                intro ii hii
                obtain rfl : ii = 8 := by simpa using hii
                clear hii
                refine wpOp_step rfl (fun K hK => ?_)
                obtain ⟨vB24, x24, hr, ho, hg, hat⟩ := append_intsH x23 B 22 vM17 _ _ SV.out.g.o2 (some ⟨g1, off1, mm1⟩) m cap1 hs (HHA.out _ (HBB.out.trans (SV.out.lo.mono HBB.out.size))) HHL.out (by first | (simp; done) | (simp; omega)) SV.out.g.sz
                have SX := Lib.hid (SV.out.app2 (zs := hs) (by rw [HHL.out]; exact ho) hg hat)
                refine wp_append_runH (some 75) rfl _ _ _ rfl vM17 _ vB24 rfl rfl hr ?_
                refine hK _ _ ⟨Lib.hid SX.out.lo, ?_⟩
                clear hK K SV
                clear hr ho hg hat
                have SV := SX
                clear SX
                try simp only [Act.put, List.setIfInBounds_toArray, List.set_cons_succ, List.set_cons_zero]
                refine wpAnyH_all (rs := [11]) (by kernel_rfl) (by simp) ?_
                intro ii hii
                obtain rfl : ii = 11 := by simpa using hii
                clear hii
                refine wpOp_step rfl (fun K hK => ?_)
                have hB := (SV.out.pb (gH23, .cells #[.int .i64 a3] 2 (0, 0)) (by simp)).1
                obtain ⟨vC25, x25, hr, ho, hg, hat⟩ := append_intsH x24 B 22 vB24 _ _ SV.out.g.o2 (some ⟨gH23, 0, none⟩) 1 1 [a3] (Ints.whole (n := 1) (show Whole _ gH23 2 ([a3].map (Value.int .i64)) from hB) rfl (by omega)) rfl (by simp; have := HHL.out; omega) SV.out.g.sz
                have SX := Lib.hid (SV.out.app2 (zs := [a3]) ho hg hat)
                refine wp_append_runH (some 78) rfl _ _ _ rfl vB24 _ vC25 rfl rfl hr ?_
                refine hK _ _ ⟨Lib.hid SX.out.lo, ?_⟩
                clear hK K SV
                clear hr ho hg hat hB
                have SV := SX
                clear SX
                try simp only [Act.put, List.setIfInBounds_toArray, List.set_cons_succ, List.set_cons_zero]
                refine wpAnyH_all (rs := [12]) (by kernel_rfl) (by simp) ?_
                intro ii hii
                obtain rfl : ii = 12 := by simpa using hii
                clear hii
                refine wpOp_step rfl (fun K hK => ?_)
                go_simp
                refine (HLE2.out _ vA18 vC25 _ SV.out).mono ?_
                rintro e x26 ⟨vb, fb, rfl, hp2, hb6⟩
                have SX := Lib.hid (SV.out.below hb6)
                have PX := Lib.hid hp2
                refine hK _ _ ⟨Lib.hid SX.out.lo, ?_⟩
                clear hK K SV
                clear hp2 hb6
                have SV := SX
                clear SX
                try simp only [Act.put, List.setIfInBounds_toArray, List.set_cons_succ, List.set_cons_zero]
                refine wpAnyH_takeC (i := 13) (v := .tuple #[vb, .int .i64 fb]) (some 66) rfl rfl (by kernel_rfl) (by kernel_rfl) (by kernel_rfl) (fun _ _ _ h => h) (Or.inl ⟨by rfl, fun X hX => by go_simp <;> (first | omega | decide | simp)⟩) (Lib.hid SV.out.lo) ?_
                try simp only [Act.put, List.setIfInBounds_toArray, List.set_cons_succ, List.set_cons_zero]
                refine wpAnyH_takeC (i := 14) (v := vb) (some 80) rfl rfl (by kernel_rfl) (by kernel_rfl) (by kernel_rfl) (fun _ _ _ h => h) (Or.inl ⟨by rfl, fun X hX => by go_simp <;> (first | omega | decide | simp)⟩) (Lib.hid SV.out.lo) ?_
                try simp only [Act.put, List.setIfInBounds_toArray, List.set_cons_succ, List.set_cons_zero]
                refine wpAnyH_takeC (i := 15) (v := .int .i64 fb) (some 81) rfl rfl (by kernel_rfl) (by kernel_rfl) (by kernel_rfl) (fun _ _ _ h => h) (Or.inl ⟨by rfl, fun X hX => by go_simp <;> (first | omega | decide | simp)⟩) (Lib.hid SV.out.lo) ?_
                try simp only [Act.put, List.setIfInBounds_toArray, List.set_cons_succ, List.set_cons_zero]
                refine wpAnyH_takeC (i := 16) (v := vb) (some 14) rfl rfl (by kernel_rfl) (by kernel_rfl) (by kernel_rfl) (fun _ _ _ h => h) (Or.inl ⟨by rfl, fun X hX => by go_simp <;> (first | omega | decide | simp)⟩) (Lib.hid SV.out.lo) ?_
                try simp only [Act.put, List.setIfInBounds_toArray, List.set_cons_succ, List.set_cons_zero]
                refine wpAnyH_takeC (i := 17) (v := .int .i64 fb) (some 15) rfl rfl (by kernel_rfl) (by kernel_rfl) (by kernel_rfl) (fun _ _ _ h => h) (Or.inl ⟨by rfl, fun X hX => by go_simp <;> (first | omega | decide | simp)⟩) (Lib.hid SV.out.lo) ?_
                try simp only [Act.put, List.setIfInBounds_toArray, List.set_cons_succ, List.set_cons_zero]
                refine wpAnyH_done (by kernel_rfl) ?_ _
                simp only [Exit.then]
                exact HT.out _ _ _ _ _ _ _ _ _ _ _ _ _ _ _ _ _ _ _ _ _ _ _ _ _ _ _ _ _ _ _ _ _ _ _ _ _ _ _ _ _ _ _ _ _ _ _ _ _ _ _ _ _ _ _ _ _ _ _ _ _ _ _ _ _ _ _ _ _ _ _ _ _ _ _ _ _ _ _ _ _ _ _ _ _ _ _ _ _ _ _ _ _ _ _ _ _ _ _ _ _ _ _ _ _ _ _ _ _ _ _ _ _ _ _ _ _ _ _ _ _ _ _ _ _ _ _ _ vb fb _ SV.out.lo (fun q hq => (SV.out.pb q (by simp [hq])).1) PX.out
            · clear hii
              refine wpOp_step rfl (fun K hK => ?_)
              go_simp
              have SX := Lib.hid (SV.out.put 2 [.int .i64 a3])
              refine hK _ _ ⟨Lib.hid SX.out.lo, ?_⟩
              clear hK K SV
              obtain ⟨gH27, hgH⟩ : ∃ g, (World.heap x17).size = g := ⟨_, rfl⟩
              rw [hgH] at SX ⊢
              clear hgH
              have SV := SX
              clear SX
              generalize World.alloc x17 _ = x27 at SV ⊢
              try simp only [Act.put, List.setIfInBounds_toArray, List.set_cons_succ, List.set_cons_zero]
              refine wpAnyH_all (rs := [5]) (by kernel_rfl) (by simp) ?_
              intro ii hii
              obtain rfl : ii = 5 := by simpa using hii
              clear hii
              refine wpOp_step rfl (fun K hK => ?_)
              have hB := (SV.out.pb (gP1, .cells #[.int .i64 0, .int .i64 (r : Int), .int .i64 0, .int .i64 1, .int .i64 1] 35 (0, 0)) (by simp)).1
              obtain ⟨vA28, x28, hr, ho, hg, hat⟩ := append_plcH x27 B 23 v _ _ SV.out.g.o1 gP1 (pcB r) (show Whole _ gP1 35 (pcB r).cells from hB) (by rw [HPL.out]; omega) SV.out.g.sz
              have SX := Lib.hid (SV.out.app1 ho hg hat)
              refine wp_append_runH (some 72) rfl _ _ _ rfl v _ vA28 rfl rfl hr ?_
              refine hK _ _ ⟨Lib.hid SX.out.lo, ?_⟩
              clear hK K SV
              clear hr ho hg hat hB
              have SV := SX
              clear SX
              try simp only [Act.put, List.setIfInBounds_toArray, List.set_cons_succ, List.set_cons_zero]
              refine wpAnyH_all (rs := [8]) (by kernel_rfl) (by simp) ?_
              intro ii hii
              obtain rfl : ii = 8 := by simpa using hii
              clear hii
              refine wpOp_step rfl (fun K hK => ?_)
              obtain ⟨vB29, x29, hr, ho, hg, hat⟩ := append_intsH x28 B 22 vM17 _ _ SV.out.g.o2 (some ⟨g1, off1, mm1⟩) m cap1 hs (HHA.out _ (HBB.out.trans (SV.out.lo.mono HBB.out.size))) HHL.out (by first | (simp; done) | (simp; omega)) SV.out.g.sz
              have SX := Lib.hid (SV.out.app2 (zs := hs) (by rw [HHL.out]; exact ho) hg hat)
              refine wp_append_runH (some 75) rfl _ _ _ rfl vM17 _ vB29 rfl rfl hr ?_
              refine hK _ _ ⟨Lib.hid SX.out.lo, ?_⟩
              clear hK K SV
              clear hr ho hg hat
              have SV := SX
              clear SX
              try simp only [Act.put, List.setIfInBounds_toArray, List.set_cons_succ, List.set_cons_zero]
              refine wpAnyH_all (rs := [11]) (by kernel_rfl) (by simp) ?_
              intro ii hii
              obtain rfl : ii = 11 := by simpa using hii
              clear hii
              refine wpOp_step rfl (fun K hK => ?_)
              have hB := (SV.out.pb (gH27, .cells #[.int .i64 a3] 2 (0, 0)) (by simp)).1
              obtain ⟨vC30, x30, hr, ho, hg, hat⟩ := append_intsH x29 B 22 vB29 _ _ SV.out.g.o2 (some ⟨gH27, 0, none⟩) 1 1 [a3] (Ints.whole (n := 1) (show Whole _ gH27 2 ([a3].map (Value.int .i64)) from hB) rfl (by omega)) rfl (by simp; have := HHL.out; omega) SV.out.g.sz
              have SX := Lib.hid (SV.out.app2 (zs := [a3]) ho hg hat)
              refine wp_append_runH (some 78) rfl _ _ _ rfl vB29 _ vC30 rfl rfl hr ?_
              refine hK _ _ ⟨Lib.hid SX.out.lo, ?_⟩
              clear hK K SV
              clear hr ho hg hat hB
              have SV := SX
              clear SX
              try simp only [Act.put, List.setIfInBounds_toArray, List.set_cons_succ, List.set_cons_zero]
              refine wpAnyH_all (rs := [12]) (by kernel_rfl) (by simp) ?_
              intro ii hii
              obtain rfl : ii = 12 := by simpa using hii
              clear hii
              refine wpOp_step rfl (fun K hK => ?_)
              go_simp
              refine (HLE2.out _ vA28 vC30 _ SV.out).mono ?_
              rintro e x31 ⟨vb, fb, rfl, hp2, hb6⟩
              have SX := Lib.hid (SV.out.below hb6)
              have PX := Lib.hid hp2
              refine hK _ _ ⟨Lib.hid SX.out.lo, ?_⟩
              clear hK K SV
              clear hp2 hb6
              have SV := SX
              clear SX
              try simp only [Act.put, List.setIfInBounds_toArray, List.set_cons_succ, List.set_cons_zero]
              refine wpAnyH_takeC (i := 13) (v := .tuple #[vb, .int .i64 fb]) (some 66) rfl rfl (by kernel_rfl) (by kernel_rfl) (by kernel_rfl) (fun _ _ _ h => h) (Or.inl ⟨by rfl, fun X hX => by go_simp <;> (first | omega | decide | simp)⟩) (Lib.hid SV.out.lo) ?_
              try simp only [Act.put, List.setIfInBounds_toArray, List.set_cons_succ, List.set_cons_zero]
              refine wpAnyH_takeC (i := 14) (v := vb) (some 80) rfl rfl (by kernel_rfl) (by kernel_rfl) (by kernel_rfl) (fun _ _ _ h => h) (Or.inl ⟨by rfl, fun X hX => by go_simp <;> (first | omega | decide | simp)⟩) (Lib.hid SV.out.lo) ?_
              try simp only [Act.put, List.setIfInBounds_toArray, List.set_cons_succ, List.set_cons_zero]
              refine wpAnyH_takeC (i := 15) (v := .int .i64 fb) (some 81) rfl rfl (by kernel_rfl) (by kernel_rfl) (by kernel_rfl) (fun _ _ _ h => h) (Or.inl ⟨by rfl, fun X hX => by go_simp <;> (first | omega | decide | simp)⟩) (Lib.hid SV.out.lo) ?_
              try simp only [Act.put, List.setIfInBounds_toArray, List.set_cons_succ, List.set_cons_zero]
              refine wpAnyH_takeC (i := 16) (v := vb) (some 14) rfl rfl (by kernel_rfl) (by kernel_rfl) (by kernel_rfl) (fun _ _ _ h => h) (Or.inl ⟨by rfl, fun X hX => by go_simp <;> (first | omega | decide | simp)⟩) (Lib.hid SV.out.lo) ?_
              try simp only [Act.put, List.setIfInBounds_toArray, List.set_cons_succ, List.set_cons_zero]
              refine wpAnyH_takeC (i := 17) (v := .int .i64 fb) (some 15) rfl rfl (by kernel_rfl) (by kernel_rfl) (by kernel_rfl) (fun _ _ _ h => h) (Or.inl ⟨by rfl, fun X hX => by go_simp <;> (first | omega | decide | simp)⟩) (Lib.hid SV.out.lo) ?_
              try simp only [Act.put, List.setIfInBounds_toArray, List.set_cons_succ, List.set_cons_zero]
              refine wpAnyH_done (by kernel_rfl) ?_ _
              simp only [Exit.then]
              exact HT.out _ _ _ _ _ _ _ _ _ _ _ _ _ _ _ _ _ _ _ _ _ _ _ _ _ _ _ _ _ _ _ _ _ _ _ _ _ _ _ _ _ _ _ _ _ _ _ _ _ _ _ _ _ _ _ _ _ _ _ _ _ _ _ _ _ _ _ _ _ _ _ _ _ _ _ _ _ _ _ _ _ _ _ _ _ _ _ _ _ _ _ _ _ _ _ _ _ _ _ _ _ _ _ _ _ _ _ _ _ _ _ _ _ _ _ _ _ _ _ _ _ _ _ _ _ _ _ _ vb fb _ SV.out.lo (fun q hq => (SV.out.pb q (by simp [hq])).1) PX.out
          · clear hii
            refine wpOp_step rfl (fun K hK => ?_)
            go_simp
            have SX := Lib.hid (SV.out.put 2 [.int .i64 a3])
            refine hK _ _ ⟨Lib.hid SX.out.lo, ?_⟩
            clear hK K SV
            obtain ⟨gH32, hgH⟩ : ∃ g, (World.heap x1).size = g := ⟨_, rfl⟩
            rw [hgH] at SX ⊢
            clear hgH
            have SV := SX
            clear SX
            generalize World.alloc x1 _ = x32 at SV ⊢
            try simp only [Act.put, List.setIfInBounds_toArray, List.set_cons_succ, List.set_cons_zero]
            refine wpAnyH_all (rs := [5, 6]) (by kernel_rfl) (by simp) ?_
            intro ii hii
            rcases (show ii = 5 ∨ ii = 6 by simpa using hii) with rfl | rfl
            · clear hii
              refine wpOp_step rfl (fun K hK => ?_)
              have hB := (SV.out.pb (gP1, .cells #[.int .i64 0, .int .i64 (r : Int), .int .i64 0, .int .i64 1, .int .i64 1] 35 (0, 0)) (by simp)).1
              obtain ⟨vA33, x33, hr, ho, hg, hat⟩ := append_plcH x32 B 23 v _ _ SV.out.g.o1 gP1 (pcB r) (show Whole _ gP1 35 (pcB r).cells from hB) (by rw [HPL.out]; omega) SV.out.g.sz
              have SX := Lib.hid (SV.out.app1 ho hg hat)
              refine wp_append_runH (some 72) rfl _ _ _ rfl v _ vA33 rfl rfl hr ?_
              refine hK _ _ ⟨Lib.hid SX.out.lo, ?_⟩
              clear hK K SV
              clear hr ho hg hat hB
              have SV := SX
              clear SX
              try simp only [Act.put, List.setIfInBounds_toArray, List.set_cons_succ, List.set_cons_zero]
              refine wpAnyH_all (rs := [6]) (by kernel_rfl) (by simp) ?_
              intro ii hii
              obtain rfl : ii = 6 := by simpa using hii
              clear hii
              refine wpOp_step rfl (fun K hK => ?_)
              go_simp
              have SX := Lib.hid (SV.out.made zc 101 HZC.out (by unfold maxLen; omega))
              refine hK _ _ ⟨Lib.hid SX.out.lo, ?_⟩
              clear hK K SV
              obtain ⟨vM34, hvM⟩ : ∃ vv, Value.slice (some ⟨(World.heap x33).size, 0, none⟩) 0 101 = vv := ⟨_, rfl⟩
              rw [hvM] at SX ⊢
              clear hvM
              have SV := SX
              clear SX
              generalize World.alloc x33 (.cells zc 2) = x34 at SV ⊢
              try simp only [Act.put, List.setIfInBounds_toArray, List.set_cons_succ, List.set_cons_zero]
              refine wpAnyH_all (rs := [8]) (by kernel_rfl) (by simp) ?_
              intro ii hii
              obtain rfl : ii = 8 := by simpa using hii
              clear hii
              refine wpOp_step rfl (fun K hK => ?_)
              obtain ⟨vB35, x35, hr, ho, hg, hat⟩ := append_intsH x34 B 22 vM34 _ _ SV.out.g.o2 (some ⟨g1, off1, mm1⟩) m cap1 hs (HHA.out _ (HBB.out.trans (SV.out.lo.mono HBB.out.size))) HHL.out (by first | (simp; done) | (simp; omega)) SV.out.g.sz
              have SX := Lib.hid (SV.out.app2 (zs := hs) (by rw [HHL.out]; exact ho) hg hat)
              refine wp_append_runH (some 75) rfl _ _ _ rfl vM34 _ vB35 rfl rfl hr ?_
              refine hK _ _ ⟨Lib.hid SX.out.lo, ?_⟩
              clear hK K SV
              clear hr ho hg hat
              have SV := SX
              clear SX
              try simp only [Act.put, List.setIfInBounds_toArray, List.set_cons_succ, List.set_cons_zero]
              refine wpAnyH_all (rs := [11]) (by kernel_rfl) (by simp) ?_
              intro ii hii
              obtain rfl : ii = 11 := by simpa using hii
              clear hii
              refine wpOp_step rfl (fun K hK => ?_)
              have hB := (SV.out.pb (gH32, .cells #[.int .i64 a3] 2 (0, 0)) (by simp)).1
              obtain ⟨vC36, x36, hr, ho, hg, hat⟩ := append_intsH x35 B 22 vB35 _ _ SV.out.g.o2 (some ⟨gH32, 0, none⟩) 1 1 [a3] (Ints.whole (n := 1) (show Whole _ gH32 2 ([a3].map (Value.int .i64)) from hB) rfl (by omega)) rfl (by simp; have := HHL.out; omega) SV.out.g.sz
              have SX := Lib.hid (SV.out.app2 (zs := [a3]) ho hg hat)
              refine wp_append_runH (some 78) rfl _ _ _ rfl vB35 _ vC36 rfl rfl hr ?_
              refine hK _ _ ⟨Lib.hid SX.out.lo, ?_⟩
              clear hK K SV
              clear hr ho hg hat hB
              have SV := SX
              clear SX
              try simp only [Act.put, List.setIfInBounds_toArray, List.set_cons_succ, List.set_cons_zero]
              refine wpAnyH_all (rs := [12]) (by kernel_rfl) (by simp) ?_
              intro ii hii
              obtain rfl : ii = 12 := by simpa using hii
              clear hii
              refine wpOp_step rfl (fun K hK => ?_)
              go_simp
              refine (HLE2.out _ vA33 vC36 _ SV.out).mono ?_
              rintro e x37 ⟨vb, fb, rfl, hp2, hb6⟩
              have SX := Lib.hid (SV.out.below hb6)
              have PX := Lib.hid hp2
              refine hK _ _ ⟨Lib.hid SX.out.lo, ?_⟩
              clear hK K SV
              clear hp2 hb6
              have SV := SX
              clear SX
              try simp only [Act.put, List.setIfInBounds_toArray, List.set_cons_succ, List.set_cons_zero]
              refine wpAnyH_takeC (i := 13) (v := .tuple #[vb, .int .i64 fb]) (some 66) rfl rfl (by kernel_rfl) (by kernel_rfl) (by kernel_rfl) (fun _ _ _ h => h) (Or.inl ⟨by rfl, fun X hX => by go_simp <;> (first | omega | decide | simp)⟩) (Lib.hid SV.out.lo) ?_
              try simp only [Act.put, List.setIfInBounds_toArray, List.set_cons_succ, List.set_cons_zero]
              refine wpAnyH_takeC (i := 14) (v := vb) (some 80) rfl rfl (by kernel_rfl) (by kernel_rfl) (by kernel_rfl) (fun _ _ _ h => h) (Or.inl ⟨by rfl, fun X hX => by go_simp <;> (first | omega | decide | simp)⟩) (Lib.hid SV.out.lo) ?_
              try simp only [Act.put, List.setIfInBounds_toArray, List.set_cons_succ, List.set_cons_zero]
              refine wpAnyH_takeC (i := 15) (v := .int .i64 fb) (some 81) rfl rfl (by kernel_rfl) (by kernel_rfl) (by kernel_rfl) (fun _ _ _ h => h) (Or.inl ⟨by rfl, fun X hX => by go_simp <;> (first | omega | decide | simp)⟩) (Lib.hid SV.out.lo) ?_
              try simp only [Act.put, List.setIfInBounds_toArray, List.set_cons_succ, List.set_cons_zero]
              refine wpAnyH_takeC (i := 16) (v := vb) (some 14) rfl rfl (by kernel_rfl) (by kernel_rfl) (by kernel_rfl) (fun _ _ _ h => h) (Or.inl ⟨by rfl, fun X hX => by go_simp <;> (first | omega | decide | simp)⟩) (Lib.hid SV.out.lo) ?_
              try simp only [Act.put, List.setIfInBounds_toArray, List.set_cons_succ, List.set_cons_zero]
              refine wpAnyH_takeC (i := 17) (v := .int .i64 fb) (some 15) rfl rfl (by kernel_rfl) (by kernel_rfl) (by kernel_rfl) (fun _ _ _ h => h) (Or.inl ⟨by rfl, fun X hX => by go_simp <;> (first | omega | decide | simp)⟩) (Lib.hid SV.out.lo) ?_
              try simp only [Act.put, List.setIfInBounds_toArray, List.set_cons_succ, List.set_cons_zero]
              refine wpAnyH_done (by kernel_rfl) ?_ _
              simp only [Exit.then]
              exact HT.out _ _ _ _ _ _ _ _ _ _ _ _ _ _ _ _ _ _ _ _ _ _ _ _ _ _ _ _ _ _ _ _ _ _ _ _ _ _ _ _ _ _ _ _ _ _ _ _ _ _ _ _ _ _ _ _ _ _ _ _ _ _ _ _ _ _ _ _ _ _ _ _ _ _ _ _ _ _ _ _ _ _ _ _ _ _ _ _ _ _ _ _ _ _ _ _ _ _ _ _ _ _ _ _ _ _ _ _ _ _ _ _ _ _ _ _ _ _ _ _ _ _ _ _ _ _ _ _ vb fb _ SV.out.lo (fun q hq => (SV.out.pb q (by simp [hq])).1) PX.out
            · clear hii
              refine wpOp_step rfl (fun K hK => ?_)
              go_simp
              have SX := Lib.hid (SV.out.made zc 101 HZC.out (by unfold maxLen; omega))
              refine hK _ _ ⟨Lib.hid SX.out.lo, ?_⟩
              clear hK K SV
              obtain ⟨vM38, hvM⟩ : ∃ vv, Value.slice (some ⟨(World.heap x32).size, 0, none⟩) 0 101 = vv := ⟨_, rfl⟩
              rw [hvM] at SX ⊢
              clear hvM
              have SV := SX
              clear SX
              generalize World.alloc x32 (.cells zc 2) = x38 at SV ⊢
              try simp only [Act.put, List.setIfInBounds_toArray, List.set_cons_succ, List.set_cons_zero]
              refine wpAnyH_all (rs := [5]) (by kernel_rfl) (by simp) ?_
              intro ii hii
              obtain rfl : ii = 5 := by simpa using hii
              clear hii
              refine wpOp_step rfl (fun K hK => ?_)
              have hB := (SV.out.pb (gP1, .cells #[.int .i64 0, .int .i64 (r : Int), .int .i64 0, .int .i64 1, .int .i64 1] 35 (0, 0)) (by simp)).1
              obtain ⟨vA39, x39, hr, ho, hg, hat⟩ := append_plcH x38 B 23 v _ _ SV.out.g.o1 gP1 (pcB r) (show Whole _ gP1 35 (pcB r).cells from hB) (by rw [HPL.out]; omega) SV.out.g.sz
              have SX := Lib.hid (SV.out.app1 ho hg hat)
              refine wp_append_runH (some 72) rfl _ _ _ rfl v _ vA39 rfl rfl hr ?_
              refine hK _ _ ⟨Lib.hid SX.out.lo, ?_⟩
              clear hK K SV
              clear hr ho hg hat hB
              have SV := SX
              clear SX
              try simp only [Act.put, List.setIfInBounds_toArray, List.set_cons_succ, List.set_cons_zero]
              refine wpAnyH_all (rs := [8]) (by kernel_rfl) (by simp) ?_
              intro ii hii
              obtain rfl : ii = 8 := by simpa using hii
              clear hii
              refine wpOp_step rfl (fun K hK => ?_)
              obtain ⟨vB40, x40, hr, ho, hg, hat⟩ := append_intsH x39 B 22 vM38 _ _ SV.out.g.o2 (some ⟨g1, off1, mm1⟩) m cap1 hs (HHA.out _ (HBB.out.trans (SV.out.lo.mono HBB.out.size))) HHL.out (by first | (simp; done) | (simp; omega)) SV.out.g.sz
              have SX := Lib.hid (SV.out.app2 (zs := hs) (by rw [HHL.out]; exact ho) hg hat)
              refine wp_append_runH (some 75) rfl _ _ _ rfl vM38 _ vB40 rfl rfl hr ?_
              refine hK _ _ ⟨Lib.hid SX.out.lo, ?_⟩
              clear hK K SV
              clear hr ho hg hat
              have SV := SX
              clear SX
              try simp only [Act.put, List.setIfInBounds_toArray, List.set_cons_succ, List.set_cons_zero]
              refine wpAnyH_all (rs := [11]) (by kernel_rfl) (by simp) ?_
              intro ii hii
              obtain rfl : ii = 11 := by simpa using hii
              clear hii
              refine wpOp_step rfl (fun K hK => ?_)
              have hB := (SV.out.pb (gH32, .cells #[.int .i64 a3] 2 (0, 0)) (by simp)).1
              obtain ⟨vC41, x41, hr, ho, hg, hat⟩ := append_intsH x40 B 22 vB40 _ _ SV.out.g.o2 (some ⟨gH32, 0, none⟩) 1 1 [a3] (Ints.whole (n := 1) (show Whole _ gH32 2 ([a3].map (Value.int .i64)) from hB) rfl (by omega)) rfl (by simp; have := HHL.out; omega) SV.out.g.sz
              have SX := Lib.hid (SV.out.app2 (zs := [a3]) ho hg hat)
              refine wp_append_runH (some 78) rfl _ _ _ rfl vB40 _ vC41 rfl rfl hr ?_
              refine hK _ _ ⟨Lib.hid SX.out.lo, ?_⟩
              clear hK K SV
              clear hr ho hg hat hB
              have SV := SX
              clear SX
              try simp only [Act.put, List.setIfInBounds_toArray, List.set_cons_succ, List.set_cons_zero]
              refine wpAnyH_all (rs := [12]) (by kernel_rfl) (by simp) ?_
              intro ii hii
              obtain rfl : ii = 12 := by simpa using hii
              clear hii
              refine wpOp_step rfl (fun K hK => ?_)
              go_simp
              refine (HLE2.out _ vA39 vC41 _ SV.out).mono ?_
              rintro e x42 ⟨vb, fb, rfl, hp2, hb6⟩
              have SX := Lib.hid (SV.out.below hb6)
              have PX := Lib.hid hp2
              refine hK _ _ ⟨Lib.hid SX.out.lo, ?_⟩
              clear hK K SV
              clear hp2 hb6
              have SV := SX
              clear SX
              try simp only [Act.put, List.setIfInBounds_toArray, List.set_cons_succ, List.set_cons_zero]
              refine wpAnyH_takeC (i := 13) (v := .tuple #[vb, .int .i64 fb]) (some 66) rfl rfl (by kernel_rfl) (by kernel_rfl) (by kernel_rfl) (fun _ _ _ h => h) (Or.inl ⟨by rfl, fun X hX => by go_simp <;> (first | omega | decide | simp)⟩) (Lib.hid SV.out.lo) ?_
              try simp only [Act.put, List.setIfInBounds_toArray, List.set_cons_succ, List.set_cons_zero]
              refine wpAnyH_takeC (i := 14) (v := vb) (some 80) rfl rfl (by kernel_rfl) (by kernel_rfl) (by kernel_rfl) (fun _ _ _ h => h) (Or.inl ⟨by rfl, fun X hX => by go_simp <;> (first | omega | decide | simp)⟩) (Lib.hid SV.out.lo) ?_
              try simp only [Act.put, List.setIfInBounds_toArray, List.set_cons_succ, List.set_cons_zero]
              refine wpAnyH_takeC (i := 15) (v := .int .i64 fb) (some 81) rfl rfl (by kernel_rfl) (by kernel_rfl) (by kernel_rfl) (fun _ _ _ h => h) (Or.inl ⟨by rfl, fun X hX => by go_simp <;> (first | omega | decide | simp)⟩) (Lib.hid SV.out.lo) ?_
              try simp only [Act.put, List.setIfInBounds_toArray, List.set_cons_succ, List.set_cons_zero]
              refine wpAnyH_takeC (i := 16) (v := vb) (some 14) rfl rfl (by kernel_rfl) (by kernel_rfl) (by kernel_rfl) (fun _ _ _ h => h) (Or.inl ⟨by rfl, fun X hX => by go_simp <;> (first | omega | decide | simp)⟩) (Lib.hid SV.out.lo) ?_
              try simp only [Act.put, List.setIfInBounds_toArray, List.set_cons_succ, List.set_cons_zero]
              refine wpAnyH_takeC (i := 17) (v := .int .i64 fb) (some 15) rfl rfl (by kernel_rfl) (by kernel_rfl) (by kernel_rfl) (fun _ _ _ h => h) (Or.inl ⟨by rfl, fun X hX => by go_simp <;> (first | omega | decide | simp)⟩) (Lib.hid SV.out.lo) ?_
              try simp only [Act.put, List.setIfInBounds_toArray, List.set_cons_succ, List.set_cons_zero]
              refine wpAnyH_done (by kernel_rfl) ?_ _
              simp only [Exit.then]
              exact HT.out _ _ _ _ _ _ _ _ _ _ _ _ _ _ _ _ _ _ _ _ _ _ _ _ _ _ _ _ _ _ _ _ _ _ _ _ _ _ _ _ _ _ _ _ _ _ _ _ _ _ _ _ _ _ _ _ _ _ _ _ _ _ _ _ _ _ _ _ _ _ _ _ _ _ _ _ _ _ _ _ _ _ _ _ _ _ _ _ _ _ _ _ _ _ _ _ _ _ _ _ _ _ _ _ _ _ _ _ _ _ _ _ _ _ _ _ _ _ _ _ _ _ _ _ _ _ _ _ vb fb _ SV.out.lo (fun q hq => (SV.out.pb q (by simp [hq])).1) PX.out
        · clear hii
          refine wpOp_step rfl (fun K hK => ?_)
          go_simp
          have SX := Lib.hid (SV.out.made zc 101 HZC.out (by unfold maxLen; omega))
          refine hK _ _ ⟨Lib.hid SX.out.lo, ?_⟩
          clear hK K SV
          obtain ⟨vM43, hvM⟩ : ∃ vv, Value.slice (some ⟨(World.heap w9).size, 0, none⟩) 0 101 = vv := ⟨_, rfl⟩
          rw [hvM] at SX ⊢
          clear hvM
          have SV := SX
          clear SX
          generalize World.alloc w9 (.cells zc 2) = x43 at SV ⊢
          try simp only [Act.put, List.setIfInBounds_toArray, List.set_cons_succ, List.set_cons_zero]
          refine wpAnyH_all (rs := [4, 10]) (by kernel_rfl) (by simp) ?_
          intro ii hii
          rcases (show ii = 4 ∨ ii = 10 by simpa using hii) with rfl | rfl
          · clear hii
            refine wpOp_step rfl (fun K hK => ?_)
            go_simp
            have SX := Lib.hid (SV.out.put 35 [.int .i64 0, .int .i64 (r : Int), .int .i64 0, .int .i64 1, .int .i64 1])
            refine hK _ _ ⟨Lib.hid SX.out.lo, ?_⟩
            clear hK K SV
            obtain ⟨gP44, hgP⟩ : ∃ g, (World.heap x43).size = g := ⟨_, rfl⟩
            rw [hgP] at SX ⊢
            clear hgP
            have SV := SX
            clear SX
            generalize World.alloc x43 _ = x44 at SV ⊢
            try simp only [Act.put, List.setIfInBounds_toArray, List.set_cons_succ, List.set_cons_zero]
            refine wpAnyH_all (rs := [5, 10]) (by kernel_rfl) (by simp) ?_
            intro ii hii
            rcases (show ii = 5 ∨ ii = 10 by simpa using hii) with rfl | rfl
            · clear hii
              refine wpOp_step rfl (fun K hK => ?_)
              have hB := (SV.out.pb (gP44, .cells #[.int .i64 0, .int .i64 (r : Int), .int .i64 0, .int .i64 1, .int .i64 1] 35 (0, 0)) (by simp)).1
              obtain ⟨vA45, x45, hr, ho, hg, hat⟩ := append_plcH x44 B 23 v _ _ SV.out.g.o1 gP44 (pcB r) (show Whole _ gP44 35 (pcB r).cells from hB) (by rw [HPL.out]; omega) SV.out.g.sz
              have SX := Lib.hid (SV.out.app1 ho hg hat)
              refine wp_append_runH (some 72) rfl _ _ _ rfl v _ vA45 rfl rfl hr ?_
              refine hK _ _ ⟨Lib.hid SX.out.lo, ?_⟩
              clear hK K SV
              clear hr ho hg hat hB
              have SV := SX
              clear SX
              try simp only [Act.put, List.setIfInBounds_toArray, List.set_cons_succ, List.set_cons_zero]
              refine wpAnyH_all (rs := [8, 10]) (by kernel_rfl) (by simp) ?_
              intro ii hii
              rcases (show ii = 8 ∨ ii = 10 by simpa using hii) with rfl | rfl
              · clear hii
                refine wpOp_step rfl (fun K hK => ?_)
                obtain ⟨vB46, x46, hr, ho, hg, hat⟩ := append_intsH x45 B 22 vM43 _ _ SV.out.g.o2 (some ⟨g1, off1, mm1⟩) m cap1 hs (HHA.out _ (HBB.out.trans (SV.out.lo.mono HBB.out.size))) HHL.out (by first | (simp; done) | (simp; omega)) SV.out.g.sz
                have SX := Lib.hid (SV.out.app2 (zs := hs) (by rw [HHL.out]; exact ho) hg hat)
                refine wp_append_runH (some 75) rfl _ _ _ rfl vM43 _ vB46 rfl rfl hr ?_
                refine hK _ _ ⟨Lib.hid SX.out.lo, ?_⟩
                clear hK K SV
                clear hr ho hg hat
                have SV := SX
                clear SX
                try simp only [Act.put, List.setIfInBounds_toArray, List.set_cons_succ, List.set_cons_zero]
                refine wpAnyH_all (rs := [10]) (by kernel_rfl) (by simp) ?_
                intro ii hii
                obtain rfl : ii = 10 := by simpa using hii
                clear hii
                refine wpOp_step rfl (fun K hK => ?_)
                go_simp
                have SX := Lib.hid (SV.out.put 2 [.int .i64 a3])
                refine hK _ _ ⟨Lib.hid SX.out.lo, ?_⟩
                clear hK K SV
                obtain ⟨gH47, hgH⟩ : ∃ g, (World.heap x46).size = g := ⟨_, rfl⟩
                rw [hgH] at SX ⊢
                clear hgH
                have SV := SX
                clear SX
                generalize World.alloc x46 _ = x47 at SV ⊢
                try simp only [Act.put, List.setIfInBounds_toArray, List.set_cons_succ, List.set_cons_zero]
                refine wpAnyH_all (rs := [11]) (by kernel_rfl) (by simp) ?_
                intro ii hii
                obtain rfl : ii = 11 := by simpa using hii
                clear hii
                refine wpOp_step rfl (fun K hK => ?_)
                have hB := (SV.out.pb (gH47, .cells #[.int .i64 a3] 2 (0, 0)) (by simp)).1
                obtain ⟨vC48, x48, hr, ho, hg, hat⟩ := append_intsH x47 B 22 vB46 _ _ SV.out.g.o2 (some ⟨gH47, 0, none⟩) 1 1 [a3] (Ints.whole (n := 1) (show Whole _ gH47 2 ([a3].map (Value.int .i64)) from hB) rfl (by omega)) rfl (by simp; have := HHL.out; omega) SV.out.g.sz
                have SX := Lib.hid (SV.out.app2 (zs := [a3]) ho hg hat)
                refine wp_append_runH (some 78) rfl _ _ _ rfl vB46 _ vC48 rfl rfl hr ?_
                refine hK _ _ ⟨Lib.hid SX.out.lo, ?_⟩
                clear hK K SV
                clear hr ho hg hat hB
                have SV := SX
                clear SX
                try simp only [Act.put, List.setIfInBounds_toArray, List.set_cons_succ, List.set_cons_zero]
                refine wpAnyH_all (rs := [12]) (by kernel_rfl) (by simp) ?_
                intro ii hii
                obtain rfl : ii = 12 := by simpa using hii
                clear hii
                refine wpOp_step rfl (fun K hK => ?_)
                go_simp
                refine (HLE2.out _ vA45 vC48 _ SV.out).mono ?_
                rintro e x49 ⟨vb, fb, rfl, hp2, hb6⟩
                have SX := Lib.hid (SV.out.below hb6)
                have PX := Lib.hid hp2
                refine hK _ _ ⟨Lib.hid SX.out.lo, ?_⟩
                clear hK K SV
                clear hp2 hb6
                have SV := SX
                clear SX
                try simp only [Act.put, List.setIfInBounds_toArray, List.set_cons_succ, List.set_cons_zero]
                refine wpAnyH_takeC (i := 13) (v := .tuple #[vb, .int .i64 fb]) (some 66) rfl rfl (by kernel_rfl) (by kernel_rfl) (by kernel_rfl) (fun _ _ _ h => h) (Or.inl ⟨by rfl, fun X hX => by go_simp <;> (first | omega | decide | simp)⟩) (Lib.hid SV.out.lo) ?_
                try simp only [Act.put, List.setIfInBounds_toArray, List.set_cons_succ, List.set_cons_zero]
                refine wpAnyH_takeC (i := 14) (v := vb) (some 80) rfl rfl (by kernel_rfl) (by kernel_rfl) (by kernel_rfl) (fun _ _ _ h => h) (Or.inl ⟨by rfl, fun X hX => by go_simp <;> (first | omega | decide | simp)⟩) (Lib.hid SV.out.lo) ?_
                try simp only [Act.put, List.setIfInBounds_toArray, List.set_cons_succ, List.set_cons_zero]
                refine wpAnyH_takeC (i := 15) (v := .int .i64 fb) (some 81) rfl rfl (by kernel_rfl) (by kernel_rfl) (by kernel_rfl) (fun _ _ _ h => h) (Or.inl ⟨by rfl, fun X hX => by go_simp <;> (first | omega | decide | simp)⟩) (Lib.hid SV.out.lo) ?_
                try simp only [Act.put, List.setIfInBounds_toArray, List.set_cons_succ, List.set_cons_zero]
                refine wpAnyH_takeC (i := 16) (v := vb) (some 14) rfl rfl (by kernel_rfl) (by kernel_rfl) (by kernel_rfl) (fun _ _ _ h => h) (Or.inl ⟨by rfl, fun X hX => by go_simp <;> (first | omega | decide | simp)⟩) (Lib.hid SV.out.lo) ?_
                try simp only [Act.put, List.setIfInBounds_toArray, List.set_cons_succ, List.set_cons_zero]
                refine wpAnyH_takeC (i := 17) (v := .int .i64 fb) (some 15) rfl rfl (by kernel_rfl) (by kernel_rfl) (by kernel_rfl) (fun _ _ _ h => h) (Or.inl ⟨by rfl, fun X hX => by go_simp <;> (first | omega | decide | simp)⟩) (Lib.hid SV.out.lo) ?_
                try simp only [Act.put, List.setIfInBounds_toArray, List.set_cons_succ, List.set_cons_zero]
                refine wpAnyH_done (by kernel_rfl) ?_ _
                simp only [Exit.then]
                exact HT.out _ _ _ _ _ _ _ _ _ _ _ _ _ _ _ _ _ _ _ _ _ _ _ _ _ _ _ _ _ _ _ _ _ _ _ _ _ _ _ _ _ _ _ _ _ _ _ _ _ _ _ _ _ _ _ _ _ _ _ _ _ _ _ _ _ _ _ _ _ _ _ _ _ _ _ _ _ _ _ _ _ _ _ _ _ _ _ _ _ _ _ _ _ _ _ _ _ _ _ _ _ _ _ _ _ _ _ _ _ _ _ _ _ _ _ _ _ _ _ _ _ _ _ _ _ _ _ _ vb fb _ SV.out.lo (fun q hq => (SV.out.pb q (by simp [hq])).1) PX.out
              · clear hii
                refine wpOp_step rfl (fun K hK => ?_)
                go_simp
                have SX := Lib.hid (SV.out.put 2 [.int .i64 a3])
                refine hK _ _ ⟨Lib.hid SX.out.lo, ?_⟩
                clear hK K SV
                obtain ⟨gH50, hgH⟩ : ∃ g, (World.heap x45).size = g := ⟨_, rfl⟩
                rw [hgH] at SX ⊢
                clear hgH
                have SV := SX
                clear SX
                generalize World.alloc x45 _ = x50 at SV ⊢
                try simp only [Act.put, List.setIfInBounds_toArray, List.set_cons_succ, List.set_cons_zero]
                refine wpAnyH_all (rs := [8]) (by kernel_rfl) (by simp) ?_
                intro ii hii
                obtain rfl : ii = 8 := by simpa using hii
                clear hii
                refine wpOp_step rfl (fun K hK => ?_)
                obtain ⟨vB51, x51, hr, ho, hg, hat⟩ := append_intsH x50 B 22 vM43 _ _ SV.out.g.o2 (some ⟨g1, off1, mm1⟩) m cap1 hs (HHA.out _ (HBB.out.trans (SV.out.lo.mono HBB.out.size))) HHL.out (by first | (simp; done) | (simp; omega)) SV.out.g.sz
                have SX := Lib.hid (SV.out.app2 (zs := hs) (by rw [HHL.out]; exact ho) hg hat)
                refine wp_append_runH (some 75) rfl _ _ _ rfl vM43 _ vB51 rfl rfl hr ?_
                refine hK _ _ ⟨Lib.hid SX.out.lo, ?_⟩
                clear hK K SV
                clear hr ho hg hat
                have SV := SX
                clear SX
                try simp only [Act.put, List.setIfInBounds_toArray, List.set_cons_succ, List.set_cons_zero]
                refine wpAnyH_all (rs := [11]) (by kernel_rfl) (by simp) ?_
                intro ii hii
                obtain rfl : ii = 11 := by simpa using hii
                clear hii
                refine wpOp_step rfl (fun K hK => ?_)
                have hB := (SV.out.pb (gH50, .cells #[.int .i64 a3] 2 (0, 0)) (by simp)).1
                obtain ⟨vC52, x52, hr, ho, hg, hat⟩ := append_intsH x51 B 22 vB51 _ _ SV.out.g.o2 (some ⟨gH50, 0, none⟩) 1 1 [a3] (Ints.whole (n := 1) (show Whole _ gH50 2 ([a3].map (Value.int .i64)) from hB) rfl (by omega)) rfl (by simp; have := HHL.out; omega) SV.out.g.sz
                have SX := Lib.hid (SV.out.app2 (zs := [a3]) ho hg hat)
                refine wp_append_runH (some 78) rfl _ _ _ rfl vB51 _ vC52 rfl rfl hr ?_
                refine hK _ _ ⟨Lib.hid SX.out.lo, ?_⟩
                clear hK K SV
                clear hr ho hg hat hB
                have SV := SX
                clear SX
                try simp only [Act.put, List.setIfInBounds_toArray, List.set_cons_succ, List.set_cons_zero]
                refine wpAnyH_all (rs := [12]) (by kernel_rfl) (by simp) ?_
                intro ii hii
                obtain rfl : ii = 12 := by simpa using hii
                clear hii
                refine wpOp_step rfl (fun K hK => ?_)
                go_simp
                refine (HLE2.out _ vA45 vC52 _ SV.out).mono ?_
                rintro e x53 ⟨vb, fb, rfl, hp2, hb6⟩
                have SX := Lib.hid (SV.out.below hb6)
                have PX := Lib.hid hp2
                refine hK _ _ ⟨Lib.hid SX.out.lo, ?_⟩
                clear hK K SV
                clear hp2 hb6
                have SV := SX
                clear SX
                try simp only [Act.put, List.setIfInBounds_toArray, List.set_cons_succ, List.set_cons_zero]
                refine wpAnyH_takeC (i := 13) (v := .tuple #[vb, .int .i64 fb]) (some 66) rfl rfl (by kernel_rfl) (by kernel_rfl) (by kernel_rfl) (fun _ _ _ h => h) (Or.inl ⟨by rfl, fun X hX => by go_simp <;> (first | omega | decide | simp)⟩) (Lib.hid SV.out.lo) ?_
                try simp only [Act.put, List.setIfInBounds_toArray, List.set_cons_succ, List.set_cons_zero]
                refine wpAnyH_takeC (i := 14) (v := vb) (some 80) rfl rfl (by kernel_rfl) (by kernel_rfl) (by kernel_rfl) (fun _ _ _ h => h) (Or.inl ⟨by rfl, fun X hX => by go_simp <;> (first | omega | decide | simp)⟩) (Lib.hid SV.out.lo) ?_
                try simp only [Act.put, List.setIfInBounds_toArray, List.set_cons_succ, List.set_cons_zero]
                refine wpAnyH_takeC (i := 15) (v := .int .i64 fb) (some 81) rfl rfl (by kernel_rfl) (by kernel_rfl) (by kernel_rfl) (fun _ _ _ h => h) (Or.inl ⟨by rfl, fun X hX => by go_simp <;> (first | omega | decide | simp)⟩) (Lib.hid SV.out.lo) ?_
                try simp only [Act.put, List.setIfInBounds_toArray, List.set_cons_succ, List.set_cons_zero]
                refine wpAnyH_takeC (i := 16) (v := vb) (some 14) rfl rfl (by kernel_rfl) (by kernel_rfl) (by kernel_rfl) (fun _ _ _ h => h) (Or.inl ⟨by rfl, fun X hX => by go_simp <;> (first | omega | decide | simp)⟩) (Lib.hid SV.out.lo) ?_
                try simp only [Act.put, List.setIfInBounds_toArray, List.set_cons_succ, List.set_cons_zero]
                refine wpAnyH_takeC (i := 17) (v := .int .i64 fb) (some 15) rfl rfl (by kernel_rfl) (by kernel_rfl) (by kernel_rfl) (fun _ _ _ h => h) (Or.inl ⟨by rfl, fun X hX => by go_simp <;> (first | omega | decide | simp)⟩) (Lib.hid SV.out.lo) ?_
                try simp only [Act.put, List.setIfInBounds_toArray, List.set_cons_succ, List.set_cons_zero]
                refine wpAnyH_done (by kernel_rfl) ?_ _
                simp only [Exit.then]
                exact HT.out _ _ _ _ _ _ _ _ _ _ _ _ _ _ _ _ _ _ _ _ _ _ _ _ _ _ _ _ _ _ _ _ _ _ _ _ _ _ _ _ _ _ _ _ _ _ _ _ _ _ _ _ _ _ _ _ _ _ _ _ _ _ _ _ _ _ _ _ _ _ _ _ _ _ _ _ _ _ _ _ _ _ _ _ _ _ _ _ _ _ _ _ _ _ _ _ _ _ _ _ _ _ _ _ _ _ _ _ _ _ _ _ _ _ _ _ _ _ _ _ _ _ _ _ _ _ _ _ vb fb _ SV.out.lo (fun q hq => (SV.out.pb q (by simp [hq])).1) PX.out
            · clear hii
              refine wpOp_step rfl (fun K hK => ?_)
              go_simp
              have SX := Lib.hid (SV.out.put 2 [.int .i64 a3])
              refine hK _ _ ⟨Lib.hid SX.out.lo, ?_⟩
              clear hK K SV
              obtain ⟨gH54, hgH⟩ : ∃ g, (World.heap x44).size = g := ⟨_, rfl⟩
              rw [hgH] at SX ⊢
              clear hgH
              have SV := SX
              clear SX
              generalize World.alloc x44 _ = x54 at SV ⊢
              try simp only [Act.put, List.setIfInBounds_toArray, List.set_cons_succ, List.set_cons_zero]
              refine wpAnyH_all (rs := [5]) (by kernel_rfl) (by simp) ?_
              intro ii hii
              obtain rfl : ii = 5 := by simpa using hii
              clear hii
              refine wpOp_step rfl (fun K hK => ?_)
              have hB := (SV.out.pb (gP44, .cells #[.int .i64 0, .int .i64 (r : Int), .int .i64 0, .int .i64 1, .int .i64 1] 35 (0, 0)) (by simp)).1
              obtain ⟨vA55, x55, hr, ho, hg, hat⟩ := append_plcH x54 B 23 v _ _ SV.out.g.o1 gP44 (pcB r) (show Whole _ gP44 35 (pcB r).cells from hB) (by rw [HPL.out]; omega) SV.out.g.sz
              have SX := Lib.hid (SV.out.app1 ho hg hat)
              refine wp_append_runH (some 72) rfl _ _ _ rfl v _ vA55 rfl rfl hr ?_
              refine hK _ _ ⟨Lib.hid SX.out.lo, ?_⟩
              clear hK K SV
              clear hr ho hg hat hB
              have SV := SX
              clear SX
              try simp only [Act.put, List.setIfInBounds_toArray, List.set_cons_succ, List.set_cons_zero]
              refine wpAnyH_all (rs := [8]) (by kernel_rfl) (by simp) ?_
              intro ii hii
              obtain rfl : ii = 8 := by simpa using hii
              clear hii
              refine wpOp_step rfl (fun K hK => ?_)
              obtain ⟨vB56, x56, hr, ho, hg, hat⟩ := append_intsH x55 B 22 vM43 _ _ SV.out.g.o2 (some ⟨g1, off1, mm1⟩) m cap1 hs (HHA.out _ (HBB.out.trans (SV.out.lo.mono HBB.out.size))) HHL.out (by first | (simp; done) | (simp; omega)) SV.out.g.sz
              have SX := Lib.hid (SV.out.app2 (zs := hs) (by rw [HHL.out]; exact ho) hg hat)
              refine wp_append_runH (some 75) rfl _ _ _ rfl vM43 _ vB56 rfl rfl hr ?_
              refine hK _ _ ⟨Lib.hid SX.out.lo, ?_⟩
              clear hK K SV
              clear hr ho hg hat
              have SV := SX
              clear SX
              try simp only [Act.put, List.setIfInBounds_toArray, List.set_cons_succ, List.set_cons_zero]
              refine wpAnyH_all (rs := [11]) (by kernel_rfl) (by simp) ?_
              intro ii hii
              obtain rfl : ii = 11 := by simpa using hii
              clear hii
              refine wpOp_step rfl (fun K hK => ?_)
              have hB := (SV.out.pb (gH54, .cells #[.int .i64 a3] 2 (0, 0)) (by simp)).1
              obtain ⟨vC57, x57, hr, ho, hg, hat⟩ := append_intsH x56 B 22 vB56 _ _ SV.out.g.o2 (some ⟨gH54, 0, none⟩) 1 1 [a3] (Ints.whole (n := 1) (show Whole _ gH54 2 ([a3].map (Value.int .i64)) from hB) rfl (by omega)) rfl (by simp; have := HHL.out; omega) SV.out.g.sz
              have SX := Lib.hid (SV.out.app2 (zs := [a3]) ho hg hat)
              refine wp_append_runH (some 78) rfl _ _ _ rfl vB56 _ vC57 rfl rfl hr ?_
              refine hK _ _ ⟨Lib.hid SX.out.lo, ?_⟩
              clear hK K SV
              clear hr ho hg hat hB
              have SV := SX
              clear SX
              try simp only [Act.put, List.setIfInBounds_toArray, List.set_cons_succ, List.set_cons_zero]
              refine wpAnyH_all (rs := [12]) (by kernel_rfl) (by simp) ?_
              intro ii hii
              obtain rfl : ii = 12 := by simpa using hii
              clear hii
              refine wpOp_step rfl (fun K hK => ?_)
              go_simp
              refine (HLE2.out _ vA55 vC57 _ SV.out).mono ?_
              rintro e x58 ⟨vb, fb, rfl, hp2, hb6⟩
              have SX := Lib.hid (SV.out.below hb6)
              have PX := Lib.hid hp2
              refine hK _ _ ⟨Lib.hid SX.out.lo, ?_⟩
              clear hK K SV
              clear hp2 hb6
              have SV := SX
              clear SX
              try simp only [Act.put, List.setIfInBounds_toArray, List.set_cons_succ, List.set_cons_zero]
              refine wpAnyH_takeC (i := 13) (v := .tuple #[vb, .int .i64 fb]) (some 66) rfl rfl (by kernel_rfl) (by kernel_rfl) (by kernel_rfl) (fun _ _ _ h => h) (Or.inl ⟨by rfl, fun X hX => by go_simp <;> (first | omega | decide | simp)⟩) (Lib.hid SV.out.lo) ?_
              try simp only [Act.put, List.setIfInBounds_toArray, List.set_cons_succ, List.set_cons_zero]
              refine wpAnyH_takeC (i := 14) (v := vb) (some 80) rfl rfl (by kernel_rfl) (by kernel_rfl) (by kernel_rfl) (fun _ _ _ h => h) (Or.inl ⟨by rfl, fun X hX => by go_simp <;> (first | omega | decide | simp)⟩) (Lib.hid SV.out.lo) ?_
              try simp only [Act.put, List.setIfInBounds_toArray, List.set_cons_succ, List.set_cons_zero]
              refine wpAnyH_takeC (i := 15) (v := .int .i64 fb) (some 81) rfl rfl (by kernel_rfl) (by kernel_rfl) (by kernel_rfl) (fun _ _ _ h => h) (Or.inl ⟨by rfl, fun X hX => by go_simp <;> (first | omega | decide | simp)⟩) (Lib.hid SV.out.lo) ?_
              try simp only [Act.put, List.setIfInBounds_toArray, List.set_cons_succ, List.set_cons_zero]
              refine wpAnyH_takeC (i := 16) (v := vb) (some 14) rfl rfl (by kernel_rfl) (by kernel_rfl) (by kernel_rfl) (fun _ _ _ h => h) (Or.inl ⟨by rfl, fun X hX => by go_simp <;> (first | omega | decide | simp)⟩) (Lib.hid SV.out.lo) ?_
              try simp only [Act.put, List.setIfInBounds_toArray, List.set_cons_succ, List.set_cons_zero]
              refine wpAnyH_takeC (i := 17) (v := .int .i64 fb) (some 15) rfl rfl (by kernel_rfl) (by kernel_rfl) (by kernel_rfl) (fun _ _ _ h => h) (Or.inl ⟨by rfl, fun X hX => by go_simp <;> (first | omega | decide | simp)⟩) (Lib.hid SV.out.lo) ?_
              try simp only [Act.put, List.setIfInBounds_toArray, List.set_cons_succ, List.set_cons_zero]
              refine wpAnyH_done (by kernel_rfl) ?_ _
              simp only [Exit.then]
              exact HT.out _ _ _ _ _ _ _ _ _ _ _ _ _ _ _ _ _ _ _ _ _ _ _ _ _ _ _ _ _ _ _ _ _ _ _ _ _ _ _ _ _ _ _ _ _ _ _ _ _ _ _ _ _ _ _ _ _ _ _ _ _ _ _ _ _ _ _ _ _ _ _ _ _ _ _ _ _ _ _ _ _ _ _ _ _ _ _ _ _ _ _ _ _ _ _ _ _ _ _ _ _ _ _ _ _ _ _ _ _ _ _ _ _ _ _ _ _ _ _ _ _ _ _ _ _ _ _ _ vb fb _ SV.out.lo (fun q hq => (SV.out.pb q (by simp [hq])).1) PX.out
          · clear hii
            refine wpOp_step rfl (fun K hK => ?_)
            go_simp
            have SX := Lib.hid (SV.out.put 2 [.int .i64 a3])
            refine hK _ _ ⟨Lib.hid SX.out.lo, ?_⟩
            clear hK K SV
            obtain ⟨gH59, hgH⟩ : ∃ g, (World.heap x43).size = g := ⟨_, rfl⟩
            rw [hgH] at SX ⊢
            clear hgH
            have SV := SX
            clear SX
            generalize World.alloc x43 _ = x59 at SV ⊢
            try simp only [Act.put, List.setIfInBounds_toArray, List.set_cons_succ, List.set_cons_zero]
            refine wpAnyH_all (rs := [4]) (by kernel_rfl) (by simp) ?_
            intro ii hii
            obtain rfl : ii = 4 := by simpa using hii
            clear hii
            refine wpOp_step rfl (fun K hK => ?_)
            go_simp
            have SX := Lib.hid (SV.out.put 35 [.int .i64 0, .int .i64 (r : Int), .int .i64 0, .int .i64 1, .int .i64 1])
            refine hK _ _ ⟨Lib.hid SX.out.lo, ?_⟩
            clear hK K SV
            obtain ⟨gP60, hgP⟩ : ∃ g, (World.heap x59).size = g := ⟨_, rfl⟩
            rw [hgP] at SX ⊢
            clear hgP
            have SV := SX
            clear SX
            generalize World.alloc x59 _ = x60 at SV ⊢
            try simp only [Act.put, List.setIfInBounds_toArray, List.set_cons_succ, List.set_cons_zero]
            refine wpAnyH_all (rs := [5]) (by kernel_rfl) (by simp) ?_
            intro ii hii
            obtain rfl : ii = 5 := by simpa using hii
            clear hii
            refine wpOp_step rfl (fun K hK => ?_)
            have hB := (SV.out.pb (gP60, .cells #[.int .i64 0, .int .i64 (r : Int), .int .i64 0, .int .i64 1, .int .i64 1] 35 (0, 0)) (by simp)).1
            obtain ⟨vA61, x61, hr, ho, hg, hat⟩ := append_plcH x60 B 23 v _ _ SV.out.g.o1 gP60 (pcB r) (show Whole _ gP60 35 (pcB r).cells from hB) (by rw [HPL.out]; omega) SV.out.g.sz
            have SX := Lib.hid (SV.out.app1 ho hg hat)
            refine wp_append_runH (some 72) rfl _ _ _ rfl v _ vA61 rfl rfl hr ?_
            refine hK _ _ ⟨Lib.hid SX.out.lo, ?_⟩
            clear hK K SV
            clear hr ho hg hat hB
            have SV := SX
            clear SX
            try simp only [Act.put, List.setIfInBounds_toArray, List.set_cons_succ, List.set_cons_zero]
            refine wpAnyH_all (rs := [8]) (by kernel_rfl) (by simp) ?_
            intro ii hii
            obtain rfl : ii = 8 := by simpa using hii
            clear hii
            refine wpOp_step rfl (fun K hK => ?_)
            obtain ⟨vB62, x62, hr, ho, hg, hat⟩ := append_intsH x61 B 22 vM43 _ _ SV.out.g.o2 (some ⟨g1, off1, mm1⟩) m cap1 hs (HHA.out _ (HBB.out.trans (SV.out.lo.mono HBB.out.size))) HHL.out (by first | (simp; done) | (simp; omega)) SV.out.g.sz
            have SX := Lib.hid (SV.out.app2 (zs := hs) (by rw [HHL.out]; exact ho) hg hat)
            refine wp_append_runH (some 75) rfl _ _ _ rfl vM43 _ vB62 rfl rfl hr ?_
            refine hK _ _ ⟨Lib.hid SX.out.lo, ?_⟩
            clear hK K SV
            clear hr ho hg hat
            have SV := SX
            clear SX
            try simp only [Act.put, List.setIfInBounds_toArray, List.set_cons_succ, List.set_cons_zero]
            refine wpAnyH_all (rs := [11]) (by kernel_rfl) (by simp) ?_
            intro ii hii
            obtain rfl : ii = 11 := by simpa using hii
            clear hii
            refine wpOp_step rfl (fun K hK => ?_)
            have hB := (SV.out.pb (gH59, .cells #[.int .i64 a3] 2 (0, 0)) (by simp)).1
            obtain ⟨vC63, x63, hr, ho, hg, hat⟩ := append_intsH x62 B 22 vB62 _ _ SV.out.g.o2 (some ⟨gH59, 0, none⟩) 1 1 [a3] (Ints.whole (n := 1) (show Whole _ gH59 2 ([a3].map (Value.int .i64)) from hB) rfl (by omega)) rfl (by simp; have := HHL.out; omega) SV.out.g.sz
            have SX := Lib.hid (SV.out.app2 (zs := [a3]) ho hg hat)
            refine wp_append_runH (some 78) rfl _ _ _ rfl vB62 _ vC63 rfl rfl hr ?_
            refine hK _ _ ⟨Lib.hid SX.out.lo, ?_⟩
            clear hK K SV
            clear hr ho hg hat hB
            have SV := SX
            clear SX
            try simp only [Act.put, List.setIfInBounds_toArray, List.set_cons_succ, List.set_cons_zero]
            refine wpAnyH_all (rs := [12]) (by kernel_rfl) (by simp) ?_
            intro ii hii
            obtain rfl : ii = 12 := by simpa using hii
            clear hii
            refine wpOp_step rfl (fun K hK => ?_)
            go_simp
            refine (HLE2.out _ vA61 vC63 _ SV.out).mono ?_
            rintro e x64 ⟨vb, fb, rfl, hp2, hb6⟩
            have SX := Lib.hid (SV.out.below hb6)
            have PX := Lib.hid hp2
            refine hK _ _ ⟨Lib.hid SX.out.lo, ?_⟩
            clear hK K SV
            clear hp2 hb6
            have SV := SX
            clear SX
            try simp only [Act.put, List.setIfInBounds_toArray, List.set_cons_succ, List.set_cons_zero]
            refine wpAnyH_takeC (i := 13) (v := .tuple #[vb, .int .i64 fb]) (some 66) rfl rfl (by kernel_rfl) (by kernel_rfl) (by kernel_rfl) (fun _ _ _ h => h) (Or.inl ⟨by rfl, fun X hX => by go_simp <;> (first | omega | decide | simp)⟩) (Lib.hid SV.out.lo) ?_
            try simp only [Act.put, List.setIfInBounds_toArray, List.set_cons_succ, List.set_cons_zero]
            refine wpAnyH_takeC (i := 14) (v := vb) (some 80) rfl rfl (by kernel_rfl) (by kernel_rfl) (by kernel_rfl) (fun _ _ _ h => h) (Or.inl ⟨by rfl, fun X hX => by go_simp <;> (first | omega | decide | simp)⟩) (Lib.hid SV.out.lo) ?_
            try simp only [Act.put, List.setIfInBounds_toArray, List.set_cons_succ, List.set_cons_zero]
            refine wpAnyH_takeC (i := 15) (v := .int .i64 fb) (some 81) rfl rfl (by kernel_rfl) (by kernel_rfl) (by kernel_rfl) (fun _ _ _ h => h) (Or.inl ⟨by rfl, fun X hX => by go_simp <;> (first | omega | decide | simp)⟩) (Lib.hid SV.out.lo) ?_
            try simp only [Act.put, List.setIfInBounds_toArray, List.set_cons_succ, List.set_cons_zero]
            refine wpAnyH_takeC (i := 16) (v := vb) (some 14) rfl rfl (by kernel_rfl) (by kernel_rfl) (by kernel_rfl) (fun _ _ _ h => h) (Or.inl ⟨by rfl, fun X hX => by go_simp <;> (first | omega | decide | simp)⟩) (Lib.hid SV.out.lo) ?_
            try simp only [Act.put, List.setIfInBounds_toArray, List.set_cons_succ, List.set_cons_zero]
            refine wpAnyH_takeC (i := 17) (v := .int .i64 fb) (some 15) rfl rfl (by kernel_rfl) (by kernel_rfl) (by kernel_rfl) (fun _ _ _ h => h) (Or.inl ⟨by rfl, fun X hX => by go_simp <;> (first | omega | decide | simp)⟩) (Lib.hid SV.out.lo) ?_
            try simp only [Act.put, List.setIfInBounds_toArray, List.set_cons_succ, List.set_cons_zero]
            refine wpAnyH_done (by kernel_rfl) ?_ _
            simp only [Exit.then]
            exact HT.out _ _ _ _ _ _ _ _ _ _ _ _ _ _ _ _ _ _ _ _ _ _ _ _ _ _ _ _ _ _ _ _ _ _ _ _ _ _ _ _ _ _ _ _ _ _ _ _ _ _ _ _ _ _ _ _ _ _ _ _ _ _ _ _ _ _ _ _ _ _ _ _ _ _ _ _ _ _ _ _ _ _ _ _ _ _ _ _ _ _ _ _ _ _ _ _ _ _ _ _ _ _ _ _ _ _ _ _ _ _ _ _ _ _ _ _ _ _ _ _ _ _ _ _ _ _ _ _ vb fb _ SV.out.lo (fun q hq => (SV.out.pb q (by simp [hq])).1) PX.out
        · clear hii
          refine wpOp_step rfl (fun K hK => ?_)
          go_simp
          have SX := Lib.hid (SV.out.put 2 [.int .i64 a3])
          refine hK _ _ ⟨Lib.hid SX.out.lo, ?_⟩
          clear hK K SV
          obtain ⟨gH65, hgH⟩ : ∃ g, (World.heap w9).size = g := ⟨_, rfl⟩
          rw [hgH] at SX ⊢
          clear hgH
          have SV := SX
          clear SX
          generalize World.alloc w9 _ = x65 at SV ⊢
          try simp only [Act.put, List.setIfInBounds_toArray, List.set_cons_succ, List.set_cons_zero]
          refine wpAnyH_all (rs := [4, 6]) (by kernel_rfl) (by simp) ?_
          intro ii hii
          rcases (show ii = 4 ∨ ii = 6 by simpa using hii) with rfl | rfl
          · clear hii
            refine wpOp_step rfl (fun K hK => ?_)
            go_simp
            have SX := Lib.hid (SV.out.put 35 [.int .i64 0, .int .i64 (r : Int), .int .i64 0, .int .i64 1, .int .i64 1])
            refine hK _ _ ⟨Lib.hid SX.out.lo, ?_⟩
            clear hK K SV
            obtain ⟨gP66, hgP⟩ : ∃ g, (World.heap x65).size = g := ⟨_, rfl⟩
            rw [hgP] at SX ⊢
            clear hgP
            have SV := SX
            clear SX
            generalize World.alloc x65 _ = x66 at SV ⊢
            try simp only [Act.put, List.setIfInBounds_toArray, List.set_cons_succ, List.set_cons_zero]
            refine wpAnyH_all (rs := [5, 6]) (by kernel_rfl) (by simp) ?_
            intro ii hii
            rcases (show ii = 5 ∨ ii = 6 by simpa using hii) with rfl | rfl
            · clear hii
              refine wpOp_step rfl (fun K hK => ?_)
              have hB := (SV.out.pb (gP66, .cells #[.int .i64 0, .int .i64 (r : Int), .int .i64 0, .int .i64 1, .int .i64 1] 35 (0, 0)) (by simp)).1
              obtain ⟨vA67, x67, hr, ho, hg, hat⟩ := append_plcH x66 B 23 v _ _ SV.out.g.o1 gP66 (pcB r) (show Whole _ gP66 35 (pcB r).cells from hB) (by rw [HPL.out]; omega) SV.out.g.sz
              have SX := Lib.hid (SV.out.app1 ho hg hat)
              refine wp_append_runH (some 72) rfl _ _ _ rfl v _ vA67 rfl rfl hr ?_
              refine hK _ _ ⟨Lib.hid SX.out.lo, ?_⟩
              clear hK K SV
              clear hr ho hg hat hB
              have SV := SX
              clear SX
              try simp only [Act.put, List.setIfInBounds_toArray, List.set_cons_succ, List.set_cons_zero]
              refine wpAnyH_all (rs := [6]) (by kernel_rfl) (by simp) ?_
              intro ii hii
              obtain rfl : ii = 6 := by simpa using hii
              clear hii
              refine wpOp_step rfl (fun K hK => ?_)
              go_simp
              have SX := Lib.hid (SV.out.made zc 101 HZC.out (by unfold maxLen; omega))
              refine hK _ _ ⟨Lib.hid SX.out.lo, ?_⟩
              clear hK K SV
              obtain ⟨vM68, hvM⟩ : ∃ vv, Value.slice (some ⟨(World.heap x67).size, 0, none⟩) 0 101 = vv := ⟨_, rfl⟩
              rw [hvM] at SX ⊢
              clear hvM
              have SV := SX
              clear SX
              generalize World.alloc x67 (.cells zc 2) = x68 at SV ⊢
              try simp only [Act.put, List.setIfInBounds_toArray, List.set_cons_succ, List.set_cons_zero]
              refine wpAnyH_all (rs := [8]) (by kernel_rfl) (by simp) ?_
              intro ii hii
              obtain rfl : ii = 8 := by simpa using hii
              clear hii
              refine wpOp_step rfl (fun K hK => ?_)
              obtain ⟨vB69, x69, hr, ho, hg, hat⟩ := append_intsH x68 B 22 vM68 _ _ SV.out.g.o2 (some ⟨g1, off1, mm1⟩) m cap1 hs (HHA.out _ (HBB.out.trans (SV.out.lo.mono HBB.out.size))) HHL.out (by first | (simp; done) | (simp; omega)) SV.out.g.sz
              have SX := Lib.hid (SV.out.app2 (zs := hs) (by rw [HHL.out]; exact ho) hg hat)
              refine wp_append_runH (some 75) rfl _ _ _ rfl vM68 _ vB69 rfl rfl hr ?_
              refine hK _ _ ⟨Lib.hid SX.out.lo, ?_⟩
              clear hK K SV
              clear hr ho hg hat
              have SV := SX
              clear SX
              try simp only [Act.put, List.setIfInBounds_toArray, List.set_cons_succ, List.set_cons_zero]
              refine wpAnyH_all (rs := [11]) (by kernel_rfl) (by simp) ?_
              intro ii hii
              obtain rfl : ii = 11 := by simpa using hii
              clear hii
              refine wpOp_step rfl (fun K hK => ?_)
              have hB := (SV.out.pb (gH65, .cells #[.int .i64 a3] 2 (0, 0)) (by simp)).1
              obtain ⟨vC70, x70, hr, ho, hg, hat⟩ := append_intsH x69 B 22 vB69 _ _ SV.out.g.o2 (some ⟨gH65, 0, none⟩) 1 1 [a3] (Ints.whole (n := 1) (show Whole _ gH65 2 ([a3].map (Value.int .i64)) from hB) rfl (by omega)) rfl (by simp; have := HHL.out; omega) SV.out.g.sz
              have SX := Lib.hid (SV.out.app2 (zs := [a3]) ho hg hat)
              refine wp_append_runH (some 78) rfl _ _ _ rfl vB69 _ vC70 rfl rfl hr ?_
              refine hK _ _ ⟨Lib.hid SX.out.lo, ?_⟩
              clear hK K SV
              clear hr ho hg hat hB
              have SV := SX
              clear SX
              try simp only [Act.put, List.setIfInBounds_toArray, List.set_cons_succ, List.set_cons_zero]
              refine wpAnyH_all (rs := [12]) (by kernel_rfl) (by simp) ?_
              intro ii hii
              obtain rfl : ii = 12 := by simpa using hii
              clear hii
              refine wpOp_step rfl (fun K hK => ?_)
              go_simp
              refine (HLE2.out _ vA67 vC70 _ SV.out).mono ?_
              rintro e x71 ⟨vb, fb, rfl, hp2, hb6⟩
              have SX := Lib.hid (SV.out.below hb6)
              have PX := Lib.hid hp2
              refine hK _ _ ⟨Lib.hid SX.out.lo, ?_⟩
              clear hK K SV
              clear hp2 hb6
              have SV := SX
              clear SX
              try simp only [Act.put, List.setIfInBounds_toArray, List.set_cons_succ, List.set_cons_zero]
              refine wpAnyH_takeC (i := 13) (v := .tuple #[vb, .int .i64 fb]) (some 66) rfl rfl (by kernel_rfl) (by kernel_rfl) (by kernel_rfl) (fun _ _ _ h => h) (Or.inl ⟨by rfl, fun X hX => by go_simp <;> (first | omega | decide | simp)⟩) (Lib.hid SV.out.lo) ?_
              try simp only [Act.put, List.setIfInBounds_toArray, List.set_cons_succ, List.set_cons_zero]
              refine wpAnyH_takeC (i := 14) (v := vb) (some 80) rfl rfl (by kernel_rfl) (by kernel_rfl) (by kernel_rfl) (fun _ _ _ h => h) (Or.inl ⟨by rfl, fun X hX => by go_simp <;> (first | omega | decide | simp)⟩) (Lib.hid SV.out.lo) ?_
              try simp only [Act.put, List.setIfInBounds_toArray, List.set_cons_succ, List.set_cons_zero]
              refine wpAnyH_takeC (i := 15) (v := .int .i64 fb) (some 81) rfl rfl (by kernel_rfl) (by kernel_rfl) (by kernel_rfl) (fun _ _ _ h => h) (Or.inl ⟨by rfl, fun X hX => by go_simp <;> (first | omega | decide | simp)⟩) (Lib.hid SV.out.lo) ?_
              try simp only [Act.put, List.setIfInBounds_toArray, List.set_cons_succ, List.set_cons_zero]
              refine wpAnyH_takeC (i := 16) (v := vb) (some 14) rfl rfl (by kernel_rfl) (by kernel_rfl) (by kernel_rfl) (fun _ _ _ h => h) (Or.inl ⟨by rfl, fun X hX => by go_simp <;> (first | omega | decide | simp)⟩) (Lib.hid SV.out.lo) ?_
              try simp only [Act.put, List.setIfInBounds_toArray, List.set_cons_succ, List.set_cons_zero]
              refine wpAnyH_takeC (i := 17) (v := .int .i64 fb) (some 15) rfl rfl (by kernel_rfl) (by kernel_rfl) (by kernel_rfl) (fun _ _ _ h => h) (Or.inl ⟨by rfl, fun X hX => by go_simp <;> (first | omega | decide | simp)⟩) (Lib.hid SV.out.lo) ?_
              try simp only [Act.put, List.setIfInBounds_toArray, List.set_cons_succ, List.set_cons_zero]
              refine wpAnyH_done (by kernel_rfl) ?_ _
              simp only [Exit.then]
              exact HT.out _ _ _ _ _ _ _ _ _ _ _ _ _ _ _ _ _ _ _ _ _ _ _ _ _ _ _ _ _ _ _ _ _ _ _ _ _ _ _ _ _ _ _ _ _ _ _ _ _ _ _ _ _ _ _ _ _ _ _ _ _ _ _ _ _ _ _ _ _ _ _ _ _ _ _ _ _ _ _ _ _ _ _ _ _ _ _ _ _ _ _ _ _ _ _ _ _ _ _ _ _ _ _ _ _ _ _ _ _ _ _ _ _ _ _ _ _ _ _ _ _ _ _ _ _ _ _ _ vb fb _ SV.out.lo (fun q hq => (SV.out.pb q (by simp [hq])).1) PX.out
            · clear hii
              refine wpOp_step rfl (fun K hK => ?_)
              go_simp
              have SX := Lib.hid (SV.out.made zc 101 HZC.out (by unfold maxLen; omega))
              refine hK _ _ ⟨Lib.hid SX.out.lo, ?_⟩
              clear hK K SV
              obtain ⟨vM72, hvM⟩ : ∃ vv, Value.slice (some ⟨(World.heap x66).size, 0, none⟩) 0 101 = vv := ⟨_, rfl⟩
              rw [hvM] at SX ⊢
              clear hvM
              have SV := SX
              clear SX
              generalize World.alloc x66 (.cells zc 2) = x72 at SV ⊢
              try simp only [Act.put, List.setIfInBounds_toArray, List.set_cons_succ, List.set_cons_zero]
              refine wpAnyH_all (rs := [5]) (by kernel_rfl) (by simp) ?_
              intro ii hii
              obtain rfl : ii = 5 := by simpa using hii
              clear hii
              refine wpOp_step rfl (fun K hK => ?_)
              have hB := (SV.out.pb (gP66, .cells #[.int .i64 0, .int .i64 (r : Int), .int .i64 0, .int .i64 1, .int .i64 1] 35 (0, 0)) (by simp)).1
              obtain ⟨vA73, x73, hr, ho, hg, hat⟩ := append_plcH x72 B 23 v _ _ SV.out.g.o1 gP66 (pcB r) (show Whole _ gP66 35 (pcB r).cells from hB) (by rw [HPL.out]; omega) SV.out.g.sz
              have SX := Lib.hid (SV.out.app1 ho hg hat)
              refine wp_append_runH (some 72) rfl _ _ _ rfl v _ vA73 rfl rfl hr ?_
              refine hK _ _ ⟨Lib.hid SX.out.lo, ?_⟩
              clear hK K SV
              clear hr ho hg hat hB
              have SV := SX
              clear SX
              try simp only [Act.put, List.setIfInBounds_toArray, List.set_cons_succ, List.set_cons_zero]
              refine wpAnyH_all (rs := [8]) (by kernel_rfl) (by simp) ?_
              intro ii hii
              obtain rfl : ii = 8 := by simpa using hii
              clear hii
              refine wpOp_step rfl (fun K hK => ?_)
              obtain ⟨vB74, x74, hr, ho, hg, hat⟩ := append_intsH x73 B 22 vM72 _ _ SV.out.g.o2 (some ⟨g1, off1, mm1⟩) m cap1 hs (HHA.out _ (HBB.out.trans (SV.out.lo.mono HBB.out.size))) HHL.out (by first | (simp; done) | (simp; omega)) SV.out.g.sz
              have SX := Lib.hid (SV.out.app2 (zs := hs) (by rw [HHL.out]; exact ho) hg hat)
              refine wp_append_runH (some 75) rfl _ _ _ rfl vM72 _ vB74 rfl rfl hr ?_
              refine hK _ _ ⟨Lib.hid SX.out.lo, ?_⟩
              clear hK K SV
              clear hr ho hg hat
              have SV := SX
              clear SX
              try simp only [Act.put, List.setIfInBounds_toArray, List.set_cons_succ, List.set_cons_zero]
              refine wpAnyH_all (rs := [11]) (by kernel_rfl) (by simp) ?_
              intro ii hii
              obtain rfl : ii = 11 := by simpa using hii
              clear hii
              refine wpOp_step rfl (fun K hK => ?_)
              have hB := (SV.out.pb (gH65, .cells #[.int .i64 a3] 2 (0, 0)) (by simp)).1
              obtain ⟨vC75, x75, hr, ho, hg, hat⟩ := append_intsH x74 B 22 vB74 _ _ SV.out.g.o2 (some ⟨gH65, 0, none⟩) 1 1 [a3] (Ints.whole (n := 1) (show Whole _ gH65 2 ([a3].map (Value.int .i64)) from hB) rfl (by omega)) rfl (by simp; have := HHL.out; omega) SV.out.g.sz
              have SX := Lib.hid (SV.out.app2 (zs := [a3]) ho hg hat)
              refine wp_append_runH (some 78) rfl _ _ _ rfl vB74 _ vC75 rfl rfl hr ?_
              refine hK _ _ ⟨Lib.hid SX.out.lo, ?_⟩
              clear hK K SV
              clear hr ho hg hat hB
              have SV := SX
              clear SX
              try simp only [Act.put, List.setIfInBounds_toArray, List.set_cons_succ, List.set_cons_zero]
              refine wpAnyH_all (rs := [12]) (by kernel_rfl) (by simp) ?_
              intro ii hii
              obtain rfl : ii = 12 := by simpa using hii
              clear hii
              refine wpOp_step rfl (fun K hK => ?_)
              go_simp
              refine (HLE2.out _ vA73 vC75 _ SV.out).mono ?_
              rintro e x76 ⟨vb, fb, rfl, hp2, hb6⟩
              have SX := Lib.hid (SV.out.below hb6)
              have PX := Lib.hid hp2
              refine hK _ _ ⟨Lib.hid SX.out.lo, ?_⟩
              clear hK K SV
              clear hp2 hb6
              have SV := SX
              clear SX
              try simp only [Act.put, List.setIfInBounds_toArray, List.set_cons_succ, List.set_cons_zero]
              refine wpAnyH_takeC (i := 13) (v := .tuple #[vb, .int .i64 fb]) (some 66) rfl rfl (by kernel_rfl) (by kernel_rfl) (by kernel_rfl) (fun _ _ _ h => h) (Or.inl ⟨by rfl, fun X hX => by go_simp <;> (first | omega | decide | simp)⟩) (Lib.hid SV.out.lo) ?_
              try simp only [Act.put, List.setIfInBounds_toArray, List.set_cons_succ, List.set_cons_zero]
              refine wpAnyH_takeC (i := 14) (v := vb) (some 80) rfl rfl (by kernel_rfl) (by kernel_rfl) (by kernel_rfl) (fun _ _ _ h => h) (Or.inl ⟨by rfl, fun X hX => by go_simp <;> (first | omega | decide | simp)⟩) (Lib.hid SV.out.lo) ?_
              try simp only [Act.put, List.setIfInBounds_toArray, List.set_cons_succ, List.set_cons_zero]
              refine wpAnyH_takeC (i := 15) (v := .int .i64 fb) (some 81) rfl rfl (by kernel_rfl) (by kernel_rfl) (by kernel_rfl) (fun _ _ _ h => h) (Or.inl ⟨by rfl, fun X hX => by go_simp <;> (first | omega | decide | simp)⟩) (Lib.hid SV.out.lo) ?_
              try simp only [Act.put, List.setIfInBounds_toArray, List.set_cons_succ, List.set_cons_zero]
              refine wpAnyH_takeC (i := 16) (v := vb) (some 14) rfl rfl (by kernel_rfl) (by kernel_rfl) (by kernel_rfl) (fun _ _ _ h => h) (Or.inl ⟨by rfl, fun X hX => by go_simp <;> (first | omega | decide | simp)⟩) (Lib.hid SV.out.lo) ?_
              try simp only [Act.put, List.setIfInBounds_toArray, List.set_cons_succ, List.set_cons_zero]
              refine wpAnyH_takeC (i := 17) (v := .int .i64 fb) (some 15) rfl rfl (by kernel_rfl) (by kernel_rfl) (by kernel_rfl) (fun _ _ _ h => h) (Or.inl ⟨by rfl, fun X hX => by go_simp <;> (first | omega | decide | simp)⟩) (Lib.hid SV.out.lo) ?_
              try simp only [Act.put, List.setIfInBounds_toArray, List.set_cons_succ, List.set_cons_zero]
              refine wpAnyH_done (by kernel_rfl) ?_ _
              simp only [Exit.then]
              exact HT.out _ _ _ _ _ _ _ _ _ _ _ _ _ _ _ _ _ _ _ _ _ _ _ _ _ _ _ _ _ _ _ _ _ _ _ _ _ _ _ _ _ _ _ _ _ _ _ _ _ _ _ _ _ _ _ _ _ _ _ _ _ _ _ _ _ _ _ _ _ _ _ _ _ _ _ _ _ _ _ _ _ _ _ _ _ _ _ _ _ _ _ _ _ _ _ _ _ _ _ _ _ _ _ _ _ _ _ _ _ _ _ _ _ _ _ _ _ _ _ _ _ _ _ _ _ _ _ _ vb fb _ SV.out.lo (fun q hq => (SV.out.pb q (by simp [hq])).1) PX.out
          · clear hii
            refine wpOp_step rfl (fun K hK => ?_)
            go_simp
            have SX := Lib.hid (SV.out.made zc 101 HZC.out (by unfold maxLen; omega))
            refine hK _ _ ⟨Lib.hid SX.out.lo, ?_⟩
            clear hK K SV
            obtain ⟨vM77, hvM⟩ : ∃ vv, Value.slice (some ⟨(World.heap x65).size, 0, none⟩) 0 101 = vv := ⟨_, rfl⟩
            rw [hvM] at SX ⊢
            clear hvM
            have SV := SX
            clear SX
            generalize World.alloc x65 (.cells zc 2) = x77 at SV ⊢
            try simp only [Act.put, List.setIfInBounds_toArray, List.set_cons_succ, List.set_cons_zero]
            refine wpAnyH_all (rs := [4]) (by kernel_rfl) (by simp) ?_
            intro ii hii
            obtain rfl : ii = 4 := by simpa using hii
            clear hii
            refine wpOp_step rfl (fun K hK => ?_)
            go_simp
            have SX := Lib.hid (SV.out.put 35 [.int .i64 0, .int .i64 (r : Int), .int .i64 0, .int .i64 1, .int .i64 1])
            refine hK _ _ ⟨Lib.hid SX.out.lo, ?_⟩
            clear hK K SV
            obtain ⟨gP78, hgP⟩ : ∃ g, (World.heap x77).size = g := ⟨_, rfl⟩
            rw [hgP] at SX ⊢
            clear hgP
            have SV := SX
            clear SX
            generalize World.alloc x77 _ = x78 at SV ⊢
            try simp only [Act.put, List.setIfInBounds_toArray, List.set_cons_succ, List.set_cons_zero]
            refine wpAnyH_all (rs := [5]) (by kernel_rfl) (by simp) ?_
            intro ii hii
            obtain rfl : ii = 5 := by simpa using hii
            clear hii
            refine wpOp_step rfl (fun K hK => ?_)
            have hB := (SV.out.pb (gP78, .cells #[.int .i64 0, .int .i64 (r : Int), .int .i64 0, .int .i64 1, .int .i64 1] 35 (0, 0)) (by simp)).1
            obtain ⟨vA79, x79, hr, ho, hg, hat⟩ := append_plcH x78 B 23 v _ _ SV.out.g.o1 gP78 (pcB r) (show Whole _ gP78 35 (pcB r).cells from hB) (by rw [HPL.out]; omega) SV.out.g.sz
            have SX := Lib.hid (SV.out.app1 ho hg hat)
            refine wp_append_runH (some 72) rfl _ _ _ rfl v _ vA79 rfl rfl hr ?_
            refine hK _ _ ⟨Lib.hid SX.out.lo, ?_⟩
            clear hK K SV
            clear hr ho hg hat hB
            have SV := SX
            clear SX
            try simp only [Act.put, List.setIfInBounds_toArray, List.set_cons_succ, List.set_cons_zero]
            refine wpAnyH_all (rs := [8]) (by kernel_rfl) (by simp) ?_
            intro ii hii
            obtain rfl : ii = 8 := by simpa using hii
            clear hii
            refine wpOp_step rfl (fun K hK => ?_)
            obtain ⟨vB80, x80, hr, ho, hg, hat⟩ := append_intsH x79 B 22 vM77 _ _ SV.out.g.o2 (some ⟨g1, off1, mm1⟩) m cap1 hs (HHA.out _ (HBB.out.trans (SV.out.lo.mono HBB.out.size))) HHL.out (by first | (simp; done) | (simp; omega)) SV.out.g.sz
            have SX := Lib.hid (SV.out.app2 (zs := hs) (by rw [HHL.out]; exact ho) hg hat)
            refine wp_append_runH (some 75) rfl _ _ _ rfl vM77 _ vB80 rfl rfl hr ?_
            refine hK _ _ ⟨Lib.hid SX.out.lo, ?_⟩
            clear hK K SV
            clear hr ho hg hat
            have SV := SX
            clear SX
            try simp only [Act.put, List.setIfInBounds_toArray, List.set_cons_succ, List.set_cons_zero]
            refine wpAnyH_all (rs := [11]) (by kernel_rfl) (by simp) ?_
            intro ii hii
            obtain rfl : ii = 11 := by simpa using hii
            clear hii
            refine wpOp_step rfl (fun K hK => ?_)
            have hB := (SV.out.pb (gH65, .cells #[.int .i64 a3] 2 (0, 0)) (by simp)).1
            obtain ⟨vC81, x81, hr, ho, hg, hat⟩ := append_intsH x80 B 22 vB80 _ _ SV.out.g.o2 (some ⟨gH65, 0, none⟩) 1 1 [a3] (Ints.whole (n := 1) (show Whole _ gH65 2 ([a3].map (Value.int .i64)) from hB) rfl (by omega)) rfl (by simp; have := HHL.out; omega) SV.out.g.sz
            have SX := Lib.hid (SV.out.app2 (zs := [a3]) ho hg hat)
            refine wp_append_runH (some 78) rfl _ _ _ rfl vB80 _ vC81 rfl rfl hr ?_
            refine hK _ _ ⟨Lib.hid SX.out.lo, ?_⟩
            clear hK K SV
            clear hr ho hg hat hB
            have SV := SX
            clear SX
            try simp only [Act.put, List.setIfInBounds_toArray, List.set_cons_succ, List.set_cons_zero]
            refine wpAnyH_all (rs := [12]) (by kernel_rfl) (by simp) ?_
            intro ii hii
            obtain rfl : ii = 12 := by simpa using hii
            clear hii
            refine wpOp_step rfl (fun K hK => ?_)
            go_simp
            refine (HLE2.out _ vA79 vC81 _ SV.out).mono ?_
            rintro e x82 ⟨vb, fb, rfl, hp2, hb6⟩
            have SX := Lib.hid (SV.out.below hb6)
            have PX := Lib.hid hp2
            refine hK _ _ ⟨Lib.hid SX.out.lo, ?_⟩
            clear hK K SV
            clear hp2 hb6
            have SV := SX
            clear SX
            try simp only [Act.put, List.setIfInBounds_toArray, List.set_cons_succ, List.set_cons_zero]
            refine wpAnyH_takeC (i := 13) (v := .tuple #[vb, .int .i64 fb]) (some 66) rfl rfl (by kernel_rfl) (by kernel_rfl) (by kernel_rfl) (fun _ _ _ h => h) (Or.inl ⟨by rfl, fun X hX => by go_simp <;> (first | omega | decide | simp)⟩) (Lib.hid SV.out.lo) ?_
            try simp only [Act.put, List.setIfInBounds_toArray, List.set_cons_succ, List.set_cons_zero]
            refine wpAnyH_takeC (i := 14) (v := vb) (some 80) rfl rfl (by kernel_rfl) (by kernel_rfl) (by kernel_rfl) (fun _ _ _ h => h) (Or.inl ⟨by rfl, fun X hX => by go_simp <;> (first | omega | decide | simp)⟩) (Lib.hid SV.out.lo) ?_
            try simp only [Act.put, List.setIfInBounds_toArray, List.set_cons_succ, List.set_cons_zero]
            refine wpAnyH_takeC (i := 15) (v := .int .i64 fb) (some 81) rfl rfl (by kernel_rfl) (by kernel_rfl) (by kernel_rfl) (fun _ _ _ h => h) (Or.inl ⟨by rfl, fun X hX => by go_simp <;> (first | omega | decide | simp)⟩) (Lib.hid SV.out.lo) ?_
            try simp only [Act.put, List.setIfInBounds_toArray, List.set_cons_succ, List.set_cons_zero]
            refine wpAnyH_takeC (i := 16) (v := vb) (some 14) rfl rfl (by kernel_rfl) (by kernel_rfl) (by kernel_rfl) (fun _ _ _ h => h) (Or.inl ⟨by rfl, fun X hX => by go_simp <;> (first | omega | decide | simp)⟩) (Lib.hid SV.out.lo) ?_
            try simp only [Act.put, List.setIfInBounds_toArray, List.set_cons_succ, List.set_cons_zero]
            refine wpAnyH_takeC (i := 17) (v := .int .i64 fb) (some 15) rfl rfl (by kernel_rfl) (by kernel_rfl) (by kernel_rfl) (fun _ _ _ h => h) (Or.inl ⟨by rfl, fun X hX => by go_simp <;> (first | omega | decide | simp)⟩) (Lib.hid SV.out.lo) ?_
            try simp only [Act.put, List.setIfInBounds_toArray, List.set_cons_succ, List.set_cons_zero]
            refine wpAnyH_done (by kernel_rfl) ?_ _
            simp only [Exit.then]
            exact HT.out _ _ _ _ _ _ _ _ _ _ _ _ _ _ _ _ _ _ _ _ _ _ _ _ _ _ _ _ _ _ _ _ _ _ _ _ _ _ _ _ _ _ _ _ _ _ _ _ _ _ _ _ _ _ _ _ _ _ _ _ _ _ _ _ _ _ _ _ _ _ _ _ _ _ _ _ _ _ _ _ _ _ _ _ _ _ _ _ _ _ _ _ _ _ _ _ _ _ _ _ _ _ _ _ _ _ _ _ _ _ _ _ _ _ _ _ _ _ _ _ _ _ _ _ _ _ _ _ vb fb _ SV.out.lo (fun q hq => (SV.out.pb q (by simp [hq])).1) PX.out


set_option maxRecDepth 100000 in
theorem lifted (os : Os) (started : os.Started) (H : Type) (enc : TypeId × Value → H) :
    ReturnsInHanded {} Try.checked os 8 .any (Rows.heightsMoreSpec.pre6 enc Try.prog Try.f8 Rows.heightsMoreRow.domain false) (Rows.heightsMoreSpec.post enc Try.prog Try.f8 false true false false) := by
  refine returnsInHanded_of_change (C := Try.checked) own started (by kernel_rfl) Try.func8
    (ChangeSpec.witness6 (enc := enc) (C := Try.checked) false ⟨#[], #[.slice none 0 0, .slice none 0 0, .int .i64 0, .int .i64 0], []⟩ 8 (by kernel_rfl) (by kernel_rfl) (by kernel_rfl) (by kernel_rfl)) ?_
  intro W base args ds gs before hval0 hW hcnd _
  have hval : ∀ (j : Nat) t v, Try.f8.params[j]? = some t → args[j]? = some v → Value.okWide Try.prog W .any base t v := hval0
  have hW' := hW
  obtain ⟨p, q, hA0, hV, rfl, hfz, hnd⟩ := hW
  have hA : DataW.TrodAll enc Try.prog W 0 (fun _ => true) true Try.f8.params.toList args.toList ds p := hA0
  rw [Try.params8] at hA hval
  obtain ⟨v0, vs0, d0, ds0, p0, q0, hargs, rfl, rfl, h0, r0⟩ := trodAll_cons hA
  obtain ⟨v1, vs1, d1, ds1, p1, q1, rfl, rfl, rfl, h1, r1⟩ := trodAll_cons r0
  obtain ⟨v2, vs2, d2, ds2, p2, q2, rfl, rfl, rfl, h2, r2⟩ := trodAll_cons r1
  obtain ⟨v3, vs3, d3, ds3, p3, q3, rfl, rfl, rfl, h3, r3⟩ := trodAll_cons r2
  obtain ⟨rfl, rfl, rfl⟩ := trodAll_nil r3
  obtain rfl : args = #[v0, v1, v2, v3] := by cases args; simp_all
  obtain ⟨rfl, rfl⟩ := trodVars_none hV
  obtain ⟨a0, len0, cap0, rfl⟩ := okWide_slice Try.underlying22 (hval 0 22 v0 rfl rfl)
  have k0 := h0
  have lt0 : ∀ x ∈ p0, x.block < W.heap.size := by obtain ⟨m, hm⟩ := k0; exact DataW.trod_lt m _ _ _ hm
  obtain ⟨z0, w0⟩ : ∃ zs, IntArg W a0 len0 cap0 zs := by
    obtain ⟨fuel, hf⟩ := h0
    exact open_intsH (by simpa [Value.cells] using hf)
  obtain ⟨a1, len1, cap1, rfl⟩ := okWide_slice Try.underlying22 (hval 1 22 v1 rfl rfl)
  have k1 := h1
  have lt1 : ∀ x ∈ p1, x.block < W.heap.size := by obtain ⟨m, hm⟩ := k1; exact DataW.trod_lt m _ _ _ hm
  obtain ⟨z1, w1⟩ : ∃ zs, IntArg W a1 len1 cap1 zs := by
    obtain ⟨fuel, hf⟩ := h1
    exact open_intsH (by simpa [Value.cells] using hf)
  obtain ⟨a2, rfl, rfl, rfl, w2⟩ := open_int Try.underlying3 (hval 2 3 v2 rfl rfl) h2
  obtain ⟨a3, rfl, rfl, rfl, w3⟩ := open_int Try.underlying2 (hval 3 2 v3 rfl rfl) h3
  clear hA0 hval0
  simp only [List.append_nil] at hW'
  refine (walk W a0 len0 cap0 z0 w0 a1 len1 cap1 z1 w1 a2 w2 a3 w3).mono fun e W' ⟨he, hg⟩ => ?_
  subst he
  exact ⟨_, rfl, _, _, _, [], _, [], hW', (trodAll_cons_mk (shut_bool Try.underlying4 _) trodAll_mk0), (trodAll_cons_mk (Below.trod laidOut (by kernel_rfl) (of_decide_eq_true (by kernel_rfl)) k0 hg lt0) (trodAll_cons_mk (Below.trod laidOut (by kernel_rfl) (of_decide_eq_true (by kernel_rfl)) k1 hg lt1) (trodAll_cons_mk (shut_int Try.underlying3 w2) (trodAll_cons_mk (shut_int Try.underlying2 w3) trodAll_mk0)))), rfl, hg.frame _, fun h => by cases h⟩

theorem over : Rows.heightsMoreRow.holds Try.pinned (OpenSpec.ofChange Rows.heightsMoreSpec) :=
  OpenClaim.holds_of_wide 8 Try.f8 rfl rfl rfl rfl rfl rfl rfl ⟨rfl, rfl, rfl, rfl, rfl⟩ rfl rfl rfl rfl rfl (by kernel_rfl) Try.func8 (by kernel_rfl)
    (of_decide_eq_true (by kernel_rfl)) (by unfold Func.isWrapper; first | (rw [if_pos (by decide +kernel)]; kernel_rfl) | (rw [if_neg (by decide +kernel)]; exact ⟨rfl, rfl⟩))
    (fun os started H enc _ => lifted os started H enc)

/-- the statement -/
theorem proved : Rows.HeightsMoreSaid :=
  over
#print axioms proved
end Go.Proofs.Ytpbkboandiigfaa.heightsMore
