/- Contract of the library's symMergeCmpFunc at elements of kc cells (structs): two sorted runs are merged. Written by mk_StK.py. -/
import Derived.Test.YtpbkboandiigfaaHsRun
namespace Go.Proofs.Ytpbkboandiigfaa
namespace KS
open Go.RowKit Go.Shelf Go.Sort Go.Lib
set_option linter.unusedVariables false
set_option linter.unusedSimpArgs false
section
variable {α : Type} [Inhabited α] {enc : α → List Value} {kc : Nat} {w0 : World} {blk off : Nat} {d0 : Array α}

variable {cf : α → α → Int} {bf : α → α → Prop}
/-- what a merge is asked, and what it gives -/
def MergeAt (P : Program) (fn g : Nat) (cb : Array Value) (enc : α → List Value) (kc : Nat) (cf : α → α → Int) (bf : α → α → Prop) (w0 : World) (blk off cap n : Nat) (N : Nat) : Prop :=
  ∀ (a m b : Nat) (d : Array α) (w : World), b - a ≤ N → a < m → m < b → b ≤ n → d.size = n → SWK enc kc w0 blk off d w → Srt bf a m d → Srt bf m b d → Crs (ltOf cf) bf a m b d →
    Calls P fn #[.slice (some ⟨blk, off, none⟩) n cap, .int .i64 a, .int .i64 m, .int .i64 b, .func (.func g) #[] cb] w fun e w' => e = .returned (.tuple #[]) ∧ ∃ d', Mg bf d d' a b ∧ SWK enc kc w0 blk off d' w'

set_option maxHeartbeats 4000000 in
set_option maxRecDepth 100000 in
theorem merge_one (g : Nat) (cb : Array Value) (cap a m b : Nat) (d : Array α) (w : World) (eg : ∀ args w, (callFunc g args).run Try.prog w = .ok (.enter g args) w) (hcmp : CmpLays Try.prog g cb enc kc cf blk off d0.size w0)
    (R : RowK enc kc w0 blk off d0) (zE : ∀ w, (Go.sizeOf 45).run Try.prog w = .ok kc w) (hs : d0.size = d.size) (hB : Bf bf) (hm : m = a + 1) (hmb : m < b) (hb : b ≤ d.size) (hsz : d.size < 4611686018427387904) (S : SWK enc kc w0 blk off d w)
    (h2 : Srt bf m b d) (hc : Crs (ltOf cf) bf a m b d) :
    Calls Try.prog 85 #[.slice (some ⟨blk, off, none⟩) d.size cap, .int .i64 a, .int .i64 m, .int .i64 b, .func (.func g) #[] cb] w fun e w' => e = .returned (.tuple #[]) ∧ ∃ d', Mg bf d d' a b ∧ SWK enc kc w0 blk off d' w' := by
  have mixed : Try.prog.follows Departure.mixedOrders = true := by kernel_rfl
  have S0 : Aside (SWK enc kc w0 blk off d w) := S
  have HC : Aside _ := hcmp
  have H2 : Hid (Srt bf m b d) := h2
  have HX : Hid (Crs (ltOf cf) bf a m b d) := hc
  have s1 : Hid (Srt bf a m d) := fun i j q1 q2 q3 => by omega
  clear S hcmp h2 hc
  have HM : Hid (m = a + 1) := hm
  have ham : a < m := by omega
  have e1 : IntKind.i64.wrap ((m : Int) - (a : Int)) = 1 := by rw [IntKind.wrap_i64]; omega
  clear hm
  go_enter Try.func85, Try.ntmps85
  go_wp2
  go_loopg [10, 11] (b + 1) (fun kx s10 s11 wr => ∃ (i j : Nat), s10 = .int .i64 i ∧ s11 = .int .i64 j ∧ m ≤ i ∧ i ≤ j ∧ j ≤ b ∧ j - i ≤ kx ∧ Aside (SWK enc kc w0 blk off d wr) ∧ Hid (∀ k, m ≤ k → k < i → ltOf cf d[k]! d[a]! = true) ∧ Hid (∀ k, j ≤ k → k < b → ltOf cf d[k]! d[a]! = false))
  case atStart => exact ⟨m, b, rfl, rfl, by omega, by omega, by omega, by omega, S0, fun k q1 q2 => by omega, fun k q1 q2 => by omega⟩
  case round =>
    clear S0
    obtain ⟨i, j, rfl, rfl, hi, hij, hj, hkx, S1, lo, hi2⟩ := hrel
    by_cases hlt : i < j
    · have hltz : (i : Int) < (j : Int) := by omega
      obtain ⟨h, hh⟩ : ∃ h, h = (i + j) / 2 := ⟨_, rfl⟩
      have e2 : IntKind.i64.wrap ((i : Int) + (j : Int)) = (i : Int) + (j : Int) := by rw [IntKind.wrap_i64]; omega
      have e3 : IntKind.u64.wrap ((i : Int) + (j : Int)) = (i : Int) + (j : Int) := by rw [IntKind.wrap_u64]; omega
      have e4 : ((i : Int) + (j : Int)) / 2 = (h : Int) := by omega
      have e5 : IntKind.i64.wrap (h : Int) = (h : Int) := by rw [IntKind.wrap_i64]; omega
      have h1 : i ≤ h := by omega
      have h3 : h < j := by omega
      clear hh
      cases hl : ltOf cf d[h]! d[a]! with
      | true =>
        have lo2 : Hid (∀ k, m ≤ k → k < h + 1 → ltOf cf d[k]! d[a]! = true) := fun k q1 q2 => HX.out.up hB s1.out H2.out (i := a) (j := h) (i' := a) (j' := k) (Nat.le_refl _) (by omega) (by omega) q1 (Nat.le_refl _) (by omega) hl
        go_wp2_with fail
        obtain ⟨iN2, hiN2⟩ : ∃ q, q = h := ⟨_, rfl⟩
        obtain ⟨jN2, hjN2⟩ : ∃ q, q = a := ⟨_, rfl⟩
        have ea2 : ((h : Int)).toNat = iN2 := by omega
        have pa2 : (0 : Int) ≤ (h : Int) := by omega
        have ba2 : (h : Int) < (d.size : Int) := by omega
        have ra2 : IntKind.i64.wrap ((h : Int)) = (h : Int) := by rw [IntKind.wrap_i64]; omega
        have ec2 : ((a : Int)).toNat = jN2 := by omega
        have pc2 : (0 : Int) ≤ (a : Int) := by omega
        have bc2 : (a : Int) < (d.size : Int) := by omega
        have rc2 : IntKind.i64.wrap ((a : Int)) = (a : Int) := by rw [IntKind.wrap_i64]; omega
        obtain ⟨x2, hx2⟩ : ∃ x, x = d[h]! := ⟨_, rfl⟩
        obtain ⟨y2, hy2⟩ : ∃ x, x = d[a]! := ⟨_, rfl⟩
        have l2a := S1.out.ld R (by omega) Try.prog (h) (by omega)
        have l2b := S1.out.ld R (by omega) Try.prog (a) (by omega)
        rw [← hx2, ← hiN2] at l2a
        rw [← hy2, ← hjN2] at l2b
        have hc2 := S1.out.cmp HC.out (by omega) x2 y2
        have hv2 : cf x2 y2 < 0 := by rw [hx2, hy2]; exact of_decide_eq_true hl
        have hd2 : decide (cf x2 y2 < 0) = true := decide_eq_true hv2
        clear hx2 hy2 hiN2 hjN2
        go_wp2_with fail
        go_quiet_grown (first | (go_at_fn g; refine Calls.grown_of (hc2 _ _)))
        have S2 : Aside (SWK enc kc w0 blk off d (grow (wr.drewN nq) osq)) := S1.out.grown nq osq
        clear l2a l2b hc2 S1
        generalize grow (wr.drewN nq) osq = w2 at S2 ⊢
        clear nq osq
        clear ea2 ec2 pa2 ba2 ra2 pc2 bc2 rc2
        go_wp2
        go_roundg (j - (h + 1))
        case measure => omega
        case rel => exact ⟨h + 1, j, by go_num, rfl, by omega, by omega, hj, by omega, S2, lo2, hi2⟩
      | false =>
        have hi3 : Hid (∀ k, h ≤ k → k < b → ltOf cf d[k]! d[a]! = false) := fun k q1 q2 => HX.out.down hB s1.out H2.out (i := a) (j := h) (i' := a) (j' := k) (by omega) (by omega) (Nat.le_refl _) q2 (Nat.le_refl _) q1 hl
        go_wp2_with fail
        obtain ⟨iN3, hiN3⟩ : ∃ q, q = h := ⟨_, rfl⟩
        obtain ⟨jN3, hjN3⟩ : ∃ q, q = a := ⟨_, rfl⟩
        have ea3 : ((h : Int)).toNat = iN3 := by omega
        have pa3 : (0 : Int) ≤ (h : Int) := by omega
        have ba3 : (h : Int) < (d.size : Int) := by omega
        have ra3 : IntKind.i64.wrap ((h : Int)) = (h : Int) := by rw [IntKind.wrap_i64]; omega
        have ec3 : ((a : Int)).toNat = jN3 := by omega
        have pc3 : (0 : Int) ≤ (a : Int) := by omega
        have bc3 : (a : Int) < (d.size : Int) := by omega
        have rc3 : IntKind.i64.wrap ((a : Int)) = (a : Int) := by rw [IntKind.wrap_i64]; omega
        obtain ⟨x3, hx3⟩ : ∃ x, x = d[h]! := ⟨_, rfl⟩
        obtain ⟨y3, hy3⟩ : ∃ x, x = d[a]! := ⟨_, rfl⟩
        have l3a := S1.out.ld R (by omega) Try.prog (h) (by omega)
        have l3b := S1.out.ld R (by omega) Try.prog (a) (by omega)
        rw [← hx3, ← hiN3] at l3a
        rw [← hy3, ← hjN3] at l3b
        have hc3 := S1.out.cmp HC.out (by omega) x3 y3
        have hv3 : ¬ cf x3 y3 < 0 := by rw [hx3, hy3]; exact of_decide_eq_false hl
        have hd3 : decide (cf x3 y3 < 0) = false := decide_eq_false hv3
        clear hx3 hy3 hiN3 hjN3
        go_wp2_with fail
        go_quiet_grown (first | (go_at_fn g; refine Calls.grown_of (hc3 _ _)))
        have S2 : Aside (SWK enc kc w0 blk off d (grow (wr.drewN nq) osq)) := S1.out.grown nq osq
        clear l3a l3b hc3 S1
        generalize grow (wr.drewN nq) osq = w2 at S2 ⊢
        clear nq osq
        clear ea3 ec3 pa3 ba3 ra3 pc3 bc3 rc3
        go_wp2
        go_roundg (h - i)
        case measure => omega
        case rel => exact ⟨i, h, rfl, rfl, hi, by omega, by omega, by omega, S2, lo, hi3⟩
    · have hltz : ¬ (i : Int) < (j : Int) := by omega
      obtain ⟨q, hq⟩ : ∃ q, i = q + 1 := ⟨i - 1, by omega⟩
      have HQ : Hid (i = q + 1) := hq
      have HIJ : Hid (j = i) := (by omega : j = i)
      have e6 : IntKind.i64.wrap ((i : Int) - 1) = (q : Int) := by rw [IntKind.wrap_i64]; omega
      have haq : a ≤ q := by have := HM.out; omega
      have hqb : q + 1 ≤ b := by omega
      clear hq hij
      go_wp2
      go_loopg [13] (q + 1) (fun kx s13 wr => ∃ (k : Nat) (dk : Array α), s13 = .int .i64 k ∧ a ≤ k ∧ k ≤ q ∧ q - k ≤ kx ∧ dk.size = d.size ∧ Aside (SWK enc kc w0 blk off dk wr) ∧ Hid (Rot d dk a (a + 1) (k + 1)))
      case atStart => exact ⟨a, d, rfl, by omega, haq, by omega, rfl, S1, Rot.none2 d a (a + 1)⟩
      case round =>
        clear S1
        obtain ⟨k, dk, rfl, hak, hkq, hkx2, hds, S3, hr⟩ := hrel
        by_cases hltq : k < q
        · have hltz2 : (k : Int) < (q : Int) := by omega
          have e7 : IntKind.i64.wrap ((k : Int) + 1) = (k : Int) + 1 := by rw [IntKind.wrap_i64]; omega
          have hr2 : Hid (Rot d (swp dk k (k + 1)) a (a + 1) (k + 1 + 1)) := hr.out.stepR hak (by omega)
          have hkb : k + 1 < d.size := by omega
          go_wp2_with fail
          obtain ⟨iN4, hiN4⟩ : ∃ q, q = k := ⟨_, rfl⟩
          obtain ⟨jN4, hjN4⟩ : ∃ q, q = k + 1 := ⟨_, rfl⟩
          have ea4 : ((k : Int)).toNat = iN4 := by omega
          have pa4 : (0 : Int) ≤ (k : Int) := by omega
          have ba4 : (k : Int) < (d.size : Int) := by omega
          have ra4 : IntKind.i64.wrap ((k : Int)) = (k : Int) := by rw [IntKind.wrap_i64]; omega
          have ec4 : ((k : Int) + 1).toNat = jN4 := by omega
          have pc4 : (0 : Int) ≤ (k : Int) + 1 := by omega
          have bc4 : (k : Int) + 1 < (d.size : Int) := by omega
          have rc4 : IntKind.i64.wrap ((k : Int) + 1) = (k : Int) + 1 := by rw [IntKind.wrap_i64]; omega
          obtain ⟨x4, hx4⟩ : ∃ x, x = enc dk[k]! := ⟨_, rfl⟩
          obtain ⟨y4, hy4⟩ : ∃ x, x = enc dk[k + 1]! := ⟨_, rfl⟩
          have S4 : Aside (SWK enc kc w0 blk off (swp dk (k) (k + 1)) ((wr.drew.setCells blk (off + iN4 * kc) y4).setCells blk (off + jN4 * kc) x4)) := by rw [hiN4, hjN4, hx4, hy4]; exact S3.out.swapped R (k) (k + 1) (by omega) (by omega)
          have l4a : Sem.run Try.prog (loadCellsFrom ⟨blk, off + iN4 * kc, none⟩ 0 kc #[]) wr.drew = .ok x4.toArray wr.drew := by rw [hx4, hiN4]; exact S3.out.ld1 R (by omega) Try.prog (k) (by omega)
          have l4b : Sem.run Try.prog (loadCellsFrom ⟨blk, off + jN4 * kc, none⟩ 0 kc #[]) wr.drew = .ok y4.toArray wr.drew := by rw [hy4, hjN4]; exact S3.out.ld1 R (by omega) Try.prog (k + 1) (by omega)
          have s4a : Sem.run Try.prog (storeCells ⟨blk, off + iN4 * kc, none⟩ y4 0) wr.drew = .ok () (wr.drew.setCells blk (off + iN4 * kc) y4) := by rw [hiN4, hy4]; exact S3.out.st1 R (by omega) Try.prog (k) (by omega) dk[k + 1]!
          have s4b : Sem.run Try.prog (storeCells ⟨blk, off + jN4 * kc, none⟩ x4 0) (wr.drew.setCells blk (off + iN4 * kc) y4) = .ok () ((wr.drew.setCells blk (off + iN4 * kc) y4).setCells blk (off + jN4 * kc) x4) := by rw [hiN4, hjN4, hx4, hy4]; exact S3.out.st2 R (by omega) Try.prog (k) (k + 1) (by omega) (by omega) dk[k + 1]! dk[k]!
          have n4a : x4.length = kc := by rw [hx4]; exact R.hk _
          have n4b : y4.length = kc := by rw [hy4]; exact R.hk _
          clear S3 hx4 hy4 hiN4 hjN4
          go_wp2_with fail
          go_big_region_o
          clear l4a l4b s4a s4b n4a n4b
          generalize (wr.drew.setCells blk (off + iN4 * kc) y4).setCells blk (off + jN4 * kc) x4 = w2 at S4 ⊢
          clear ea4 ec4 pa4 ba4 ra4 pc4 bc4 rc4
          go_wp2
          go_roundg (q - (k + 1))
          case measure => omega
          case rel => exact ⟨k + 1, swp dk k (k + 1), by go_num, by omega, by omega, by omega, by rw [size_swp]; exact hds, S4, hr2⟩
        · have hltz2 : ¬ (k : Int) < (q : Int) := by omega
          have hkq2 : Hid (k = q) := (by omega : k = q)
          go_wp2
          try simp only [Exit.inBlock, Exit.then]
          refine bodyPost_ret (results_none rfl _ _ _) rfl ?_
          refine ⟨rfl, dk, Mg.one HM.out H2.out HX.out hi (by rw [← HIJ.out]; exact hj) hb lo.out (by rw [← HIJ.out]; exact hi2.out) ?_, S3.out⟩
          have := hr.out
          rw [hkq2.out, ← HQ.out, ← HM.out] at this
          exact this

set_option maxHeartbeats 4000000 in
set_option maxRecDepth 100000 in
theorem merge_last (g : Nat) (cb : Array Value) (cap a m b : Nat) (d : Array α) (w : World) (eg : ∀ args w, (callFunc g args).run Try.prog w = .ok (.enter g args) w) (hcmp : CmpLays Try.prog g cb enc kc cf blk off d0.size w0)
    (R : RowK enc kc w0 blk off d0) (zE : ∀ w, (Go.sizeOf 45).run Try.prog w = .ok kc w) (hs : d0.size = d.size) (hB : Bf bf) (ham : a + 1 < m) (hm : b = m + 1) (hb : b ≤ d.size) (hsz : d.size < 4611686018427387904) (S : SWK enc kc w0 blk off d w)
    (h1 : Srt bf a m d) (hc : Crs (ltOf cf) bf a m b d) :
    Calls Try.prog 85 #[.slice (some ⟨blk, off, none⟩) d.size cap, .int .i64 a, .int .i64 m, .int .i64 b, .func (.func g) #[] cb] w fun e w' => e = .returned (.tuple #[]) ∧ ∃ d', Mg bf d d' a b ∧ SWK enc kc w0 blk off d' w' := by
  have mixed : Try.prog.follows Departure.mixedOrders = true := by kernel_rfl
  have S0 : Aside (SWK enc kc w0 blk off d w) := S
  have HC : Aside _ := hcmp
  have H1 : Hid (Srt bf a m d) := h1
  have HX : Hid (Crs (ltOf cf) bf a m b d) := hc
  have s2 : Hid (Srt bf m b d) := fun i j q1 q2 q3 => by omega
  clear S hcmp h1 hc
  have HM : Hid (b = m + 1) := hm
  have hmb : m < b := by omega
  have hmd : m < d.size := by omega
  obtain ⟨D, hD⟩ : ∃ D, D = m - a := ⟨_, rfl⟩
  have e0 : IntKind.i64.wrap ((m : Int) - (a : Int)) = (D : Int) := by rw [IntKind.wrap_i64]; omega
  have e0b : ((D : Int) == 1) = false := by simp; omega
  have e1 : IntKind.i64.wrap ((b : Int) - (m : Int)) = 1 := by rw [IntKind.wrap_i64]; omega
  clear hm hD
  go_enter Try.func85, Try.ntmps85
  go_wp2
  go_loopg [14, 15] (b + 1) (fun kx s10 s11 wr => ∃ (i j : Nat), s10 = .int .i64 i ∧ s11 = .int .i64 j ∧ a ≤ i ∧ i ≤ j ∧ j ≤ m ∧ j - i ≤ kx ∧ Aside (SWK enc kc w0 blk off d wr) ∧ Hid (∀ k, a ≤ k → k < i → ltOf cf d[m]! d[k]! = false) ∧ Hid (∀ k, j ≤ k → k < m → ltOf cf d[m]! d[k]! = true))
  case atStart => exact ⟨a, m, rfl, rfl, by omega, by omega, by omega, by omega, S0, fun k q1 q2 => by omega, fun k q1 q2 => by omega⟩
  case round =>
    clear S0
    obtain ⟨i, j, rfl, rfl, hi, hij, hj, hkx, S1, lo, hi2⟩ := hrel
    by_cases hlt : i < j
    · have hltz : (i : Int) < (j : Int) := by omega
      obtain ⟨h, hh⟩ : ∃ h, h = (i + j) / 2 := ⟨_, rfl⟩
      have e2 : IntKind.i64.wrap ((i : Int) + (j : Int)) = (i : Int) + (j : Int) := by rw [IntKind.wrap_i64]; omega
      have e3 : IntKind.u64.wrap ((i : Int) + (j : Int)) = (i : Int) + (j : Int) := by rw [IntKind.wrap_u64]; omega
      have e4 : ((i : Int) + (j : Int)) / 2 = (h : Int) := by omega
      have e5 : IntKind.i64.wrap (h : Int) = (h : Int) := by rw [IntKind.wrap_i64]; omega
      have h1 : i ≤ h := by omega
      have h3 : h < j := by omega
      clear hh
      cases hl : ltOf cf d[m]! d[h]! with
      | false =>
        have lo2 : Hid (∀ k, a ≤ k → k < h + 1 → ltOf cf d[m]! d[k]! = false) := fun k q1 q2 => HX.out.down hB H1.out s2.out (i := h) (j := m) (i' := k) (j' := m) (by omega) (Nat.le_refl _) q1 hmb (by omega) (Nat.le_refl _) hl
        go_wp2_with fail
        obtain ⟨iN5, hiN5⟩ : ∃ q, q = m := ⟨_, rfl⟩
        obtain ⟨jN5, hjN5⟩ : ∃ q, q = h := ⟨_, rfl⟩
        have ea5 : ((m : Int)).toNat = iN5 := by omega
        have pa5 : (0 : Int) ≤ (m : Int) := by omega
        have ba5 : (m : Int) < (d.size : Int) := by omega
        have ra5 : IntKind.i64.wrap ((m : Int)) = (m : Int) := by rw [IntKind.wrap_i64]; omega
        have ec5 : ((h : Int)).toNat = jN5 := by omega
        have pc5 : (0 : Int) ≤ (h : Int) := by omega
        have bc5 : (h : Int) < (d.size : Int) := by omega
        have rc5 : IntKind.i64.wrap ((h : Int)) = (h : Int) := by rw [IntKind.wrap_i64]; omega
        obtain ⟨x5, hx5⟩ : ∃ x, x = d[m]! := ⟨_, rfl⟩
        obtain ⟨y5, hy5⟩ : ∃ x, x = d[h]! := ⟨_, rfl⟩
        have l5a := S1.out.ld R (by omega) Try.prog (m) (by omega)
        have l5b := S1.out.ld R (by omega) Try.prog (h) (by omega)
        rw [← hx5, ← hiN5] at l5a
        rw [← hy5, ← hjN5] at l5b
        have hc5 := S1.out.cmp HC.out (by omega) x5 y5
        have hv5 : ¬ cf x5 y5 < 0 := by rw [hx5, hy5]; exact of_decide_eq_false hl
        have hd5 : decide (cf x5 y5 < 0) = false := decide_eq_false hv5
        clear hx5 hy5 hiN5 hjN5
        go_wp2_with fail
        go_quiet_grown (first | (go_at_fn g; refine Calls.grown_of (hc5 _ _)))
        have S2 : Aside (SWK enc kc w0 blk off d (grow (wr.drewN nq) osq)) := S1.out.grown nq osq
        clear l5a l5b hc5 S1
        generalize grow (wr.drewN nq) osq = w2 at S2 ⊢
        clear nq osq
        clear ea5 ec5 pa5 ba5 ra5 pc5 bc5 rc5
        go_wp2
        go_roundg (j - (h + 1))
        case measure => omega
        case rel => exact ⟨h + 1, j, by go_num, rfl, by omega, by omega, hj, by omega, S2, lo2, hi2⟩
      | true =>
        have hi3 : Hid (∀ k, h ≤ k → k < m → ltOf cf d[m]! d[k]! = true) := fun k q1 q2 => HX.out.up hB H1.out s2.out (i := h) (j := m) (i' := k) (j' := m) (by omega) hmb q2 (Nat.le_refl _) q1 (Nat.le_refl _) hl
        go_wp2_with fail
        obtain ⟨iN6, hiN6⟩ : ∃ q, q = m := ⟨_, rfl⟩
        obtain ⟨jN6, hjN6⟩ : ∃ q, q = h := ⟨_, rfl⟩
        have ea6 : ((m : Int)).toNat = iN6 := by omega
        have pa6 : (0 : Int) ≤ (m : Int) := by omega
        have ba6 : (m : Int) < (d.size : Int) := by omega
        have ra6 : IntKind.i64.wrap ((m : Int)) = (m : Int) := by rw [IntKind.wrap_i64]; omega
        have ec6 : ((h : Int)).toNat = jN6 := by omega
        have pc6 : (0 : Int) ≤ (h : Int) := by omega
        have bc6 : (h : Int) < (d.size : Int) := by omega
        have rc6 : IntKind.i64.wrap ((h : Int)) = (h : Int) := by rw [IntKind.wrap_i64]; omega
        obtain ⟨x6, hx6⟩ : ∃ x, x = d[m]! := ⟨_, rfl⟩
        obtain ⟨y6, hy6⟩ : ∃ x, x = d[h]! := ⟨_, rfl⟩
        have l6a := S1.out.ld R (by omega) Try.prog (m) (by omega)
        have l6b := S1.out.ld R (by omega) Try.prog (h) (by omega)
        rw [← hx6, ← hiN6] at l6a
        rw [← hy6, ← hjN6] at l6b
        have hc6 := S1.out.cmp HC.out (by omega) x6 y6
        have hv6 : cf x6 y6 < 0 := by rw [hx6, hy6]; exact of_decide_eq_true hl
        have hd6 : decide (cf x6 y6 < 0) = true := decide_eq_true hv6
        clear hx6 hy6 hiN6 hjN6
        go_wp2_with fail
        go_quiet_grown (first | (go_at_fn g; refine Calls.grown_of (hc6 _ _)))
        have S2 : Aside (SWK enc kc w0 blk off d (grow (wr.drewN nq) osq)) := S1.out.grown nq osq
        clear l6a l6b hc6 S1
        generalize grow (wr.drewN nq) osq = w2 at S2 ⊢
        clear nq osq
        clear ea6 ec6 pa6 ba6 ra6 pc6 bc6 rc6
        go_wp2
        go_roundg (h - i)
        case measure => omega
        case rel => exact ⟨i, h, rfl, rfl, hi, by omega, by omega, by omega, S2, lo, hi3⟩
    · have hltz : ¬ (i : Int) < (j : Int) := by omega
      have HIJ : Hid (j = i) := (by omega : j = i)
      have him : i ≤ m := by omega
      clear hij
      go_wp2
      go_loopg [17] (m + 1) (fun kx s13 wr => ∃ (k : Nat) (dk : Array α), s13 = .int .i64 k ∧ i ≤ k ∧ k ≤ m ∧ k - i ≤ kx ∧ dk.size = d.size ∧ Aside (SWK enc kc w0 blk off dk wr) ∧ Hid (Rot d dk k m (m + 1)))
      case atStart => exact ⟨m, d, rfl, him, Nat.le_refl _, by omega, rfl, S1, Rot.none1 d m (m + 1)⟩
      case round =>
        clear S1
        obtain ⟨k, dk, rfl, hik, hkm, hkx2, hds, S3, hr⟩ := hrel
        by_cases hgt : i < k
        · obtain ⟨c, rfl⟩ : ∃ c, k = c + 1 := ⟨k - 1, by omega⟩
          have hgtz : (i : Int) < (c : Int) + 1 := by omega
          have e7 : IntKind.i64.wrap (c : Int) = (c : Int) := by rw [IntKind.wrap_i64]; omega
          have hr2 : Hid (Rot d (swp dk (c + 1) c) c m (m + 1)) := hr.out.stepL hkm hmd
          go_wp2_with fail
          obtain ⟨iN7, hiN7⟩ : ∃ q, q = c + 1 := ⟨_, rfl⟩
          obtain ⟨jN7, hjN7⟩ : ∃ q, q = c := ⟨_, rfl⟩
          have ea7 : ((c : Int) + 1).toNat = iN7 := by omega
          have pa7 : (0 : Int) ≤ (c : Int) + 1 := by omega
          have ba7 : (c : Int) + 1 < (d.size : Int) := by omega
          have ra7 : IntKind.i64.wrap ((c : Int) + 1) = (c : Int) + 1 := by rw [IntKind.wrap_i64]; omega
          have ec7 : ((c : Int)).toNat = jN7 := by omega
          have pc7 : (0 : Int) ≤ (c : Int) := by omega
          have bc7 : (c : Int) < (d.size : Int) := by omega
          have rc7 : IntKind.i64.wrap ((c : Int)) = (c : Int) := by rw [IntKind.wrap_i64]; omega
          obtain ⟨x7, hx7⟩ : ∃ x, x = enc dk[c + 1]! := ⟨_, rfl⟩
          obtain ⟨y7, hy7⟩ : ∃ x, x = enc dk[c]! := ⟨_, rfl⟩
          have S4 : Aside (SWK enc kc w0 blk off (swp dk (c + 1) (c)) ((wr.drew.setCells blk (off + iN7 * kc) y7).setCells blk (off + jN7 * kc) x7)) := by rw [hiN7, hjN7, hx7, hy7]; exact S3.out.swapped R (c + 1) (c) (by omega) (by omega)
          have l7a : Sem.run Try.prog (loadCellsFrom ⟨blk, off + iN7 * kc, none⟩ 0 kc #[]) wr.drew = .ok x7.toArray wr.drew := by rw [hx7, hiN7]; exact S3.out.ld1 R (by omega) Try.prog (c + 1) (by omega)
          have l7b : Sem.run Try.prog (loadCellsFrom ⟨blk, off + jN7 * kc, none⟩ 0 kc #[]) wr.drew = .ok y7.toArray wr.drew := by rw [hy7, hjN7]; exact S3.out.ld1 R (by omega) Try.prog (c) (by omega)
          have s7a : Sem.run Try.prog (storeCells ⟨blk, off + iN7 * kc, none⟩ y7 0) wr.drew = .ok () (wr.drew.setCells blk (off + iN7 * kc) y7) := by rw [hiN7, hy7]; exact S3.out.st1 R (by omega) Try.prog (c + 1) (by omega) dk[c]!
          have s7b : Sem.run Try.prog (storeCells ⟨blk, off + jN7 * kc, none⟩ x7 0) (wr.drew.setCells blk (off + iN7 * kc) y7) = .ok () ((wr.drew.setCells blk (off + iN7 * kc) y7).setCells blk (off + jN7 * kc) x7) := by rw [hiN7, hjN7, hx7, hy7]; exact S3.out.st2 R (by omega) Try.prog (c + 1) (c) (by omega) (by omega) dk[c]! dk[c + 1]!
          have n7a : x7.length = kc := by rw [hx7]; exact R.hk _
          have n7b : y7.length = kc := by rw [hy7]; exact R.hk _
          clear S3 hx7 hy7 hiN7 hjN7
          go_wp2_with fail
          go_big_region_o
          clear l7a l7b s7a s7b n7a n7b
          generalize (wr.drew.setCells blk (off + iN7 * kc) y7).setCells blk (off + jN7 * kc) x7 = w2 at S4 ⊢
          clear ea7 ec7 pa7 ba7 ra7 pc7 bc7 rc7
          go_wp2
          go_roundg (c - i)
          case measure => omega
          case rel => exact ⟨c, swp dk (c + 1) c, by go_num, by omega, by omega, by omega, by rw [size_swp]; exact hds, S4, hr2⟩
        · have hgtz : ¬ (i : Int) < (k : Int) := by omega
          have hki : Hid (k = i) := (by omega : k = i)
          go_wp2
          try simp only [Exit.inBlock, Exit.then]
          refine bodyPost_ret (results_none rfl _ _ _) rfl ?_
          refine ⟨rfl, dk, Mg.last HM.out H1.out HX.out hi him hb lo.out (by rw [← HIJ.out]; exact hi2.out) ?_, S3.out⟩
          have := hr.out
          rw [hki.out, ← HM.out] at this
          exact this

set_option maxHeartbeats 8000000 in
set_option maxRecDepth 100000 in
theorem merge_mainA (g : Nat) (cb : Array Value) (cap a m b N : Nat) (d : Array α) (w : World) (eg : ∀ args w, (callFunc g args).run Try.prog w = .ok (.enter g args) w) (hcmp : CmpLays Try.prog g cb enc kc cf blk off d0.size w0)
    (R : RowK enc kc w0 blk off d0) (zE : ∀ w, (Go.sizeOf 45).run Try.prog w = .ok kc w) (hs : d0.size = d.size) (hB : Bf bf) (ham : a + 1 < m) (hmb : m + 1 < b) (hb : b ≤ d.size) (hsz : d.size < 4611686018427387904) (S : SWK enc kc w0 blk off d w)
    (h1 : Srt bf a m d) (h2 : Srt bf m b d) (hc : Crs (ltOf cf) bf a m b d) (hcase : (a + b) / 2 < m)
    (hN : b - a ≤ N + 1) (IH : MergeAt Try.prog 85 g cb enc kc cf bf w0 blk off cap d.size N) :
    Calls Try.prog 85 #[.slice (some ⟨blk, off, none⟩) d.size cap, .int .i64 a, .int .i64 m, .int .i64 b, .func (.func g) #[] cb] w fun e w' => e = .returned (.tuple #[]) ∧ ∃ d', Mg bf d d' a b ∧ SWK enc kc w0 blk off d' w' := by
  have mixed : Try.prog.follows Departure.mixedOrders = true := by kernel_rfl
  have S0 : Aside (SWK enc kc w0 blk off d w) := S
  have HC : Aside _ := hcmp
  have H1 : Hid (Srt bf a m d) := h1
  have H2 : Hid (Srt bf m b d) := h2
  have HX : Hid (Crs (ltOf cf) bf a m b d) := hc
  have HIH : Hid _ := IH
  clear S hcmp h1 h2 hc IH
  obtain ⟨D, hD⟩ : ∃ D, D = m - a := ⟨_, rfl⟩
  obtain ⟨E, hE⟩ : ∃ E, E = b - m := ⟨_, rfl⟩
  obtain ⟨mid, hmid⟩ : ∃ q, q = (a + b) / 2 := ⟨_, rfl⟩
  obtain ⟨nn, hnn⟩ : ∃ q, q = mid + m := ⟨_, rfl⟩
  obtain ⟨p, hp⟩ : ∃ q, q = nn - 1 := ⟨_, rfl⟩
  obtain ⟨s0, hs0⟩ : ∃ q, q = nn - b := ⟨_, rfl⟩
  obtain ⟨r0, hr0⟩ : ∃ q, q = mid := ⟨_, rfl⟩
  have x1 : IntKind.i64.wrap ((m : Int) - (a : Int)) = (D : Int) := by rw [IntKind.wrap_i64]; omega
  have x2 : ((D : Int) == 1) = false := by simp; omega
  have x3 : IntKind.i64.wrap ((b : Int) - (m : Int)) = (E : Int) := by rw [IntKind.wrap_i64]; omega
  have x4 : ((E : Int) == 1) = false := by simp; omega
  have x5 : IntKind.i64.wrap ((a : Int) + (b : Int)) = (a : Int) + (b : Int) := by rw [IntKind.wrap_i64]; omega
  have x6 : IntKind.u64.wrap ((a : Int) + (b : Int)) = (a : Int) + (b : Int) := by rw [IntKind.wrap_u64]; omega
  have x7 : ((a : Int) + (b : Int)) / 2 = (mid : Int) := by omega
  have x8 : IntKind.i64.wrap (mid : Int) = (mid : Int) := by rw [IntKind.wrap_i64]; omega
  have x9 : IntKind.i64.wrap ((mid : Int) + (m : Int)) = (nn : Int) := by rw [IntKind.wrap_i64]; omega
  have x10 : (mid : Int) < (m : Int) := by omega
  have x11 : IntKind.i64.wrap ((nn : Int) - (b : Int)) = (s0 : Int) := by rw [IntKind.wrap_i64]; omega
  have x12 : IntKind.i64.wrap ((nn : Int) - 1) = (p : Int) := by rw [IntKind.wrap_i64]; omega
  have rng : Hid (∀ c, s0 ≤ c → c < r0 → a ≤ c ∧ c < m ∧ m ≤ p - c ∧ p - c < b ∧ c ≤ p) := fun c q1 q2 => by omega
  have rg2 : s0 ≤ r0 := by omega
  have HMID : Hid (mid = (a + b) / 2) := hmid
  have HNN : Hid (nn = mid + m) := hnn
  have HP : Hid (p = nn - 1) := hp
  have HS0 : Hid (s0 = nn - b) := hs0
  have HR0 : Hid (r0 = mid) := hr0
  have HCASE : Hid (mid < m) := (by omega : mid < m)
  clear hD hE hmid hnn hp hs0 hr0 hcase
  go_enter Try.func85, Try.ntmps85
  go_wp2
  go_loopg [20, 21] (b + 1) (fun kx s20 s21 wr => ∃ (i j : Nat), s20 = .int .i64 i ∧ s21 = .int .i64 j ∧ s0 ≤ i ∧ i ≤ j ∧ j ≤ r0 ∧ j - i ≤ kx ∧ Aside (SWK enc kc w0 blk off d wr) ∧ Hid (∀ k, s0 ≤ k → k < i → ltOf cf d[p - k]! d[k]! = false) ∧ Hid (∀ k, j ≤ k → k < r0 → ltOf cf d[p - k]! d[k]! = true))
  case atStart => exact ⟨s0, r0, rfl, by rw [HR0.out], by omega, by omega, by omega, by have := HR0.out; have := HMID.out; omega, S0, fun k q1 q2 => by omega, fun k q1 q2 => by omega⟩
  case round =>
    clear S0
    obtain ⟨i, j, rfl, rfl, hi, hij, hj, hkx, S1, lo, hi2⟩ := hrel
    by_cases hlt : i < j
    · have hltz : (i : Int) < (j : Int) := by omega
      obtain ⟨h, hh⟩ : ∃ h, h = (i + j) / 2 := ⟨_, rfl⟩
      obtain ⟨q1, q2, q3, q4, q5⟩ := rng.out h (by omega) (by omega)
      obtain ⟨y, hy⟩ : ∃ y, y = p - h := ⟨_, rfl⟩
      have e2 : IntKind.i64.wrap ((i : Int) + (j : Int)) = (i : Int) + (j : Int) := by rw [IntKind.wrap_i64]; omega
      have e3 : IntKind.u64.wrap ((i : Int) + (j : Int)) = (i : Int) + (j : Int) := by rw [IntKind.wrap_u64]; omega
      have e4 : ((i : Int) + (j : Int)) / 2 = (h : Int) := by omega
      have e5 : IntKind.i64.wrap (h : Int) = (h : Int) := by rw [IntKind.wrap_i64]; omega
      have e6 : IntKind.i64.wrap ((p : Int) - (h : Int)) = (y : Int) := by rw [IntKind.wrap_i64]; omega
      have h1 : i ≤ h := by omega
      have h3 : h < j := by omega
      have hyd : y < d.size := by omega
      have hhd : h < d.size := by omega
      have HY : Hid (y = p - h) := hy
      have HQ : Hid (a ≤ h ∧ h < m ∧ m ≤ y ∧ y < b) := ⟨q1, q2, by omega, by omega⟩
      clear hh hy q1 q2 q3 q4 q5
      cases hl : ltOf cf d[y]! d[h]! with
      | false =>
        have lo2 : Hid (∀ k, s0 ≤ k → k < h + 1 → ltOf cf d[p - k]! d[k]! = false) := fun k q1 q2 => by
          have z := rng.out k q1 (by omega)
          have zq := HQ.out
          have zy := HY.out
          exact HX.out.down hB H1.out H2.out (i := h) (j := y) (i' := k) (j' := p - k) zq.2.1 zq.2.2.1 z.1 z.2.2.2.1 (by omega) (by omega) hl
        go_wp2_with fail
        obtain ⟨iN8, hiN8⟩ : ∃ q, q = y := ⟨_, rfl⟩
        obtain ⟨jN8, hjN8⟩ : ∃ q, q = h := ⟨_, rfl⟩
        have ea8 : ((y : Int)).toNat = iN8 := by omega
        have pa8 : (0 : Int) ≤ (y : Int) := by omega
        have ba8 : (y : Int) < (d.size : Int) := by omega
        have ra8 : IntKind.i64.wrap ((y : Int)) = (y : Int) := by rw [IntKind.wrap_i64]; omega
        have ec8 : ((h : Int)).toNat = jN8 := by omega
        have pc8 : (0 : Int) ≤ (h : Int) := by omega
        have bc8 : (h : Int) < (d.size : Int) := by omega
        have rc8 : IntKind.i64.wrap ((h : Int)) = (h : Int) := by rw [IntKind.wrap_i64]; omega
        obtain ⟨x8, hx8⟩ : ∃ x, x = d[y]! := ⟨_, rfl⟩
        obtain ⟨y8, hy8⟩ : ∃ x, x = d[h]! := ⟨_, rfl⟩
        have l8a := S1.out.ld R (by omega) Try.prog (y) (by omega)
        have l8b := S1.out.ld R (by omega) Try.prog (h) (by omega)
        rw [← hx8, ← hiN8] at l8a
        rw [← hy8, ← hjN8] at l8b
        have hc8 := S1.out.cmp HC.out (by omega) x8 y8
        have hv8 : ¬ cf x8 y8 < 0 := by rw [hx8, hy8]; exact of_decide_eq_false hl
        have hd8 : decide (cf x8 y8 < 0) = false := decide_eq_false hv8
        clear hx8 hy8 hiN8 hjN8
        go_wp2_with fail
        go_quiet_grown (first | (go_at_fn g; refine Calls.grown_of (hc8 _ _)))
        have S2 : Aside (SWK enc kc w0 blk off d (grow (wr.drewN nq) osq)) := S1.out.grown nq osq
        clear l8a l8b hc8 S1
        generalize grow (wr.drewN nq) osq = w2 at S2 ⊢
        clear nq osq
        clear ea8 ec8 pa8 ba8 ra8 pc8 bc8 rc8
        go_wp2
        go_roundg (j - (h + 1))
        case measure => omega
        case rel => exact ⟨h + 1, j, by go_num, rfl, by omega, by omega, hj, by omega, S2, lo2, hi2⟩
      | true =>
        have hi3 : Hid (∀ k, h ≤ k → k < r0 → ltOf cf d[p - k]! d[k]! = true) := fun k q1 q2 => by
          have z := rng.out k (by omega) q2
          have zq := HQ.out
          have zy := HY.out
          exact HX.out.up hB H1.out H2.out (i := h) (j := y) (i' := k) (j' := p - k) zq.1 zq.2.2.2 z.2.1 z.2.2.1 q1 (by omega) hl
        go_wp2_with fail
        obtain ⟨iN9, hiN9⟩ : ∃ q, q = y := ⟨_, rfl⟩
        obtain ⟨jN9, hjN9⟩ : ∃ q, q = h := ⟨_, rfl⟩
        have ea9 : ((y : Int)).toNat = iN9 := by omega
        have pa9 : (0 : Int) ≤ (y : Int) := by omega
        have ba9 : (y : Int) < (d.size : Int) := by omega
        have ra9 : IntKind.i64.wrap ((y : Int)) = (y : Int) := by rw [IntKind.wrap_i64]; omega
        have ec9 : ((h : Int)).toNat = jN9 := by omega
        have pc9 : (0 : Int) ≤ (h : Int) := by omega
        have bc9 : (h : Int) < (d.size : Int) := by omega
        have rc9 : IntKind.i64.wrap ((h : Int)) = (h : Int) := by rw [IntKind.wrap_i64]; omega
        obtain ⟨x9, hx9⟩ : ∃ x, x = d[y]! := ⟨_, rfl⟩
        obtain ⟨y9, hy9⟩ : ∃ x, x = d[h]! := ⟨_, rfl⟩
        have l9a := S1.out.ld R (by omega) Try.prog (y) (by omega)
        have l9b := S1.out.ld R (by omega) Try.prog (h) (by omega)
        rw [← hx9, ← hiN9] at l9a
        rw [← hy9, ← hjN9] at l9b
        have hc9 := S1.out.cmp HC.out (by omega) x9 y9
        have hv9 : cf x9 y9 < 0 := by rw [hx9, hy9]; exact of_decide_eq_true hl
        have hd9 : decide (cf x9 y9 < 0) = true := decide_eq_true hv9
        clear hx9 hy9 hiN9 hjN9
        go_wp2_with fail
        go_quiet_grown (first | (go_at_fn g; refine Calls.grown_of (hc9 _ _)))
        have S2 : Aside (SWK enc kc w0 blk off d (grow (wr.drewN nq) osq)) := S1.out.grown nq osq
        clear l9a l9b hc9 S1
        generalize grow (wr.drewN nq) osq = w2 at S2 ⊢
        clear nq osq
        clear ea9 ec9 pa9 ba9 ra9 pc9 bc9 rc9
        go_wp2
        go_roundg (h - i)
        case measure => omega
        case rel => exact ⟨i, h, rfl, rfl, hi, by omega, by omega, by omega, S2, lo, hi3⟩
    · have hltz : ¬ (i : Int) < (j : Int) := by omega
      have hji : j = i := by omega
      have HE : Hid (∃ en, en = nn - i ∧ a ≤ i ∧ i ≤ m ∧ m ≤ en ∧ en ≤ b ∧ mid = i + (en - m) ∧ a < mid ∧ mid < b ∧ mid ≤ en ∧ i ≤ mid ∧ i ≤ nn ∧
          (∀ x, a ≤ x → x < i → ∀ y, en ≤ y → y < b → bf d[x]! d[y]!) ∧ (∀ x, i ≤ x → x < m → ∀ y, m ≤ y → y < en → bf d[y]! d[x]!)) := by
        have z1 := HMID.out; have z2 := HNN.out; have z3 := HP.out; have z4 := HS0.out; have z5 := HR0.out; have z6 := HCASE.out
        refine ⟨nn - i, rfl, by omega, by omega, by omega, by omega, by omega, by omega, by omega, by omega, by omega, by omega, fun x q1 q2 y q3 q4 => ?_, fun x q1 q2 y q3 q4 => ?_⟩
        · have zz : s0 ≤ i - 1 := by omega
          have zr := rng.out (i - 1) zz (by omega)
          have zl := lo.out (i - 1) zz (by omega)
          exact (HX.out x q1 (by omega) y (by omega) q4).2 (HX.out.down hB H1.out H2.out (i := i - 1) (j := p - (i - 1)) (i' := x) (j' := y) (by omega) (by omega) q1 q4 (by omega) (by omega) zl)
        · have zz : i < r0 := by omega
          have zr := rng.out i hi zz
          have zl := hi2.out i (by omega) zz
          exact (HX.out x (by omega) q2 y q3 (by omega)).1 (HX.out.up hB H1.out H2.out (i := i) (j := p - i) (i' := x) (j' := y) (by omega) (by omega) q2 q3 q1 (by omega) zl)
      obtain ⟨en, hen, g1, g2, g3, g4, g5, g6, g7, g8, g9, g10, gA, gB⟩ := HE.out
      have e10 : IntKind.i64.wrap ((nn : Int) - (i : Int)) = (en : Int) := by have := HNN.out; rw [IntKind.wrap_i64]; omega
      have GA : Hid (∀ x, a ≤ x → x < i → ∀ y, en ≤ y → y < b → bf d[x]! d[y]!) := gA
      have GB : Hid (∀ x, i ≤ x → x < m → ∀ y, m ≤ y → y < en → bf d[y]! d[x]!) := gB
      have GM : Hid (mid = i + (en - m)) := g5
      have CUT : ∀ d', Rot d d' i m en → Hid (Cut (ltOf cf) bf d d' a i mid en b) := fun d' hr => Cut.of H1.out H2.out HX.out g1 g2 g3 g4 hb GM.out GA.out GB.out hr
      have CUTH : Hid (∀ d', Rot d d' i m en → Hid (Cut (ltOf cf) bf d d' a i mid en b)) := CUT
      clear HE gA gB hen g5 CUT hji lo hi2 rng
      -- the first half, merged or merged already
      have MID : ∀ d1 wa, Cut (ltOf cf) bf d d1 a i mid en b → SWK enc kc w0 blk off d1 wa → Hid (a < i ∧ i < mid → Calls Try.prog 85 #[.slice (some ⟨blk, off, none⟩) d.size cap, .int .i64 a, .int .i64 i, .int .i64 mid, .func (.func g) #[] cb] wa fun e w' => e = .returned (.tuple #[]) ∧ ∃ d', Mg bf d1 d' a mid ∧ SWK enc kc w0 blk off d' w') := fun d1 wa hcut S5 hh =>
        HIH.out a i mid d1 wa (by omega) hh.1 hh.2 (by omega) hcut.size S5 hcut.s1 hcut.s2 hcut.c1
      have MIDN : ∀ d1, Cut (ltOf cf) bf d d1 a i mid en b → ¬ (a < i ∧ i < mid) → Mg bf d1 d1 a mid := fun d1 hcut hh => Mg.here (by
        by_cases c : a < i
        · have : i = mid := by omega
          have h := hcut.s1; rw [this] at h; exact h
        · have : i = a := by omega
          have h := hcut.s2; rw [this] at h; exact h)
      have END : ∀ d1 d2 wa, Cut (ltOf cf) bf d d1 a i mid en b → Mg bf d1 d2 a mid → SWK enc kc w0 blk off d2 wa → Hid (mid < en ∧ en < b → Calls Try.prog 85 #[.slice (some ⟨blk, off, none⟩) d.size cap, .int .i64 mid, .int .i64 en, .int .i64 b, .func (.func g) #[] cb] wa fun e w' => e = .returned (.tuple #[]) ∧ ∃ d', Mg bf d2 d' mid b ∧ SWK enc kc w0 blk off d' w') := fun d1 d2 wa hcut hm S5 hh => by
        obtain ⟨l1, l2, l3⟩ := hcut.later g8 hm
        exact HIH.out mid en b d2 wa (by omega) hh.1 hh.2 hb (by rw [hm.perm.1]; exact hcut.size) S5 l1 l2 l3
      have ENDN : ∀ d1 d2, Cut (ltOf cf) bf d d1 a i mid en b → Mg bf d1 d2 a mid → ¬ (mid < en ∧ en < b) → Mg bf d2 d2 mid b := fun d1 d2 hcut hm hh => Mg.here (by
        obtain ⟨l1, l2, l3⟩ := hcut.later g8 hm
        by_cases c : mid < en
        · have : en = b := by omega
          rw [this] at l1; exact l1
        · have : en = mid := by omega
          rw [this] at l2; exact l2)
      have HMD : Hid _ := MID
      have HMN : Hid _ := MIDN
      have HEN : Hid _ := END
      have HENN : Hid _ := ENDN
      clear MID MIDN END ENDN
      by_cases c1 : i < m ∧ m < en
      · have v1 : (i : Int) < (m : Int) := by omega
        have v2 : (m : Int) < (en : Int) := by omega
        have hrot := rotate_any (.func (.func g) #[] cb) cap i (m - i) (en - m) d wr R zE hs S1.out (by omega) (by omega) (by omega) hsz
        rw [show i + (m - i) = m by omega, show m + (en - m) = en by omega] at hrot
        have HROT := Lib.hid hrot
        clear hrot S1
        go_wp2_with fail
        refine HROT.out.mono ?_
        rintro e wa ⟨rfl, d1, hr, S5⟩
        have HCUT := CUTH.out d1 hr
        clear hr HROT
        by_cases c2 : a < i ∧ i < mid
        · have v3 : (a : Int) < (i : Int) := by omega
          have v4 : (i : Int) < (mid : Int) := by omega
          have hcall := HMD.out d1 wa HCUT.out S5
          clear S5
          go_wp2_with fail
          refine (hcall.out c2).mono ?_
          rintro e wb ⟨rfl, d2, hm1, S6⟩
          have HM1 : Hid (Mg bf d1 d2 a mid) := hm1
          clear hm1 hcall
          by_cases c3 : mid < en ∧ en < b
          · have v5 : (mid : Int) < (en : Int) := by omega
            have v6 : (en : Int) < (b : Int) := by omega
            have hcall := HEN.out d1 d2 wb HCUT.out HM1.out S6
            clear HEN HENN HMD HMN
            go_wp2_with fail
            all_goals (refine (hcall.out c3).mono ?_; rintro e wz ⟨rfl, d3, hm3, S7⟩; clear hcall)
            all_goals go_wp2
            all_goals go_end0
            all_goals exact ⟨rfl, d3, HCUT.out.merged (by omega) (by omega) hb HM1.out hm3, S7⟩
          · have HM3 : Hid (Mg bf d2 d2 mid b) := HENN.out d1 d2 HCUT.out HM1.out c3
            clear HEN HENN HMD HMN
            by_cases v5n : mid < en
            · have v5 : (mid : Int) < (en : Int) := by omega
              have v6 : ¬ (en : Int) < (b : Int) := by omega
              go_wp2
              all_goals go_end0
              all_goals exact ⟨rfl, d2, HCUT.out.merged (by omega) (by omega) hb HM1.out HM3.out, S6⟩
            · have v5 : ¬ (mid : Int) < (en : Int) := by omega
              go_wp2
              all_goals go_end0
              all_goals exact ⟨rfl, d2, HCUT.out.merged (by omega) (by omega) hb HM1.out HM3.out, S6⟩
        · have HM1 : Hid (Mg bf d1 d1 a mid) := HMN.out d1 HCUT.out c2
          by_cases v3n : a < i
          · have v3 : (a : Int) < (i : Int) := by omega
            have v4 : ¬ (i : Int) < (mid : Int) := by omega
            by_cases c3 : mid < en ∧ en < b
            · have v5 : (mid : Int) < (en : Int) := by omega
              have v6 : (en : Int) < (b : Int) := by omega
              have hcall := HEN.out d1 d1 wa HCUT.out HM1.out S5
              clear HEN HENN HMD HMN
              go_wp2_with fail
              all_goals (refine (hcall.out c3).mono ?_; rintro e wz ⟨rfl, d3, hm3, S7⟩; clear hcall)
              all_goals go_wp2
              all_goals go_end0
              all_goals exact ⟨rfl, d3, HCUT.out.merged (by omega) (by omega) hb HM1.out hm3, S7⟩
            · have HM3 : Hid (Mg bf d1 d1 mid b) := HENN.out d1 d1 HCUT.out HM1.out c3
              clear HEN HENN HMD HMN
              by_cases v5n : mid < en
              · have v5 : (mid : Int) < (en : Int) := by omega
                have v6 : ¬ (en : Int) < (b : Int) := by omega
                go_wp2
                all_goals go_end0
                all_goals exact ⟨rfl, d1, HCUT.out.merged (by omega) (by omega) hb HM1.out HM3.out, S5⟩
              · have v5 : ¬ (mid : Int) < (en : Int) := by omega
                go_wp2
                all_goals go_end0
                all_goals exact ⟨rfl, d1, HCUT.out.merged (by omega) (by omega) hb HM1.out HM3.out, S5⟩
          · have v3 : ¬ (a : Int) < (i : Int) := by omega
            by_cases c3 : mid < en ∧ en < b
            · have v5 : (mid : Int) < (en : Int) := by omega
              have v6 : (en : Int) < (b : Int) := by omega
              have hcall := HEN.out d1 d1 wa HCUT.out HM1.out S5
              clear HEN HENN HMD HMN
              go_wp2_with fail
              all_goals (refine (hcall.out c3).mono ?_; rintro e wz ⟨rfl, d3, hm3, S7⟩; clear hcall)
              all_goals go_wp2
              all_goals go_end0
              all_goals exact ⟨rfl, d3, HCUT.out.merged (by omega) (by omega) hb HM1.out hm3, S7⟩
            · have HM3 : Hid (Mg bf d1 d1 mid b) := HENN.out d1 d1 HCUT.out HM1.out c3
              clear HEN HENN HMD HMN
              by_cases v5n : mid < en
              · have v5 : (mid : Int) < (en : Int) := by omega
                have v6 : ¬ (en : Int) < (b : Int) := by omega
                go_wp2
                all_goals go_end0
                all_goals exact ⟨rfl, d1, HCUT.out.merged (by omega) (by omega) hb HM1.out HM3.out, S5⟩
              · have v5 : ¬ (mid : Int) < (en : Int) := by omega
                go_wp2
                all_goals go_end0
                all_goals exact ⟨rfl, d1, HCUT.out.merged (by omega) (by omega) hb HM1.out HM3.out, S5⟩
      · have HCUT : Hid (Cut (ltOf cf) bf d d a i mid en b) := CUTH.out d (by
          by_cases c : i < m
          · have : en = m := by omega
            rw [this]; exact Rot.none2 d i m
          · have : i = m := by omega
            rw [this]; exact Rot.none1 d m en)
        have S5 := S1.out
        clear S1
        by_cases v1n : i < m
        · have v1 : (i : Int) < (m : Int) := by omega
          have v2 : ¬ (m : Int) < (en : Int) := by omega
          by_cases c2 : a < i ∧ i < mid
          · have v3 : (a : Int) < (i : Int) := by omega
            have v4 : (i : Int) < (mid : Int) := by omega
            have hcall := HMD.out d wr HCUT.out S5
            clear S5
            go_wp2_with fail
            refine (hcall.out c2).mono ?_
            rintro e wb ⟨rfl, d2, hm1, S6⟩
            have HM1 : Hid (Mg bf d d2 a mid) := hm1
            clear hm1 hcall
            by_cases c3 : mid < en ∧ en < b
            · have v5 : (mid : Int) < (en : Int) := by omega
              have v6 : (en : Int) < (b : Int) := by omega
              have hcall := HEN.out d d2 wb HCUT.out HM1.out S6
              clear HEN HENN HMD HMN
              go_wp2_with fail
              all_goals (refine (hcall.out c3).mono ?_; rintro e wz ⟨rfl, d3, hm3, S7⟩; clear hcall)
              all_goals go_wp2
              all_goals go_end0
              all_goals exact ⟨rfl, d3, HCUT.out.merged (by omega) (by omega) hb HM1.out hm3, S7⟩
            · have HM3 : Hid (Mg bf d2 d2 mid b) := HENN.out d d2 HCUT.out HM1.out c3
              clear HEN HENN HMD HMN
              by_cases v5n : mid < en
              · have v5 : (mid : Int) < (en : Int) := by omega
                have v6 : ¬ (en : Int) < (b : Int) := by omega
                go_wp2
                all_goals go_end0
                all_goals exact ⟨rfl, d2, HCUT.out.merged (by omega) (by omega) hb HM1.out HM3.out, S6⟩
              · have v5 : ¬ (mid : Int) < (en : Int) := by omega
                go_wp2
                all_goals go_end0
                all_goals exact ⟨rfl, d2, HCUT.out.merged (by omega) (by omega) hb HM1.out HM3.out, S6⟩
          · have HM1 : Hid (Mg bf d d a mid) := HMN.out d HCUT.out c2
            by_cases v3n : a < i
            · have v3 : (a : Int) < (i : Int) := by omega
              have v4 : ¬ (i : Int) < (mid : Int) := by omega
              by_cases c3 : mid < en ∧ en < b
              · have v5 : (mid : Int) < (en : Int) := by omega
                have v6 : (en : Int) < (b : Int) := by omega
                have hcall := HEN.out d d wr HCUT.out HM1.out S5
                clear HEN HENN HMD HMN
                go_wp2_with fail
                all_goals (refine (hcall.out c3).mono ?_; rintro e wz ⟨rfl, d3, hm3, S7⟩; clear hcall)
                all_goals go_wp2
                all_goals go_end0
                all_goals exact ⟨rfl, d3, HCUT.out.merged (by omega) (by omega) hb HM1.out hm3, S7⟩
              · have HM3 : Hid (Mg bf d d mid b) := HENN.out d d HCUT.out HM1.out c3
                clear HEN HENN HMD HMN
                by_cases v5n : mid < en
                · have v5 : (mid : Int) < (en : Int) := by omega
                  have v6 : ¬ (en : Int) < (b : Int) := by omega
                  go_wp2
                  all_goals go_end0
                  all_goals exact ⟨rfl, d, HCUT.out.merged (by omega) (by omega) hb HM1.out HM3.out, S5⟩
                · have v5 : ¬ (mid : Int) < (en : Int) := by omega
                  go_wp2
                  all_goals go_end0
                  all_goals exact ⟨rfl, d, HCUT.out.merged (by omega) (by omega) hb HM1.out HM3.out, S5⟩
            · have v3 : ¬ (a : Int) < (i : Int) := by omega
              by_cases c3 : mid < en ∧ en < b
              · have v5 : (mid : Int) < (en : Int) := by omega
                have v6 : (en : Int) < (b : Int) := by omega
                have hcall := HEN.out d d wr HCUT.out HM1.out S5
                clear HEN HENN HMD HMN
                go_wp2_with fail
                all_goals (refine (hcall.out c3).mono ?_; rintro e wz ⟨rfl, d3, hm3, S7⟩; clear hcall)
                all_goals go_wp2
                all_goals go_end0
                all_goals exact ⟨rfl, d3, HCUT.out.merged (by omega) (by omega) hb HM1.out hm3, S7⟩
              · have HM3 : Hid (Mg bf d d mid b) := HENN.out d d HCUT.out HM1.out c3
                clear HEN HENN HMD HMN
                by_cases v5n : mid < en
                · have v5 : (mid : Int) < (en : Int) := by omega
                  have v6 : ¬ (en : Int) < (b : Int) := by omega
                  go_wp2
                  all_goals go_end0
                  all_goals exact ⟨rfl, d, HCUT.out.merged (by omega) (by omega) hb HM1.out HM3.out, S5⟩
                · have v5 : ¬ (mid : Int) < (en : Int) := by omega
                  go_wp2
                  all_goals go_end0
                  all_goals exact ⟨rfl, d, HCUT.out.merged (by omega) (by omega) hb HM1.out HM3.out, S5⟩
        · have v1 : ¬ (i : Int) < (m : Int) := by omega
          by_cases c2 : a < i ∧ i < mid
          · have v3 : (a : Int) < (i : Int) := by omega
            have v4 : (i : Int) < (mid : Int) := by omega
            have hcall := HMD.out d wr HCUT.out S5
            clear S5
            go_wp2_with fail
            refine (hcall.out c2).mono ?_
            rintro e wb ⟨rfl, d2, hm1, S6⟩
            have HM1 : Hid (Mg bf d d2 a mid) := hm1
            clear hm1 hcall
            by_cases c3 : mid < en ∧ en < b
            · have v5 : (mid : Int) < (en : Int) := by omega
              have v6 : (en : Int) < (b : Int) := by omega
              have hcall := HEN.out d d2 wb HCUT.out HM1.out S6
              clear HEN HENN HMD HMN
              go_wp2_with fail
              all_goals (refine (hcall.out c3).mono ?_; rintro e wz ⟨rfl, d3, hm3, S7⟩; clear hcall)
              all_goals go_wp2
              all_goals go_end0
              all_goals exact ⟨rfl, d3, HCUT.out.merged (by omega) (by omega) hb HM1.out hm3, S7⟩
            · have HM3 : Hid (Mg bf d2 d2 mid b) := HENN.out d d2 HCUT.out HM1.out c3
              clear HEN HENN HMD HMN
              by_cases v5n : mid < en
              · have v5 : (mid : Int) < (en : Int) := by omega
                have v6 : ¬ (en : Int) < (b : Int) := by omega
                go_wp2
                all_goals go_end0
                all_goals exact ⟨rfl, d2, HCUT.out.merged (by omega) (by omega) hb HM1.out HM3.out, S6⟩
              · have v5 : ¬ (mid : Int) < (en : Int) := by omega
                go_wp2
                all_goals go_end0
                all_goals exact ⟨rfl, d2, HCUT.out.merged (by omega) (by omega) hb HM1.out HM3.out, S6⟩
          · have HM1 : Hid (Mg bf d d a mid) := HMN.out d HCUT.out c2
            by_cases v3n : a < i
            · have v3 : (a : Int) < (i : Int) := by omega
              have v4 : ¬ (i : Int) < (mid : Int) := by omega
              by_cases c3 : mid < en ∧ en < b
              · have v5 : (mid : Int) < (en : Int) := by omega
                have v6 : (en : Int) < (b : Int) := by omega
                have hcall := HEN.out d d wr HCUT.out HM1.out S5
                clear HEN HENN HMD HMN
                go_wp2_with fail
                all_goals (refine (hcall.out c3).mono ?_; rintro e wz ⟨rfl, d3, hm3, S7⟩; clear hcall)
                all_goals go_wp2
                all_goals go_end0
                all_goals exact ⟨rfl, d3, HCUT.out.merged (by omega) (by omega) hb HM1.out hm3, S7⟩
              · have HM3 : Hid (Mg bf d d mid b) := HENN.out d d HCUT.out HM1.out c3
                clear HEN HENN HMD HMN
                by_cases v5n : mid < en
                · have v5 : (mid : Int) < (en : Int) := by omega
                  have v6 : ¬ (en : Int) < (b : Int) := by omega
                  go_wp2
                  all_goals go_end0
                  all_goals exact ⟨rfl, d, HCUT.out.merged (by omega) (by omega) hb HM1.out HM3.out, S5⟩
                · have v5 : ¬ (mid : Int) < (en : Int) := by omega
                  go_wp2
                  all_goals go_end0
                  all_goals exact ⟨rfl, d, HCUT.out.merged (by omega) (by omega) hb HM1.out HM3.out, S5⟩
            · have v3 : ¬ (a : Int) < (i : Int) := by omega
              by_cases c3 : mid < en ∧ en < b
              · have v5 : (mid : Int) < (en : Int) := by omega
                have v6 : (en : Int) < (b : Int) := by omega
                have hcall := HEN.out d d wr HCUT.out HM1.out S5
                clear HEN HENN HMD HMN
                go_wp2_with fail
                all_goals (refine (hcall.out c3).mono ?_; rintro e wz ⟨rfl, d3, hm3, S7⟩; clear hcall)
                all_goals go_wp2
                all_goals go_end0
                all_goals exact ⟨rfl, d3, HCUT.out.merged (by omega) (by omega) hb HM1.out hm3, S7⟩
              · have HM3 : Hid (Mg bf d d mid b) := HENN.out d d HCUT.out HM1.out c3
                clear HEN HENN HMD HMN
                by_cases v5n : mid < en
                · have v5 : (mid : Int) < (en : Int) := by omega
                  have v6 : ¬ (en : Int) < (b : Int) := by omega
                  go_wp2
                  all_goals go_end0
                  all_goals exact ⟨rfl, d, HCUT.out.merged (by omega) (by omega) hb HM1.out HM3.out, S5⟩
                · have v5 : ¬ (mid : Int) < (en : Int) := by omega
                  go_wp2
                  all_goals go_end0
                  all_goals exact ⟨rfl, d, HCUT.out.merged (by omega) (by omega) hb HM1.out HM3.out, S5⟩

set_option maxHeartbeats 8000000 in
set_option maxRecDepth 100000 in
theorem merge_mainB (g : Nat) (cb : Array Value) (cap a m b N : Nat) (d : Array α) (w : World) (eg : ∀ args w, (callFunc g args).run Try.prog w = .ok (.enter g args) w) (hcmp : CmpLays Try.prog g cb enc kc cf blk off d0.size w0)
    (R : RowK enc kc w0 blk off d0) (zE : ∀ w, (Go.sizeOf 45).run Try.prog w = .ok kc w) (hs : d0.size = d.size) (hB : Bf bf) (ham : a + 1 < m) (hmb : m + 1 < b) (hb : b ≤ d.size) (hsz : d.size < 4611686018427387904) (S : SWK enc kc w0 blk off d w)
    (h1 : Srt bf a m d) (h2 : Srt bf m b d) (hc : Crs (ltOf cf) bf a m b d) (hcase : m ≤ (a + b) / 2)
    (hN : b - a ≤ N + 1) (IH : MergeAt Try.prog 85 g cb enc kc cf bf w0 blk off cap d.size N) :
    Calls Try.prog 85 #[.slice (some ⟨blk, off, none⟩) d.size cap, .int .i64 a, .int .i64 m, .int .i64 b, .func (.func g) #[] cb] w fun e w' => e = .returned (.tuple #[]) ∧ ∃ d', Mg bf d d' a b ∧ SWK enc kc w0 blk off d' w' := by
  have mixed : Try.prog.follows Departure.mixedOrders = true := by kernel_rfl
  have S0 : Aside (SWK enc kc w0 blk off d w) := S
  have HC : Aside _ := hcmp
  have H1 : Hid (Srt bf a m d) := h1
  have H2 : Hid (Srt bf m b d) := h2
  have HX : Hid (Crs (ltOf cf) bf a m b d) := hc
  have HIH : Hid _ := IH
  clear S hcmp h1 h2 hc IH
  obtain ⟨D, hD⟩ : ∃ D, D = m - a := ⟨_, rfl⟩
  obtain ⟨E, hE⟩ : ∃ E, E = b - m := ⟨_, rfl⟩
  obtain ⟨mid, hmid⟩ : ∃ q, q = (a + b) / 2 := ⟨_, rfl⟩
  obtain ⟨nn, hnn⟩ : ∃ q, q = mid + m := ⟨_, rfl⟩
  obtain ⟨p, hp⟩ : ∃ q, q = nn - 1 := ⟨_, rfl⟩
  obtain ⟨s0, hs0⟩ : ∃ q, q = a := ⟨_, rfl⟩
  obtain ⟨r0, hr0⟩ : ∃ q, q = m := ⟨_, rfl⟩
  have x1 : IntKind.i64.wrap ((m : Int) - (a : Int)) = (D : Int) := by rw [IntKind.wrap_i64]; omega
  have x2 : ((D : Int) == 1) = false := by simp; omega
  have x3 : IntKind.i64.wrap ((b : Int) - (m : Int)) = (E : Int) := by rw [IntKind.wrap_i64]; omega
  have x4 : ((E : Int) == 1) = false := by simp; omega
  have x5 : IntKind.i64.wrap ((a : Int) + (b : Int)) = (a : Int) + (b : Int) := by rw [IntKind.wrap_i64]; omega
  have x6 : IntKind.u64.wrap ((a : Int) + (b : Int)) = (a : Int) + (b : Int) := by rw [IntKind.wrap_u64]; omega
  have x7 : ((a : Int) + (b : Int)) / 2 = (mid : Int) := by omega
  have x8 : IntKind.i64.wrap (mid : Int) = (mid : Int) := by rw [IntKind.wrap_i64]; omega
  have x9 : IntKind.i64.wrap ((mid : Int) + (m : Int)) = (nn : Int) := by rw [IntKind.wrap_i64]; omega
  have x10 : ¬ (mid : Int) < (m : Int) := by omega
  have x11 : a = s0 := hs0.symm
  have x12 : IntKind.i64.wrap ((nn : Int) - 1) = (p : Int) := by rw [IntKind.wrap_i64]; omega
  have rng : Hid (∀ c, s0 ≤ c → c < r0 → a ≤ c ∧ c < m ∧ m ≤ p - c ∧ p - c < b ∧ c ≤ p) := fun c q1 q2 => by omega
  have rg2 : s0 ≤ r0 := by omega
  have HMID : Hid (mid = (a + b) / 2) := hmid
  have HNN : Hid (nn = mid + m) := hnn
  have HP : Hid (p = nn - 1) := hp
  have HS0 : Hid (s0 = a) := hs0
  have HR0 : Hid (r0 = m) := hr0
  have HCASE : Hid (m ≤ mid) := (by omega : m ≤ mid)
  clear hD hE hmid hnn hp hs0 hr0 x11 hcase
  go_enter Try.func85, Try.ntmps85
  go_wp2
  go_loopg [20, 21] (b + 1) (fun kx s20 s21 wr => ∃ (i j : Nat), s20 = .int .i64 i ∧ s21 = .int .i64 j ∧ s0 ≤ i ∧ i ≤ j ∧ j ≤ r0 ∧ j - i ≤ kx ∧ Aside (SWK enc kc w0 blk off d wr) ∧ Hid (∀ k, s0 ≤ k → k < i → ltOf cf d[p - k]! d[k]! = false) ∧ Hid (∀ k, j ≤ k → k < r0 → ltOf cf d[p - k]! d[k]! = true))
  case atStart => exact ⟨s0, r0, by rw [HS0.out], by rw [HR0.out], by omega, by omega, by omega, by have := HR0.out; have := HMID.out; omega, S0, fun k q1 q2 => by omega, fun k q1 q2 => by omega⟩
  case round =>
    clear S0
    obtain ⟨i, j, rfl, rfl, hi, hij, hj, hkx, S1, lo, hi2⟩ := hrel
    by_cases hlt : i < j
    · have hltz : (i : Int) < (j : Int) := by omega
      obtain ⟨h, hh⟩ : ∃ h, h = (i + j) / 2 := ⟨_, rfl⟩
      obtain ⟨q1, q2, q3, q4, q5⟩ := rng.out h (by omega) (by omega)
      obtain ⟨y, hy⟩ : ∃ y, y = p - h := ⟨_, rfl⟩
      have e2 : IntKind.i64.wrap ((i : Int) + (j : Int)) = (i : Int) + (j : Int) := by rw [IntKind.wrap_i64]; omega
      have e3 : IntKind.u64.wrap ((i : Int) + (j : Int)) = (i : Int) + (j : Int) := by rw [IntKind.wrap_u64]; omega
      have e4 : ((i : Int) + (j : Int)) / 2 = (h : Int) := by omega
      have e5 : IntKind.i64.wrap (h : Int) = (h : Int) := by rw [IntKind.wrap_i64]; omega
      have e6 : IntKind.i64.wrap ((p : Int) - (h : Int)) = (y : Int) := by rw [IntKind.wrap_i64]; omega
      have h1 : i ≤ h := by omega
      have h3 : h < j := by omega
      have hyd : y < d.size := by omega
      have hhd : h < d.size := by omega
      have HY : Hid (y = p - h) := hy
      have HQ : Hid (a ≤ h ∧ h < m ∧ m ≤ y ∧ y < b) := ⟨q1, q2, by omega, by omega⟩
      clear hh hy q1 q2 q3 q4 q5
      cases hl : ltOf cf d[y]! d[h]! with
      | false =>
        have lo2 : Hid (∀ k, s0 ≤ k → k < h + 1 → ltOf cf d[p - k]! d[k]! = false) := fun k q1 q2 => by
          have z := rng.out k q1 (by omega)
          have zq := HQ.out
          have zy := HY.out
          exact HX.out.down hB H1.out H2.out (i := h) (j := y) (i' := k) (j' := p - k) zq.2.1 zq.2.2.1 z.1 z.2.2.2.1 (by omega) (by omega) hl
        go_wp2_with fail
        obtain ⟨iN10, hiN10⟩ : ∃ q, q = y := ⟨_, rfl⟩
        obtain ⟨jN10, hjN10⟩ : ∃ q, q = h := ⟨_, rfl⟩
        have ea10 : ((y : Int)).toNat = iN10 := by omega
        have pa10 : (0 : Int) ≤ (y : Int) := by omega
        have ba10 : (y : Int) < (d.size : Int) := by omega
        have ra10 : IntKind.i64.wrap ((y : Int)) = (y : Int) := by rw [IntKind.wrap_i64]; omega
        have ec10 : ((h : Int)).toNat = jN10 := by omega
        have pc10 : (0 : Int) ≤ (h : Int) := by omega
        have bc10 : (h : Int) < (d.size : Int) := by omega
        have rc10 : IntKind.i64.wrap ((h : Int)) = (h : Int) := by rw [IntKind.wrap_i64]; omega
        obtain ⟨x10, hx10⟩ : ∃ x, x = d[y]! := ⟨_, rfl⟩
        obtain ⟨y10, hy10⟩ : ∃ x, x = d[h]! := ⟨_, rfl⟩
        have l10a := S1.out.ld R (by omega) Try.prog (y) (by omega)
        have l10b := S1.out.ld R (by omega) Try.prog (h) (by omega)
        rw [← hx10, ← hiN10] at l10a
        rw [← hy10, ← hjN10] at l10b
        have hc10 := S1.out.cmp HC.out (by omega) x10 y10
        have hv10 : ¬ cf x10 y10 < 0 := by rw [hx10, hy10]; exact of_decide_eq_false hl
        have hd10 : decide (cf x10 y10 < 0) = false := decide_eq_false hv10
        clear hx10 hy10 hiN10 hjN10
        go_wp2_with fail
        go_quiet_grown (first | (go_at_fn g; refine Calls.grown_of (hc10 _ _)))
        have S2 : Aside (SWK enc kc w0 blk off d (grow (wr.drewN nq) osq)) := S1.out.grown nq osq
        clear l10a l10b hc10 S1
        generalize grow (wr.drewN nq) osq = w2 at S2 ⊢
        clear nq osq
        clear ea10 ec10 pa10 ba10 ra10 pc10 bc10 rc10
        go_wp2
        go_roundg (j - (h + 1))
        case measure => omega
        case rel => exact ⟨h + 1, j, by go_num, rfl, by omega, by omega, hj, by omega, S2, lo2, hi2⟩
      | true =>
        have hi3 : Hid (∀ k, h ≤ k → k < r0 → ltOf cf d[p - k]! d[k]! = true) := fun k q1 q2 => by
          have z := rng.out k (by omega) q2
          have zq := HQ.out
          have zy := HY.out
          exact HX.out.up hB H1.out H2.out (i := h) (j := y) (i' := k) (j' := p - k) zq.1 zq.2.2.2 z.2.1 z.2.2.1 q1 (by omega) hl
        go_wp2_with fail
        obtain ⟨iN11, hiN11⟩ : ∃ q, q = y := ⟨_, rfl⟩
        obtain ⟨jN11, hjN11⟩ : ∃ q, q = h := ⟨_, rfl⟩
        have ea11 : ((y : Int)).toNat = iN11 := by omega
        have pa11 : (0 : Int) ≤ (y : Int) := by omega
        have ba11 : (y : Int) < (d.size : Int) := by omega
        have ra11 : IntKind.i64.wrap ((y : Int)) = (y : Int) := by rw [IntKind.wrap_i64]; omega
        have ec11 : ((h : Int)).toNat = jN11 := by omega
        have pc11 : (0 : Int) ≤ (h : Int) := by omega
        have bc11 : (h : Int) < (d.size : Int) := by omega
        have rc11 : IntKind.i64.wrap ((h : Int)) = (h : Int) := by rw [IntKind.wrap_i64]; omega
        obtain ⟨x11, hx11⟩ : ∃ x, x = d[y]! := ⟨_, rfl⟩
        obtain ⟨y11, hy11⟩ : ∃ x, x = d[h]! := ⟨_, rfl⟩
        have l11a := S1.out.ld R (by omega) Try.prog (y) (by omega)
        have l11b := S1.out.ld R (by omega) Try.prog (h) (by omega)
        rw [← hx11, ← hiN11] at l11a
        rw [← hy11, ← hjN11] at l11b
        have hc11 := S1.out.cmp HC.out (by omega) x11 y11
        have hv11 : cf x11 y11 < 0 := by rw [hx11, hy11]; exact of_decide_eq_true hl
        have hd11 : decide (cf x11 y11 < 0) = true := decide_eq_true hv11
        clear hx11 hy11 hiN11 hjN11
        go_wp2_with fail
        go_quiet_grown (first | (go_at_fn g; refine Calls.grown_of (hc11 _ _)))
        have S2 : Aside (SWK enc kc w0 blk off d (grow (wr.drewN nq) osq)) := S1.out.grown nq osq
        clear l11a l11b hc11 S1
        generalize grow (wr.drewN nq) osq = w2 at S2 ⊢
        clear nq osq
        clear ea11 ec11 pa11 ba11 ra11 pc11 bc11 rc11
        go_wp2
        go_roundg (h - i)
        case measure => omega
        case rel => exact ⟨i, h, rfl, rfl, hi, by omega, by omega, by omega, S2, lo, hi3⟩
    · have hltz : ¬ (i : Int) < (j : Int) := by omega
      have hji : j = i := by omega
      have HE : Hid (∃ en, en = nn - i ∧ a ≤ i ∧ i ≤ m ∧ m ≤ en ∧ en ≤ b ∧ mid = i + (en - m) ∧ a < mid ∧ mid < b ∧ mid ≤ en ∧ i ≤ mid ∧ i ≤ nn ∧
          (∀ x, a ≤ x → x < i → ∀ y, en ≤ y → y < b → bf d[x]! d[y]!) ∧ (∀ x, i ≤ x → x < m → ∀ y, m ≤ y → y < en → bf d[y]! d[x]!)) := by
        have z1 := HMID.out; have z2 := HNN.out; have z3 := HP.out; have z4 := HS0.out; have z5 := HR0.out; have z6 := HCASE.out
        refine ⟨nn - i, rfl, by omega, by omega, by omega, by omega, by omega, by omega, by omega, by omega, by omega, by omega, fun x q1 q2 y q3 q4 => ?_, fun x q1 q2 y q3 q4 => ?_⟩
        · have zz : s0 ≤ i - 1 := by omega
          have zr := rng.out (i - 1) zz (by omega)
          have zl := lo.out (i - 1) zz (by omega)
          exact (HX.out x q1 (by omega) y (by omega) q4).2 (HX.out.down hB H1.out H2.out (i := i - 1) (j := p - (i - 1)) (i' := x) (j' := y) (by omega) (by omega) q1 q4 (by omega) (by omega) zl)
        · have zz : i < r0 := by omega
          have zr := rng.out i hi zz
          have zl := hi2.out i (by omega) zz
          exact (HX.out x (by omega) q2 y q3 (by omega)).1 (HX.out.up hB H1.out H2.out (i := i) (j := p - i) (i' := x) (j' := y) (by omega) (by omega) q2 q3 q1 (by omega) zl)
      obtain ⟨en, hen, g1, g2, g3, g4, g5, g6, g7, g8, g9, g10, gA, gB⟩ := HE.out
      have e10 : IntKind.i64.wrap ((nn : Int) - (i : Int)) = (en : Int) := by have := HNN.out; rw [IntKind.wrap_i64]; omega
      have GA : Hid (∀ x, a ≤ x → x < i → ∀ y, en ≤ y → y < b → bf d[x]! d[y]!) := gA
      have GB : Hid (∀ x, i ≤ x → x < m → ∀ y, m ≤ y → y < en → bf d[y]! d[x]!) := gB
      have GM : Hid (mid = i + (en - m)) := g5
      have CUT : ∀ d', Rot d d' i m en → Hid (Cut (ltOf cf) bf d d' a i mid en b) := fun d' hr => Cut.of H1.out H2.out HX.out g1 g2 g3 g4 hb GM.out GA.out GB.out hr
      have CUTH : Hid (∀ d', Rot d d' i m en → Hid (Cut (ltOf cf) bf d d' a i mid en b)) := CUT
      clear HE gA gB hen g5 CUT hji lo hi2 rng
      -- the first half, merged or merged already
      have MID : ∀ d1 wa, Cut (ltOf cf) bf d d1 a i mid en b → SWK enc kc w0 blk off d1 wa → Hid (a < i ∧ i < mid → Calls Try.prog 85 #[.slice (some ⟨blk, off, none⟩) d.size cap, .int .i64 a, .int .i64 i, .int .i64 mid, .func (.func g) #[] cb] wa fun e w' => e = .returned (.tuple #[]) ∧ ∃ d', Mg bf d1 d' a mid ∧ SWK enc kc w0 blk off d' w') := fun d1 wa hcut S5 hh =>
        HIH.out a i mid d1 wa (by omega) hh.1 hh.2 (by omega) hcut.size S5 hcut.s1 hcut.s2 hcut.c1
      have MIDN : ∀ d1, Cut (ltOf cf) bf d d1 a i mid en b → ¬ (a < i ∧ i < mid) → Mg bf d1 d1 a mid := fun d1 hcut hh => Mg.here (by
        by_cases c : a < i
        · have : i = mid := by omega
          have h := hcut.s1; rw [this] at h; exact h
        · have : i = a := by omega
          have h := hcut.s2; rw [this] at h; exact h)
      have END : ∀ d1 d2 wa, Cut (ltOf cf) bf d d1 a i mid en b → Mg bf d1 d2 a mid → SWK enc kc w0 blk off d2 wa → Hid (mid < en ∧ en < b → Calls Try.prog 85 #[.slice (some ⟨blk, off, none⟩) d.size cap, .int .i64 mid, .int .i64 en, .int .i64 b, .func (.func g) #[] cb] wa fun e w' => e = .returned (.tuple #[]) ∧ ∃ d', Mg bf d2 d' mid b ∧ SWK enc kc w0 blk off d' w') := fun d1 d2 wa hcut hm S5 hh => by
        obtain ⟨l1, l2, l3⟩ := hcut.later g8 hm
        exact HIH.out mid en b d2 wa (by omega) hh.1 hh.2 hb (by rw [hm.perm.1]; exact hcut.size) S5 l1 l2 l3
      have ENDN : ∀ d1 d2, Cut (ltOf cf) bf d d1 a i mid en b → Mg bf d1 d2 a mid → ¬ (mid < en ∧ en < b) → Mg bf d2 d2 mid b := fun d1 d2 hcut hm hh => Mg.here (by
        obtain ⟨l1, l2, l3⟩ := hcut.later g8 hm
        by_cases c : mid < en
        · have : en = b := by omega
          rw [this] at l1; exact l1
        · have : en = mid := by omega
          rw [this] at l2; exact l2)
      have HMD : Hid _ := MID
      have HMN : Hid _ := MIDN
      have HEN : Hid _ := END
      have HENN : Hid _ := ENDN
      clear MID MIDN END ENDN
      by_cases c1 : i < m ∧ m < en
      · have v1 : (i : Int) < (m : Int) := by omega
        have v2 : (m : Int) < (en : Int) := by omega
        have hrot := rotate_any (.func (.func g) #[] cb) cap i (m - i) (en - m) d wr R zE hs S1.out (by omega) (by omega) (by omega) hsz
        rw [show i + (m - i) = m by omega, show m + (en - m) = en by omega] at hrot
        have HROT := Lib.hid hrot
        clear hrot S1
        go_wp2_with fail
        refine HROT.out.mono ?_
        rintro e wa ⟨rfl, d1, hr, S5⟩
        have HCUT := CUTH.out d1 hr
        clear hr HROT
        by_cases c2 : a < i ∧ i < mid
        · have v3 : (a : Int) < (i : Int) := by omega
          have v4 : (i : Int) < (mid : Int) := by omega
          have hcall := HMD.out d1 wa HCUT.out S5
          clear S5
          go_wp2_with fail
          refine (hcall.out c2).mono ?_
          rintro e wb ⟨rfl, d2, hm1, S6⟩
          have HM1 : Hid (Mg bf d1 d2 a mid) := hm1
          clear hm1 hcall
          by_cases c3 : mid < en ∧ en < b
          · have v5 : (mid : Int) < (en : Int) := by omega
            have v6 : (en : Int) < (b : Int) := by omega
            have hcall := HEN.out d1 d2 wb HCUT.out HM1.out S6
            clear HEN HENN HMD HMN
            go_wp2_with fail
            all_goals (refine (hcall.out c3).mono ?_; rintro e wz ⟨rfl, d3, hm3, S7⟩; clear hcall)
            all_goals go_wp2
            all_goals go_end0
            all_goals exact ⟨rfl, d3, HCUT.out.merged (by omega) (by omega) hb HM1.out hm3, S7⟩
          · have HM3 : Hid (Mg bf d2 d2 mid b) := HENN.out d1 d2 HCUT.out HM1.out c3
            clear HEN HENN HMD HMN
            by_cases v5n : mid < en
            · have v5 : (mid : Int) < (en : Int) := by omega
              have v6 : ¬ (en : Int) < (b : Int) := by omega
              go_wp2
              all_goals go_end0
              all_goals exact ⟨rfl, d2, HCUT.out.merged (by omega) (by omega) hb HM1.out HM3.out, S6⟩
            · have v5 : ¬ (mid : Int) < (en : Int) := by omega
              go_wp2
              all_goals go_end0
              all_goals exact ⟨rfl, d2, HCUT.out.merged (by omega) (by omega) hb HM1.out HM3.out, S6⟩
        · have HM1 : Hid (Mg bf d1 d1 a mid) := HMN.out d1 HCUT.out c2
          by_cases v3n : a < i
          · have v3 : (a : Int) < (i : Int) := by omega
            have v4 : ¬ (i : Int) < (mid : Int) := by omega
            by_cases c3 : mid < en ∧ en < b
            · have v5 : (mid : Int) < (en : Int) := by omega
              have v6 : (en : Int) < (b : Int) := by omega
              have hcall := HEN.out d1 d1 wa HCUT.out HM1.out S5
              clear HEN HENN HMD HMN
              go_wp2_with fail
              all_goals (refine (hcall.out c3).mono ?_; rintro e wz ⟨rfl, d3, hm3, S7⟩; clear hcall)
              all_goals go_wp2
              all_goals go_end0
              all_goals exact ⟨rfl, d3, HCUT.out.merged (by omega) (by omega) hb HM1.out hm3, S7⟩
            · have HM3 : Hid (Mg bf d1 d1 mid b) := HENN.out d1 d1 HCUT.out HM1.out c3
              clear HEN HENN HMD HMN
              by_cases v5n : mid < en
              · have v5 : (mid : Int) < (en : Int) := by omega
                have v6 : ¬ (en : Int) < (b : Int) := by omega
                go_wp2
                all_goals go_end0
                all_goals exact ⟨rfl, d1, HCUT.out.merged (by omega) (by omega) hb HM1.out HM3.out, S5⟩
              · have v5 : ¬ (mid : Int) < (en : Int) := by omega
                go_wp2
                all_goals go_end0
                all_goals exact ⟨rfl, d1, HCUT.out.merged (by omega) (by omega) hb HM1.out HM3.out, S5⟩
          · have v3 : ¬ (a : Int) < (i : Int) := by omega
            by_cases c3 : mid < en ∧ en < b
            · have v5 : (mid : Int) < (en : Int) := by omega
              have v6 : (en : Int) < (b : Int) := by omega
              have hcall := HEN.out d1 d1 wa HCUT.out HM1.out S5
              clear HEN HENN HMD HMN
              go_wp2_with fail
              all_goals (refine (hcall.out c3).mono ?_; rintro e wz ⟨rfl, d3, hm3, S7⟩; clear hcall)
              all_goals go_wp2
              all_goals go_end0
              all_goals exact ⟨rfl, d3, HCUT.out.merged (by omega) (by omega) hb HM1.out hm3, S7⟩
            · have HM3 : Hid (Mg bf d1 d1 mid b) := HENN.out d1 d1 HCUT.out HM1.out c3
              clear HEN HENN HMD HMN
              by_cases v5n : mid < en
              · have v5 : (mid : Int) < (en : Int) := by omega
                have v6 : ¬ (en : Int) < (b : Int) := by omega
                go_wp2
                all_goals go_end0
                all_goals exact ⟨rfl, d1, HCUT.out.merged (by omega) (by omega) hb HM1.out HM3.out, S5⟩
              · have v5 : ¬ (mid : Int) < (en : Int) := by omega
                go_wp2
                all_goals go_end0
                all_goals exact ⟨rfl, d1, HCUT.out.merged (by omega) (by omega) hb HM1.out HM3.out, S5⟩
      · have HCUT : Hid (Cut (ltOf cf) bf d d a i mid en b) := CUTH.out d (by
          by_cases c : i < m
          · have : en = m := by omega
            rw [this]; exact Rot.none2 d i m
          · have : i = m := by omega
            rw [this]; exact Rot.none1 d m en)
        have S5 := S1.out
        clear S1
        by_cases v1n : i < m
        · have v1 : (i : Int) < (m : Int) := by omega
          have v2 : ¬ (m : Int) < (en : Int) := by omega
          by_cases c2 : a < i ∧ i < mid
          · have v3 : (a : Int) < (i : Int) := by omega
            have v4 : (i : Int) < (mid : Int) := by omega
            have hcall := HMD.out d wr HCUT.out S5
            clear S5
            go_wp2_with fail
            refine (hcall.out c2).mono ?_
            rintro e wb ⟨rfl, d2, hm1, S6⟩
            have HM1 : Hid (Mg bf d d2 a mid) := hm1
            clear hm1 hcall
            by_cases c3 : mid < en ∧ en < b
            · have v5 : (mid : Int) < (en : Int) := by omega
              have v6 : (en : Int) < (b : Int) := by omega
              have hcall := HEN.out d d2 wb HCUT.out HM1.out S6
              clear HEN HENN HMD HMN
              go_wp2_with fail
              all_goals (refine (hcall.out c3).mono ?_; rintro e wz ⟨rfl, d3, hm3, S7⟩; clear hcall)
              all_goals go_wp2
              all_goals go_end0
              all_goals exact ⟨rfl, d3, HCUT.out.merged (by omega) (by omega) hb HM1.out hm3, S7⟩
            · have HM3 : Hid (Mg bf d2 d2 mid b) := HENN.out d d2 HCUT.out HM1.out c3
              clear HEN HENN HMD HMN
              by_cases v5n : mid < en
              · have v5 : (mid : Int) < (en : Int) := by omega
                have v6 : ¬ (en : Int) < (b : Int) := by omega
                go_wp2
                all_goals go_end0
                all_goals exact ⟨rfl, d2, HCUT.out.merged (by omega) (by omega) hb HM1.out HM3.out, S6⟩
              · have v5 : ¬ (mid : Int) < (en : Int) := by omega
                go_wp2
                all_goals go_end0
                all_goals exact ⟨rfl, d2, HCUT.out.merged (by omega) (by omega) hb HM1.out HM3.out, S6⟩
          · have HM1 : Hid (Mg bf d d a mid) := HMN.out d HCUT.out c2
            by_cases v3n : a < i
            · have v3 : (a : Int) < (i : Int) := by omega
              have v4 : ¬ (i : Int) < (mid : Int) := by omega
              by_cases c3 : mid < en ∧ en < b
              · have v5 : (mid : Int) < (en : Int) := by omega
                have v6 : (en : Int) < (b : Int) := by omega
                have hcall := HEN.out d d wr HCUT.out HM1.out S5
                clear HEN HENN HMD HMN
                go_wp2_with fail
                all_goals (refine (hcall.out c3).mono ?_; rintro e wz ⟨rfl, d3, hm3, S7⟩; clear hcall)
                all_goals go_wp2
                all_goals go_end0
                all_goals exact ⟨rfl, d3, HCUT.out.merged (by omega) (by omega) hb HM1.out hm3, S7⟩
              · have HM3 : Hid (Mg bf d d mid b) := HENN.out d d HCUT.out HM1.out c3
                clear HEN HENN HMD HMN
                by_cases v5n : mid < en
                · have v5 : (mid : Int) < (en : Int) := by omega
                  have v6 : ¬ (en : Int) < (b : Int) := by omega
                  go_wp2
                  all_goals go_end0
                  all_goals exact ⟨rfl, d, HCUT.out.merged (by omega) (by omega) hb HM1.out HM3.out, S5⟩
                · have v5 : ¬ (mid : Int) < (en : Int) := by omega
                  go_wp2
                  all_goals go_end0
                  all_goals exact ⟨rfl, d, HCUT.out.merged (by omega) (by omega) hb HM1.out HM3.out, S5⟩
            · have v3 : ¬ (a : Int) < (i : Int) := by omega
              by_cases c3 : mid < en ∧ en < b
              · have v5 : (mid : Int) < (en : Int) := by omega
                have v6 : (en : Int) < (b : Int) := by omega
                have hcall := HEN.out d d wr HCUT.out HM1.out S5
                clear HEN HENN HMD HMN
                go_wp2_with fail
                all_goals (refine (hcall.out c3).mono ?_; rintro e wz ⟨rfl, d3, hm3, S7⟩; clear hcall)
                all_goals go_wp2
                all_goals go_end0
                all_goals exact ⟨rfl, d3, HCUT.out.merged (by omega) (by omega) hb HM1.out hm3, S7⟩
              · have HM3 : Hid (Mg bf d d mid b) := HENN.out d d HCUT.out HM1.out c3
                clear HEN HENN HMD HMN
                by_cases v5n : mid < en
                · have v5 : (mid : Int) < (en : Int) := by omega
                  have v6 : ¬ (en : Int) < (b : Int) := by omega
                  go_wp2
                  all_goals go_end0
                  all_goals exact ⟨rfl, d, HCUT.out.merged (by omega) (by omega) hb HM1.out HM3.out, S5⟩
                · have v5 : ¬ (mid : Int) < (en : Int) := by omega
                  go_wp2
                  all_goals go_end0
                  all_goals exact ⟨rfl, d, HCUT.out.merged (by omega) (by omega) hb HM1.out HM3.out, S5⟩
        · have v1 : ¬ (i : Int) < (m : Int) := by omega
          by_cases c2 : a < i ∧ i < mid
          · have v3 : (a : Int) < (i : Int) := by omega
            have v4 : (i : Int) < (mid : Int) := by omega
            have hcall := HMD.out d wr HCUT.out S5
            clear S5
            go_wp2_with fail
            refine (hcall.out c2).mono ?_
            rintro e wb ⟨rfl, d2, hm1, S6⟩
            have HM1 : Hid (Mg bf d d2 a mid) := hm1
            clear hm1 hcall
            by_cases c3 : mid < en ∧ en < b
            · have v5 : (mid : Int) < (en : Int) := by omega
              have v6 : (en : Int) < (b : Int) := by omega
              have hcall := HEN.out d d2 wb HCUT.out HM1.out S6
              clear HEN HENN HMD HMN
              go_wp2_with fail
              all_goals (refine (hcall.out c3).mono ?_; rintro e wz ⟨rfl, d3, hm3, S7⟩; clear hcall)
              all_goals go_wp2
              all_goals go_end0
              all_goals exact ⟨rfl, d3, HCUT.out.merged (by omega) (by omega) hb HM1.out hm3, S7⟩
            · have HM3 : Hid (Mg bf d2 d2 mid b) := HENN.out d d2 HCUT.out HM1.out c3
              clear HEN HENN HMD HMN
              by_cases v5n : mid < en
              · have v5 : (mid : Int) < (en : Int) := by omega
                have v6 : ¬ (en : Int) < (b : Int) := by omega
                go_wp2
                all_goals go_end0
                all_goals exact ⟨rfl, d2, HCUT.out.merged (by omega) (by omega) hb HM1.out HM3.out, S6⟩
              · have v5 : ¬ (mid : Int) < (en : Int) := by omega
                go_wp2
                all_goals go_end0
                all_goals exact ⟨rfl, d2, HCUT.out.merged (by omega) (by omega) hb HM1.out HM3.out, S6⟩
          · have HM1 : Hid (Mg bf d d a mid) := HMN.out d HCUT.out c2
            by_cases v3n : a < i
            · have v3 : (a : Int) < (i : Int) := by omega
              have v4 : ¬ (i : Int) < (mid : Int) := by omega
              by_cases c3 : mid < en ∧ en < b
              · have v5 : (mid : Int) < (en : Int) := by omega
                have v6 : (en : Int) < (b : Int) := by omega
                have hcall := HEN.out d d wr HCUT.out HM1.out S5
                clear HEN HENN HMD HMN
                go_wp2_with fail
                all_goals (refine (hcall.out c3).mono ?_; rintro e wz ⟨rfl, d3, hm3, S7⟩; clear hcall)
                all_goals go_wp2
                all_goals go_end0
                all_goals exact ⟨rfl, d3, HCUT.out.merged (by omega) (by omega) hb HM1.out hm3, S7⟩
              · have HM3 : Hid (Mg bf d d mid b) := HENN.out d d HCUT.out HM1.out c3
                clear HEN HENN HMD HMN
                by_cases v5n : mid < en
                · have v5 : (mid : Int) < (en : Int) := by omega
                  have v6 : ¬ (en : Int) < (b : Int) := by omega
                  go_wp2
                  all_goals go_end0
                  all_goals exact ⟨rfl, d, HCUT.out.merged (by omega) (by omega) hb HM1.out HM3.out, S5⟩
                · have v5 : ¬ (mid : Int) < (en : Int) := by omega
                  go_wp2
                  all_goals go_end0
                  all_goals exact ⟨rfl, d, HCUT.out.merged (by omega) (by omega) hb HM1.out HM3.out, S5⟩
            · have v3 : ¬ (a : Int) < (i : Int) := by omega
              by_cases c3 : mid < en ∧ en < b
              · have v5 : (mid : Int) < (en : Int) := by omega
                have v6 : (en : Int) < (b : Int) := by omega
                have hcall := HEN.out d d wr HCUT.out HM1.out S5
                clear HEN HENN HMD HMN
                go_wp2_with fail
                all_goals (refine (hcall.out c3).mono ?_; rintro e wz ⟨rfl, d3, hm3, S7⟩; clear hcall)
                all_goals go_wp2
                all_goals go_end0
                all_goals exact ⟨rfl, d3, HCUT.out.merged (by omega) (by omega) hb HM1.out hm3, S7⟩
              · have HM3 : Hid (Mg bf d d mid b) := HENN.out d d HCUT.out HM1.out c3
                clear HEN HENN HMD HMN
                by_cases v5n : mid < en
                · have v5 : (mid : Int) < (en : Int) := by omega
                  have v6 : ¬ (en : Int) < (b : Int) := by omega
                  go_wp2
                  all_goals go_end0
                  all_goals exact ⟨rfl, d, HCUT.out.merged (by omega) (by omega) hb HM1.out HM3.out, S5⟩
                · have v5 : ¬ (mid : Int) < (en : Int) := by omega
                  go_wp2
                  all_goals go_end0
                  all_goals exact ⟨rfl, d, HCUT.out.merged (by omega) (by omega) hb HM1.out HM3.out, S5⟩

end
end KS
end Go.Proofs.Ytpbkboandiigfaa
