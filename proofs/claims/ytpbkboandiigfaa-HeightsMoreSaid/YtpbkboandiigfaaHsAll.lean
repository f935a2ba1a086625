/- Contract of the library's stable sort at elements of kc cells (structs), of any number of elements: what it leaves is a permutation, sorted by the total order. -/
import Derived.Test.YtpbkboandiigfaaArith
import Derived.Shelf.SlSortCmp.PdqK
import Derived.Test.YtpbkboandiigfaaStB
import Derived.Test.YtpbkboandiigfaaHsMrg
namespace Go.Proofs.Ytpbkboandiigfaa
namespace KS
open Go.RowKit Go.Shelf Go.Sort Go.Lib
set_option linter.unusedVariables false
def insRenK : Go.Shelf.Ren := ⟨fun | 20 => 84 | n => n, fun | 0 => 0 | 3 => 3 | 4 => 4 | 22 => 39 | 24 => 45 | 25 => 61 | n => n, fun | n => n⟩
theorem insLaysK : Go.Proofs.SlLaysF0.n20 Try.prog insRenK := {
  mixed := by kernel_rfl
  f20 := ⟨Try.f84.name, by kernel_rfl, Try.func84.trans (congrArg some (by kernel_rfl))⟩
  t0 := Try.underlying0
  a0 := Try.isAgg0
  z0 := Try.sizeOf0
  v0 := Try.zeroValue0
  t3 := Try.underlying3
  a3 := Try.isAgg3
  z3 := Try.sizeOf3
  v3 := Try.zeroValue3
  t4 := Try.underlying4
  a4 := Try.isAgg4
  z4 := Try.sizeOf4
  v4 := Try.zeroValue4
  t22 := Try.underlying39
  a22 := Try.isAgg39
  z22 := Try.sizeOf39
  v22 := Try.zeroValue39
  t25 := Try.underlying61
  a25 := Try.isAgg61
  z25 := Try.sizeOf61
  v25 := Try.zeroValue61 }
section
variable {α : Type} [Inhabited α] {enc : α → List Value} {kc : Nat} {w0 : World} {blk off : Nat} {d0 : Array α} {cf : α → α → Int}

theorem merge_any {bf : α → α → Prop} (g : Nat) (cb : Array Value) (cap : Nat) (eg : ∀ args w, (callFunc g args).run Try.prog w = .ok (.enter g args) w) (hcmp : CmpLays Try.prog g cb enc kc cf blk off d0.size w0)
    (R : RowK enc kc w0 blk off d0) (zE : ∀ w, (Go.sizeOf 45).run Try.prog w = .ok kc w) (hB : Bf bf) (hsz : d0.size < 4611686018427387904) : ∀ N, MergeAt Try.prog 85 g cb enc kc cf bf w0 blk off cap d0.size N := by
  intro N
  induction N with
  | zero => intro a m b d w hN h1 h2; omega
  | succ N ih =>
    intro a m b d w hN ham hmb hb hds S s1 s2 hc
    rw [← hds] at hb ⊢
    by_cases c1 : m = a + 1
    · exact merge_one g cb cap a m b d w eg hcmp R zE hds.symm hB c1 hmb hb (by omega) S s2 hc
    · by_cases c2 : b = m + 1
      · exact merge_last g cb cap a m b d w eg hcmp R zE hds.symm hB (by omega) c2 hb (by omega) S s1 hc
      · rw [← hds] at ih
        by_cases c3 : (a + b) / 2 < m
        · exact merge_mainA g cb cap a m b N d w eg hcmp R zE hds.symm hB (by omega) (by omega) hb (by omega) S s1 s2 hc c3 hN ih
        · exact merge_mainB g cb cap a m b N d w eg hcmp R zE hds.symm hB (by omega) (by omega) hb (by omega) S s1 s2 hc (by omega) hN ih

set_option maxHeartbeats 4000000 in
theorem stable_any {bfB : α → α → Bool} {og : α → Nat} (g : Nat) (cb : Array Value) (cap : Nat) (w : World) (eg : ∀ args w, (callFunc g args).run Try.prog w = .ok (.enter g args) w) (hcmp : CmpLays Try.prog g cb enc kc cf blk off d0.size w0)
    (R : RowK enc kc w0 blk off d0) (zE : ∀ w, (Go.sizeOf 45).run Try.prog w = .ok kc w) (S : SWK enc kc w0 blk off d0 w) (hA : Agree (ltOf cf) bfB og) (hSW : SWO (ltOf cf)) (hd : ∀ i j, i < d0.size → j < d0.size → i ≠ j → d0[i]! ≠ d0[j]!) (ho : ∀ k, k < d0.size → og d0[k]! = k) (hsz : d0.size < 1000000000) :
    Calls Try.prog 75 #[.slice (some ⟨blk, off, none⟩) d0.size cap, .int .i64 d0.size, .func (.func g) #[] cb] w fun e w' => e = .returned (.tuple #[]) ∧ ∃ d', Pm d0 d' ∧ Srt (fun x y => bfB x y = true) 0 d0.size d' ∧ SWK enc kc w0 blk off d' w' := by
  have hins : ∀ (a b : Nat) (d : Array α) (W : World), d0.size = d.size → SWK enc kc w0 blk off d W → a ≤ b → b ≤ d0.size → Calls Try.prog 84 #[.slice (some ⟨blk, off, none⟩) d0.size cap, .int .i64 a, .int .i64 b, .func (.func g) #[] cb] W fun e w' => e = .returned (.tuple #[]) ∧ SWK enc kc w0 blk off (Sort.insertionSort (ltOf cf) d a b) w' := by
    intro a b d W hs SS hab hb
    have h := AnyQ.insertionSortCmpFunc_w insLaysK kc Try.isAgg45 zE enc cf g cb blk off cap a b d0 d w0 W eg hcmp R hs SS hSW hab (by omega) (by omega)
    rw [← hs] at h
    exact h
  have hmrg := merge_any g cb cap eg hcmp R zE hA.bf (by omega) d0.size
  have HINS := Lib.hid hins
  have HMRG := Lib.hid hmrg
  have S0 : Aside (SWK enc kc w0 blk off d0 w) := S
  have HA := Lib.hid hA
  have HD := Lib.hid hd
  have HO := Lib.hid ho
  clear hins hmrg S hcmp hA hd ho
  obtain ⟨n, hn⟩ : ∃ n, n = d0.size := ⟨_, rfl⟩
  rw [← hn] at HINS HMRG hsz ⊢
  have HN : Hid (n = d0.size) := hn
  clear hn
  go_enter Try.func75, Try.ntmps75
  go_wp2
  go_loopg [7, 8] (n + 20) (fun kx s7 s8 wr => ∃ (t a : Nat) (dk : Array α), s7 = .int .i64 a ∧ s8 = .int .i64 ((a : Int) + 20) ∧ a ≤ n ∧ n - a ≤ kx ∧ Hid (a = t * 20) ∧ Hid (InsI bfB og d0 t dk) ∧ Aside (SWK enc kc w0 blk off dk wr))
  case atStart => exact ⟨0, 0, d0, rfl, by simp, by omega, by omega, rfl, InsI.start d0, S0⟩
  case round =>
    clear S0
    obtain ⟨t, a, dk, rfl, rfl, han, hkx, HT, HI, S1⟩ := hrel
    have hds : d0.size = dk.size := HI.out.pm.size.symm
    by_cases hle : a + 20 ≤ n
    · have hlez : (a : Int) + 20 ≤ (n : Int) := by omega
      have hc := HINS.out a (a + 20) dk wr (HN.out.trans hds) S1.out (by omega) hle
      have hI2 : Hid (InsI bfB og d0 (t + 1) (insertionSort (ltOf cf) dk a (a + 20))) := by
        have := HI.out.step HA.out HD.out HO.out (by have := HT.out; have := HN.out; omega)
        rw [← HT.out] at this; exact this
      have HC2 := Lib.hid hc
      have e1 : IntKind.i64.wrap ((a : Int) + 20 + 20) = (a : Int) + 20 + 20 := by rw [IntKind.wrap_i64]; omega
      have e1b : IntKind.i64.wrap ((a : Int) + 40) = (a : Int) + 40 := by rw [IntKind.wrap_i64]; omega
      clear hc S1 HI
      go_wp2_with fail
      refine HC2.out.mono ?_
      rintro e w1 ⟨rfl, S2⟩
      have S3 : Aside (SWK enc kc w0 blk off (insertionSort (ltOf cf) dk a (a + 20)) w1) := S2
      clear S2 HC2
      go_wp2
      go_roundg (n - (a + 20))
      case measure => omega
      case rel => exact ⟨t + 1, a + 20, _, by go_num, by go_num, hle, by omega, (by have := HT.out; show a + 20 = (t + 1) * 20; omega), hI2, S3⟩
    · have hlez : ¬ (a : Int) + 20 ≤ (n : Int) := by omega
      have hc := HINS.out a n dk wr (HN.out.trans hds) S1.out (by omega) (Nat.le_refl _)
      have hI2 := HI.out.last HA.out HD.out HO.out (by have := HT.out; have := HN.out; omega) (by have := HT.out; have := HN.out; omega)
      rw [← HT.out, ← HN.out] at hI2
      have HG := Lib.hid hI2
      have HC2 := Lib.hid hc
      clear hc S1 HI hI2 hkx
      go_wp2_with fail
      refine HC2.out.mono ?_
      rintro e w1 ⟨rfl, S2⟩
      have S3 : Aside (SWK enc kc w0 blk off (insertionSort (ltOf cf) dk a n) w1) := S2
      clear S2 HC2 hds
      generalize insertionSort (ltOf cf) dk a n = d1 at HG S3
      clear HT dk t hlez hle
      go_wp2
      go_loopg [6] (n + 20) (fun kx s6 wr => ∃ (bs : Nat) (d1 : Array α), s6 = .int .i64 bs ∧ 20 ≤ bs ∧ bs ≤ 2 * n + 20 ∧ n - bs ≤ kx ∧ Hid (Pm d0 d1 ∧ Good bfB og bs n d1) ∧ Aside (SWK enc kc w0 blk off d1 wr))
      case atStart => exact ⟨20, d1, rfl, by omega, by omega, by omega, HG.out, S3⟩
      case round =>
        clear S3 HG
        obtain ⟨bs, d1, rfl, hbs, hbs2, hkx, HG, S4⟩ := hrel
        by_cases hlt : bs < n
        · have hltz : (bs : Int) < (n : Int) := by omega
          obtain ⟨B, hB⟩ : ∃ B, B = 2 * bs := ⟨_, rfl⟩
          have e2 : IntKind.i64.wrap (2 * (bs : Int)) = (B : Int) := by rw [IntKind.wrap_i64]; omega
          have e3 : IntKind.i64.wrap ((bs : Int) * 2) = (B : Int) := by rw [IntKind.wrap_i64]; omega
          have HBB : Hid (B = 2 * bs) := hB
          have hbB : bs < B := by omega
          have hBn : B ≤ 2 * n + 20 := by omega
          clear hB
          go_wp2
          go_loopg [7, 8] (n + 1) (fun kx s7 s8 wr => ∃ (t a c : Nat) (dk : Array α), s7 = .int .i64 a ∧ s8 = .int .i64 c ∧ a ≤ n ∧ n - a ≤ kx ∧ Hid (a = t * (2 * bs)) ∧ Hid (c = a + B) ∧ Hid (MrgI bfB og d0 d1 bs t dk) ∧ Aside (SWK enc kc w0 blk off dk wr))
          case atStart => exact ⟨0, 0, B, d1, rfl, rfl, by omega, by omega, (by show 0 = 0 * (2 * bs); omega), (by show B = 0 + B; omega), MrgI.start HG.out.1, S4⟩
          case round =>
            clear S4
            obtain ⟨t, a, c, dk, rfl, rfl, han, hkx2, HT, HCC, HI, S5⟩ := hrel
            have hca := HCC.out
            obtain ⟨m, hm⟩ : ∃ m, m = a + bs := ⟨_, rfl⟩
            have e4 : IntKind.i64.wrap ((a : Int) + (bs : Int)) = (m : Int) := by rw [IntKind.wrap_i64]; omega
            have HM : Hid (m = a + bs) := hm
            have ham : a < m := by omega
            by_cases hle : c ≤ n
            · have hlez : (c : Int) ≤ (n : Int) := by omega
              have hmc : m < c := by omega
              obtain ⟨c', hc'⟩ : ∃ c', c' = c + B := ⟨_, rfl⟩
              have e5 : IntKind.i64.wrap ((c : Int) + (B : Int)) = (c' : Int) := by rw [IntKind.wrap_i64]; omega
              have HC' : Hid (c' = c + B) := hc'
              have hac : a < c := by omega
              clear hca hm hc'
              have hp := HI.out.pre (e := c) HA.out (by rw [← HN.out]; exact HG.out.2) HD.out (by omega) (by have := HN.out; have := HT.out; have := HM.out; omega) (by have := HN.out; have := HT.out; have := HCC.out; have := HBB.out; omega)
              rw [← HT.out, ← HM.out] at hp
              have hcall := HMRG.out a m c dk wr (by omega) ham hmc hle (HI.out.pm.size.trans HN.out.symm) S5.out hp.1 hp.2.1 hp.2.2
              have HCALL := Lib.hid hcall
              clear hp hcall S5
              go_wp2_with fail
              refine HCALL.out.mono ?_
              rintro e w1 ⟨rfl, dn, hmg, S6⟩
              have S7 : Aside (SWK enc kc w0 blk off dn w1) := S6
              have HI2 : Hid (MrgI bfB og d0 d1 bs (t + 1) dn) := by
                have z1 := HCC.out; have z2 := HBB.out; have z3 := HT.out
                rw [show c = t * (2 * bs) + 2 * bs by omega, z3] at hmg
                exact HI.out.step (by rw [← HN.out]; exact HG.out.2) (by omega) (by have := HN.out; omega) hmg
              clear S6 HCALL hmg
              go_wp2
              go_roundg (n - c)
              case measure => omega
              case rel => exact ⟨t + 1, c, c', dn, rfl, rfl, hle, by omega, (by have := HT.out; have := HCC.out; have := HBB.out; show c = (t + 1) * (2 * bs); rw [Nat.succ_mul]; omega), HC'.out, HI2, S7⟩
            · have hlez : ¬ (c : Int) ≤ (n : Int) := by omega
              clear hca hm
              by_cases hmn : m < n
              · have hmz : (m : Int) < (n : Int) := by omega
                have hp := HI.out.pre (e := n) HA.out (by rw [← HN.out]; exact HG.out.2) HD.out (by omega) (by have := HN.out; have := HT.out; have := HM.out; omega) (by have := HN.out; have := HT.out; have := HCC.out; have := HBB.out; omega)
                rw [← HT.out, ← HM.out] at hp
                have hcall := HMRG.out a m n dk wr (by omega) ham hmn (Nat.le_refl _) (HI.out.pm.size.trans HN.out.symm) S5.out hp.1 hp.2.1 hp.2.2
                have HCALL := Lib.hid hcall
                clear hp hcall S5
                go_wp2_with fail
                refine HCALL.out.mono ?_
                rintro e w1 ⟨rfl, dn, hmg, S6⟩
                have S7 : Aside (SWK enc kc w0 blk off dn w1) := S6
                have HI2 : Hid (Pm d0 dn ∧ Good bfB og B n dn) := by
                  have z1 := HCC.out; have z2 := HBB.out; have z3 := HT.out; have z4 := HN.out; have z5 := HM.out
                  rw [z3, z4] at hmg
                  rw [z2, z4]
                  exact HI.out.last (by rw [← HN.out]; exact HG.out.2) (by omega) (by omega) (by omega) hmg
                clear S6 HCALL hmg
                go_wp2
                go_roundg (n - B)
                case measure => omega
                case rel => exact ⟨B, dn, rfl, by omega, by omega, by omega, HI2, S7⟩
              · have hmz : ¬ (m : Int) < (n : Int) := by omega
                have HI2 : Hid (Pm d0 dk ∧ Good bfB og B n dk) := by
                  have z1 := HCC.out; have z2 := HBB.out; have z3 := HT.out; have z4 := HN.out; have z5 := HM.out
                  rw [z2, z4]
                  exact HI.out.lastN (by rw [← HN.out]; exact HG.out.2) (by omega) (by omega) (by omega)
                go_wp2
                go_roundg (n - B)
                case measure => omega
                case rel => exact ⟨B, dk, rfl, by omega, by omega, by omega, HI2, S5⟩
        · have hltz : ¬ (bs : Int) < (n : Int) := by omega
          go_wp2
          go_end0
          exact ⟨rfl, d1, HG.out.1, HG.out.2.all (by omega), S4.out⟩

set_option maxHeartbeats 1000000 in
theorem sortStable_any {bfB : α → α → Bool} {og : α → Nat} (g : Nat) (cb : Array Value) (cap : Nat) (w : World) (eg : ∀ args w, (callFunc g args).run Try.prog w = .ok (.enter g args) w) (hcmp : CmpLays Try.prog g cb enc kc cf blk off d0.size w0)
    (R : RowK enc kc w0 blk off d0) (zE : ∀ w, (Go.sizeOf 45).run Try.prog w = .ok kc w) (S : SWK enc kc w0 blk off d0 w) (hA : Agree (ltOf cf) bfB og) (hSW : SWO (ltOf cf)) (hd : ∀ i j, i < d0.size → j < d0.size → i ≠ j → d0[i]! ≠ d0[j]!) (ho : ∀ k, k < d0.size → og d0[k]! = k) (hsz : d0.size < 1000000000) :
    Calls Try.prog 58 #[.slice (some ⟨blk, off, none⟩) d0.size cap, .func (.func g) #[] cb] w fun e w' => e = .returned (.tuple #[]) ∧ ∃ d', Pm d0 d' ∧ Srt (fun x y => bfB x y = true) 0 d0.size d' ∧ SWK enc kc w0 blk off d' w' := by
  have hc := Lib.hid (stable_any g cb cap w eg hcmp R zE S hA hSW hd ho hsz)
  clear hcmp S hA hd ho R
  go_enter Try.func58, Try.ntmps58
  go_wp2_with (go_at_call 75; refine hc.out.mono ?_; rintro e w' ⟨rfl, hd⟩)
  go_end0
  exact ⟨rfl, hd⟩
end
end KS
end Go.Proofs.Ytpbkboandiigfaa
