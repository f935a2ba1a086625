/- Contract of collapse.cover. Written by mk_CoCov.py. -/
import Derived.Test.YtceippgkmoijdaaOrdL
import Derived.Test.YtceippgkmoijdaaShelfB
import Derived.Lib.ItoaNum
namespace Go.Proofs.Ytceippgkmoijdaa
open Go.RowKit Go.Shelf Go.Sort Go.Maps
set_option linter.unusedVariables false
set_option linter.unusedSimpArgs false
attribute [local go_sem] Oper.semAt_some

theorem no_last {b : Bool} {p : Prop} (h : b = false) (h2 : b = true) : p := by rw [h] at h2; cases h2
theorem LsR.loads {α : Type} [Inhabited α] {cells : α → List Value} {n t G : Nat} {bs : List α} {sp : List Value} {X : World} (hl : ∀ a, (cells a).length = n) (h : LsR cells t G bs sp X) {c : Nat} {b : α} (hb : bs[c]? = some b) (j : Nat) (v : Value) (hv : (cells b).toArray[j]? = some v) : X.cell? ((⟨G, c * n, none⟩ : Addr).add j) = some v := by
  have hj : j < n := by have := (Array.getElem?_eq_some_iff.1 hv).1; simpa [hl] using this
  rw [add_plainC, h.cell hl c b hb j hj]
  simpa using hv
/-- while a stretch is put into claims: the claims, the stretch, and what stood before -/
def KeepS (W : World) (G : Nat) (cs : List Cl) (sp : List Value) (sb : Nat) (xs : List Value) (X : World) : Prop := CRow X G cs sp ∧ Whole X sb 99 xs ∧ Below W.heap.size W X
theorem KeepS.below {W : World} {G : Nat} {cs : List Cl} {sp : List Value} {sb : Nat} {xs : List Value} {X Y : World} (h : KeepS W G cs sp sb xs X) (hb : Below X.heap.size X Y) : KeepS W G cs sp sb xs Y :=
  ⟨LsR.below h.1 hb (Whole.lt h.1), h.2.1.below hb h.2.1.lt, h.2.2.trans (hb.mono h.2.2.size)⟩
theorem KeepS.put {W : World} {G : Nat} {cs : List Cl} {sp : List Value} {sb : Nat} {xs : List Value} {X : World} (hG : W.heap.size ≤ G) (hne : sb ≠ G) (h : KeepS W G cs sp sb xs X) (i : Nat) (c : Cl) (hi : i < cs.length) : KeepS W G (cs.set i c) sp sb xs (X.setCells G (i * 7) c.cells) :=
  ⟨LsR.put Cl.cells_len h.1 i c hi, whole_putLO c.cells (i * 7) _ X h.2.1 hne, below_putL hG c.cells (i * 7) X h.2.2⟩
theorem CvI.okc {k n w : Nat} {ss : List Sr} {done : Sr → Prop} {M : Int} {cs : List Cl} {L : Nat → List Si} (h : CvI k n ss w done M cs L) (hr : AllR k ss) (hh : ∀ s ∈ ss, (s.sd k).hue) : ∀ c ∈ cs, OkC M c := fun c hc => by
  obtain ⟨i, hi⟩ := List.getElem?_of_mem hc
  obtain ⟨hb, hm⟩ := h.bs i c hi
  refine ⟨⟨hb.nn, hm⟩, fun hp => ?_⟩
  rw [hb.won]
  obtain ⟨s, hs, e, _⟩ := h.snd i _ (winR_in (h.right hr i) (hb.pos.1 hp)).1
  rw [e]
  exact hh s hs
theorem CvI.far {k n w : Nat} {ss : List Sr} {done : Sr → Prop} {M : Int} {cs : List Cl} {L : Nat → List Si} (h : CvI k n ss (2 * w) done M cs L) (hw : 1 ≤ w) (hs : ∀ s ∈ ss, SrOk n s) (i : Nat) (hi : i < n) (hp : 0 < (cs.getD i Cl.zero).n) : i + w < n := by
  obtain ⟨hb, _⟩ := h.bs i _ (getD_get cs i (by rw [h.len]; exact hi))
  obtain ⟨x, hx⟩ := List.exists_mem_of_ne_nil _ (hb.pos.1 hp)
  obtain ⟨s, hsm, _, _, h3⟩ := h.snd i x hx
  have := (hs s hsm).2.2
  omega
/-- the memory of cover at the start of a width -/
structure CovS (k n : Nat) (ss : List Sr) (W : World) (w G cap : Nat) (sp : List Value) (X : World) : Prop where
  ex : ∃ (M : Int) (cs : List Cl) (L : Nat → List Si), CRow X G cs sp ∧ ((w = 0 ∧ CvI k n ss 1 (fun s => (1 : Int) ≤ s.run.to - s.run.fr) M cs L) ∨ (1 ≤ w ∧ (∃ e, w = 2 ^ e) ∧ w ≤ 16384 ∧ CvI k n ss (2 * w) (fun s => (2 * w : Int) ≤ s.run.to - s.run.fr) M cs L ∧ (M + 2000) * w ≤ 65536000 ∧ 0 ≤ M))
  lo : W.heap.size ≤ G
  cp : n ≤ cap ∧ cap ≤ 9223372036854775807
  be : Below W.heap.size W X
/-- and while stretches are put -/
structure CovJ (k n : Nat) (ss : List Sr) (W : World) (w G j : Nat) (sp : List Value) (M0 : Int) (X : World) : Prop where
  ex : ∃ (M : Int) (cs : List Cl) (L : Nat → List Si), CRow X G cs sp ∧ CvI k n ss w (dnP ss w j) M cs L ∧ M ≤ M0 + 2 * j ∧ 0 ≤ M
  be : Below W.heap.size W X
theorem cov_next {k n : Nat} {ss : List Sr} {w : Nat} {M M0 : Int} {cs : List Cl} {L : Nat → List Si} (hw : 1 ≤ w) (he : ∃ e, w = 2 ^ e) (h16 : w ≤ 16384) (h0 : (M0 + 2000) * w ≤ 65536000) (h00 : 0 ≤ M0) (hm : (ss.length : Int) ≤ 1000) (h : CvI k n ss w (dnP ss w ss.length) M cs L) (hM : M ≤ 2 * M0 + 2 * (ss.length : Int)) :
    ∃ (M' : Int), ((w / 2 = 0 ∧ CvI k n ss 1 (fun s => (1 : Int) ≤ s.run.to - s.run.fr) M' cs L) ∨ (1 ≤ w / 2 ∧ (∃ e, w / 2 = 2 ^ e) ∧ w / 2 ≤ 16384 ∧ CvI k n ss (2 * (w / 2)) (fun s => (2 * (w / 2 : Nat) : Int) ≤ s.run.to - s.run.fr) M' cs L ∧ (M' + 2000) * (w / 2 : Nat) ≤ 65536000 ∧ 0 ≤ M')) := by
  obtain ⟨e, rfl⟩ := he
  refine ⟨2 * M0 + 2000, ?_⟩
  cases e with
  | zero =>
    left
    refine ⟨rfl, ?_⟩
    exact CvI.mono h (fun s hs hd => .inr ⟨by simpa using hd, by rw [List.take_length]; exact hs⟩) (by omega)
  | succ e =>
    right
    have e2 : (2 : Nat) ^ (e + 1) / 2 = 2 ^ e := by rw [Nat.pow_succ]; omega
    have e3 : (2 : Nat) ^ (e + 1) = 2 * 2 ^ e := by rw [Nat.pow_succ]; omega
    have hp : 1 ≤ 2 ^ e := Nat.one_le_two_pow
    rw [e2]
    rw [e3] at h h0 h16
    refine ⟨hp, ⟨e, rfl⟩, by omega, CvI.mono h (fun s hs hd => .inr ⟨by push_cast at hd ⊢; exact hd, by rw [List.take_length]; exact hs⟩) (by omega), ?_, by omega⟩
    have : (2 * M0 + 2000 + 2000) * ((2 ^ e : Nat) : Int) = (M0 + 2000) * ((2 * 2 ^ e : Nat) : Int) := by
      rw [show 2 * M0 + 2000 + 2000 = 2 * (M0 + 2000) by omega, Int.mul_assoc, Int.natCast_mul, Int.mul_left_comm (M0 + 2000)]; rfl
    rw [this]; exact h0
theorem bit_len (n : Nat) (h : n ≤ 10000) : n < 2 ^ Lib.bitLen n ∧ Lib.bitLen n ≤ 14 := by
  by_cases e : n = 0
  · subst e; decide
  · obtain ⟨h1, h2, h3⟩ := Lib.bitLenAux_bounds 64 n (by have : (2 : Nat) ^ 64 = 18446744073709551616 := rfl; omega) e
    refine ⟨h3, ?_⟩
    show Lib.bitLenAux 64 n ≤ 14
    by_cases h4 : Lib.bitLenAux 64 n ≤ 14
    · exact h4
    · exfalso
      have : (2 : Nat) ^ 14 ≤ 2 ^ (Lib.bitLenAux 64 n - 1) := Nat.pow_le_pow_right (by omega) (by omega)
      omega
set_option maxRecDepth 100000 in
set_option maxHeartbeats 8000000 in
theorem cover_any (n k : Nat) (p : Option Addr) (m c : Nat) (ss : List Sr) (W : World) (hr : RowsK Sr.cells 20 W (.slice p m c) ss) (hn : n ≤ 10000) (hm2 : m ≤ 1000) (hk : k < 4) (hs : ∀ s ∈ ss, SrOk n s) (hR : AllR k ss) (hH : ∀ s ∈ ss, (s.sd k).hue) :
    Calls Try.prog 61 #[.int .i64 (n : Int), .slice p m c, .int .i64 (k : Int)] W fun e X => ∃ G cap sp, e = .returned (.slice (some ⟨G, 0, none⟩) n cap) ∧ CRow X G (covP k ss n) sp ∧ W.heap.size ≤ G ∧ n ≤ cap ∧ cap ≤ 9223372036854775807 ∧ Below W.heap.size W X := by
  have hm : ss.length = m := hr.len
  have HAT : Hid (∀ X, Below W.heap.size W X → ∀ j c, ss[j]? = some c → ∃ g o, p = some ⟨g, o, none⟩ ∧ g < W.heap.size ∧ ∀ q v, c.cells[q]? = some v → X.cell? ⟨g, o + j * 20 + q, none⟩ = some v) := Lib.hid fun X hX j c hj => by
    obtain ⟨g, o, e, hg, hc⟩ := hr.at j c hj
    exact ⟨g, o, e, hg, fun q v hv => (hX.cell (p := ⟨g, o + j * 20 + q, none⟩) hg).trans (hc q v hv)⟩
  have HM := Lib.hid hm
  have HS := Lib.hid hs
  have HR := Lib.hid hR
  have HH := Lib.hid hH
  have HKK := Lib.hid hk
  have HCN := Lib.hid (fun X (hX : Below W.heap.size W X) => counts_any n p m c ss X (hr.below hX) hn (by omega) hs)
  have hmk := make_cl n (by omega) W
  obtain ⟨zc, hzc⟩ : ∃ zc, ((List.replicate n Cl.zero).flatMap Cl.cells).toArray = zc := ⟨_, rfl⟩
  have K0 : Hid (CRow (W.alloc (.cells zc 108)) W.heap.size (List.replicate n Cl.zero) []) := Lib.hid (by
    rw [← hzc]
    exact (LsR.of (whole_new W _ 108 _ rfl)).crow)
  have B0 : Hid (Below W.heap.size W (W.alloc (.cells zc 108))) := Lib.hid ((Below.refl _ W).alloc (Nat.le_refl _) _)
  rw [hzc] at hmk
  obtain ⟨hq1, hq2⟩ := bit_len n hn
  have HBL : Hid (∀ X, Calls Try.prog 73 #[.int .u64 (n : Int)] X fun e X' => e = .returned (.int .i64 (Lib.bitLen n : Nat)) ∧ X' = X) := Lib.hid (fun X => by
    have h := Try.bits_Len (n : Int) X (by omega) (by omega)
    rwa [Int.toNat_natCast] at h)
  obtain ⟨q, hq⟩ : ∃ q, Lib.bitLen n = q := ⟨_, rfl⟩
  rw [hq] at hq1 hq2 HBL
  have h16 : (2 : Nat) ^ q ≤ 16384 := by have := Nat.pow_le_pow_right (show 0 < 2 by omega) hq2; exact this
  have hsh : wrap64 ((2 : Int) ^ q) = ((2 ^ q : Nat) : Int) := by
    have e : (2 : Int) ^ q = ((2 ^ q : Nat) : Int) := by push_cast; rfl
    rw [e]; unfold wrap64; omega
  have HQE : Hid (∃ e, 2 ^ q = 2 ^ e) := Lib.hid ⟨q, rfl⟩
  obtain ⟨w0, hw0⟩ : ∃ w0 : Nat, 2 ^ q = w0 := ⟨_, rfl⟩
  rw [hw0] at hsh hq1 h16 HQE
  have hcv : IntKind.u64.wrap (n : Int) = (n : Int) := by rw [IntKind.wrap_u64]; omega
  have C0 : Hid (CovS k n ss W w0 W.heap.size n [] (W.alloc (.cells zc 108))) := Lib.hid ⟨⟨0, _, _, K0.out, .inr ⟨by omega, by obtain ⟨e, he⟩ := HQE.out; exact ⟨e, he⟩, h16, CvI.mono (CvI.start k n (2 * w0) ss hs (by omega)) (fun s _ hd => by push_cast; exact hd) (Int.le_refl _), by omega, Int.le_refl _⟩⟩, Nat.le_refl _, ⟨Nat.le_refl _, by omega⟩, B0.out⟩
  clear hr hm hzc hs hR hH hk HQE hw0 hq h16 hq1 K0
  go_enter Try.func61, Try.ntmps61
  go_wp2_with fail
  refine (HBL.out _).mono ?_
  rintro e w' ⟨rfl, rfl⟩
  go_wp2
  try simp only [hsh]
  clear hsh
  generalize W.alloc (.cells zc 108) = W1 at C0 B0 ⊢
  obtain ⟨G0, hG0⟩ : ∃ g, g = W.heap.size := ⟨_, rfl⟩
  rw [← hG0] at C0 ⊢
  clear hG0
  go_loopw [7, 8] (fun s7 s8 X => ∃ (w G cap : Nat) (sp : List Value), s8 = .int .i64 (w : Int) ∧ s7 = .slice (some ⟨G, 0, none⟩) n cap ∧ Hid (CovS k n ss W w G cap sp X)) (fun _ s8 _ => (intOf s8).toNat)
  case atStart => exact ⟨w0, _, _, _, rfl, rfl, C0⟩
  case round =>
    clear C0 B0
    obtain ⟨w, G1, cap1, sp1, rfl, rfl, HC⟩ := hrel
    by_cases hw : 1 ≤ w
    · have hgt : ¬ ((w : Int) ≤ 0) := by omega
      have hgd : decide ((0 : Int) < (w : Int)) = true := by simp; omega
      obtain ⟨M0, cs0, L0, h1, h2⟩ := HC.out.ex
      obtain ⟨-, he, hw16, hcv, hM0, hM00⟩ : 1 ≤ w ∧ (∃ e, w = 2 ^ e) ∧ w ≤ 16384 ∧ CvI k n ss (2 * w) (fun s => (2 * w : Int) ≤ s.run.to - s.run.fr) M0 cs0 L0 ∧ (M0 + 2000) * w ≤ 65536000 ∧ 0 ≤ M0 := by
        rcases h2 with ⟨e, _⟩ | h2
        · omega
        · exact h2
      have hMb : M0 ≤ 65536000 := by
        have : (M0 + 2000) * 1 ≤ (M0 + 2000) * w := Int.mul_le_mul_of_nonneg_left (by omega) (by omega)
        omega
      have HHV := Lib.hid (halved_any G1 0 n cap1 w cs0 wr (LsR.rows Cl.cells_len h1 hcv.len cap1 (by omega)) (by omega) hw (by omega) (fun i hi hp => hcv.far hw HS.out i hi hp) M0 (by omega) (hcv.okc HR.out HH.out))
      have HV := Lib.hid (hcv.halve hw HS.out HR.out)
      have HE := Lib.hid he
      have HM0 := Lib.hid (show (M0 + 2000) * w ≤ 65536000 ∧ 0 ≤ M0 ∧ M0 ≤ 65536000 from ⟨hM0, hM00, hMb⟩)
      clear h1 h2 hcv he hM0 hM00 hMb
      go_wp2_with fail
      refine HHV.out.mono ?_
      rintro e w1 ⟨G, cap, sp, rfl, h1, h2, h3, h4, h5⟩
      have HJ : Hid (CovJ k n ss W w G 0 sp (2 * M0) w1) := Lib.hid ⟨⟨_, _, _, h1, CvI.mono HV.out (fun s hs hd => by
        rcases hd with hd | ⟨_, hd⟩
        · exact hd
        · simp at hd) (Int.le_refl _), by omega, by have := HM0.out.2.1; omega⟩, HC.out.be.trans (h5.mono HC.out.be.size)⟩
      have HG := Lib.hid (show W.heap.size ≤ G ∧ n ≤ cap ∧ cap ≤ 9223372036854775807 from ⟨Nat.le_trans HC.out.be.size h2, h3, h4⟩)
      have HCB := Lib.hid HC.out.lo
      clear h1 h2 h3 h4 h5 HHV HV HC
      go_wp2
      go_loopw [29] (fun s29 X => ∃ j : Nat, j ≤ m ∧ s29 = .int .i64 (j : Int) ∧ Hid (CovJ k n ss W w G j sp (2 * M0) X)) (fun s29 _ => m - (intOf s29).toNat)
      case atStart => exact ⟨0, Nat.zero_le _, rfl, HJ⟩
      case round =>
        clear HJ
        obtain ⟨j, hj, rfl, HJ⟩ := hrel
        by_cases hlt : j < m
        · obtain ⟨x, hx⟩ : ∃ x, ss[j]? = some x := ⟨_, List.getElem?_eq_getElem (by rw [HM.out]; exact hlt)⟩
          obtain ⟨M, cs, L, hC, hV, hM, hMn⟩ := HJ.out.ex
          have hB := HJ.out.be
          obtain ⟨g, o, rfl, lg0, hcx⟩ := HAT.out wr hB j x hx
          have hxm := List.mem_of_getElem? hx
          obtain ⟨x1, x2, x3⟩ := HS.out x hxm
          obtain ⟨f, hf⟩ : ∃ f : Nat, x.run.fr = (f : Int) := ⟨x.run.fr.toNat, by omega⟩
          obtain ⟨t, ht⟩ : ∃ t : Nat, x.run.to = (t : Int) := ⟨x.run.to.toNat, by omega⟩
          have lg : g < wr.heap.size := Nat.lt_of_lt_of_le lg0 hB.size
          have LN : Hid (∀ j' v, x.cells.toArray[j']? = some v → wr.cell? ((⟨g, o + j * 20, none⟩ : Addr).add j') = some v) := Lib.hid (fun j' v hj' => by rw [add_plainC]; exact hcx j' v (by simpa using hj'))
          have iN : Hid ((Try.prog.info? 99).map (·.size) = some x.cells.toArray.size) := Lib.hid (by rw [Try.infoSrN]; simp [Sr.cells_len])
          have oN := Lib.hid (Sr.one x)
          have zN : Hid (Sr.zero.cells.toArray.size = x.cells.toArray.size) := Lib.hid (by simp [Sr.cells_len])
          have HXC : Hid (x.cells[0]? = some (.int .i64 (f : Int)) ∧ x.cells[1]? = some (.int .i64 (t : Int))) := Lib.hid ⟨by rw [← hf]; rfl, by rw [← ht]; rfl⟩
          have HCK : Hid (∀ X, Calls Try.prog 60 #[.agg x.cells.toArray, .int .i64 (k : Int)] X fun e X' => e = .returned (x.claim k).val ∧ Below X.heap.size X X') := Lib.hid (fun X => claim_any x k HKK.out X)
          have HDV : Hid (CvI k n ss w (dnP ss w j) M cs L) := Lib.hid hV
          have HXJ := Lib.hid hx
          have HXF := Lib.hid (show x.run.fr = (f : Int) ∧ x.run.to = (t : Int) from ⟨hf, ht⟩)
          have HHX := Lib.hid (HH.out x hxm)
          have HXM := Lib.hid hxm
          rw [hf] at x1 x2
          rw [ht] at x2 x3
          have hft : f ≤ t := by omega
          have htn : t ≤ n := by omega
          have HMJ := Lib.hid (show M ≤ 2 * M0 + 2 * j ∧ 0 ≤ M from ⟨hM, hMn⟩)
          have HL := Lib.hid hC
          have HB := Lib.hid hB
          have HMM : Hid (M + 1 ≤ 1000000000000000000) := Lib.hid (by have := HM0.out.2.2; omega)
          have hlg : IntKind.i64.wrap ((t : Int) - (f : Int)) = ((t - f : Nat) : Int) := by rw [IntKind.wrap_i64]; omega
          obtain ⟨lo, hlo⟩ : ∃ l, t - f = l := ⟨_, rfl⟩
          rw [hlo] at hlg
          have HLO := Lib.hid hlo
          have hw2 : IntKind.i64.wrap (2 * (w : Int)) = ((2 * w : Nat) : Int) := by rw [IntKind.wrap_i64]; omega
          obtain ⟨ww, hww⟩ : ∃ v, 2 * w = v := ⟨_, rfl⟩
          rw [hww] at hw2
          have HWW := Lib.hid hww
          obtain ⟨xs, hxs⟩ : ∃ xs, x.cells = xs := ⟨_, rfl⟩
          rw [hxs] at LN iN oN zN HXC HCK
          have HXS := Lib.hid hxs
          obtain ⟨ca, hca⟩ : ∃ ca, xs.toArray = ca := ⟨_, rfl⟩
          rw [hca] at LN iN oN zN HCK
          have HCE := Lib.hid hca
          have HJM := Lib.hid (show j < m from hlt)
          clear hca hxs hx hcx hxm hV hM hMn hC hB hf ht hlo hww x1 x2 x3 lg0 HJ
          by_cases c1 : w ≤ lo
          · by_cases c2 : lo < ww
            · have d1 : decide ((w : Int) ≤ (lo : Int)) = true := by simpa using c1
              have d2 : decide ((lo : Int) < (ww : Int)) = true := by simpa using c2
              have hfn : f < n := by have := HLO.out; omega
              have hfi : (f : Int) < (n : Int) := by omega
              obtain ⟨tw, htw⟩ : ∃ v, t - w = v := ⟨_, rfl⟩
              have hwt : IntKind.i64.wrap ((t : Int) - (w : Int)) = (tw : Int) := by rw [IntKind.wrap_i64]; have := HLO.out; omega
              have htwn : (tw : Int) < (n : Int) := by have := HLO.out; omega
              have HTW := Lib.hid htw
              have HOKS := Lib.hid (HS.out x HXM.out)
              have p1 := HDV.out.put hw HR.out x HXM.out HOKS.out f (by rw [HXF.out.1]; omega) (by rw [HXF.out.2]; have := HLO.out; omega)
              obtain ⟨L2, p2⟩ := HDV.out.two hw HR.out x HXM.out HOKS.out f t HXF.out.1 HXF.out.2 (by have := HLO.out; omega) (by have := HLO.out; have := HWW.out; omega)
              rw [htw] at p2
              have hyg := getD_get cs f (by rw [HDV.out.len]; exact hfn)
              have Hy : Hid (cs[f]? = some (cs.getD f Cl.zero) ∧ OkC (M + 1) (cs.getD f Cl.zero)) := Lib.hid ⟨hyg, by have := HDV.out.okc HR.out HH.out _ (List.mem_of_getElem? hyg); exact ⟨⟨this.1.1, by have := this.1.2; omega⟩, this.2⟩⟩
              obtain ⟨y, hy⟩ : ∃ y, cs.getD f Cl.zero = y := ⟨_, rfl⟩
              rw [hy] at Hy p1 p2
              obtain ⟨cs1, hc1⟩ : ∃ cs1, cs.set f (togP [y, x.claim k]) = cs1 := ⟨_, rfl⟩
              rw [hc1] at p1 p2
              have hyg2 := getD_get cs1 tw (by rw [p1.len]; omega)
              have Hy2 : Hid (cs1[tw]? = some (cs1.getD tw Cl.zero) ∧ OkC (M + 1) (cs1.getD tw Cl.zero)) := Lib.hid ⟨hyg2, p1.okc HR.out HH.out _ (List.mem_of_getElem? hyg2)⟩
              obtain ⟨y2, hy2⟩ : ∃ y, cs1.getD tw Cl.zero = y := ⟨_, rfl⟩
              rw [hy2] at Hy2 p2
              have HP2 := Lib.hid p2
              have HC1 := Lib.hid hc1
              clear p1 p2 hyg hyg2 hy hy2 hc1 htw
              go_wp2_with (first
                | (refine wpList_loadC rfl 99 (.tmp 31) rfl _ rfl ca _ LN.out Try.underlying99 rfl iN.out ?_)
                    | (refine wpList_store_row rfl 99 (.tmp 10) (.tmp 32) rfl _ ca rfl rfl 99 Sr.zero.cells.toArray (whole_new wr Sr.zero.cells 99 _ rfl) iN.out zN.out oN.out ?_; refine at_worldX (fun X => Whole X wr.heap.size 99 xs ∧ Below wr.heap.size wr X) ⟨by rw [← HCE.out]; exact whole_rowA (whole_new wr Sr.zero.cells 99 _ rfl) _, ((Below.refl _ wr).alloc (Nat.le_refl _) _).trans (below_setRow (Below.refl _ _) _ _ (Nat.le_refl _))⟩ (fun X hX => ?_); obtain ⟨KX, BX⟩ := hX; have KXX := Lib.hid KX; have BXX := Lib.hid BX; clear KX BX LN oN zN; have c0 := KXX.out.cellAt 0; rw [HXC.out.1] at c0; have c1 := KXX.out.cellAt 1; rw [HXC.out.2] at c1; have l7 := KXX.out.lt)
                | (refine region_L (S := fun X => Hid (KeepS W G cs sp wr.heap.size xs X)) (by kernel_rfl) (fun w9 hw9 => ?_)))
              have SV : Hid (KeepS W G cs sp wr.heap.size xs w9) := Lib.hid (by
                rw [← hw9]
                exact KeepS.below ⟨LsR.below HL.out BXX.out (Whole.lt HL.out), KXX.out, HB.out.trans (BXX.out.mono HB.out.size)⟩ (below_dn _ _ 1))
              have HGW := Lib.hid HG.out.1
              have HGS : Hid (wr.heap.size ≠ G) := Lib.hid (by have := Whole.lt HL.out; omega)
              clear hw9 c0 c1 l7 KXX BXX lg
              try simp only [Act.put, List.setIfInBounds_toArray, List.set_cons_succ, List.set_cons_zero]
              refine AnyL.take (i := 0) (v := .slice (some ⟨G, 0, none⟩) n cap) (some 49) rfl rfl (by kernel_rfl) (by kernel_rfl) (by kernel_rfl) (fun _ _ _ h => h) SV (Or.inl ⟨by rfl, ?_⟩) ?_
              · intro X hX; go_simp
              try simp only [Act.put, List.setIfInBounds_toArray, List.set_cons_succ, List.set_cons_zero]
              refine AnyL.take (i := 1) (v := .pointer (some ⟨wr.heap.size, 0, none⟩)) (some 50) rfl rfl (by kernel_rfl) (by kernel_rfl) (by kernel_rfl) (fun _ _ _ h => h) SV (Or.inl ⟨by rfl, ?_⟩) ?_
              · intro X hX; go_simp
              try simp only [Act.put, List.setIfInBounds_toArray, List.set_cons_succ, List.set_cons_zero]
              refine AnyL.take (i := 2) (v := .pointer (some ⟨wr.heap.size, 0, none⟩)) (some 51) rfl rfl (by kernel_rfl) (by kernel_rfl) (by kernel_rfl) (fun _ _ _ h => h) SV (Or.inl ⟨by rfl, ?_⟩) ?_
              · intro X hX; go_simp
              try simp only [Act.put, List.setIfInBounds_toArray, List.set_cons_succ, List.set_cons_zero]
              refine AnyL.take (i := 3) (v := .int .i64 (f : Int)) (some 52) rfl rfl (by kernel_rfl) (by kernel_rfl) (by kernel_rfl) (fun _ _ _ h => h) SV (Or.inl ⟨by rfl, ?_⟩) ?_
              · intro X hX; have q := hX.out.2.1.cellAt 0; rw [HXC.out.1] at q; have lq := hX.out.2.1.lt; go_simp
              try simp only [Act.put, List.setIfInBounds_toArray, List.set_cons_succ, List.set_cons_zero]
              refine AnyL.take (i := 4) (v := .slice (some ⟨G, 0, none⟩) n cap) (some 53) rfl rfl (by kernel_rfl) (by kernel_rfl) (by kernel_rfl) (fun _ _ _ h => h) SV (Or.inl ⟨by rfl, ?_⟩) ?_
              · intro X hX; go_simp
              try simp only [Act.put, List.setIfInBounds_toArray, List.set_cons_succ, List.set_cons_zero]
              refine AnyL.take (i := 5) (v := .pointer (some ⟨wr.heap.size, 0, none⟩)) (some 54) rfl rfl (by kernel_rfl) (by kernel_rfl) (by kernel_rfl) (fun _ _ _ h => h) SV (Or.inl ⟨by rfl, ?_⟩) ?_
              · intro X hX; go_simp
              try simp only [Act.put, List.setIfInBounds_toArray, List.set_cons_succ, List.set_cons_zero]
              refine AnyL.take (i := 6) (v := .pointer (some ⟨wr.heap.size, 0, none⟩)) (some 55) rfl rfl (by kernel_rfl) (by kernel_rfl) (by kernel_rfl) (fun _ _ _ h => h) SV (Or.inl ⟨by rfl, ?_⟩) ?_
              · intro X hX; go_simp
              try simp only [Act.put, List.setIfInBounds_toArray, List.set_cons_succ, List.set_cons_zero]
              refine AnyL.take (i := 7) (v := .int .i64 (f : Int)) (some 56) rfl rfl (by kernel_rfl) (by kernel_rfl) (by kernel_rfl) (fun _ _ _ h => h) SV (Or.inl ⟨by rfl, ?_⟩) ?_
              · intro X hX; have q := hX.out.2.1.cellAt 0; rw [HXC.out.1] at q; have lq := hX.out.2.1.lt; go_simp
              try simp only [Act.put, List.setIfInBounds_toArray, List.set_cons_succ, List.set_cons_zero]
              refine AnyL.take (i := 8) (v := .pointer (some ⟨G, f * 7, none⟩)) (some 57) rfl rfl (by kernel_rfl) (by kernel_rfl) (by kernel_rfl) (fun _ _ _ h => h) SV (Or.inl ⟨by rfl, ?_⟩) ?_
              · intro X hX; go_simp
              try simp only [Act.put, List.setIfInBounds_toArray, List.set_cons_succ, List.set_cons_zero]
              refine AnyL.take (i := 10) (v := .agg ca) (some 59) rfl rfl (by kernel_rfl) (by kernel_rfl) (by kernel_rfl) (fun _ _ _ h => h) SV (yields_loadC (by rfl) 99 (.tmp 10) rfl _ rfl ca _ (fun X hX => (whole_arr hX.out.2.1 HCE.out).loads) Try.underlying99 rfl iN.out) ?_
              try simp only [Act.put, List.setIfInBounds_toArray, List.set_cons_succ, List.set_cons_zero]
              refine AnyL.take (i := 11) (v := .int .i64 (k : Int)) (some 60) rfl rfl (by kernel_rfl) (by kernel_rfl) (by kernel_rfl) (fun _ _ _ h => h) SV (Or.inl ⟨by rfl, ?_⟩) ?_
              · intro X hX; go_simp
              try simp only [Act.put, List.setIfInBounds_toArray, List.set_cons_succ, List.set_cons_zero]
              refine AnyL.take (i := 9) (v := .agg y.cells.toArray) (some 58) rfl rfl (by kernel_rfl) (by kernel_rfl) (by kernel_rfl) (fun _ _ _ h => h) SV (yields_loadC (by rfl) 108 (.tmp 57) rfl _ rfl y.cells.toArray _ (fun X hX => (LsR.loads Cl.cells_len hX.out.1 Hy.out.1)) Try.underlying108 rfl (by rw [Try.infoClN]; simp [Cl.cells_len])) ?_
              try simp only [Act.put, List.setIfInBounds_toArray, List.set_cons_succ, List.set_cons_zero]
              refine AnyL.one (i := 12) rfl (by kernel_rfl) ?_
              refine wpOp_step rfl (fun K hK => ?_)
              go_simp
              refine (HCK.out _).mono ?_
              rintro e w10 ⟨rfl, hb⟩
              have SX := Lib.hid (KeepS.below SV.out hb)
              refine hK _ _ ⟨fun _ => SX, ?_⟩
              clear hK K hb SV
              have SV := SX
              clear SX
              try simp only [Act.put, List.setIfInBounds_toArray, List.set_cons_succ, List.set_cons_zero]
              refine AnyL.one (i := 13) rfl (by kernel_rfl) ?_
              refine wpOp_step rfl (fun K hK => ?_)
              refine wp_build2 87 (.tmp 58) (.tmp 61) rfl y.val (x.claim k).val _ rfl rfl (build_cl2 y (x.claim k) w10) ?_
              have W2 := Lib.hid (two_cl (whole_new w10 (y.cells ++ (x.claim k).cells) 108 _ rfl))
              have SX := Lib.hid (KeepS.below SV.out ((Below.refl w10.heap.size w10).alloc (Nat.le_refl _) (.cells (y.cells ++ (x.claim k).cells).toArray 108)))
              generalize w10.alloc (.cells (y.cells ++ (x.claim k).cells).toArray 108) = w11 at W2 SX ⊢
              refine hK _ _ ⟨fun _ => SX, ?_⟩
              clear hK K SV
              have SV := SX
              clear SX
              try simp only [Act.put, List.setIfInBounds_toArray, List.set_cons_succ, List.set_cons_zero]
              refine AnyL.one (i := 14) rfl (by kernel_rfl) ?_
              refine wpOp_step rfl (fun K hK => ?_)
              go_simp
              refine (tog_any (some ⟨w10.heap.size, 0, none⟩) 2 2 [y, x.claim k] w11 W2.out rfl (by omega) (fun c hc => ?_) (fun c hc => ?_)).mono ?_
              · rcases List.mem_cons.1 hc with rfl | hc
                · exact ⟨Hy.out.2.1.1, Int.le_trans Hy.out.2.1.2 HMM.out⟩
                · obtain rfl := List.mem_singleton.1 hc
                  exact ⟨by show (0 : Int) ≤ 1; omega, by show (1 : Int) ≤ _; omega⟩
              · rcases List.mem_cons.1 hc with rfl | hc
                · exact Hy.out.2.2
                · obtain rfl := List.mem_singleton.1 hc
                  exact fun _ => HHX.out
              rintro e w12 ⟨rfl, hb⟩
              have SX := Lib.hid (KeepS.below SV.out hb)
              refine hK _ _ ⟨fun _ => SX, ?_⟩
              clear hK K hb SV W2
              have SV := SX
              clear SX
              try simp only [Act.put, List.setIfInBounds_toArray, List.set_cons_succ, List.set_cons_zero]
              refine AnyL.take (i := 15) (v := .pointer (some ⟨G, f * 7, none⟩)) (some 64) rfl rfl (by kernel_rfl) (by kernel_rfl) (by kernel_rfl) (fun _ _ _ h => h) SV (Or.inl ⟨by rfl, ?_⟩) ?_
              · intro X hX; go_simp
              try simp only [Act.put, List.setIfInBounds_toArray, List.set_cons_succ, List.set_cons_zero]
              refine AnyL.one (i := 16) rfl (by kernel_rfl) ?_
              refine wpOp_step rfl (fun K hK => ?_)
              refine wp_store_midL rfl 108 (.tmp 64) (.tmp 63) rfl G (f * 7) (togP [y, x.claim k]).cells.toArray rfl rfl (by rw [List.size_toArray, Cl.cells_len]; exact LsR.there Cl.cells_len SV.out.1 f (List.getElem?_eq_some_iff.1 Hy.out.1).1) (by rw [Try.infoClN]; simp [Cl.cells_len]) (Cl.one _) ?_
              have SX := Lib.hid (KeepS.put HGW.out HGS.out SV.out f (togP [y, x.claim k]) (List.getElem?_eq_some_iff.1 Hy.out.1).1)
              refine hK _ _ ⟨fun h => no_last h (by kernel_rfl), ?_⟩
              clear hK K SV
              have SV := SX
              clear SX
              refine AnyL.done (by kernel_rfl) ?_
              rw [HC1.out] at SV
              go_wp2_with (refine region_L (S := fun X => Hid (KeepS W G cs1 sp wr.heap.size xs X)) (by kernel_rfl) (fun w9 hw9 => ?_))
              have SX : Hid (KeepS W G cs1 sp wr.heap.size xs w9) := Lib.hid (by rw [← hw9]; exact KeepS.below SV.out (below_dn _ _ 1))
              clear hw9 SV
              have SV := SX
              clear SX
              try simp only [Act.put, List.setIfInBounds_toArray, List.set_cons_succ, List.set_cons_zero]
              refine AnyL.take (i := 0) (v := .slice (some ⟨G, 0, none⟩) n cap) (some 65) rfl rfl (by kernel_rfl) (by kernel_rfl) (by kernel_rfl) (fun _ _ _ h => h) SV (Or.inl ⟨by rfl, ?_⟩) ?_
              · intro X hX; go_simp
              try simp only [Act.put, List.setIfInBounds_toArray, List.set_cons_succ, List.set_cons_zero]
              refine AnyL.take (i := 1) (v := .pointer (some ⟨wr.heap.size, 0, none⟩)) (some 66) rfl rfl (by kernel_rfl) (by kernel_rfl) (by kernel_rfl) (fun _ _ _ h => h) SV (Or.inl ⟨by rfl, ?_⟩) ?_
              · intro X hX; go_simp
              try simp only [Act.put, List.setIfInBounds_toArray, List.set_cons_succ, List.set_cons_zero]
              refine AnyL.take (i := 2) (v := .pointer (some ⟨wr.heap.size, 1, none⟩)) (some 67) rfl rfl (by kernel_rfl) (by kernel_rfl) (by kernel_rfl) (fun _ _ _ h => h) SV (Or.inl ⟨by rfl, ?_⟩) ?_
              · intro X hX; go_simp
              try simp only [Act.put, List.setIfInBounds_toArray, List.set_cons_succ, List.set_cons_zero]
              refine AnyL.take (i := 3) (v := .int .i64 (t : Int)) (some 68) rfl rfl (by kernel_rfl) (by kernel_rfl) (by kernel_rfl) (fun _ _ _ h => h) SV (Or.inl ⟨by rfl, ?_⟩) ?_
              · intro X hX; have q := hX.out.2.1.cellAt 1; rw [HXC.out.2] at q; have lq := hX.out.2.1.lt; go_simp
              try simp only [Act.put, List.setIfInBounds_toArray, List.set_cons_succ, List.set_cons_zero]
              refine AnyL.take (i := 4) (v := .int .i64 (w : Int)) (some 69) rfl rfl (by kernel_rfl) (by kernel_rfl) (by kernel_rfl) (fun _ _ _ h => h) SV (Or.inl ⟨by rfl, ?_⟩) ?_
              · intro X hX; go_simp
              try simp only [Act.put, List.setIfInBounds_toArray, List.set_cons_succ, List.set_cons_zero]
              refine AnyL.take (i := 5) (v := .int .i64 (tw : Int)) (some 70) rfl rfl (by kernel_rfl) (by kernel_rfl) (by kernel_rfl) (fun _ _ _ h => h) SV (Or.inl ⟨by rfl, ?_⟩) ?_
              · intro X hX; go_simp
              try simp only [Act.put, List.setIfInBounds_toArray, List.set_cons_succ, List.set_cons_zero]
              refine AnyL.take (i := 6) (v := .slice (some ⟨G, 0, none⟩) n cap) (some 71) rfl rfl (by kernel_rfl) (by kernel_rfl) (by kernel_rfl) (fun _ _ _ h => h) SV (Or.inl ⟨by rfl, ?_⟩) ?_
              · intro X hX; go_simp
              try simp only [Act.put, List.setIfInBounds_toArray, List.set_cons_succ, List.set_cons_zero]
              refine AnyL.take (i := 7) (v := .pointer (some ⟨wr.heap.size, 0, none⟩)) (some 72) rfl rfl (by kernel_rfl) (by kernel_rfl) (by kernel_rfl) (fun _ _ _ h => h) SV (Or.inl ⟨by rfl, ?_⟩) ?_
              · intro X hX; go_simp
              try simp only [Act.put, List.setIfInBounds_toArray, List.set_cons_succ, List.set_cons_zero]
              refine AnyL.take (i := 8) (v := .pointer (some ⟨wr.heap.size, 1, none⟩)) (some 73) rfl rfl (by kernel_rfl) (by kernel_rfl) (by kernel_rfl) (fun _ _ _ h => h) SV (Or.inl ⟨by rfl, ?_⟩) ?_
              · intro X hX; go_simp
              try simp only [Act.put, List.setIfInBounds_toArray, List.set_cons_succ, List.set_cons_zero]
              refine AnyL.take (i := 9) (v := .int .i64 (t : Int)) (some 74) rfl rfl (by kernel_rfl) (by kernel_rfl) (by kernel_rfl) (fun _ _ _ h => h) SV (Or.inl ⟨by rfl, ?_⟩) ?_
              · intro X hX; have q := hX.out.2.1.cellAt 1; rw [HXC.out.2] at q; have lq := hX.out.2.1.lt; go_simp
              try simp only [Act.put, List.setIfInBounds_toArray, List.set_cons_succ, List.set_cons_zero]
              refine AnyL.take (i := 10) (v := .int .i64 (w : Int)) (some 75) rfl rfl (by kernel_rfl) (by kernel_rfl) (by kernel_rfl) (fun _ _ _ h => h) SV (Or.inl ⟨by rfl, ?_⟩) ?_
              · intro X hX; go_simp
              try simp only [Act.put, List.setIfInBounds_toArray, List.set_cons_succ, List.set_cons_zero]
              refine AnyL.take (i := 11) (v := .int .i64 (tw : Int)) (some 76) rfl rfl (by kernel_rfl) (by kernel_rfl) (by kernel_rfl) (fun _ _ _ h => h) SV (Or.inl ⟨by rfl, ?_⟩) ?_
              · intro X hX; go_simp
              try simp only [Act.put, List.setIfInBounds_toArray, List.set_cons_succ, List.set_cons_zero]
              refine AnyL.take (i := 12) (v := .pointer (some ⟨G, tw * 7, none⟩)) (some 77) rfl rfl (by kernel_rfl) (by kernel_rfl) (by kernel_rfl) (fun _ _ _ h => h) SV (Or.inl ⟨by rfl, ?_⟩) ?_
              · intro X hX; go_simp
              try simp only [Act.put, List.setIfInBounds_toArray, List.set_cons_succ, List.set_cons_zero]
              refine AnyL.take (i := 14) (v := .agg ca) (some 79) rfl rfl (by kernel_rfl) (by kernel_rfl) (by kernel_rfl) (fun _ _ _ h => h) SV (yields_loadC (by rfl) 99 (.tmp 10) rfl _ rfl ca _ (fun X hX => (whole_arr hX.out.2.1 HCE.out).loads) Try.underlying99 rfl iN.out) ?_
              try simp only [Act.put, List.setIfInBounds_toArray, List.set_cons_succ, List.set_cons_zero]
              refine AnyL.take (i := 15) (v := .int .i64 (k : Int)) (some 80) rfl rfl (by kernel_rfl) (by kernel_rfl) (by kernel_rfl) (fun _ _ _ h => h) SV (Or.inl ⟨by rfl, ?_⟩) ?_
              · intro X hX; go_simp
              try simp only [Act.put, List.setIfInBounds_toArray, List.set_cons_succ, List.set_cons_zero]
              refine AnyL.take (i := 13) (v := .agg y2.cells.toArray) (some 78) rfl rfl (by kernel_rfl) (by kernel_rfl) (by kernel_rfl) (fun _ _ _ h => h) SV (yields_loadC (by rfl) 108 (.tmp 77) rfl _ rfl y2.cells.toArray _ (fun X hX => (LsR.loads Cl.cells_len hX.out.1 Hy2.out.1)) Try.underlying108 rfl (by rw [Try.infoClN]; simp [Cl.cells_len])) ?_
              try simp only [Act.put, List.setIfInBounds_toArray, List.set_cons_succ, List.set_cons_zero]
              refine AnyL.one (i := 16) rfl (by kernel_rfl) ?_
              refine wpOp_step rfl (fun K hK => ?_)
              go_simp
              refine (HCK.out _).mono ?_
              rintro e w10 ⟨rfl, hb⟩
              have SX := Lib.hid (KeepS.below SV.out hb)
              refine hK _ _ ⟨fun _ => SX, ?_⟩
              clear hK K hb SV
              have SV := SX
              clear SX
              try simp only [Act.put, List.setIfInBounds_toArray, List.set_cons_succ, List.set_cons_zero]
              refine AnyL.one (i := 17) rfl (by kernel_rfl) ?_
              refine wpOp_step rfl (fun K hK => ?_)
              refine wp_build2 87 (.tmp 78) (.tmp 81) rfl y2.val (x.claim k).val _ rfl rfl (build_cl2 y2 (x.claim k) w10) ?_
              have W2 := Lib.hid (two_cl (whole_new w10 (y2.cells ++ (x.claim k).cells) 108 _ rfl))
              have SX := Lib.hid (KeepS.below SV.out ((Below.refl w10.heap.size w10).alloc (Nat.le_refl _) (.cells (y2.cells ++ (x.claim k).cells).toArray 108)))
              generalize w10.alloc (.cells (y2.cells ++ (x.claim k).cells).toArray 108) = w11 at W2 SX ⊢
              refine hK _ _ ⟨fun _ => SX, ?_⟩
              clear hK K SV
              have SV := SX
              clear SX
              try simp only [Act.put, List.setIfInBounds_toArray, List.set_cons_succ, List.set_cons_zero]
              refine AnyL.one (i := 18) rfl (by kernel_rfl) ?_
              refine wpOp_step rfl (fun K hK => ?_)
              go_simp
              refine (tog_any (some ⟨w10.heap.size, 0, none⟩) 2 2 [y2, x.claim k] w11 W2.out rfl (by omega) (fun c hc => ?_) (fun c hc => ?_)).mono ?_
              · rcases List.mem_cons.1 hc with rfl | hc
                · exact ⟨Hy2.out.2.1.1, Int.le_trans Hy2.out.2.1.2 HMM.out⟩
                · obtain rfl := List.mem_singleton.1 hc
                  exact ⟨by show (0 : Int) ≤ 1; omega, by show (1 : Int) ≤ _; omega⟩
              · rcases List.mem_cons.1 hc with rfl | hc
                · exact Hy2.out.2.2
                · obtain rfl := List.mem_singleton.1 hc
                  exact fun _ => HHX.out
              rintro e w12 ⟨rfl, hb⟩
              have SX := Lib.hid (KeepS.below SV.out hb)
              refine hK _ _ ⟨fun _ => SX, ?_⟩
              clear hK K hb SV W2
              have SV := SX
              clear SX
              try simp only [Act.put, List.setIfInBounds_toArray, List.set_cons_succ, List.set_cons_zero]
              refine AnyL.take (i := 19) (v := .pointer (some ⟨G, tw * 7, none⟩)) (some 84) rfl rfl (by kernel_rfl) (by kernel_rfl) (by kernel_rfl) (fun _ _ _ h => h) SV (Or.inl ⟨by rfl, ?_⟩) ?_
              · intro X hX; go_simp
              try simp only [Act.put, List.setIfInBounds_toArray, List.set_cons_succ, List.set_cons_zero]
              refine AnyL.one (i := 20) rfl (by kernel_rfl) ?_
              refine wpOp_step rfl (fun K hK => ?_)
              refine wp_store_midL rfl 108 (.tmp 84) (.tmp 83) rfl G (tw * 7) (togP [y2, x.claim k]).cells.toArray rfl rfl (by rw [List.size_toArray, Cl.cells_len]; exact LsR.there Cl.cells_len SV.out.1 tw (List.getElem?_eq_some_iff.1 Hy2.out.1).1) (by rw [Try.infoClN]; simp [Cl.cells_len]) (Cl.one _) ?_
              have SX := Lib.hid (KeepS.put HGW.out HGS.out SV.out tw (togP [y2, x.claim k]) (List.getElem?_eq_some_iff.1 Hy2.out.1).1)
              refine hK _ _ ⟨fun h => no_last h (by kernel_rfl), ?_⟩
              clear hK K SV
              have SV := SX
              clear SX
              refine AnyL.done (by kernel_rfl) ?_
              have HJ2 : Hid (CovJ k n ss W w G (j + 1) sp (2 * M0) (w12.setCells G (tw * 7) (togP [y2, x.claim k]).cells)) := Lib.hid ⟨⟨M + 2, _, L2, SV.out.1, CvI.mono HP2.out (fun s hs hd => dn_step HXJ.out hd) (Int.le_refl _), by have := HMJ.out; push_cast; omega, by have := HMJ.out; omega⟩, SV.out.2.2⟩
              go_wp2
              go_roundw
              case rel => exact ⟨j + 1, by omega, by go_num, HJ2⟩
              case measure => simp [intOf]; omega
            · have d1 : decide ((w : Int) ≤ (lo : Int)) = true := by simpa using c1
              have d2 : decide ((lo : Int) < (ww : Int)) = false := by simpa using c2
              have HJ2 : Hid (∀ Y, Below wr.heap.size wr Y → CovJ k n ss W w G (j + 1) sp (2 * M0) Y) := Lib.hid (fun Y hY => ⟨⟨M, cs, L, LsR.below HL.out hY (Whole.lt HL.out), CvI.mono HDV.out (fun s hs hd => dn_skip HXJ.out (by rw [HXF.out.1, HXF.out.2]; have := HLO.out; have := HWW.out; omega) hd) (Int.le_refl _), by have := HMJ.out; push_cast; omega, HMJ.out.2⟩, HB.out.trans (hY.mono HB.out.size)⟩)
              go_wp2_with (first
                | (refine wpList_loadC rfl 99 (.tmp 31) rfl _ rfl ca _ LN.out Try.underlying99 rfl iN.out ?_)
                    | (refine wpList_store_row rfl 99 (.tmp 10) (.tmp 32) rfl _ ca rfl rfl 99 Sr.zero.cells.toArray (whole_new wr Sr.zero.cells 99 _ rfl) iN.out zN.out oN.out ?_; refine at_worldX (fun X => Whole X wr.heap.size 99 xs ∧ Below wr.heap.size wr X) ⟨by rw [← HCE.out]; exact whole_rowA (whole_new wr Sr.zero.cells 99 _ rfl) _, ((Below.refl _ wr).alloc (Nat.le_refl _) _).trans (below_setRow (Below.refl _ _) _ _ (Nat.le_refl _))⟩ (fun X hX => ?_); obtain ⟨KX, BX⟩ := hX; have KXX := Lib.hid KX; have BXX := Lib.hid BX; clear KX BX LN oN zN; have c0 := KXX.out.cellAt 0; rw [HXC.out.1] at c0; have c1 := KXX.out.cellAt 1; rw [HXC.out.2] at c1; have l7 := KXX.out.lt)
                | fail)
              have HJ3 := Lib.hid (HJ2.out X BXX.out)
              go_roundw
              case rel => exact ⟨j + 1, by omega, by go_num, HJ3⟩
              case measure => simp [intOf]; omega
          · have d1 : decide ((w : Int) ≤ (lo : Int)) = false := by simpa using c1
            have HJ2 : Hid (∀ Y, Below wr.heap.size wr Y → CovJ k n ss W w G (j + 1) sp (2 * M0) Y) := Lib.hid (fun Y hY => ⟨⟨M, cs, L, LsR.below HL.out hY (Whole.lt HL.out), CvI.mono HDV.out (fun s hs hd => dn_skip HXJ.out (by rw [HXF.out.1, HXF.out.2]; have := HLO.out; have := HWW.out; omega) hd) (Int.le_refl _), by have := HMJ.out; push_cast; omega, HMJ.out.2⟩, HB.out.trans (hY.mono HB.out.size)⟩)
            go_wp2_with (first
              | (refine wpList_loadC rfl 99 (.tmp 31) rfl _ rfl ca _ LN.out Try.underlying99 rfl iN.out ?_)
                    | (refine wpList_store_row rfl 99 (.tmp 10) (.tmp 32) rfl _ ca rfl rfl 99 Sr.zero.cells.toArray (whole_new wr Sr.zero.cells 99 _ rfl) iN.out zN.out oN.out ?_; refine at_worldX (fun X => Whole X wr.heap.size 99 xs ∧ Below wr.heap.size wr X) ⟨by rw [← HCE.out]; exact whole_rowA (whole_new wr Sr.zero.cells 99 _ rfl) _, ((Below.refl _ wr).alloc (Nat.le_refl _) _).trans (below_setRow (Below.refl _ _) _ _ (Nat.le_refl _))⟩ (fun X hX => ?_); obtain ⟨KX, BX⟩ := hX; have KXX := Lib.hid KX; have BXX := Lib.hid BX; clear KX BX LN oN zN; have c0 := KXX.out.cellAt 0; rw [HXC.out.1] at c0; have c1 := KXX.out.cellAt 1; rw [HXC.out.2] at c1; have l7 := KXX.out.lt)
              | fail)
            have HJ3 := Lib.hid (HJ2.out X BXX.out)
            go_roundw
            case rel => exact ⟨j + 1, by omega, by go_num, HJ3⟩
            case measure => simp [intOf]; omega
        · obtain rfl : m = j := by omega
          obtain ⟨M, cs, L, hC, hV, hM, hMn⟩ := HJ.out.ex
          have hmm := HM.out
          obtain ⟨M', hM'⟩ := cov_next (k := k) (n := n) (ss := ss) (M := M) (cs := cs) (L := L) hw HE.out hw16 HM0.out.1 HM0.out.2.1 (by rw [hmm]; omega) (by rw [hmm]; exact hV) (by rw [hmm]; exact hM)
          have HC2 : Hid (CovS k n ss W (w / 2) G cap sp wr) := Lib.hid ⟨⟨M', cs, L, hC, hM'⟩, HG.out.1, HG.out.2, HJ.out.be⟩
          have hdv : Int.tdiv (w : Int) 2 = ((w / 2 : Nat) : Int) := by rw [Int.tdiv_eq_ediv_of_nonneg (by omega)]; omega
          clear hM' hC hV hM hMn hmm HJ
          obtain ⟨wh, hwh⟩ : ∃ v, w / 2 = v := ⟨_, rfl⟩
          rw [hwh] at hdv HC2
          have HWH := Lib.hid hwh
          have h64 : wrap64 (wh : Int) = (wh : Int) := by unfold wrap64; omega
          clear hwh
          go_wp2
          go_roundw
          case rel => exact ⟨wh, G, cap, sp, by rw [h64], rfl, HC2⟩
          case measure =>
            have h1 := HWH.out
            rw [h64]
            show ((wh : Nat) : Int).toNat < ((w : Nat) : Int).toNat
            rw [Int.toNat_natCast, Int.toNat_natCast, ← h1]
            exact Nat.div_lt_self hw (Nat.lt_succ_self 1)
    · obtain rfl : w = 0 := by omega
      have hgd : decide ((0 : Int) < ((0 : Nat) : Int)) = false := by simp
      obtain ⟨M, cs, L, hC, h2⟩ := HC.out.ex
      have hV : CvI k n ss 1 (fun s => (1 : Int) ≤ s.run.to - s.run.fr) M cs L := by
        rcases h2 with ⟨_, h2⟩ | ⟨h2, _⟩
        · exact h2
        · omega
      have hV2 : CvI k n ss 1 (dnP ss 1 ss.length) M cs L := CvI.mono hV (fun s hs hd => by rcases hd with hd | hd <;> omega) (Int.le_refl _)
      have HW := Lib.hid (fun i c hc => hV2.fin HR.out i c hc)
      have HLN := Lib.hid hV.len
      have HL := Lib.hid hC
      have HG := Lib.hid (show W.heap.size ≤ G1 ∧ n ≤ cap1 ∧ cap1 ≤ 9223372036854775807 from ⟨HC.out.lo, HC.out.cp⟩)
      have HB := Lib.hid HC.out.be
      have HCC := Lib.hid (HCN.out wr HB.out)
      clear hC h2 hV hV2 HC
      go_wp2_with fail
      refine HCC.out.mono ?_
      rintro e w1 ⟨rfl, h1, h2⟩
      have HI := Lib.hid h1
      have K1 : Hid (CRow w1 G1 (covS k ss cs 0) sp1) := Lib.hid (by rw [covS_zero]; exact LsR.below HL.out h2 (Whole.lt HL.out))
      have B1 := Lib.hid (HB.out.trans (h2.mono HB.out.size))
      have HNE : Hid (wr.heap.size ≠ G1) := Lib.hid (by have := Whole.lt HL.out; omega)
      obtain ⟨gc, hgc⟩ : ∃ g, g = wr.heap.size := ⟨_, rfl⟩
      rw [← hgc] at HI HNE ⊢
      clear h1 h2 HCC HL HB hgc
      go_wp2
      go_loopw [90] (fun s90 X => ∃ b : Nat, b ≤ n ∧ s90 = .int .i64 (b : Int) ∧ Hid (CRow X G1 (covS k ss cs b) sp1) ∧ Hid (IsB X gc (pL ss (n + 1) n)) ∧ Hid (Below W.heap.size W X)) (fun s90 _ => n - (intOf s90).toNat)
      case atStart => exact ⟨0, Nat.zero_le _, rfl, K1, HI, B1⟩
      case round =>
        clear K1 B1 HI
        obtain ⟨b, hb, rfl, HL, HI, HB⟩ := hrel
        by_cases hlt : b < n
        · have hg := pL_get ss (n + 1) n b (by omega)
          rw [if_pos hb] at hg
          have hbl : b < cs.length := by rw [HLN.out]; exact hlt
          have HST := Lib.hid (covS_step k ss cs b hbl (HW.out b _ (getD_get cs b hbl)) (fun s hs => (HS.out s hs).2.1))
          have hcg := covS_get k ss cs b b hbl
          rw [if_neg (by omega)] at hcg
          obtain ⟨y, hy⟩ : ∃ y, cs.getD b Cl.zero = y := ⟨_, rfl⟩
          rw [hy] at hcg HST
          have yb := HI.out.cell b _ hg
          obtain ⟨z, hz⟩ : ∃ z, pv ss b = z := ⟨_, rfl⟩
          rw [hz] at yb HST
          have y6 := LsR.cell Cl.cells_len HL.out b y hcg 6 (by omega)
          rw [show y.cells[6]? = some (.int .i64 y.n) from rfl] at y6
          have f6 := Whole.free HL.out (b * 7 + 6)
          have lg := Whole.lt HL.out
          have lc := HI.out.lt
          have hbi : (b : Int) < (n : Int) := by omega
          have H2 : Hid (CRow (wr.setCell ⟨G1, b * 7 + 6, none⟩ (.int .i64 z)) G1 (covS k ss cs (b + 1)) sp1) := Lib.hid (by
            rw [← HST.out]
            exact LsR.putc Cl.cells_len HL.out b 6 y ⟨y.won, z⟩ hcg (.int .i64 z) (by omega) rfl)
          have HI2 : Hid (IsB (wr.setCell ⟨G1, b * 7 + 6, none⟩ (.int .i64 z)) gc (pL ss (n + 1) n)) := Lib.hid (Whole.other HI.out ⟨G1, b * 7 + 6, none⟩ (.int .i64 z) HNE.out)
          have HB2 : Hid (Below W.heap.size W (wr.setCell ⟨G1, b * 7 + 6, none⟩ (.int .i64 z))) := Lib.hid (HB.out.setCell (p := ⟨G1, b * 7 + 6, none⟩) HG.out.1 _)
          clear HST hcg hg hbl hy hz
          go_wp2
          go_roundw
          case rel => exact ⟨b + 1, by omega, by go_num, H2, HI2, HB2⟩
          case measure => simp [intOf]; omega
        · obtain rfl : n = b := by omega
          go_wp2
          go_ret
          exact ⟨G1, cap1, sp1, rfl, by rw [← covS_end k ss cs n HLN.out]; exact HL.out, HG.out.1, HG.out.2.1, HG.out.2.2, HB.out⟩
end Go.Proofs.Ytceippgkmoijdaa
