/- Contract of the shares of a length (fixed.Share), for at most nineteen weights. -/
import Derived.Test.YtpbkboandiigfaaPlainShare
namespace Go.Proofs.Ytpbkboandiigfaa
open Go.RowKit Go.Shelf Go.Sort Go.Lib
set_option linter.unusedVariables false

/-- one unit more, at each place of a list -/
def incL (b : List Int) (l : List Nat) : List Int := l.foldl (fun b i => b.set i (b[i]?.getD 0 + 1)) b
theorem incL_length (b : List Int) (l : List Nat) : (incL b l).length = b.length := by
  unfold incL
  induction l generalizing b with
  | nil => rfl
  | cons a l ih => rw [List.foldl_cons, ih]; simp
theorem incL_snoc (b : List Int) (l : List Nat) (i : Nat) : incL b (l ++ [i]) = (incL b l).set i ((incL b l)[i]?.getD 0 + 1) := by simp [incL]
theorem incL_bd (b : List Int) (l : List Nat) (lo hi : Int) (h : ∀ z ∈ b, lo ≤ z ∧ z ≤ hi) : ∀ z ∈ incL b l, lo ≤ z ∧ z ≤ hi + l.length := by
  unfold incL
  induction l generalizing b hi with
  | nil => intro z hz; have := h z hz; simp; omega
  | cons a l ih =>
    intro z hz
    rw [List.foldl_cons] at hz
    have := ih (b.set a (b[a]?.getD 0 + 1)) (hi + 1) (fun y hy => by
      rcases List.mem_or_eq_of_mem_set hy with hy | rfl
      · have := h y hy; omega
      · by_cases ha : a < b.length
        · have := h b[a] (List.getElem_mem ha); simp [ha]; omega
        · simp [List.set_eq_of_length_le (by omega : b.length ≤ a)] at hy
          have := h _ hy; omega) z hz
    simp; omega
def baseL (t : Int) (cs : List Int) : List Int := cs.map fun z => t * z / sumZ cs
def restL (t : Int) (cs : List Int) : List Int := cs.map fun z => t * z % sumZ cs
def leftZ (t : Int) (cs : List Int) : Nat := (t - sumZ (baseL t cs)).toNat
theorem counted_length (zs : List Int) : (counted zs).length = zs.length := by unfold counted; split <;> simp
theorem counted_ok (zs : List Int) (h : OkW zs) : OkW (counted zs) := by
  unfold counted; split
  · exact okw_ones _
  · exact h
theorem sumZ_bd (zs : List Int) (h : OkW zs) : 0 ≤ sumZ zs ∧ sumZ zs ≤ zs.length * 1125899906842623 := by
  induction zs with
  | nil => simp [sumZ]
  | cons a l ih =>
    rw [sumZ_cons]
    have h1 := h a (by simp)
    have h2 := ih (fun z hz => h z (by simp [hz]))
    simp only [List.length_cons]; omega
theorem counted_pos (zs : List Int) (h : OkW zs) (hn : 1 ≤ zs.length) : 0 < sumZ (counted zs) := by
  unfold counted; split
  · rw [sumZ_ones]; omega
  · have := sumZ_bd zs h; omega
theorem le_sumZ (zs : List Int) (h : ∀ z ∈ zs, 0 ≤ z) : ∀ z ∈ zs, z ≤ sumZ zs := by
  induction zs with
  | nil => intro z hz; cases hz
  | cons a l ih =>
    intro z hz
    rw [sumZ_cons]
    have h1 := h a (by simp)
    have hl := sumZ_nonneg l (fun z hz => h z (by simp [hz]))
    rcases List.mem_cons.1 hz with rfl | hz
    · omega
    · have := ih (fun z hz => h z (by simp [hz])) z hz; omega

set_option maxHeartbeats 1000000 in
theorem share_bad1 (a0 : Option Addr) (len cap : Nat) (t : Int) (w : World) (hm : len ≤ 9223372036854775807) (h : mayB t len = false) :
    Calls Try.prog 50 #[.int .i64 t, .slice a0 len cap] w fun e w' => e = .returned (.tuple #[.slice none 0 0, .int .i64 10]) ∧ w = w' := by
  go_enter Try.func50, Try.ntmps50
  go_wp2_with (go_at_call 68; refine (shareable_any _ _ _).mono ?_; rintro e w' ⟨rfl, rfl⟩)
  go_ret2
  exact ⟨rfl, rfl⟩
set_option maxHeartbeats 1000000 in
theorem share_bad2 (a0 : Option Addr) (cap : Nat) (t : Int) (zs : List Int) (w : World) (hI : Nums .i64 w (.slice a0 zs.length cap) zs) (h : mayB t zs.length = true) (hno : ¬ OkW zs) :
    Calls Try.prog 50 #[.int .i64 t, .slice a0 zs.length cap] w fun e w' => e = .returned (.tuple #[.slice none 0 0, .int .i64 10]) ∧ Below w.heap.size w w' := by
  have hb : 0 ≤ t ∧ t ≤ 1152921504606846975 ∧ (1 : Int) ≤ zs.length ∧ (zs.length : Int) ≤ 10000 := by simpa [mayB] using h
  have HI := Lib.hid hI
  have HN := Lib.hid hno
  obtain ⟨t0, t1, n0, n1⟩ := hb
  clear hI hno
  go_enter Try.func50, Try.ntmps50
  go_wp2_with (first
    | (go_at_call 68; refine (shareable_any _ _ _).mono ?_; rintro e w' ⟨rfl, rfl⟩)
    | (go_at_call 69; refine (weigh_any _ _ zs _ HI.out (by omega) (by omega)).mono ?_; rintro e w1 ⟨hb1, ⟨_, rfl⟩ | ⟨hok, _⟩⟩; rotate_left; exact absurd hok HN.out))
  go_ret2
  exact ⟨rfl, hb1⟩

/-- the order of remainders, wherever they lie -/
def OrderAt (n : Nat) (ord : List Int → List Nat) : Prop := ∀ (rs : List Int) (C : Nat) (w : World), rs.length = n → (∀ j, j < n → w.cell? ⟨C, j, none⟩ = some (.int .u64 (rs[j]?.getD 0))) →
  Calls Try.prog 71 #[.slice (some ⟨C, 0, none⟩) n n] w fun e W' => Below w.heap.size w W' ∧ ∃ B, e = .returned (.slice (some ⟨B, 0, none⟩) n n) ∧ w.heap.size ≤ B ∧ (ord rs).length = n ∧ (∀ i ∈ ord rs, i < n) ∧
    ∀ j, j < n → W'.cell? ⟨B, j, none⟩ = some (.int .i64 (((ord rs)[j]?.getD 0 : Nat) : Int))
theorem order_small_at (m : Nat) (hm : m + 1 ≤ 19) : OrderAt (m + 1) (fun rs => (ordArr rs m).toList.map (·.val)) := by
  intro rs C w hl hC
  refine (order_small rs m C w hl hm hC).mono fun e W' ⟨hb, B, he, hB, hH⟩ => ⟨hb, B, he, hB, ?_⟩
  have hsz : (ordArr rs m).size = m + 1 := by unfold ordArr; rw [size_insertionSort, iota_size]
  refine ⟨by simp [hsz], ?_, ?_⟩
  · intro i hi
    obtain ⟨x, _, rfl⟩ := List.mem_map.1 hi
    exact x.isLt
  · intro j hj
    have := (hH j (by omega)).1
    rw [Nat.zero_add] at this
    rw [this]
    have hj' : j < (ordArr rs m).size := by omega
    rw [getElem!_pos _ j hj']
    simp [encF, hj']

def shareL (ord : List Int → List Nat) (t : Int) (cs : List Int) : List Int := incL (baseL t cs) ((ord (restL t cs)).take (leftZ t cs))

set_option maxHeartbeats 600000 in
theorem share_good (ord : List Int → List Nat) (a0 : Option Addr) (cap : Nat) (t : Int) (zs : List Int) (w : World) (hord : OrderAt zs.length ord) (hI : Nums .i64 w (.slice a0 zs.length cap) zs) (h : mayB t zs.length = true) (hok : OkW zs) :
    Calls Try.prog 50 #[.int .i64 t, .slice a0 zs.length cap] w fun e w' => (∃ v, e = .returned (.tuple #[v, .int .i64 0]) ∧ Made .i64 2 w.heap.size w' v (shareL ord t (counted zs))) ∧ Below w.heap.size w w' := by
  have hb : 0 ≤ t ∧ t ≤ 1152921504606846975 ∧ (1 : Int) ≤ zs.length ∧ (zs.length : Int) ≤ 10000 := by simpa [mayB] using h
  obtain ⟨t0, t1, n0, n1⟩ := hb
  have HI := Lib.hid hI
  have HK := Lib.hid hok
  have HO := Lib.hid hord
  obtain ⟨cs, hcs⟩ : ∃ cs, counted zs = cs := ⟨_, rfl⟩
  have hcl : cs.length = zs.length := by rw [← hcs, counted_length]
  have hcok : OkW cs := by rw [← hcs]; exact counted_ok zs hok
  have hsp : 0 < sumZ cs := by rw [← hcs]; exact counted_pos zs hok (by omega)
  have hsb : sumZ cs ≤ 11258999068426230000 := by have := (sumZ_bd cs hcok).2; omega
  have hle := le_sumZ cs (fun z hz => (hcok z hz).1)
  have HZ : Hid (∀ j, j < cs.length → 0 ≤ cs[j]?.getD 0 ∧ cs[j]?.getD 0 ≤ sumZ cs) := fun j hj => by
    have hm := List.getElem_mem hj
    simp only [hj, List.getElem?_eq_getElem, Option.getD_some]
    exact ⟨(hcok _ hm).1, hle _ hm⟩
  have HCS := Lib.hid hcs
  have HCL := Lib.hid hcl
  have HCO := Lib.hid hcok
  clear hI hok hord hcs hcl hle hcok
  obtain ⟨sm, hsm⟩ : ∃ sm, sumZ cs = sm := ⟨_, rfl⟩
  rw [hsm] at hsp hsb HZ
  have HSM := Lib.hid hsm
  clear hsm
  go_enter Try.func50, Try.ntmps50
  go_wp2_with (first
    | (go_at_call 68; refine (shareable_any _ _ _).mono ?_; rintro e w' ⟨rfl, rfl⟩)
    | (go_at_call 69; refine (weigh_any _ _ zs _ HI.out (by omega) (by omega)).mono ?_; rintro e w1 ⟨hb1, ⟨hno, _⟩ | ⟨_, a1, cap1, rfl, hn1⟩⟩; exact absurd HK.out hno; rw [HCS.out, HSM.out])
    | fail)
  rw [HCS.out] at hn1
  have hdiv := divide_any t sm a1 cap1 cs w1 (by rw [HCL.out]; exact hn1) (by have := HCL.out; omega) (by have := HCL.out; omega) t0 t1 hsp hsb HZ
  rw [HCL.out] at hdiv
  with_reducible refine hdiv.mono ?_
  rintro e w2 ⟨hb2, A, C, rfl, hA, hC, hAl, hCl, hne⟩
  rw [HCL.out]
  clear hdiv hn1
  have ebase : (cs.map fun z => Value.int .i64 (t * z / sm)) = (baseL t cs).map (Value.int .i64) := by unfold baseL; rw [HSM.out, List.map_map]; rfl
  have erest : (cs.map fun z => Value.int .u64 (t * z % sm)) = (restL t cs).map (Value.int .u64) := by unfold restL; rw [HSM.out, List.map_map]; rfl
  rw [ebase] at hA; rw [erest] at hC
  have lbase : (baseL t cs).length = zs.length := by rw [← HCL.out]; simp [baseL]
  have lrest : (restL t cs).length = zs.length := by rw [← HCL.out]; simp [restL]
  have hbd := left_bd t sm cs hsp HSM.out (by have := HCL.out; omega)
  have hbn : ∀ z ∈ baseL t cs, 0 ≤ z := by
    intro z hz; obtain ⟨y, hy, rfl⟩ := List.mem_map.1 hz
    rw [HSM.out]; exact Int.ediv_nonneg (Int.mul_nonneg t0 (HCO.out y hy).1) (by omega)
  have hsum : sumZ (cs.map fun z => t * z / sm) = sumZ (baseL t cs) := by unfold baseL; rw [HSM.out]
  rw [hsum] at hbd
  have hadd := addS_of (baseL t cs) hbn (by omega)
  have hbt : ∀ z ∈ baseL t cs, 0 ≤ z ∧ z ≤ t := fun z hz => ⟨hbn z hz, by have := le_sumZ _ hbn z hz; omega⟩
  obtain ⟨L, hL⟩ : ∃ L : Nat, leftZ t cs = L := ⟨_, rfl⟩
  have hLv : t - sumZ (baseL t cs) = (L : Int) := by rw [← hL, leftZ]; omega
  have hLn : L < zs.length := by have := HCL.out; omega
  have hL1 : (L : Int) ≤ zs.length := by omega
  have hnA : Nums .i64 w2 (.slice (some ⟨A, 0, none⟩) zs.length zs.length) (baseL t cs) := by
    refine ⟨by omega, .inr ⟨A, 0, zs.length, by rw [lbase], by omega, by omega, fun j hj => ?_⟩⟩
    rw [Nat.zero_add, hA.cellAt]; simp [hj]
  have hin : In64 (baseL t cs) := fun j hj => by
    have hm := List.getElem_mem hj
    have := hbt _ hm
    simp [hj]; omega
  have HADD := Lib.hid (add_any _ _ w2 hnA hin)
  have hOC := HO.out (restL t cs) C w2 lrest (fun j hj => by rw [hC.cellAt]; simp [lrest, hj])
  have HOC := Lib.hid hOC
  have HA := Lib.hid hA
  have HV := Lib.hid hadd
  have HLV := Lib.hid hLv
  have HLL := Lib.hid hL
  have HBT := Lib.hid hbt
  have LB := Lib.hid lbase
  have hs0 : -9223372036854775808 ≤ addS (baseL t cs) ∧ addS (baseL t cs) ≤ 9223372036854775807 := addS_bd _
  have hsub : sat (t - addS (baseL t cs)) = (L : Int) := by rw [hadd, hLv]; exact sat_in (by omega) (by omega)
  have hsubc := fun X => sub_any t (addS (baseL t cs)) X (by omega) (by omega) hs0.1 hs0.2
  rw [hsub] at hsubc
  have HSUB := Lib.hid hsubc
  clear ebase erest lbase lrest hbd hbn hsum hadd hbt hL hLv hnA hin hOC hA hs0 hsub hsubc hC HZ
  go_wp2_with (first
    | (go_at_call 51; refine HADD.out.mono ?_; rintro e w' ⟨rfl, rfl⟩)
    | (go_at_call 43; refine (HSUB.out _).mono ?_; rintro e w' ⟨rfl, rfl⟩)
    | fail)
  refine HOC.out.mono ?_
  rintro e w3 ⟨hb3, B, rfl, hBl, hlen, hlt, hcells⟩
  have hA3 : Whole w3 A 2 ((baseL t cs).map (Value.int .i64)) := HA.out.below hb3 HA.out.lt
  have HAB : Hid (A ≠ B) := by have := HA.out.lt; show A ≠ B; omega
  have HAW : Hid (w.heap.size ≤ A) := Nat.le_trans hb1.size hAl
  have HB3 : Hid (Below w.heap.size w w3) := (hb1.trans (hb2.mono hb1.size)).trans (hb3.mono (Nat.le_trans hb1.size hb2.size))
  have HA3 := Lib.hid hA3
  have HLN := Lib.hid hlen
  have HLT := Lib.hid hlt
  have HCE := Lib.hid hcells
  obtain ⟨os, hos⟩ : ∃ os, ord (restL t cs) = os := ⟨_, rfl⟩
  rw [hos] at HLN HLT HCE
  have HOS := Lib.hid hos
  clear hA3 hlen hlt hcells hos hb1 hb2 hb3 hAl hCl hBl hne HOC HADD HSUB
  go_wp2
  go_loopw [43] (fun i wr => ∃ k : Nat, k ≤ L ∧ i = .int .i64 k ∧ Hid (Whole wr A 2 ((incL (baseL t cs) (os.take k)).map (Value.int .i64))) ∧ Hid (∀ j, j < zs.length → wr.cell? ⟨B, j, none⟩ = some (.int .i64 ((os[j]?.getD 0 : Nat) : Int))) ∧ Hid (Below w.heap.size w wr)) (fun i _ => L - (intOf i).toNat)
  case atStart => exact ⟨0, Nat.zero_le _, rfl, by simpa [incL] using HA3, HCE, HB3⟩
  case round =>
    obtain ⟨k, hk, rfl, hw, hc, hb⟩ := hrel
    by_cases hlt : k < L
    · have hck := hc.out k (by omega)
      have hmem : os[k]?.getD 0 ∈ os := by
        have : k < os.length := by rw [HLN.out]; omega
        simp [this]
      have hon := HLT.out _ hmem
      obtain ⟨o, ho⟩ : ∃ o, os[k]?.getD 0 = o := ⟨_, rfl⟩
      rw [ho] at hck hon
      have hil : o < (incL (baseL t cs) (os.take k)).length := by rw [incL_length, LB.out]; exact hon
      obtain ⟨x, hx⟩ : ∃ x, (incL (baseL t cs) (os.take k))[o]?.getD 0 = x := ⟨_, rfl⟩
      have hcx : wr.cell? ⟨A, o, none⟩ = some (.int .i64 x) := by rw [hw.out.cellAt, ← hx]; simp [hil]
      have hfx := hw.out.free o
      have hxb : 0 ≤ x ∧ x ≤ t + (os.take k).length := by
        rw [← hx]; simp only [hil, List.getElem?_eq_getElem, Option.getD_some]
        exact incL_bd _ _ _ _ HBT.out _ (List.getElem_mem hil)
      have hx0 := hxb.1
      have hx1 : x ≤ 1152921504606856975 := by have := hxb.2; have := List.length_take_le k os; omega
      have hon' : (o : Int) < zs.length := by omega
      have hkn' : (k : Int) < zs.length := by omega
      have H1 : Hid (Whole (wr.setCell ⟨A, o, none⟩ (.int .i64 (x + 1))) A 2 ((incL (baseL t cs) (os.take (k + 1))).map (Value.int .i64))) := by
        have h1 := hw.out.set o (.int .i64 (x + 1))
        have hkl : k < os.length := by rw [HLN.out]; omega
        have e : os.take (k + 1) = os.take k ++ [o] := by rw [List.take_succ_eq_append_getElem hkl]; simp [hkl] at ho; rw [ho]
        rw [e, incL_snoc, hx, List.map_set]; exact h1
      have H2 : Hid (∀ j, j < zs.length → (wr.setCell ⟨A, o, none⟩ (.int .i64 (x + 1))).cell? ⟨B, j, none⟩ = some (.int .i64 ((os[j]?.getD 0 : Nat) : Int))) := fun j hj => by
        rw [World.cell?_of_block (Below.heap_setCell _ _ _ _ (fun e => HAB.out e.symm))]; exact hc.out j hj
      have H3 : Hid (Below w.heap.size w (wr.setCell ⟨A, o, none⟩ (.int .i64 (x + 1)))) := hb.out.setCell (p := ⟨A, o, none⟩) HAW.out _
      clear ho hx hil hmem hxb
      go_wp2
      go_roundw
      case rel => exact ⟨k + 1, by omega, by go_num, H1, H2, H3⟩
      case measure => simp [intOf]; omega
    · obtain rfl : k = L := by omega
      go_wp2
      go_ret2
      refine ⟨⟨_, rfl, ?_⟩, hb.out⟩
      have hl : (shareL ord t (counted zs)).length = zs.length := by rw [HCS.out, shareL, incL_length, LB.out]
      unfold Made
      rw [hl]
      have e : shareL ord t (counted zs) = incL (baseL t cs) (os.take k) := by rw [HCS.out, shareL, HOS.out, HLL.out]
      rw [e]
      exact block_own hw.out HAW.out (by simp [incL_length, LB.out]) (by omega)
end Go.Proofs.Ytpbkboandiigfaa
