/- Rows whose cells have one row each are as high as the highest of these, for any heights (the first hundred, cut to forty bits), one to twenty rows. -/
import Derived.Test.YtpbkboandiigfaaRows
import Derived.WalkKit
import Derived.ProofKit
import Derived.OpenShut
import Derived.Below
import Derived.Test.YtpbkboandiigfaaHApp
import Derived.ShutString
namespace Go.Proofs.Ytpbkboandiigfaa.heightsPlain
open Go.ChangeShapes Go.WideShapes Go.ChangeAt Go.RowKit
set_option linter.unusedVariables false

theorem own : ownKnob Try.prog.godebug = none := by kernel_rfl
theorem laidOut : laidOutB Try.prog = true := by kernel_rfl

open Go.Shelf
attribute [local go_sem] Oper.semAt_some
def msk (a : Int) : Int := bits .and .i64 a 1099511627775
theorem msk_bd (a : Int) : 0 ≤ msk a ∧ msk a ≤ 1099511627775 := by
  have hx : (BitVec.ofInt 64 a &&& BitVec.ofInt 64 1099511627775).toNat < 2 ^ 40 := by
    rw [BitVec.toNat_and]; exact Nat.and_lt_two_pow _ (by decide)
  show 0 ≤ IntKind.i64.wrap ((BitVec.ofInt 64 a &&& BitVec.ofInt 64 1099511627775).toNat : Int) ∧ IntKind.i64.wrap ((BitVec.ofInt 64 a &&& BitVec.ofInt 64 1099511627775).toNat : Int) ≤ 1099511627775
  rw [IntKind.wrap_i64]
  omega
def pcA (r : Nat) : Pc := ⟨0, (r : Int), 0, 1, 1⟩
def plP (n i : Nat) : List Pc := (List.range i).map fun j => pcA (j % n)
theorem plP_succ (n i : Nat) : plP n (i + 1) = plP n i ++ [pcA (i % n)] := by simp [plP, List.range_succ]
theorem plP_len (n i : Nat) : (plP n i).length = i := by simp [plP]
def mkP (hs : List Int) (i : Nat) : List Int := (hs.take i).map msk
theorem mkP_succ (hs : List Int) (i : Nat) (h : i < hs.length) : mkP hs (i + 1) = mkP hs i ++ [msk (hs[i]?.getD 0)] := by
  unfold mkP
  rw [List.take_add_one, List.getElem?_eq_getElem h, List.map_append]; rfl
theorem mkP_len (hs : List Int) (i : Nat) (h : i ≤ hs.length) : (mkP hs i).length = i := by simp [mkP]; omega
/-- what the rows are to be -/
def wantP (n : Nat) (hs : List Int) : Nat → List Int
  | 0 => List.replicate n 0
  | i + 1 => (wantP n hs i).set (i % n) (max ((wantP n hs i)[i % n]?.getD 0) (msk (hs[i]?.getD 0)))
theorem wantP_len (n : Nat) (hs : List Int) (i : Nat) : (wantP n hs i).length = n := by
  induction i with
  | zero => simp [wantP]
  | succ i ih => simp [wantP, ih]
theorem reqP_zero (n : Nat) : reqP (List.replicate n 0) = List.replicate n 0 := by simp [reqP]
theorem zip_at (n m : Nat) (hs : List Int) (hm : hs.length = m) (i : Nat) (h : i < m) : (htZ (plP n m) (mkP hs m))[i]? = some ((pcA (i % n)).ht (msk (hs[i]?.getD 0))) := by
  unfold htZ plP mkP
  rw [List.getElem?_zipWith, List.getElem?_map, List.getElem?_range h, List.getElem?_map, List.getElem?_take_of_lt h, List.getElem?_eq_getElem (by omega)]
  rfl
theorem zip_ok (n m : Nat) (hs : List Int) (hm : hs.length = m) (n1 : 1 ≤ n) (n2 : n ≤ 20) : ∀ s ∈ htZ (plP n m) (mkP hs m), HtOk 3 n s ∧ s.rs = 1 ∧ htB n s = true ∧ s.fit := fun s hs' => by
  obtain ⟨k, hk⟩ := List.mem_iff_getElem?.1 hs'
  have hkl : k < m := by
    have := (List.getElem?_eq_some_iff.1 hk).1
    rw [htZ_len _ _ (by rw [plP_len, mkP_len _ _ (by omega)]), plP_len] at this
    exact this
  rw [zip_at n m hs hm k hkl] at hk
  injection hk with hk
  have hb := msk_bd (hs[k]?.getD 0)
  have hr : k % n < n := Nat.mod_lt _ (by omega)
  have hB : htB n s = true := by
    rw [htB_iff, ← hk]
    simp only [pcA, Pc.ht]
    omega
  refine ⟨HtOk.of hB (by omega) (by omega) (by omega), by rw [← hk]; rfl, hB, ?_⟩
  rw [← hk]
  refine ⟨?_, ?_⟩ <;> simp only [pcA, Pc.ht] <;> constructor <;> omega
theorem least_want (n m : Nat) (hs : List Int) (hm : hs.length = m) (n1 : 1 ≤ n) (n2 : n ≤ 20) : leastP (List.replicate n 0) (htZ (plP n m) (mkP hs m)) 3 = wantP n hs m := by
  have hok := zip_ok n m hs hm n1 n2
  unfold leastP
  rw [List.length_replicate, htL_ones n n1 _ (fun s hs' => (hok s hs').2.1), reqP_zero]
  have hzl : (htZ (plP n m) (mkP hs m)).length = m := by rw [htZ_len _ _ (by rw [plP_len, mkP_len _ _ (by omega)]), plP_len]
  have key : ∀ i, i ≤ m → meetsH 3 (List.replicate n 0) ((htZ (plP n m) (mkP hs m)).take i) = wantP n hs i := by
    intro i
    induction i with
    | zero => intro _; rfl
    | succ i ih =>
      intro hi
      have hz := zip_at n m hs hm i (by omega)
      rw [meetsH_snoc _ _ _ _ _ hz]
      have hL := meetsH_ok (gap := 3) (m := n) ((htZ (plP n m) (mkP hs m)).take i) (L := List.replicate n 0) (by simp) (fun z hz => by have := List.eq_of_mem_replicate hz; omega) (fun s hs' => (hok s (List.mem_of_mem_take hs')).1)
      have hz1 := hok _ (List.mem_of_getElem? hz)
      rw [meet_one hz1.1 hz1.2.1 hL.1 hL.2, ih (by omega)]
      rfl
  have := key m (Nat.le_refl _)
  rw [List.take_of_length_le (by omega)] at this
  exact this
theorem least_right (n m : Nat) (hs : List Int) (hm : hs.length = m) (n1 : 1 ≤ n) (n2 : n ≤ 20) (m2 : m ≤ 100) : leastR (List.replicate n 0) (plP n m) (mkP hs m) 3 = true := by
  unfold leastR
  rw [Bool.and_eq_true]
  refine ⟨by rw [plP_len]; simp; omega, rightH_of (by rw [plP_len, mkP_len _ _ (by omega)]) (by simp; omega) (by omega) (fun z hz => ?_) (fun z hz => ?_)⟩
  · rw [reqP_zero] at hz; have := List.eq_of_mem_replicate hz; omega
  · rw [List.length_replicate]; exact (zip_ok n m hs hm n1 n2 z hz).2.2.1
theorem iarg_row {W : World} {g m : Nat} {zs : List Int} (h : IRow W g zs []) (hm : zs.length = m) (hc : m ≤ 1000000) : IArg W (some ⟨g, 0, none⟩) m m zs := by
  unfold IRow at h
  rw [List.append_nil] at h
  exact iarg_new h hm hc
theorem make_i64P (m : Nat) (hm : m ≤ 1000000) (w : World) : (Instr.makeSlice 22 (.int .i64 m) (.int .i64 m)).run Try.prog w = .ok (.slice (some ⟨w.heap.size, 0, none⟩) m m) (w.alloc (.cells ((List.replicate m (0 : Int)).map (Value.int .i64)).toArray 2)) := by
  obtain ⟨i, hi, hz, h1, h2⟩ := info_partsH Try.infoI64N
  have hr := run_make (P := Try.prog) w 22 2 i (.int .i64 0) Try.underlying22 hi hz .i64 .i64 m m (by omega) (Int.le_refl _) (by rw [h2]; omega) (by omega)
  rw [hr, h1]
  simp only [Int.toNat_natCast]
  rw [show (madeCells (Value.int IntKind.i64 0).cells (m * 1)) = ((List.replicate m (0 : Int)).map (Value.int .i64)).toArray from by
    apply Array.toList_inj.1
    rw [show (Value.int IntKind.i64 0).cells = #[Value.int .i64 0] from rfl, toList_madeCells_one]; simp]
set_option maxRecDepth 100000 in
set_option maxHeartbeats 8000000 in
theorem walk (w : World) (a0 : Option Addr) (len0 cap0 : Nat) (z0 : List Int) (w0 : IntArg w a0 len0 cap0 z0) (a1 : Int) (w1 : (Lit.int .i64 a1).wf = true) :
    Calls Try.prog 7 #[.slice a0 len0 cap0, .int .i64 a1] w fun e w' => e = .returned (.bool true) ∧ Below w.heap.size w w' := by
  obtain ⟨hr, hrf, hr1, hr2, hr3⟩ := IntArg.take w0 100
  have HS := Lib.hid (fun X => shown16_any X)
  have hmin : min (len0 : Int) 100 = ((min len0 100 : Nat) : Int) := by omega
  have hml : min len0 100 ≤ 100 := by omega
  have hmc : min len0 100 ≤ cap0 := by omega
  have hcs : (a0 = none ∧ min len0 100 = 0 ∧ cap0 = 0 ∧ len0 = 0) ∨ ∃ g off mm, a0 = some ⟨g, off, mm⟩ := by
    rcases hr3 with ⟨h1, h2, h3⟩ | h
    · exact .inl ⟨h1, by omega, h3, h2⟩
    · exact .inr h
  generalize min len0 100 = m at *
  generalize z0.take 100 = hs at *
  have HRA := Lib.hid (fun X (hX : Below w.heap.size w X) => (hr.below hX).ints)
  have HRL := Lib.hid hr.len
  have hi := i64H w1
  clear w0 hr hrf hr1 hr2 hr3 w1
  by_cases hb : a1 < 1 ∨ 20 < a1
  · rcases (show a1 < 1 ∨ (¬ a1 < 1 ∧ a1 > 20) by omega) with h2 | ⟨h2, h3⟩
    all_goals
      clear hb hi
      rcases hcs with ⟨rfl, rfl, rfl, rfl⟩ | ⟨g, off, mm, rfl⟩
      all_goals
        go_enter Try.func7, Try.ntmps7
        go_wp2_with fail
        refine (HS.out _).mono ?_
        rintro e wa ⟨rfl, ba⟩
        have BA := Lib.hid ba
        clear ba HS
        go_wp2
        go_ret
        exact ⟨by first | rfl | (simp; done), BA.out⟩
  obtain ⟨n, rfl⟩ : ∃ n : Nat, a1 = (n : Int) := ⟨a1.toNat, by omega⟩
  have n1 : 1 ≤ n := by omega
  have n2 : n ≤ 20 := by omega
  have g1 : ¬ (n : Int) < 1 := by omega
  have g2 : ¬ (n : Int) > 20 := by omega
  clear hb hi
  have hmk := make_i64P n (by omega)
  obtain ⟨zc, hzc⟩ : ∃ zc, ((List.replicate n (0 : Int)).map (Value.int .i64)).toArray = zc := ⟨_, rfl⟩
  rw [hzc] at hmk
  have HZC := Lib.hid hzc
  have HWE := Lib.hid (least_want n m hs HRL.out n1 n2)
  have HLR := Lib.hid (least_right n m hs HRL.out n1 n2 hml)
  have HOK := Lib.hid (zip_ok n m hs HRL.out n1 n2)
  clear hzc
  rcases hcs with ⟨rfl, rfl, rfl, rfl⟩ | ⟨g, off, mm, rfl⟩
  ·
    go_enter Try.func7, Try.ntmps7
    go_wp2_with fail
    refine (HS.out _).mono ?_
    rintro e wa ⟨rfl, ba⟩
    have BA := Lib.hid ba
    clear ba HS
    have R1 : Hid (IRow ((wa.alloc (.cells zc 2)).alloc (.cells zc 2)) wa.heap.size (List.replicate n 0) []) := Lib.hid (by rw [← HZC.out]; exact (IRow.new wa _ _ rfl).alloc _)
    have R2 : Hid (IRow ((wa.alloc (.cells zc 2)).alloc (.cells zc 2)) (wa.heap.size + 1) (List.replicate n 0) []) := Lib.hid (by rw [← HZC.out]; exact IRow.new (wa.alloc _) _ _ (by simp))
    have R3 : Hid (Below wa.heap.size wa ((wa.alloc (.cells zc 2)).alloc (.cells zc 2))) := Lib.hid (((Below.refl _ wa).alloc (Nat.le_refl _) _).alloc (by simp) _)
    have R4 : Hid (((wa.alloc (.cells zc 2)).alloc (.cells zc 2)).heap.size = wa.heap.size + 2) := Lib.hid (by simp)
    go_wp2
    obtain ⟨wb, hwb⟩ : ∃ wb, (wa.alloc (.cells zc 2)).alloc (.cells zc 2) = wb := ⟨_, rfl⟩
    rw [hwb] at R1 R2 R3 R4 ⊢
    have BB := Lib.hid (BA.out.trans (R3.out.mono BA.out.size))
    have T0 := Lib.hid (TwoG.nil wa wb R3.out)
    rw [R4.out] at T0
    clear hwb hmk HZC R3 R4 BB
    go_loopw [8, 9, 10] (fun s8 s9 s10 X => ∃ (i : Nat) (v1 v2 : Value), i ≤ 0 ∧ v1 = s8 ∧ v2 = s9 ∧ s10 = .int .i64 (i : Int) ∧ Hid (TwoG wa (wa.heap.size + 2) (plP n i) (mkP hs i) v1 v2 X) ∧ Hid (IRow X wa.heap.size (List.replicate n 0) []) ∧ Hid (IRow X (wa.heap.size + 1) (wantP n hs i) [])) (fun _ _ s10 _ => 0 - (intOf s10).toNat)
    case atStart => exact ⟨0, _, _, Nat.zero_le _, rfl, rfl, rfl, T0, R1, R2⟩
    case round =>
      clear T0 R1 R2
      obtain ⟨i, v1, v2, hi, rfl, rfl, rfl, HT, HA, HW⟩ := hrel
      have BW := BA.out.trans (HT.out.lo.mono BA.out.size)
      by_cases hlt : i < 0
      · exfalso; omega
      · obtain rfl : 0 = i := by omega
        have hl1 : (plP n 0).length = 0 := plP_len n 0
        have hl2 : (mkP hs 0).length = 0 := mkP_len hs 0 (by rw [HRL.out]; exact Nat.le_refl _)
        have o1 := HT.out.o1
        have o2 := HT.out.o2
        have P1 := own_plcs o1 (by omega)
        have P2 := own_intsH o2 (by omega)
        obtain ⟨p1, c1, hf1⟩ := own_formH o1
        obtain ⟨p2, c2, hf2⟩ := own_formH o2
        rw [hl1] at hf1
        rw [hl2] at hf2
        subst hf1 hf2
        have C1 := Lib.hid (least_any _ p1 p2 n n 0 c1 0 c2 (List.replicate n 0) (plP n 0) (mkP hs 0) 3 wr (iarg_row HA.out (by simp) (by omega)) (by omega) P1 hl1 P2 hl2 (fun z hz => (HOK.out z hz).2.2.2) (by omega) (by omega))
        have BX := Lib.hid BW
        have HWN := Lib.hid (HW.out.all n n (wantP_len n hs 0) (Nat.le_refl _) (by omega))
        clear P1 P2 o1 o2 hl1 hl2 HT HA HW BW HRA HOK
        go_wp2_with fail
        refine C1.out.mono ?_
        rintro e w5 ⟨b5, ⟨_, p5, c5, rfl, hn5, _⟩ | ⟨hno, rfl⟩⟩
        rotate_left
        · rw [HLR.out] at hno; cases hno
        rw [HWE.out] at hn5
        rw [List.length_replicate] at hn5 ⊢
        have htr : decide (wantP n hs 0 = wantP n hs 0) = true := by simp
        have C5 := Lib.hid (same_any _ _ _ _ w5 hn5 (nums_below HWN.out b5))
        rw [htr] at C5
        have B5 := Lib.hid (BX.out.trans (b5.mono BX.out.size))
        clear htr C1 b5 hn5 HWN BX HWE HLR
        go_wp2_with fail
        refine C5.out.mono ?_
        rintro e w6 ⟨rfl, n6, rfl⟩
        clear C5
        go_wp2
        go_ret
        exact ⟨by first | rfl | (simp; done), B5.out.trans (below_dn _ _ _)⟩
  ·
    go_enter Try.func7, Try.ntmps7
    go_wp2_with fail
    refine (HS.out _).mono ?_
    rintro e wa ⟨rfl, ba⟩
    have BA := Lib.hid ba
    clear ba HS
    have R1 : Hid (IRow ((wa.alloc (.cells zc 2)).alloc (.cells zc 2)) wa.heap.size (List.replicate n 0) []) := Lib.hid (by rw [← HZC.out]; exact (IRow.new wa _ _ rfl).alloc _)
    have R2 : Hid (IRow ((wa.alloc (.cells zc 2)).alloc (.cells zc 2)) (wa.heap.size + 1) (List.replicate n 0) []) := Lib.hid (by rw [← HZC.out]; exact IRow.new (wa.alloc _) _ _ (by simp))
    have R3 : Hid (Below wa.heap.size wa ((wa.alloc (.cells zc 2)).alloc (.cells zc 2))) := Lib.hid (((Below.refl _ wa).alloc (Nat.le_refl _) _).alloc (by simp) _)
    have R4 : Hid (((wa.alloc (.cells zc 2)).alloc (.cells zc 2)).heap.size = wa.heap.size + 2) := Lib.hid (by simp)
    go_wp2
    obtain ⟨wb, hwb⟩ : ∃ wb, (wa.alloc (.cells zc 2)).alloc (.cells zc 2) = wb := ⟨_, rfl⟩
    rw [hwb] at R1 R2 R3 R4 ⊢
    have BB := Lib.hid (BA.out.trans (R3.out.mono BA.out.size))
    have T0 := Lib.hid (TwoG.nil wa wb R3.out)
    rw [R4.out] at T0
    clear hwb hmk HZC R3 R4 BB
    go_loopw [8, 9, 10] (fun s8 s9 s10 X => ∃ (i : Nat) (v1 v2 : Value), i ≤ m ∧ v1 = s8 ∧ v2 = s9 ∧ s10 = .int .i64 (i : Int) ∧ Hid (TwoG wa (wa.heap.size + 2) (plP n i) (mkP hs i) v1 v2 X) ∧ Hid (IRow X wa.heap.size (List.replicate n 0) []) ∧ Hid (IRow X (wa.heap.size + 1) (wantP n hs i) [])) (fun _ _ s10 _ => m - (intOf s10).toNat)
    case atStart => exact ⟨0, _, _, Nat.zero_le _, rfl, rfl, rfl, T0, R1, R2⟩
    case round =>
      clear T0 R1 R2
      obtain ⟨i, v1, v2, hi, rfl, rfl, rfl, HT, HA, HW⟩ := hrel
      have BW := BA.out.trans (HT.out.lo.mono BA.out.size)
      by_cases hlt : i < m
      · obtain ⟨rb, ro, hre, hrc⟩ : ∃ b o, (some (⟨g, off, mm⟩ : Addr)) = some ⟨b, o, none⟩ ∧ wr.cell? ⟨b, o + i, none⟩ = some (.int .i64 (hs[i]?.getD 0)) := by
          obtain ⟨_, ⟨a, c', e, he⟩ | ⟨b, off, c', e, hc⟩⟩ := (HRA.out wr BW)
          · have := HRL.out; rw [he] at this; simp at this; omega
          · injection e with e1
            exact ⟨b, off, e1, hc i (by rw [HRL.out]; omega)⟩
        injection hre with hre
        injection hre with e1 e2 e3
        subst e1 e2 e3
        have lr := cell_lt hrc
        have hps := plP_succ n i
        have hms := mkP_succ hs i (by rw [HRL.out]; exact hlt)
        have hws : wantP n hs (i + 1) = (wantP n hs i).set (i % n) (max ((wantP n hs i)[i % n]?.getD 0) (msk (hs[i]?.getD 0))) := rfl
        have hmd : i % n < n := Nat.mod_lt _ (by omega)
        have hwl := wantP_len n hs i
        have hpl := plP_len n i
        have hkl := mkP_len hs i (by rw [HRL.out]; exact hi)
        have hmb := msk_bd (hs[i]?.getD 0)
        have hmk : bits .and .i64 (hs[i]?.getD 0) 1099511627775 = msk (hs[i]?.getD 0) := rfl
        generalize hs[i]?.getD 0 = z at *
        generalize msk z = x at *
        obtain ⟨r, hrr⟩ : ∃ r, i % n = r := ⟨_, rfl⟩
        have e2 : Int.tmod (i : Int) (n : Int) = (r : Int) := by rw [← hrr]; rfl
        rw [hrr] at hps hws hmd
        have hnI : ((n : Int) == 0) = false := by simp; omega
        have HPS := Lib.hid hps
        have HMS := Lib.hid hms
        have HWS := Lib.hid hws
        obtain ⟨PL, hPL⟩ : ∃ L, plP n i = L := ⟨_, rfl⟩
        obtain ⟨ML, hML⟩ : ∃ L, mkP hs i = L := ⟨_, rfl⟩
        obtain ⟨WL, hWL⟩ : ∃ L, wantP n hs i = L := ⟨_, rfl⟩
        rw [hPL] at HT HPS hpl
        rw [hML] at HT HMS hkl
        rw [hWL] at HW HWS hwl
        clear hps hms hws hPL hML hWL hrr HRA HWE HLR HOK BW
        have HK1 := Lib.hid (whole_new wr (pcA r).cells 35 wr.heap.size rfl)
        have HT1 := Lib.hid (HT.out.below ((Below.refl _ wr).alloc (Nat.le_refl _) (.cells (pcA r).cells.toArray 35)))
        have HA1 := Lib.hid (HA.out.alloc (.cells (pcA r).cells.toArray 35))
        have HW1 := Lib.hid (HW.out.alloc (.cells (pcA r).cells.toArray 35))
        have lA := HA.out.lt
        have hPC : (pcA r).cells.toArray = #[.int .i64 0, .int .i64 (r : Int), .int .i64 0, .int .i64 1, .int .i64 1] := rfl
        rw [hPC] at HK1 HT1 HA1 HW1
        clear HT HA HW hPC
        go_wp2_with (first
          | (at_builtin; go_loud (refine wpList_appP (some 48) rfl rfl _ _ rfl (wa.heap.size + 2) v1 PL rfl HT1.out.o1 wr.heap.size (pcA r) rfl (fun j u hj => (HK1.out.cellAt j).trans hj) (by omega) HT1.out.sz ?_; intro v1' w' h1 h2 h3; refine Hid.out ?_))
          | fail)
        have HT2 := Lib.hid (HT1.out.app1 (by omega) h1 h2 h3)
        rw [← HPS.out] at HT2
        have HA2 := Lib.hid (show IRow w' wa.heap.size _ _ from Whole.grown HA1.out h2 (fun e => by have := (HT1.out.o1.lt _ e).1; omega))
        have HW2 := Lib.hid (show IRow w' (wa.heap.size + 1) _ _ from Whole.grown HW1.out h2 (fun e => by have := (HT1.out.o1.lt _ e).1; omega))
        clear h1 h2 h3 HT1 HA1 HW1 HK1 hrc lr
        refine Lib.hid ?_
        have HK3 := Lib.hid (whole_new w' [.int .i64 x] 2 w'.heap.size rfl)
        have HT3 := Lib.hid (HT2.out.below ((Below.refl _ w').alloc (Nat.le_refl _) (.cells #[.int .i64 x] 2)))
        have HA3 := Lib.hid (HA2.out.alloc (.cells #[.int .i64 x] 2))
        have HW3 := Lib.hid (HW2.out.alloc (.cells #[.int .i64 x] 2))
        clear HT2 HA2 HW2
        go_wp2_with (first
          | (at_builtin; go_loud (refine wpList_appL (some 52) rfl rfl _ _ rfl (wa.heap.size + 2) v2 ML rfl HT3.out.o2 w'.heap.size x rfl (HK3.out.cellAt 0) (by omega) HT3.out.sz ?_; intro v2' w2 h1 h2 h3; refine Hid.out ?_))
          | fail)
        have HT4 := Lib.hid (HT3.out.app2 (by omega) h1 h2 h3)
        rw [← HMS.out] at HT4
        have HA4 := Lib.hid (show IRow w2 wa.heap.size _ _ from Whole.grown HA3.out h2 (fun e => by have := (HT3.out.o2.lt _ e).1; omega))
        have HW4 := Lib.hid (show IRow w2 (wa.heap.size + 1) _ _ from Whole.grown HW3.out h2 (fun e => by have := (HT3.out.o2.lt _ e).1; omega))
        clear h1 h2 h3 HT3 HA3 HW3 HK3
        refine Lib.hid ?_
        have q5 := HW4.out.cell r (by rw [hwl]; exact hmd)
        have f5 := HW4.out.free r
        have l5 := HW4.out.lt
        obtain ⟨y, hy⟩ : ∃ y, WL[r]?.getD 0 = y := ⟨_, rfl⟩
        rw [hy] at q5 HWS
        have U5 : Hid (Upd [wa.heap.size + 1] w2 (w2.setCell ⟨wa.heap.size + 1, r, none⟩ (.int .i64 (max y x))).drew) := Lib.hid ((Upd.set w2 _ _ _ (by simp)).trans (Upd.drew _ _ 1))
        have HT5 := Lib.hid (HT4.out.upd U5.out (by omega) (by omega))
        have HA5 := Lib.hid (HA4.out.upd U5.out (by simp))
        have hsr := HW4.out.set r (max y x) (by rw [hwl]; exact hmd)
        rw [← HWS.out] at hsr
        have HW5 : Hid (IRow (w2.setCell ⟨wa.heap.size + 1, r, none⟩ (.int .i64 (max y x))).drew (wa.heap.size + 1) (wantP n hs (i + 1)) []) := Lib.hid (hsr.below (below_dn w2.heap.size _ 1) (by exact HW4.out.lt))
        clear HT4 HA4 HW4 U5 hy hsr
        have mixed : Try.prog.follows Departure.mixedOrders = true := by kernel_rfl
        go_wp2_with fail
        go_big_region_o
        generalize (w2.setCell ⟨wa.heap.size + 1, r, none⟩ (.int .i64 (max y x))).drew = w5 at *
        go_wp2
        go_roundw
        case rel => exact ⟨i + 1, _, _, by omega, rfl, rfl, by go_num, HT5, HA5, HW5⟩
        case measure => simp [intOf]; omega

      · obtain rfl : m = i := by omega
        have hl1 : (plP n m).length = m := plP_len n m
        have hl2 : (mkP hs m).length = m := mkP_len hs m (by rw [HRL.out]; exact Nat.le_refl _)
        have o1 := HT.out.o1
        have o2 := HT.out.o2
        have P1 := own_plcs o1 (by omega)
        have P2 := own_intsH o2 (by omega)
        obtain ⟨p1, c1, hf1⟩ := own_formH o1
        obtain ⟨p2, c2, hf2⟩ := own_formH o2
        rw [hl1] at hf1
        rw [hl2] at hf2
        subst hf1 hf2
        have C1 := Lib.hid (least_any _ p1 p2 n n m c1 m c2 (List.replicate n 0) (plP n m) (mkP hs m) 3 wr (iarg_row HA.out (by simp) (by omega)) (by omega) P1 hl1 P2 hl2 (fun z hz => (HOK.out z hz).2.2.2) (by omega) (by omega))
        have BX := Lib.hid BW
        have HWN := Lib.hid (HW.out.all n n (wantP_len n hs m) (Nat.le_refl _) (by omega))
        clear P1 P2 o1 o2 hl1 hl2 HT HA HW BW HRA HOK
        go_wp2_with fail
        refine C1.out.mono ?_
        rintro e w5 ⟨b5, ⟨_, p5, c5, rfl, hn5, _⟩ | ⟨hno, rfl⟩⟩
        rotate_left
        · rw [HLR.out] at hno; cases hno
        rw [HWE.out] at hn5
        rw [List.length_replicate] at hn5 ⊢
        have htr : decide (wantP n hs m = wantP n hs m) = true := by simp
        have C5 := Lib.hid (same_any _ _ _ _ w5 hn5 (nums_below HWN.out b5))
        rw [htr] at C5
        have B5 := Lib.hid (BX.out.trans (b5.mono BX.out.size))
        clear htr C1 b5 hn5 HWN BX HWE HLR
        go_wp2_with fail
        refine C5.out.mono ?_
        rintro e w6 ⟨rfl, n6, rfl⟩
        clear C5
        go_wp2
        go_ret
        exact ⟨by first | rfl | (simp; done), B5.out.trans (below_dn _ _ _)⟩


set_option maxRecDepth 100000 in
theorem lifted (os : Os) (started : os.Started) (H : Type) (enc : TypeId × Value → H) :
    ReturnsInHanded {} Try.checked os 7 .any (Rows.heightsPlainSpec.pre6 enc Try.prog Try.f7 Rows.heightsPlainRow.domain false) (Rows.heightsPlainSpec.post enc Try.prog Try.f7 false true false false) := by
  refine returnsInHanded_of_change (C := Try.checked) own started (by kernel_rfl) Try.func7
    (ChangeSpec.witness6 (enc := enc) (C := Try.checked) false ⟨#[], #[.slice none 0 0, .int .i64 0], []⟩ 8 (by kernel_rfl) (by kernel_rfl) (by kernel_rfl) (by kernel_rfl)) ?_
  intro W base args ds gs before hval0 hW hcnd _
  have hval : ∀ (j : Nat) t v, Try.f7.params[j]? = some t → args[j]? = some v → Value.okWide Try.prog W .any base t v := hval0
  have hW' := hW
  obtain ⟨p, q, hA0, hV, rfl, hfz, hnd⟩ := hW
  have hA : DataW.TrodAll enc Try.prog W 0 (fun _ => true) true Try.f7.params.toList args.toList ds p := hA0
  rw [Try.params7] at hA hval
  obtain ⟨v0, vs0, d0, ds0, p0, q0, hargs, rfl, rfl, h0, r0⟩ := trodAll_cons hA
  obtain ⟨v1, vs1, d1, ds1, p1, q1, rfl, rfl, rfl, h1, r1⟩ := trodAll_cons r0
  obtain ⟨rfl, rfl, rfl⟩ := trodAll_nil r1
  obtain rfl : args = #[v0, v1] := by cases args; simp_all
  obtain ⟨rfl, rfl⟩ := trodVars_none hV
  obtain ⟨a0, len0, cap0, rfl⟩ := okWide_slice Try.underlying22 (hval 0 22 v0 rfl rfl)
  have k0 := h0
  have lt0 : ∀ x ∈ p0, x.block < W.heap.size := by obtain ⟨m, hm⟩ := k0; exact DataW.trod_lt m _ _ _ hm
  obtain ⟨z0, w0⟩ : ∃ zs, IntArg W a0 len0 cap0 zs := by
    obtain ⟨fuel, hf⟩ := h0
    exact open_intsH (by simpa [Value.cells] using hf)
  obtain ⟨a1, rfl, rfl, rfl, w1⟩ := open_int Try.underlying3 (hval 1 3 v1 rfl rfl) h1
  clear hA0 hval0
  simp only [List.append_nil] at hW'
  refine (walk W a0 len0 cap0 z0 w0 a1 w1).mono fun e W' ⟨he, hg⟩ => ?_
  subst he
  exact ⟨_, rfl, _, _, _, [], _, [], hW', (trodAll_cons_mk (shut_bool Try.underlying4 _) trodAll_mk0), (trodAll_cons_mk (Below.trod laidOut (by kernel_rfl) (of_decide_eq_true (by kernel_rfl)) k0 hg lt0) (trodAll_cons_mk (shut_int Try.underlying3 w1) trodAll_mk0)), rfl, hg.frame _, fun h => by cases h⟩

theorem over : Rows.heightsPlainRow.holds Try.pinned (OpenSpec.ofChange Rows.heightsPlainSpec) :=
  OpenClaim.holds_of_wide 7 Try.f7 rfl rfl rfl rfl rfl rfl rfl ⟨rfl, rfl, rfl, rfl, rfl⟩ rfl rfl rfl rfl rfl (by kernel_rfl) Try.func7 (by kernel_rfl)
    (of_decide_eq_true (by kernel_rfl)) (by unfold Func.isWrapper; first | (rw [if_pos (by decide +kernel)]; kernel_rfl) | (rw [if_neg (by decide +kernel)]; exact ⟨rfl, rfl⟩))
    (fun os started H enc _ => lifted os started H enc)

/-- the statement -/
theorem proved : Rows.HeightsPlainSaid :=
  over
#print axioms proved
end Go.Proofs.Ytpbkboandiigfaa.heightsPlain
