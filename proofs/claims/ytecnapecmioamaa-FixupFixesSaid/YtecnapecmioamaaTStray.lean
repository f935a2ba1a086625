/- Which node occurs not once, or is not reached (tree.firstStray). -/
import Derived.Test.YtecnapecmioamaaTLink
import Derived.Test.YtecnapecmioamaaSComp
import Derived.Laws.OwnMore
import Derived.Laws.MakeOwn
namespace Go.Proofs.Ytecnapecmioamaa
open Go.RowKit Go.Shelf
set_option linter.unusedVariables false
attribute [local go_sem] Oper.semAt_some

/-- one more of place z -/
def bump (ts : List Int) (z : Int) : List Int := ts.set z.toNat (ts[z.toNat]?.getD 0 + 1)
/-- how often each place occurs in P, the root once more -/
def tms (m : Nat) (P : List Int) : List Int := P.foldl bump ((List.replicate m 0).set 0 1)
theorem bump_len (ts : List Int) (z : Int) : (bump ts z).length = ts.length := by simp [bump]
theorem tms_len (m : Nat) (P : List Int) : (tms m P).length = m := by
  unfold tms
  have : ∀ (P : List Int) (ts : List Int), (P.foldl bump ts).length = ts.length := by
    intro P
    induction P with
    | nil => intro ts; rfl
    | cons z P ih => intro ts; simp only [List.foldl_cons]; rw [ih, bump_len]
  rw [this]; simp
theorem tms_snoc (m : Nat) (P : List Int) (z : Int) : tms m (P ++ [z]) = bump (tms m P) z := by simp [tms, List.foldl_append]
/-- the number: how often -/
theorem tms_get (m : Nat) (P : List Int) (hP : ∀ z ∈ P, 0 ≤ z) (j : Nat) (hj : j < m) : (tms m P)[j]?.getD 0 = (P.count (j : Int) : Int) + if j = 0 then 1 else 0 := by
  have key : ∀ (P : List Int), (∀ z ∈ P, 0 ≤ z) → ∀ (ts : List Int), j < ts.length → (P.foldl bump ts)[j]?.getD 0 = ts[j]?.getD 0 + (P.count (j : Int) : Int) := by
    intro P
    induction P with
    | nil => intro _ ts _; simp
    | cons z P ih =>
      intro hz ts hl
      simp only [List.foldl_cons]
      rw [ih (fun y hy => hz y (by simp [hy])) _ (by rw [bump_len]; exact hl)]
      have hz0 := hz z (by simp)
      rw [List.count_cons]
      unfold bump
      by_cases he : z = (j : Int)
      · subst he; simp [hl]; omega
      · have : z.toNat ≠ j := by omega
        rw [List.getElem?_set_ne this]; simp [he]
  unfold tms
  rw [key P hP _ (by simp; exact hj)]
  by_cases h0 : j = 0
  · subst h0; simp [hj]; omega
  · have : (0 : Nat) ≠ j := by omega
    rw [List.getElem?_set_ne this]; simp [h0, hj]
theorem tms_bound (m : Nat) (P : List Int) (hP : ∀ z ∈ P, 0 ≤ z) (j : Nat) (hj : j < m) : 0 ≤ (tms m P)[j]?.getD 0 ∧ (tms m P)[j]?.getD 0 ≤ 1 + P.length := by
  rw [tms_get m P hP j hj]
  have := List.count_le_length (a := (j : Int)) (l := P)
  split <;> omega
def strayB (x : Int × Int) : Bool := decide (x.1 ≠ 1) || decide (x.2 = 0)
def kidsOf (ns : List Nd) : List Int := ns.flatMap Nd.ks
theorem kids_snoc (ns : List Nd) (i : Nat) (n : Nd) (h : ns[i]? = some n) : kidsOf (ns.take (i + 1)) = kidsOf (ns.take i) ++ n.ks := by
  unfold kidsOf
  rw [List.take_add_one, h]; simp
theorem kids_len (ns : List Nd) (i : Nat) (h : ∀ n ∈ ns, n.ks.length ≤ 70000) : (kidsOf (ns.take i)).length ≤ 70000 * i := by
  induction i with
  | zero => simp [kidsOf]
  | succ i ih =>
    cases hn : ns[i]? with
    | none =>
      have : ns.length ≤ i := by simpa using hn
      rw [List.take_of_length_le (by omega)]; rw [List.take_of_length_le this] at ih; omega
    | some n =>
      rw [kids_snoc ns i n hn, List.length_append]
      have := h n (List.mem_iff_getElem?.2 ⟨i, hn⟩)
      omega
def Nd.zero : Nd := ⟨0, .slice none 0 0, [], Sty.zero, .slice none 0 0, [], 0, 0⟩
theorem nd_one (n : Nd) (W : World) (h : n.ok W) : n.cells.toArray.all (·.oneCell') = true := by
  obtain ⟨p, c, hp⟩ := h.1.form
  obtain ⟨p', c', hp'⟩ := h.2.1.form
  unfold Nd.cells ndCells
  rw [n.s.cells_lit, hp, hp']; simp [Value.oneCell']
theorem Try.infoInt : (Try.prog.info? 3).map (fun i => (i.zero, i.size, i.bytes)) = some (some (.int .i64 0), 1, 8) := by kernel_rfl
theorem make_ints (m : Nat) (hm : m ≤ 1000000000) (w : World) : (Instr.makeSlice 34 (.int .i64 m) (.int .i64 m)).run Try.prog w = .ok (.slice (some ⟨w.heap.size, 0, none⟩) m m) (w.alloc (.cells ((List.replicate m (0 : Int)).map (Value.int .i64)).toArray 3)) := by
  cases hi : Try.prog.info? 3 with
  | none => have := Try.infoInt; rw [hi] at this; cases this
  | some i =>
    have h := Try.infoInt
    rw [hi] at h
    simp only [Option.map_some, Option.some.injEq, Prod.mk.injEq] at h
    obtain ⟨hz, h1, h2⟩ := h
    have hr := run_make (P := Try.prog) w 34 3 i (.int .i64 0) Try.underlying34 hi hz .i64 .i64 m m (by omega) (Int.le_refl _) (by rw [h2]; omega) (by omega)
    rw [hr, h1]
    simp only [Int.toNat_natCast]
    rw [show (madeCells (Value.int IntKind.i64 0).cells (m * 1)) = ((List.replicate m (0 : Int)).map (Value.int .i64)).toArray from by
      apply Array.toList_inj.1
      rw [show (Value.int IntKind.i64 0).cells = #[Value.int .i64 0] from rfl, toList_madeCells_one]; simp]
theorem at_world {P : Program} {ops : Array Oper} {rest : List Oper} {a : Act} {W : World} {Q : Exit → Act → World → Prop} (p : World → Prop) (h : p W) (k : ∀ X, p X → wpList P ops Q rest a X) : wpList P ops Q rest a W := k W h
theorem whole_row_other {W : World} {g t : Nat} {xs : List Value} (h : Whole W g t xs) (k : Nat) (cs : Array Value) (hne : g ≠ k) : Whole (W.setRow k cs) g t xs := (setRow_other W k g cs hne).trans h
theorem Ints.at' {W : World} {q : Option Addr} {kc : Nat} {zs : List Int} (h : Ints W (.slice q zs.length kc) zs) (t : Nat) (ht : t < zs.length) :
    ∃ kb koff, q = some ⟨kb, koff, none⟩ ∧ ∀ j, j < zs.length → W.cell? ⟨kb, koff + j, none⟩ = some (.int .i64 (zs[j]?.getD 0)) := by
  obtain ⟨_, ⟨a, cap, e, rfl⟩ | ⟨b, off, cap, e, hc⟩⟩ := h
  · simp at ht
  · injection e with e1 e2 e3; exact ⟨b, off, e1, hc⟩
theorem map_int_get (zs : List Int) (j : Nat) (h : j < zs.length) : (zs.map (Value.int .i64))[j]? = some (.int .i64 (zs[j]?.getD 0)) := by simp [h]
theorem nd_size0 : Nd.zero.cells.toArray.size = 34 := by simp [Nd.len]
set_option maxRecDepth 100000 in
set_option maxHeartbeats 2000000 in
theorem stray_at (b off cap : Nat) (ns : List Nd) (db doff dcap : Nat) (ds : List Int) (w : World) (hm : ns.length ≤ 65536) (h1 : 1 ≤ ns.length) (hd : ds.length = ns.length)
    (hok : ∀ n ∈ ns, n.ok w) (hc : ∀ i n, ns[i]? = some n → NdAt w b (off + i * 34) n) (hdv : ∀ j, j < ds.length → w.cell? ⟨db, doff + j, none⟩ = some (.int .i64 (ds[j]?.getD 0)))
    (hK : ∀ n ∈ ns, n.ks.length ≤ 70000) (hL : ∀ n ∈ ns, ∀ z ∈ n.ks, 1 ≤ z ∧ z < ns.length) :
    Calls Try.prog 34 #[.slice (some ⟨b, off, none⟩) ns.length cap, .slice (some ⟨db, doff, none⟩) ns.length dcap] w fun e W' => e = .returned (.int .i64 (idxI strayB ((tms ns.length (kidsOf ns)).zip ds))) ∧ Below w.heap.size w W' := by
  obtain ⟨m, hmm⟩ : ∃ m, ns.length = m := ⟨_, rfl⟩
  have HOK := Lib.hid hok
  have HC := Lib.hid hc
  have HD := Lib.hid hdv
  have HK := Lib.hid hK
  have HL := Lib.hid hL
  have HM := Lib.hid hmm
  rw [hmm] at hm h1 hd ⊢
  have HDS := Lib.hid hd
  have hm' : (m : Int) ≤ 140737488355328 := by omega
  have hmk := make_ints m (by omega)
  have W0 : Hid (Whole (w.alloc (.cells (((List.replicate m (0 : Int)).map (Value.int .i64)).set 0 (.int .i64 1)).toArray 3)) w.heap.size 3 (((List.replicate m (0 : Int)).map (Value.int .i64)).set 0 (.int .i64 1))) := Lib.hid (whole_new w _ _ _ rfl)
  obtain ⟨zc, hzc⟩ : ∃ zc, ((List.replicate m (0 : Int)).map (Value.int .i64)).toArray = zc := ⟨_, rfl⟩
  have q0 : zc[0]? = some (.int .i64 0) := by rw [← hzc]; simp [show 0 < m by omega]
  rw [show (((List.replicate m (0 : Int)).map (Value.int .i64)).set 0 (.int .i64 1)).toArray = (((List.replicate m (0 : Int)).map (Value.int .i64)).toArray).setIfInBounds 0 (.int .i64 1) from by apply Array.toList_inj.1; simp only [Array.toList_setIfInBounds]] at W0
  rw [hzc] at hmk W0
  have B0 : Hid (Below w.heap.size w (w.alloc (.cells (zc.setIfInBounds 0 (.int .i64 1)) 3))) := Lib.hid ((Below.refl _ w).alloc (Nat.le_refl _) _)
  have T0 : Hid ((tms m (kidsOf (ns.take 0))).map (Value.int .i64) = ((List.replicate m (0 : Int)).map (Value.int .i64)).set 0 (.int .i64 1)) := Lib.hid (by simp [tms, kidsOf, List.map_set])
  clear hok hc hK hL hmm hdv hzc hd
  obtain ⟨r, hr⟩ : ∃ r, idxI strayB ((tms m (kidsOf ns)).zip ds) = r := ⟨_, rfl⟩
  rw [hr]
  have HR := Lib.hid hr
  clear hr
  go_enter Try.func34, Try.ntmps34
  go_wp2
  go_loopw [19] (fun i wr => ∃ k : Nat, k ≤ m ∧ i = .int .i64 k ∧ Hid (Whole wr w.heap.size 3 ((tms m (kidsOf (ns.take k))).map (.int .i64))) ∧ Hid (Below w.heap.size w wr)) (fun i _ => m - (intOf i).toNat)
  case atStart => exact ⟨0, Nat.zero_le _, rfl, Lib.hid (by rw [T0.out]; exact W0.out), B0⟩
  case round =>
    obtain ⟨k, hk, rfl, HW, HB⟩ := hrel
    clear hmk W0 q0 B0 T0
    by_cases hlt : k < m
    · obtain ⟨n, hn⟩ : ∃ n, ns[k]? = some n := ⟨_, List.getElem?_eq_getElem (by rw [HM.out]; exact hlt)⟩
      have hmem : n ∈ ns := List.mem_iff_getElem?.2 ⟨k, hn⟩
      have LN := Lib.hid ((HC.out k n hn).below HB.out).load
      have iN := Lib.hid (nd_info n)
      have oN := Lib.hid (nd_one n w (HOK.out n hmem))
      have zN : Hid (Nd.zero.cells.toArray.size = n.cells.toArray.size) := Lib.hid (by simp [Nd.len])
      have SN := Lib.hid (kids_snoc ns k n hn)
      have HKN := Lib.hid (HK.out n hmem)
      have HLN := Lib.hid (HL.out n hmem)
      have HPB := Lib.hid (kids_len ns k HK.out)
      have HPL : Hid (∀ z ∈ kidsOf (ns.take k), 0 ≤ z) := Lib.hid fun z hz => by
        unfold kidsOf at hz
        obtain ⟨n', hn', hz'⟩ := List.mem_flatMap.1 hz
        have := HL.out n' (List.mem_of_mem_take hn') z hz'
        omega
      obtain ⟨q, kc, hkv⟩ := (HOK.out n hmem).1.form
      have HI : Hid (Ints w (.slice q n.ks.length kc) n.ks) := Lib.hid (by rw [← hkv]; exact (HOK.out n hmem).1)
      have hks := (HOK.out n hmem).1.small
      have HCS : Hid (∀ X g, Whole X g 47 n.cells → X.cell? ⟨g, 1, none⟩ = some (.slice q n.ks.length kc) ∧ g < X.heap.size) := Lib.hid fun X g h => ⟨by rw [h.cellAt, n.c1, hkv], h.lt⟩
      obtain ⟨cs, hcs⟩ : ∃ cs, n.cells.toArray = cs := ⟨_, rfl⟩
      rw [hcs] at LN iN oN zN
      have HCC := Lib.hid hcs
      have hz0 : w.heap.size ≤ wr.heap.size := HB.out.size
      have hwl := HW.out.lt
      generalize kidsOf (ns.take k) = P at *
      generalize n.ks = kk at *
      clear hcs hn hmem hkv
      go_wp2_with (first
        | (refine wpList_load_at rfl 47 (.tmp 21) rfl _ rfl cs _ LN.out Try.underlying47 rfl iN.out ?_)
        | (refine wpList_store_row rfl 47 (.tmp 7) (.tmp 22) rfl _ cs rfl rfl 47 Nd.zero.cells.toArray (whole_new wr Nd.zero.cells 47 _ rfl) iN.out zN.out oN.out ?_; refine at_world (fun X => Whole X wr.heap.size 47 n.cells ∧ Whole X w.heap.size 3 ((tms m P).map (.int .i64)) ∧ Below w.heap.size w X) ⟨by rw [← HCC.out]; exact whole_row (whole_new wr Nd.zero.cells 47 _ rfl) _, whole_row_other (HW.out.alloc _) _ _ (by omega), (HB.out.alloc hz0 _).trans (below_row _ _ _ hz0)⟩ (fun X hX => ?_); obtain ⟨KX, HX, BX⟩ := hX; obtain ⟨kx, lx⟩ := HCS.out X _ KX; have HXX := Lib.hid HX; have BXX := Lib.hid BX; clear KX HX BX))
      clear HW HB LN iN oN zN HCS HCC hwl
      go_loopw [26] (fun j x => ∃ t : Nat, t ≤ kk.length ∧ j = .int .i64 t ∧ Hid (Whole x w.heap.size 3 ((tms m (P ++ kk.take t)).map (.int .i64))) ∧ Hid (Below w.heap.size w x)) (fun j _ => kk.length - (intOf j).toNat)
      case atStart => exact ⟨0, Nat.zero_le _, rfl, Lib.hid (by simpa using HXX.out), BXX⟩
      case round =>
        obtain ⟨t, ht, rfl, HW, HB⟩ := hrel
        clear HXX BXX kx lx
        by_cases htl : t < kk.length
        · obtain ⟨kb, koff, rfl, hcell⟩ := HI.out.at' t htl
          obtain ⟨z, hz⟩ : ∃ z, kk[t]? = some z := ⟨_, List.getElem?_eq_getElem htl⟩
          have hzb := HLN.out z (List.mem_iff_getElem?.2 ⟨t, hz⟩)
          obtain ⟨zn, rfl⟩ : ∃ zn : Nat, z = (zn : Int) := ⟨z.toNat, by omega⟩
          have c0 := hcell t htl
          rw [hz] at c0
          simp only [Option.getD_some] at c0
          have cz := (HB.out.cell (p := ⟨kb, koff + t, none⟩) (cell_lt c0)).trans c0
          have lkb := Nat.lt_of_lt_of_le (cell_lt c0) HB.out.size
          have hznm : zn < m := by have := HM.out; omega
          have hpt : ∀ y ∈ P ++ kk.take t, 0 ≤ y := fun y hy => by
            rcases List.mem_append.1 hy with h | h
            · exact HPL.out y h
            · have := HLN.out y (List.mem_of_mem_take h); omega
          have htb := tms_bound m (P ++ kk.take t) hpt zn hznm
          have hlen : (P ++ kk.take t).length ≤ 5000000000 := by
            have h1 := HPB.out
            have h2 := HKN.out
            rw [List.length_append, List.length_take]
            omega
          have hts : P ++ kk.take (t + 1) = (P ++ kk.take t) ++ [(zn : Int)] := by
            rw [List.take_add_one, hz]; simp
          have HTS : Hid ((tms m (P ++ kk.take (t + 1))).map (Value.int .i64) = ((tms m (P ++ kk.take t)).map (Value.int .i64)).set zn (.int .i64 ((tms m (P ++ kk.take t))[zn]?.getD 0 + 1))) := Lib.hid (by
            rw [hts, tms_snoc]; unfold bump; simp [List.map_set])
          have ct := (HW.out.cellAt zn).trans (map_int_get _ zn (by rw [tms_len]; exact hznm))
          have ft := HW.out.free zn
          have lt := HW.out.lt
          clear hpt hts hz hcell HI c0
          generalize (tms m (P ++ kk.take t))[zn]?.getD 0 = tz at *
          have htz : tz ≤ 5000000001 := by omega
          go_wp2
          go_roundw
          case rel => exact ⟨t + 1, by omega, by go_num, Lib.hid (by rw [HTS.out]; exact HW.out.set zn _), Lib.hid (HB.out.setCell (p := ⟨w.heap.size, zn, none⟩) (Nat.le_refl _) _)⟩
          case measure => simp [intOf]; omega
        · have hte : kk.take t = kk := List.take_of_length_le (by omega)
          have hW : Hid (Whole wr w.heap.size 3 ((tms m (P ++ kk)).map (.int .i64))) := Lib.hid (by rw [← hte]; exact HW.out)
          clear hte HW HI
          go_wp2
          go_roundw
          case rel => exact ⟨k + 1, by omega, by go_num, Lib.hid (by rw [SN.out]; exact hW.out), HB⟩
          case measure => simp [intOf]; omega
    · have hT : Hid (Whole wr w.heap.size 3 ((tms m (kidsOf ns)).map (.int .i64))) := Lib.hid (by
        have h := HW.out
        rwa [List.take_of_length_le (by rw [HM.out]; omega)] at h)
      have hlen := tms_len m (kidsOf ns)
      clear HW HOK HC HK HL
      generalize tms m (kidsOf ns) = ts at *
      go_wp2
      go_loopw [40] (fun i x => ∃ k : Nat, k ≤ m ∧ i = .int .i64 k ∧ x = wr ∧ Hid (((ts.zip ds).take k).any strayB = false)) (fun i _ => m - (intOf i).toNat)
      case atStart => exact ⟨0, Nat.zero_le _, rfl, rfl, by simp [Lib.hid]⟩
      case round =>
        obtain ⟨j, hj, rfl, rfl, A⟩ := hrel
        by_cases hjl : j < m
        · have hj2 : j < ts.length := by omega
          have hj3 : j < ds.length := by rw [HDS.out]; exact hjl
          have ct := (hT.out.cellAt j).trans (map_int_get _ j hj2)
          have lt := hT.out.lt
          have cd := HD.out j hj3
          have cd' := (HB.out.cell (p := ⟨db, doff + j, none⟩) (cell_lt cd)).trans cd
          have ld := Nat.lt_of_lt_of_le (cell_lt cd) HB.out.size
          have hx : (ts.zip ds)[j]? = some (ts[j]?.getD 0, ds[j]?.getD 0) := by rw [List.getElem?_eq_getElem (by simp; omega)]; simp [hj2, hj3]
          generalize ts[j]?.getD 0 = tz at *
          generalize ds[j]?.getD 0 = dz at *
          have HX := Lib.hid hx
          clear hx cd hj2 hj3
          by_cases ht : tz = 1
          · subst ht
            by_cases hz : dz = 0
            · subst hz
              have R := Lib.hid (idxI_hit strayB _ j _ A.out HX.out rfl)
              go_wp2
              go_ret
              exact ⟨by rw [← HR.out, R.out]; rfl, HB.out⟩
            · have hz' : (dz == 0) = false := by simpa using hz
              have R := Lib.hid (any_take_step strayB _ j _ (by simp; have := HDS.out; omega) HX.out (by simp [strayB, hz]) A.out)
              go_wp2
              go_roundw
              case rel => exact ⟨j + 1, by omega, by go_num, by trivial, R⟩
              case measure => simp [intOf]; omega
          · have ht' : (tz != 1) = true := by simpa using ht
            have R := Lib.hid (idxI_hit strayB _ j _ A.out HX.out (by simp [strayB, ht]))
            go_wp2
            go_ret
            exact ⟨by rw [← HR.out, R.out]; rfl, HB.out⟩
        · have R := Lib.hid (idxI_none strayB (ts.zip ds) (by
            have := A.out
            rwa [List.take_of_length_le (by simp; omega)] at this))
          go_wp2
          go_ret
          exact ⟨by rw [← HR.out, R.out]; rfl, HB.out⟩
end Go.Proofs.Ytecnapecmioamaa
