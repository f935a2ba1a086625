/- Contract of tree.Parents: whose kids nodes are. -/
import Derived.Test.YtilighhccjdceaaTOrder
namespace Go.Proofs.Ytilighhccjdceaa
open Go.RowKit Go.Shelf
set_option linter.unusedVariables false
attribute [local go_sem] Oper.semAt_some

/-- parents, as they have been written so far: (kid, parent) -/
def parL (m : Nat) (P : List (Int × Nat)) : List Int := P.foldl (fun ps x => ps.set x.1.toNat (x.2 : Int)) ((List.replicate m 0).set 0 (-1))
theorem parL_len (m : Nat) (P : List (Int × Nat)) : (parL m P).length = m := by
  unfold parL
  have : ∀ (xs : List (Int × Nat)) (ds : List Int), (xs.foldl (fun ds x => ds.set x.1.toNat (x.2 : Int)) ds).length = ds.length := by
    intro xs
    induction xs with
    | nil => intro ds; rfl
    | cons x xs ih => intro ds; simp only [List.foldl_cons]; rw [ih]; simp
  rw [this]; simp
theorem parL_snoc (m : Nat) (P : List (Int × Nat)) (x : Int × Nat) : parL m (P ++ [x]) = (parL m P).set x.1.toNat (x.2 : Int) := by simp [parL, List.foldl_append]
def pairsOf (ns : List Nd) : List (Int × Nat) := ns.zipIdx.flatMap fun x => x.1.ks.map fun z => (z, x.2)
theorem pairs_snoc (ns : List Nd) (i : Nat) (n : Nd) (h : ns[i]? = some n) : pairsOf (ns.take (i + 1)) = pairsOf (ns.take i) ++ n.ks.map (fun z => (z, i)) := by
  have hl := (List.getElem?_eq_some_iff.1 h).1
  unfold pairsOf
  rw [List.take_add_one, h, List.zipIdx_append, List.flatMap_append]
  simp [List.length_take, Nat.min_eq_left (Nat.le_of_lt hl)]
def parentsP (ns : List Nd) : List Int := parL ns.length (pairsOf ns)
set_option maxHeartbeats 400000 in
theorem parents_bad (p : Option Addr) (m cap : Nat) (w : World) (a b : Int) (hb : b ≠ 0) (H : Hid (Calls Try.prog 8 #[.slice p m cap] w fun e W' => e = .returned (.tuple #[.int .i64 a, .int .i64 b]) ∧ Below w.heap.size w W')) :
    Calls Try.prog 13 #[.slice p m cap] w fun e W' => e = .returned (.tuple #[.slice none 0 0, .int .i64 b]) ∧ Below w.heap.size w W' := by
  have hb' : (b != 0) = true := by simpa using hb
  go_enter Try.func13, Try.ntmps13
  go_wp2_with (go_at_call 8; refine H.out.mono ?_; rintro e w1 ⟨rfl, hb1⟩)
  refine bodyPost_ret (v := .tuple #[.slice none 0 0, .int .i64 b]) (by simp [results, Try.results13, go_sem]) rfl ⟨rfl, hb1⟩
set_option maxRecDepth 100000 in
set_option maxHeartbeats 2000000 in
theorem parents_ok (b off cap : Nat) (ns : List Nd) (v : World) (hm : ns.length ≤ 65536) (h1 : 1 ≤ ns.length)
    (hok : ∀ n ∈ ns, n.ok v) (hc : ∀ i n, ns[i]? = some n → NdAt v b (off + i * 34) n) (hL : ∀ n ∈ ns, ∀ z ∈ n.ks, 1 ≤ z ∧ z < ns.length)
    (H : Hid (Calls Try.prog 8 #[.slice (some ⟨b, off, none⟩) ns.length cap] v fun e W' => e = .returned (.tuple #[.int .i64 0, .int .i64 0]) ∧ Below v.heap.size v W')) :
    Calls Try.prog 13 #[.slice (some ⟨b, off, none⟩) ns.length cap] v fun e W' => (∃ g, e = .returned (.tuple #[.slice (some ⟨g, 0, none⟩) ns.length ns.length, .int .i64 0]) ∧ Whole W' g 3 ((parentsP ns).map (Value.int .i64))) ∧ Below v.heap.size v W' := by
  obtain ⟨m, hmm⟩ : ∃ m, ns.length = m := ⟨_, rfl⟩
  have HR : Hid (parentsP ns = parL m (pairsOf ns)) := Lib.hid (by unfold parentsP; rw [hmm])
  have HOK := Lib.hid hok
  have HC := Lib.hid hc
  have HL := Lib.hid hL
  have HM := Lib.hid hmm
  rw [hmm] at hm h1 H ⊢
  have hm' : (m : Int) ≤ 140737488355328 := by omega
  have hmk := make_ints m (by omega)
  have W0 : Hid (∀ w : World, Whole (w.alloc (.cells (((List.replicate m (0 : Int)).map (Value.int .i64)).set 0 (.int .i64 (-1))).toArray 3)) w.heap.size 3 (((List.replicate m (0 : Int)).map (Value.int .i64)).set 0 (.int .i64 (-1)))) := Lib.hid (fun w => whole_new w _ _ _ rfl)
  obtain ⟨zc, hzc⟩ : ∃ zc, ((List.replicate m (0 : Int)).map (Value.int .i64)).toArray = zc := ⟨_, rfl⟩
  have q0 : zc[0]? = some (.int .i64 0) := by rw [← hzc]; simp [show 0 < m by omega]
  rw [show (((List.replicate m (0 : Int)).map (Value.int .i64)).set 0 (.int .i64 (-1))).toArray = (((List.replicate m (0 : Int)).map (Value.int .i64)).toArray).setIfInBounds 0 (.int .i64 (-1)) from by apply Array.toList_inj.1; simp only [Array.toList_setIfInBounds]] at W0
  rw [hzc] at hmk W0
  have T0 : Hid ((parL m (pairsOf (ns.take 0))).map (Value.int .i64) = ((List.replicate m (0 : Int)).map (Value.int .i64)).set 0 (.int .i64 (-1))) := Lib.hid (by simp [parL, pairsOf, List.map_set])
  clear hok hc hL hmm hzc
  go_enter Try.func13, Try.ntmps13
  go_wp2_with (go_at_call 8; refine H.out.mono ?_; clear H; rintro e w ⟨rfl, hb1⟩; have HB0 := Lib.hid hb1; clear hb1)
  go_loopw [26] (fun i wr => ∃ k : Nat, k ≤ m ∧ i = .int .i64 k ∧ Hid (Whole wr w.heap.size 3 ((parL m (pairsOf (ns.take k))).map (.int .i64))) ∧ Hid (Below w.heap.size w wr)) (fun i _ => m - (intOf i).toNat)
  case atStart => exact ⟨0, Nat.zero_le _, rfl, Lib.hid (by rw [T0.out]; exact W0.out w), Lib.hid ((Below.refl _ w).alloc (Nat.le_refl _) _)⟩
  case round =>
    obtain ⟨k, hk, rfl, HW, HB⟩ := hrel
    clear hmk W0 q0 T0
    by_cases hlt : k < m
    · obtain ⟨n, hn⟩ : ∃ n, ns[k]? = some n := ⟨_, List.getElem?_eq_getElem (by rw [HM.out]; exact hlt)⟩
      have hmem : n ∈ ns := List.mem_iff_getElem?.2 ⟨k, hn⟩
      have LN := Lib.hid ((((HC.out k n hn).below HB0.out).below HB.out).load)
      have iN := Lib.hid (nd_info n)
      have oN := Lib.hid (nd_one n v (HOK.out n hmem))
      have zN : Hid (Nd.zero.cells.toArray.size = n.cells.toArray.size) := Lib.hid (by simp [Nd.len])
      have SN := Lib.hid (pairs_snoc ns k n hn)
      have HLN := Lib.hid (HL.out n hmem)
      obtain ⟨q, kc, hkv⟩ := (HOK.out n hmem).1.form
      have HI : Hid (Ints w (.slice q n.ks.length kc) n.ks) := Lib.hid (by rw [← hkv]; exact (HOK.out n hmem).1.below HB0.out)
      have hks := (HOK.out n hmem).1.small
      have HCS : Hid (∀ X g, Whole X g 51 n.cells → X.cell? ⟨g, 1, none⟩ = some (.slice q n.ks.length kc) ∧ g < X.heap.size) := Lib.hid fun X g h => ⟨by rw [h.cellAt, n.c1, hkv], h.lt⟩
      obtain ⟨cs, hcs⟩ : ∃ cs, n.cells.toArray = cs := ⟨_, rfl⟩
      rw [hcs] at LN iN oN zN
      have HCC := Lib.hid hcs
      have hz0 : w.heap.size ≤ wr.heap.size := HB.out.size
      have hwl := HW.out.lt
      generalize pairsOf (ns.take k) = P at *
      generalize n.ks = kk at *
      clear hcs hn hmem hkv
      go_wp2_with (first
        | (refine wpList_load_at rfl 51 (.tmp 29) rfl _ rfl cs _ LN.out Try.underlying51 rfl iN.out ?_)
        | (refine wpList_store_row rfl 51 (.tmp 8) (.tmp 30) rfl _ cs rfl rfl 51 Nd.zero.cells.toArray (whole_new wr Nd.zero.cells 51 _ rfl) iN.out zN.out oN.out ?_; refine at_world (fun X => Whole X wr.heap.size 51 n.cells ∧ Whole X w.heap.size 3 ((parL m P).map (.int .i64)) ∧ Below w.heap.size w X) ⟨by rw [← HCC.out]; exact whole_row (whole_new wr Nd.zero.cells 51 _ rfl) _, whole_row_other (HW.out.alloc _) _ _ (by omega), (HB.out.alloc hz0 _).trans (below_row _ _ _ hz0)⟩ (fun X hX => ?_); obtain ⟨KX, HX, BX⟩ := hX; obtain ⟨kx, lx⟩ := HCS.out X _ KX; have HXX := Lib.hid HX; have BXX := Lib.hid BX; clear KX HX BX))
      clear HW HB LN iN oN zN HCS HCC hwl
      go_loopw [34] (fun j x => ∃ t : Nat, t ≤ kk.length ∧ j = .int .i64 t ∧ Hid (Whole x w.heap.size 3 ((parL m (P ++ (kk.take t).map (fun z => (z, k)))).map (.int .i64))) ∧ Hid (Below w.heap.size w x)) (fun j _ => kk.length - (intOf j).toNat)
      case atStart => exact ⟨0, Nat.zero_le _, rfl, Lib.hid (by simpa using HXX.out), BXX⟩
      case round =>
        obtain ⟨t, ht, rfl, HW, HB⟩ := hrel
        clear HXX BXX kx lx
        by_cases htl : t < kk.length
        · obtain ⟨kb, koff, rfl, hcell⟩ := HI.out.at' t htl
          obtain ⟨z, hz⟩ : ∃ z, kk[t]? = some z := ⟨_, List.getElem?_eq_getElem htl⟩
          have hzb := HLN.out z (List.mem_iff_getElem?.2 ⟨t, hz⟩)
          obtain ⟨zn, rfl⟩ : ∃ zn : Nat, z = (zn : Int) := ⟨z.toNat, by omega⟩
          have c0 := hcell t htl
          rw [hz] at c0
          simp only [Option.getD_some] at c0
          have cz := (HB.out.cell (p := ⟨kb, koff + t, none⟩) (cell_lt c0)).trans c0
          have lkb := Nat.lt_of_lt_of_le (cell_lt c0) HB.out.size
          have hznm : zn < m := by have := HM.out; omega
          have hts : P ++ (kk.take (t + 1)).map (fun z => (z, k)) = (P ++ (kk.take t).map (fun z => (z, k))) ++ [((zn : Int), k)] := by
            rw [List.take_add_one, hz]; simp
          have HTS : Hid ((parL m (P ++ (kk.take (t + 1)).map (fun z => (z, k)))).map (Value.int .i64) = ((parL m (P ++ (kk.take t).map (fun z => (z, k)))).map (Value.int .i64)).set zn (.int .i64 (k : Int))) := Lib.hid (by
            rw [hts, parL_snoc]; simp [List.map_set])
          have ct := (HW.out.cellAt zn).trans (map_int_get _ zn (by rw [parL_len]; exact hznm))
          have ft := HW.out.free zn
          have lt := HW.out.lt
          clear hts hz hcell HI c0
          generalize (parL m (P ++ (kk.take t).map (fun z => (z, k))))[zn]?.getD 0 = tz at *
          go_wp2
          go_roundw
          case rel => exact ⟨t + 1, by omega, by go_num, Lib.hid (by rw [HTS.out]; exact HW.out.set zn _), Lib.hid (HB.out.setCell (p := ⟨w.heap.size, zn, none⟩) (Nat.le_refl _) _)⟩
          case measure => simp [intOf]; omega
        · have hte : kk.take t = kk := List.take_of_length_le (by omega)
          have hW : Hid (Whole wr w.heap.size 3 ((parL m (P ++ kk.map (fun z => (z, k)))).map (.int .i64))) := Lib.hid (by rw [← hte]; exact HW.out)
          clear hte HW HI
          go_wp2
          go_roundw
          case rel => exact ⟨k + 1, by omega, by go_num, Lib.hid (by rw [SN.out]; exact hW.out), HB⟩
          case measure => simp [intOf]; omega
    · have hT : Hid (Whole wr w.heap.size 3 ((parentsP ns).map (.int .i64))) := Lib.hid (by
        have h := HW.out
        rw [List.take_of_length_le (by rw [HM.out]; omega)] at h
        rw [HR.out]; exact h)
      clear HW HOK HC HL
      go_wp2
      refine bodyPost_ret (v := .tuple #[.slice (some ⟨w.heap.size, 0, none⟩) m m, .int .i64 0]) (by simp [results, Try.results13, go_sem]) rfl ⟨⟨_, rfl, hT.out⟩, HB0.out.trans (HB.out.mono HB0.out.size)⟩
theorem parentsF_any (lv : Value) (ns : List Nd) (w : World) (hP : PageAt w lv ns) (hK : ∀ n ∈ ns, n.ks.length ≤ 70000) : Calls Try.prog 13 #[lv] w (ListPost (checkP ns).2 (parentsP ns) w) := by
  obtain ⟨p, cap, rfl⟩ := hP.form
  have H := check_at p _ cap ns w rfl hP hK
  by_cases hb : (checkP ns).2 = 0
  · have F := fine_of hb
    rw [fine_check F] at H
    obtain ⟨b, off, rfl, hc⟩ := page_some hP F.len1
    refine (parents_ok b off cap ns w F.len2 F.len1 hP.2.1 hc F.link (Lib.hid H)).mono ?_
    rintro e W' ⟨⟨g, rfl, hg⟩, hb'⟩
    refine ⟨?_, hb'⟩
    rw [if_pos hb]
    exact ⟨_, rfl, Ints.whole hg (by unfold parentsP; rw [parL_len]) (by have := F.len2; omega)⟩
  · refine (parents_bad p _ cap w _ _ hb (Lib.hid H)).mono ?_
    rintro e W' ⟨rfl, hb'⟩
    exact ⟨by rw [if_neg hb], hb'⟩
end Go.Proofs.Ytilighhccjdceaa
