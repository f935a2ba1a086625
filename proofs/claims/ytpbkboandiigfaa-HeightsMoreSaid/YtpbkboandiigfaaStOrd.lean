/- Contract of the order of remainders (fixed.greatestFirst), of any number: the one list of the indexes that is sorted by remainder, the greater one first, and by index. -/
import Derived.Test.YtpbkboandiigfaaShare
import Derived.Test.YtpbkboandiigfaaStAll
namespace Go.Proofs.Ytpbkboandiigfaa
open Go.RowKit Go.Shelf Go.Sort Go.Lib
set_option linter.unusedVariables false

/-- i comes before j -/
def ahead (rs : List Int) (i j : Nat) : Prop := rs[j]?.getD 0 < rs[i]?.getD 0 ∨ rs[i]?.getD 0 = rs[j]?.getD 0 ∧ i < j
instance (rs : List Int) (i j : Nat) : Decidable (ahead rs i j) := by unfold ahead; infer_instance
theorem ahead_irr (rs : List Int) (i : Nat) : ¬ ahead rs i i := by unfold ahead; omega
theorem ahead_trans (rs : List Int) (i j k : Nat) : ahead rs i j → ahead rs j k → ahead rs i k := by unfold ahead; omega
theorem ahead_tot (rs : List Int) (i j : Nat) (h : i ≠ j) : ahead rs i j ∨ ahead rs j i := by unfold ahead; omega
def ordS (n : Nat) (rs : List Int) : List Nat := (List.range n).mergeSort fun i j => decide (¬ ahead rs j i)
/-- the one list of the indexes that is sorted -/
structure IsOrd (n : Nat) (rs : List Int) (l : List Nat) : Prop where
  perm : l.Perm (List.range n)
  srt : l.Pairwise (ahead rs)
theorem IsOrd.one {n : Nat} {rs : List Int} {l l' : List Nat} (h : IsOrd n rs l) (h' : IsOrd n rs l') : l = l' :=
  List.Perm.eq_of_pairwise (le := ahead rs) (fun a b _ _ h1 h2 => absurd (ahead_trans rs a b a h1 h2) (ahead_irr rs a)) h.srt h'.srt (h.perm.trans h'.perm.symm)
theorem ordS_is (n : Nat) (rs : List Int) : IsOrd n rs (ordS n rs) := by
  have hp : (ordS n rs).Perm (List.range n) := List.mergeSort_perm _ _
  refine ⟨hp, ?_⟩
  have h1 : (ordS n rs).Pairwise fun i j => decide (¬ ahead rs j i) = true := List.pairwise_mergeSort (fun a b c h1 h2 => by
    simp only [decide_eq_true_eq] at *
    intro h3
    by_cases e : b = a
    · subst e; exact h2 h3
    · rcases ahead_tot rs b a e with q | q
      · exact h1 q
      · exact h2 (ahead_trans rs _ _ _ h3 q)) (fun a b => by
    by_cases e : a = b
    · subst e; simp [ahead_irr]
    · by_cases q : ahead rs b a
      · have : ¬ ahead rs a b := fun q' => ahead_irr rs a (ahead_trans rs _ _ _ q' q)
        simp [q, this]
      · simp [q]) _
  have h2 : (ordS n rs).Pairwise (· ≠ ·) := hp.nodup_iff.2 List.nodup_range
  refine (List.Pairwise.and h1 h2).imp fun {a b} h => ?_
  rcases ahead_tot rs a b h.2 with q | q
  · exact q
  · simp [q] at h

def bfR (rs : List Int) (m : Nat) (x y : Fin (m + 1)) : Bool := decide (ahead rs x.val y.val)
theorem agree_rs (rs : List Int) (m : Nat) : Agree (ltOf (cfR rs m)) (bfR rs m) (fun x => x.val) := by
  refine ⟨⟨fun x => by simp [bfR, ahead_irr], fun x y z h1 h2 => ?_, fun x y z h1 h2 => ?_⟩, fun x y hne h => ?_, fun x y h => ?_⟩
  · simp only [bfR, decide_eq_true_eq] at *; exact ahead_trans _ _ _ _ h1 h2
  · simp only [bfR, decide_eq_false_iff_not] at *; unfold ahead at *; omega
  · simp only [bfR, decide_eq_false_iff_not, decide_eq_true_eq] at *
    have : x.val ≠ y.val := fun e => hne (Fin.ext e)
    rcases ahead_tot rs x.val y.val this with q | q
    · exact absurd q h
    · exact q
  · unfold ltOf cfR cmpZ bfR restAt
    rw [Bool.eq_iff_iff, decide_eq_true_eq, decide_eq_true_eq]
    unfold ahead
    split
    · omega
    · split <;> omega

theorem below_sw {α : Type} [Inhabited α] {enc : α → Value} {w0 W : World} {blk off B : Nat} {dk : Array α} (h : SW enc w0 blk off dk W) (hB : B ≤ blk) (hw : B ≤ w0.heap.size) : Below B w0 W := by
  obtain ⟨n, os, rfl⟩ := h
  unfold sortWorld
  refine ⟨rfl, rfl, rfl, ?_, fun k hk => ?_⟩
  · rw [size_grow, size_putRow]; show w0.heap.size ≤ w0.heap.size + _; omega
  · have h1 : (grow (putRow enc (Sort.ahead w0 n) blk off dk) os).heap[k]? = (putRow enc (Sort.ahead w0 n) blk off dk).heap[k]? := by
      show (_ ++ _ : Array Obj)[k]? = _
      rw [Array.getElem?_append_left (by rw [size_putRow]; show k < w0.heap.size; omega)]
    rw [h1]
    show (putRow enc (Sort.ahead w0 n) blk off dk).heap[k]? = (Sort.ahead w0 n).heap[k]?
    simp [putRow, mapBlock, Array.getElem?_modify]; intro e; omega

theorem iota_get (m k : Nat) (h : k < m + 1) : ((iota (m + 1))[k]!).val = k := by
  rw [getElem!_pos (iota (m + 1)) k (by rw [iota_size]; exact h)]; simp [iota]

set_option maxHeartbeats 1000000 in
theorem order_any (rs : List Int) (m C : Nat) (w : World) (hl : rs.length = m + 1) (hm : m + 1 ≤ 10000) (hC : ∀ j, j < m + 1 → w.cell? ⟨C, j, none⟩ = some (.int .u64 (rs[j]?.getD 0))) :
    Calls Try.prog 71 #[.slice (some ⟨C, 0, none⟩) (m + 1) (m + 1)] w fun e W' => Below w.heap.size w W' ∧ ∃ B d', e = .returned (.slice (some ⟨B, 0, none⟩) (m + 1) (m + 1)) ∧ w.heap.size ≤ B ∧ Holds (encF (m + 1)) W' B 0 d' ∧ d'.size = m + 1 ∧ IsOrd (m + 1) rs (d'.toList.map (·.val)) := by
  obtain ⟨i0, hi, hz0, hz1, hz2⟩ := info_parts Try.infoInt
  have hCl : C < w.heap.size := cell_lt (hC 0 (by omega))
  go_enter Try.func71, Try.ntmps71
  go_wp2_with (at_make; refine wpList_make_full _ rfl _ _ 54 rfl w.heap.size 3 i0 (.int .i64 0) 1 Try.underlying54 hi hz0 hz1 .i64 .i64 _ _ (m + 1) rfl rfl (by simp) (by simp) (by rw [hz2]; omega) (by unfold maxLen; omega) (by simp) ?_; intro w1 hown1 hgrow1)
  have e1 : (madeCells (Value.int IntKind.i64 0).cells ((m + 1) * 1)).toList = iotaTo (m + 1) 0 := by
    rw [show (Value.int IntKind.i64 0).cells = #[Value.int .i64 0] from rfl, toList_madeCells_one]; simp [iotaTo]
  rw [e1] at hown1
  have kO := Whole.made hown1
  simp only [World.size_alloc] at kO
  have kP : Whole w1 w.heap.size 70 [.slice (some ⟨C, 0, none⟩) (m + 1) (m + 1)] := Whole.grownC (Boxed.new w 70 _) hgrow1 (fun r e => by cases e)
  have hB1 : Below w.heap.size w w1 := ((Below.refl _ w).alloc (Nat.le_refl _) _).grown hgrow1 (by simp) (fun k e => by cases e)
  clear e1 hown1 hgrow1 hz0 hz1 hz2 hi
  go_loopw [10] (fun i wr => ∃ k : Nat, k ≤ m + 1 ∧ i = .int .i64 k ∧ Hid (Whole wr (w.heap.size + 1) 3 (iotaTo (m + 1) k)) ∧ Hid (Whole wr w.heap.size 70 [.slice (some ⟨C, 0, none⟩) (m + 1) (m + 1)]) ∧ Below w.heap.size w wr) (fun i _ => m + 1 - (intOf i).toNat)
  case atStart => exact ⟨0, Nat.zero_le _, rfl, kO, kP, hB1⟩
  case round =>
    obtain ⟨k, hk, rfl, ho, hp, hb⟩ := hrel
    clear kO kP hB1
    by_cases hlt : k < m + 1
    · have hlt' : (k : Int) < (m : Int) + 1 := by omega
      have hcell : ∃ v, wr.cell? ⟨w.heap.size + 1, k, none⟩ = some v := ⟨_, by rw [ho.out.cellAt, List.getElem?_eq_getElem (by rw [iotaTo_length _ _ hk]; exact hlt)]⟩
      obtain ⟨v, hv⟩ := hcell
      have hf := ho.out.free k
      have H1 : Hid (Whole (wr.setCell ⟨w.heap.size + 1, k, none⟩ (.int .i64 (k : Int))) (w.heap.size + 1) 3 (iotaTo (m + 1) (k + 1))) := by
        have := ho.out.set k (.int .i64 (k : Int)); rw [iotaTo_succ _ _ hlt] at this; exact this
      have H2 : Hid (Whole (wr.setCell ⟨w.heap.size + 1, k, none⟩ (.int .i64 (k : Int))) w.heap.size 70 [.slice (some ⟨C, 0, none⟩) (m + 1) (m + 1)]) := hp.out.other _ _ (by simp)
      clear hC
      go_wp2
      go_roundw
      case rel => exact ⟨k + 1, by omega, by go_num, H1, H2, hb.setCell (p := ⟨w.heap.size + 1, k, none⟩) (by simp) _⟩
      case measure => simp [intOf]; omega
    · obtain rfl : k = m + 1 := by omega
      have hH := holds_iota ho.out
      have hcmp := cmpReads_rests rs m w.heap.size C (w.heap.size + 1) wr hl (by omega) (hp.out.cellAt 0) (fun j hj => (hb.cell (p := ⟨C, j, none⟩) hCl).trans (hC j hj)) (by omega) (by omega) (iota (m + 1)).size
      have hbw : w.heap.size + 1 < wr.heap.size := cell_lt ((ho.out.cellAt 0).trans (iotaTo_get (m + 1) 0 (by omega)))
      have eg : ∀ args w, (callFunc 81 args).run Try.prog w = .ok (.enter 81 args) w := enters_of Try.func81 (by kernel_rfl) rfl
      have hcon := sortStable_any (d0 := iota (m + 1)) 81 #[.pointer (some ⟨w.heap.size, 0, none⟩)] (m + 1) wr eg hcmp.lays ⟨oneFin (m + 1), hH, hbw⟩ (SW.start hH) (agree_rs rs m)
        (fun i j hi hj hij e => hij (by rw [iota_size] at hi hj; have := congrArg Fin.val e; rw [iota_get m i hi, iota_get m j hj] at this; exact this)) (fun k hk => by rw [iota_size] at hk; exact iota_get m k hk) (by rw [iota_size]; omega)
      rw [iota_size] at hcon
      have HCON := Lib.hid hcon
      have HH := Lib.hid hH
      have HBW := Lib.hid hbw
      have hnlt : ¬ ((m : Int) + 1 < (m : Int) + 1) := by omega
      clear hcon hcmp hC hH hlt eg hbw
      go_wp2_with fail
      refine HCON.out.mono ?_
      rintro e w' ⟨rfl, d', hpm, hsr, hsw⟩
      clear HCON
      go_wp2
      go_ret
      have hsz : d'.size = m + 1 := hpm.size.trans (iota_size _)
      refine ⟨hb.trans (below_sw hsw (by omega) (by have := HBW.out; omega)), w.heap.size + 1, d', rfl, by omega, hsw.holds HBW.out HH.out hpm.size, hsz, ?_, ?_⟩
      · have hp2 := hpm.perm.2.2
        rw [extract_toList _ _ _ (by rw [hpm.size]; exact Nat.le_refl _), extract_toList _ _ _ (Nat.le_refl _), iota_size, Nat.sub_zero] at hp2
        have hp3 := hp2.map (·.val)
        have q1 : ((List.range' 0 (m + 1)).map fun i => d'[i]!).map (·.val) = d'.toList.map (·.val) := by
          congr 1
          apply List.ext_getElem
          · simp [hsz]
          · intro k k1 k2
            have hk : k < d'.size := by simpa using k2
            simp [getElem!_pos d' k hk]
        have q2 : ((List.range' 0 (m + 1)).map fun i => (iota (m + 1))[i]!).map (·.val) = List.range (m + 1) := by
          rw [List.range_eq_range', List.map_map]
          apply List.ext_getElem
          · simp
          · intro k k1 k2
            have hk : k < m + 1 := by simpa using k2
            simp [iota_get m k hk]
        rw [q1, q2] at hp3
        exact hp3
      · rw [List.pairwise_map, List.pairwise_iff_getElem]
        intro i j hi hj hij
        have hi' : i < d'.size := by simpa using hi
        have hj' : j < d'.size := by simpa using hj
        have := hsr i j (Nat.zero_le _) hij (by rw [← hsz]; exact hj')
        simp only [bfR, decide_eq_true_eq] at this
        rw [getElem!_pos d' i hi', getElem!_pos d' j hj'] at this
        simpa using this

theorem order_at (m : Nat) (hm : m + 1 ≤ 10000) : OrderAt (m + 1) (ordS (m + 1)) := by
  intro rs C w hl hC
  refine (order_any rs m C w hl hm hC).mono fun e W' ⟨hb, B, d', he, hB, hH, hsz, hord⟩ => ⟨hb, B, he, hB, ?_⟩
  rw [← hord.one (ordS_is (m + 1) rs)]
  refine ⟨by simp [hsz], ?_, ?_⟩
  · intro i hi
    obtain ⟨x, _, rfl⟩ := List.mem_map.1 hi
    exact x.isLt
  · intro j hj
    have := (hH j (by omega)).1
    rw [Nat.zero_add] at this
    rw [this]
    have hj' : j < d'.size := by omega
    rw [getElem!_pos _ j hj']
    simp [encF, hj']
end Go.Proofs.Ytpbkboandiigfaa
