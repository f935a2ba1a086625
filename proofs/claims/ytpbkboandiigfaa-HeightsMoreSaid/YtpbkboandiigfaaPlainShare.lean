/- Contract of the order of remainders (fixed.greatestFirst), at most nineteen. -/
/- Plain facts on shares: what rounding down leaves; sums that do not saturate. -/
import Derived.Test.YtpbkboandiigfaaSort
import Derived.Test.YtpbkboandiigfaaWeigh
namespace Go.Proofs.Ytpbkboandiigfaa
open Go.RowKit Go.Shelf Go.Sort Go.Lib
set_option linter.unusedVariables false

def encF (n : Nat) : Fin n → Value := fun x => .int .i64 (x.val : Int)
def iota (n : Nat) : Array (Fin n) := Array.ofFn fun i => i
theorem iota_size (n : Nat) : (iota n).size = n := by simp [iota]
section
variable {α : Type} [Inhabited α]
theorem size_insInner (lt : α → α → Bool) (a : Nat) : ∀ (j : Nat) (d : Array α), (insInner lt a j d).size = d.size
  | 0, _ => rfl
  | j + 1, d => by
    unfold insInner; split
    · rw [size_insInner lt a j]; simp [swp]
    · rfl
theorem size_insOuter (lt : α → α → Bool) (a b : Nat) : ∀ (k i : Nat) (d : Array α), b - i = k → (insOuter lt a b i d).size = d.size := by
  intro k
  induction k with
  | zero => intro i d h; rw [insOuter, if_neg (by omega)]
  | succ k ih => intro i d h; rw [insOuter, if_pos (by omega), ih (i + 1) _ (by omega), size_insInner]
theorem size_insertionSort (lt : α → α → Bool) (d : Array α) (a b : Nat) : (insertionSort lt d a b).size = d.size := size_insOuter lt a b _ _ d rfl
end
/-- the remainder at a place -/
def restAt (rs : List Int) (m : Nat) (x : Fin (m + 1)) : Int := rs[x.val]?.getD 0
def cfR (rs : List Int) (m : Nat) (x y : Fin (m + 1)) : Int := cmpZ (restAt rs m y) (restAt rs m x)
def ordArr (rs : List Int) (m : Nat) : Array (Fin (m + 1)) := insertionSort (ltOf (cfR rs m)) (iota (m + 1)) 0 (iota (m + 1)).size

theorem cell_sortWorld {α : Type} [Inhabited α] {enc : α → Value} {w : World} {blk off m : Nat} {dk : Array α} {os : Array Obj} {a : Addr} {v : Value} (h : w.cell? a = some v) (hne : a.block ≠ blk) :
    (sortWorld enc w blk off m dk os).cell? a = some v := by
  have hl := cell_lt h
  unfold sortWorld
  rw [cell?_grow _ _ _ (by simpa [Sort.ahead] using hl), cell?_putRow_other _ _ _ _ _ _ (.inl hne)]
  exact h
theorem below_putRow {α : Type} [Inhabited α] (enc : α → Value) (w : World) (blk off B : Nat) (d : Array α) (h : B ≤ blk) : Below B w (putRow enc w blk off d) :=
  ⟨rfl, rfl, rfl, by simp, fun k hk => by simp [putRow, mapBlock, Array.getElem?_modify]; intro e; omega⟩

theorem cmpReads_rests (rs : List Int) (m p C blk : Nat) (w : World) (hl : rs.length = m + 1) (hm : m + 1 ≤ 10000) (hp : w.cell? ⟨p, 0, none⟩ = some (.slice (some ⟨C, 0, none⟩) (m + 1) (m + 1)))
    (hC : ∀ j, j < m + 1 → w.cell? ⟨C, j, none⟩ = some (.int .u64 (rs[j]?.getD 0))) (h1 : p ≠ blk) (h2 : C ≠ blk) (size : Nat) :
    CmpReads Try.prog 81 #[.pointer (some ⟨p, 0, none⟩)] (encF (m + 1)) (cfR rs m) blk 0 size w := by
  intro k os dk hdk x y
  exact greater_any x.val y.val p C (m + 1) (m + 1) _ _ _ x.isLt y.isLt hm (cell_sortWorld hp h1) (cell_sortWorld (hC _ x.isLt) h2) (cell_sortWorld (hC _ y.isLt) h2)

theorem Try.infoInt : (Try.prog.info? 3).map (fun i => (i.zero, i.size, i.bytes)) = some (some (.int .i64 0), 1, 8) := by kernel_rfl
def iotaTo (n k : Nat) : List Value := (List.range k).map (fun j : Nat => Value.int .i64 (j : Int)) ++ List.replicate (n - k) (.int .i64 0)
theorem iotaTo_length (n k : Nat) (h : k ≤ n) : (iotaTo n k).length = n := by simp [iotaTo]; omega
theorem iotaTo_succ (n k : Nat) (h : k < n) : (iotaTo n k).set k (.int .i64 (k : Int)) = iotaTo n (k + 1) := by
  unfold iotaTo
  rw [List.set_append_right _ _ (by simp)]
  simp only [List.length_map, List.length_range, Nat.sub_self, List.range_succ, List.map_append, List.map_cons, List.map_nil, List.append_assoc, List.singleton_append]
  congr 1
  obtain ⟨d, hd⟩ : ∃ d, n - k = d + 1 := ⟨n - k - 1, by omega⟩
  rw [hd, show n - (k + 1) = d by omega]; rfl
theorem iotaTo_get (n j : Nat) (h : j < n) : (iotaTo n n)[j]? = some (.int .i64 (j : Int)) := by simp [iotaTo, h]
theorem holds_iota {W : World} {g : Nat} {m : Nat} (h : Whole W g 3 (iotaTo (m + 1) (m + 1))) : Holds (encF (m + 1)) W g 0 (iota (m + 1)) := by
  intro j hj
  rw [iota_size] at hj
  refine ⟨?_, by rw [Nat.zero_add]; exact h.free j⟩
  rw [Nat.zero_add, h.cellAt, iotaTo_get _ _ hj]
  congr 1
  rw [getElem!_pos (iota (m + 1)) j (by rw [iota_size]; exact hj)]
  simp [iota, encF]

set_option maxHeartbeats 1000000 in
theorem order_small (rs : List Int) (m C : Nat) (w : World) (hl : rs.length = m + 1) (hm : m + 1 ≤ 19) (hC : ∀ j, j < m + 1 → w.cell? ⟨C, j, none⟩ = some (.int .u64 (rs[j]?.getD 0))) :
    Calls Try.prog 71 #[.slice (some ⟨C, 0, none⟩) (m + 1) (m + 1)] w fun e W' => Below w.heap.size w W' ∧ ∃ B, e = .returned (.slice (some ⟨B, 0, none⟩) (m + 1) (m + 1)) ∧ w.heap.size ≤ B ∧ Holds (encF (m + 1)) W' B 0 (ordArr rs m) := by
  obtain ⟨i0, hi, hz0, hz1, hz2⟩ := info_parts Try.infoInt
  have hCl : C < w.heap.size := cell_lt (hC 0 (by omega))
  go_enter Try.func71, Try.ntmps71
  go_wp2_with (at_make; refine wpList_make_full _ rfl _ _ 54 rfl w.heap.size 3 i0 (.int .i64 0) 1 Try.underlying54 hi hz0 hz1 .i64 .i64 _ _ (m + 1) rfl rfl (by simp) (by simp) (by rw [hz2]; omega) (by unfold maxLen; omega) (by simp) ?_; intro w1 hown1 hgrow1)
  have e1 : (madeCells (Value.int IntKind.i64 0).cells ((m + 1) * 1)).toList = iotaTo (m + 1) 0 := by
    rw [show (Value.int IntKind.i64 0).cells = #[Value.int .i64 0] from rfl, toList_madeCells_one]; simp [iotaTo]
  rw [e1] at hown1
  have kO := Whole.made hown1
  simp only [World.size_alloc] at kO
  have kP : Whole w1 w.heap.size 70 [.slice (some ⟨C, 0, none⟩) (m + 1) (m + 1)] := Whole.grownC (Boxed.new w 70 _) hgrow1 (fun r e => by cases e)
  have hB1 : Below w.heap.size w w1 := ((Below.refl _ w).alloc (Nat.le_refl _) _).grown hgrow1 (by simp) (fun k e => by cases e)
  clear e1 hown1 hgrow1 hz0 hz1 hz2 hi
  go_loopw [10] (fun i wr => ∃ k : Nat, k ≤ m + 1 ∧ i = .int .i64 k ∧ Hid (Whole wr (w.heap.size + 1) 3 (iotaTo (m + 1) k)) ∧ Hid (Whole wr w.heap.size 70 [.slice (some ⟨C, 0, none⟩) (m + 1) (m + 1)]) ∧ Below w.heap.size w wr) (fun i _ => m + 1 - (intOf i).toNat)
  case atStart => exact ⟨0, Nat.zero_le _, rfl, kO, kP, hB1⟩
  case round =>
    obtain ⟨k, hk, rfl, ho, hp, hb⟩ := hrel
    clear kO kP hB1
    by_cases hlt : k < m + 1
    · have hlt' : (k : Int) < (m : Int) + 1 := by omega
      have hcell : ∃ v, wr.cell? ⟨w.heap.size + 1, k, none⟩ = some v := ⟨_, by rw [ho.out.cellAt, List.getElem?_eq_getElem (by rw [iotaTo_length _ _ hk]; exact hlt)]⟩
      obtain ⟨v, hv⟩ := hcell
      have hf := ho.out.free k
      have H1 : Hid (Whole (wr.setCell ⟨w.heap.size + 1, k, none⟩ (.int .i64 (k : Int))) (w.heap.size + 1) 3 (iotaTo (m + 1) (k + 1))) := by
        have := ho.out.set k (.int .i64 (k : Int)); rw [iotaTo_succ _ _ hlt] at this; exact this
      have H2 : Hid (Whole (wr.setCell ⟨w.heap.size + 1, k, none⟩ (.int .i64 (k : Int))) w.heap.size 70 [.slice (some ⟨C, 0, none⟩) (m + 1) (m + 1)]) := hp.out.other _ _ (by simp)
      clear hC
      go_wp2
      go_roundw
      case rel => exact ⟨k + 1, by omega, by go_num, H1, H2, hb.setCell (p := ⟨w.heap.size + 1, k, none⟩) (by simp) _⟩
      case measure => simp [intOf]; omega
    · obtain rfl : k = m + 1 := by omega
      have hH := holds_iota ho.out
      have hcmp := cmpReads_rests rs m w.heap.size C (w.heap.size + 1) wr hl (by omega) (hp.out.cellAt 0) (fun j hj => (hb.cell (p := ⟨C, j, none⟩) hCl).trans (hC j hj)) (by omega) (by omega) (iota (m + 1)).size
      have hcon := stable_small m w.heap.size (w.heap.size + 1) (m + 1) hm (cfR rs m) (iota (m + 1)) (iota_size _) wr hcmp hH
      rw [iota_size] at hcon
      have HC := Lib.hid hcon
      have HH := Lib.hid hH
      have hnlt : ¬ ((m : Int) + 1 < (m : Int) + 1) := by omega
      clear hcon hcmp hC hH hlt
      go_wp2_with (go_at_call 80; refine HC.out.mono ?_; rintro e w' ⟨rfl, q, rfl⟩)
      go_ret
      have hsz : (insertionSort (ltOf (cfR rs m)) (iota (m + 1)) 0 (m + 1)).size = (iota (m + 1)).size := size_insertionSort _ _ _ _
      have hw := holds_putRow (encF (m + 1)) wr (w.heap.size + 1) 0 (iota (m + 1)) _ HH.out hsz
      refine ⟨(hb.trans (below_putRow _ _ _ _ _ _ (by omega))).trans (below_dn _ _ _), w.heap.size + 1, rfl, by omega, ?_⟩
      unfold ordArr; rw [iota_size]
      exact hw
end Go.Proofs.Ytpbkboandiigfaa

namespace Go.Proofs.Ytpbkboandiigfaa
open Go.RowKit
set_option linter.unusedVariables false
theorem sumZ_cons (a : Int) (l : List Int) : sumZ (a :: l) = a + sumZ l := by unfold sumZ; rw [List.foldl_cons, foldl_add]; omega
theorem sumZ_append (a b : List Int) : sumZ (a ++ b) = sumZ a + sumZ b := by
  induction a with
  | nil => simp [sumZ]
  | cons x a ih => rw [List.cons_append, sumZ_cons, sumZ_cons, ih]; omega
theorem sumZ_nonneg (l : List Int) (h : ∀ z ∈ l, 0 ≤ z) : 0 ≤ sumZ l := by
  induction l with
  | nil => simp [sumZ]
  | cons a l ih => rw [sumZ_cons]; have := h a (by simp); have := ih (fun z hz => h z (by simp [hz])); omega
theorem addS_of (l : List Int) (h : ∀ z ∈ l, 0 ≤ z) (hs : sumZ l ≤ 9223372036854775807) : addS l = sumZ l := by
  unfold addS
  suffices ∀ (l : List Int) (s : Int), 0 ≤ s → (∀ z ∈ l, 0 ≤ z) → s + sumZ l ≤ 9223372036854775807 → l.foldl (fun s z => sat (s + z)) s = s + sumZ l by
    have := this l 0 (by omega) h (by omega); simpa using this
  intro l
  induction l with
  | nil => intro s _ _ _; simp [sumZ]
  | cons a l ih =>
    intro s h0 h1 h2
    have ha := h1 a (by simp)
    have hl := sumZ_nonneg l (fun z hz => h1 z (by simp [hz]))
    rw [sumZ_cons] at h2 ⊢
    rw [List.foldl_cons, sat_in (by omega) (by omega), ih (s + a) (by omega) (fun z hz => h1 z (by simp [hz])) (by omega)]
    omega
theorem sumZ_share (t sum : Int) (l : List Int) (hs : 0 < sum) : t * sumZ l = sum * sumZ (l.map fun z => t * z / sum) + sumZ (l.map fun z => t * z % sum) := by
  induction l with
  | nil => simp [sumZ]
  | cons a l ih =>
    simp only [List.map_cons, sumZ_cons, Int.mul_add]
    have := Int.mul_ediv_add_emod (t * a) sum
    rw [ih]; omega
theorem rests_lt (t sum : Int) (l : List Int) (hs : 0 < sum) : 0 ≤ sumZ (l.map fun z => t * z % sum) ∧ sumZ (l.map fun z => t * z % sum) ≤ l.length * (sum - 1) := by
  induction l with
  | nil => simp [sumZ]
  | cons a l ih =>
    simp only [List.map_cons, sumZ_cons, List.length_cons]
    have h1 := Int.emod_nonneg (t * a) (b := sum) (by omega)
    have h2 := Int.emod_lt_of_pos (t * a) hs
    have e : ((l.length + 1 : Nat) : Int) * (sum - 1) = l.length * (sum - 1) + (sum - 1) := by
      rw [Int.natCast_add, Int.add_mul]; simp
    rw [e]; omega
/-- what is left is less than there are weights -/
theorem left_bd (t sum : Int) (l : List Int) (hs : 0 < sum) (hl : sumZ l = sum) (hn : 1 ≤ l.length) : 0 ≤ t - sumZ (l.map fun z => t * z / sum) ∧ t - sumZ (l.map fun z => t * z / sum) < l.length := by
  have e := sumZ_share t sum l hs
  have r := rests_lt t sum l hs
  rw [hl] at e
  have e2 : sum * (t - sumZ (l.map fun z => t * z / sum)) = sumZ (l.map fun z => t * z % sum) := by
    rw [Int.mul_sub, Int.mul_comm sum t]; omega
  constructor
  · apply Classical.byContradiction; intro hn'
    have : sum * (t - sumZ (l.map fun z => t * z / sum)) < 0 := Int.mul_neg_of_pos_of_neg hs (by omega)
    omega
  · apply Classical.byContradiction; intro hn'
    have h1 : (l.length : Int) ≤ t - sumZ (l.map fun z => t * z / sum) := by omega
    have h2 := Int.mul_le_mul_of_nonneg_left h1 (Int.le_of_lt hs)
    have h3 : (l.length : Int) * (sum - 1) = sum * l.length - l.length := by rw [Int.mul_sub, Int.mul_comm]; omega
    omega
end Go.Proofs.Ytpbkboandiigfaa
