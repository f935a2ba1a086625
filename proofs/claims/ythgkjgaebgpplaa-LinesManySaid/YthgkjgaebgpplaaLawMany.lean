/- How many words there may be. -/
import Derived.Test.YthgkjgaebgpplaaRows
import Derived.WalkKit
import Derived.ProofKit
import Derived.OpenShut
import Derived.Below
import Derived.Test.YthgkjgaebgpplaaLnPre
import Derived.ShutString
namespace Go.Proofs.Ythgkjgaebgpplaa.linesMany
open Go.ChangeShapes Go.WideShapes Go.ChangeAt Go.RowKit
set_option linter.unusedVariables false

theorem own : ownKnob Try.prog.godebug = none := by kernel_rfl

theorem zeroW_pre (k n : Nat) (h : k ≤ n) : preW 1 k (List.replicate n 0) = (k : Int) := by
  induction k with
  | zero => rfl
  | succ k ih =>
    rw [preW_succ 1 k (List.replicate n (0 : Int)) 0 (by rw [List.getElem?_replicate, if_pos (by omega)]), ih (by omega)]; omega
theorem zeroW (n : Nat) (h : 0 < n) : wideW 1 (List.replicate n 0) 0 (List.replicate n (0 : Int)).length = (n : Int) - 1 := by
  rw [List.length_replicate, wideW_lt h, zeroW_pre n n (Nat.le_refl _)]
  simp [preW]
def mnNd (g n : Nat) : Nd := ⟨1, .slice none 0 0, [], Sty.zero, .slice (some ⟨g, 0, none⟩) n n, List.replicate n 0, 1, 0⟩
theorem mn_text (g n : Nat) : textB (mnNd g n) = decide (n ≤ 10000) := by
  unfold textB mnNd
  simp [outB]
theorem mn_lit (g n : Nat) : (mnNd g n).cells.toArray = #[.int .i64 1, .slice none 0 0, .int .i64 0, .int .i64 0, .int .i64 0, .int .i64 0, .int .i64 0, .int .i64 0, .int .i64 0, .int .i64 0, .int .i64 0, .int .i64 0, .int .u32 0, .int .i64 0, .int .i64 0, .int .u32 0, .int .i64 0, .int .i64 0, .int .u32 0, .int .i64 0, .int .i64 0, .int .u32 0, .int .i64 0, .int .i64 0, .int .i64 0, .bool false, .bool false, .int .i64 0, .int .i64 0, .bool false, .bool false, .slice (some ⟨g, 0, none⟩) n n, .int .i64 1, .int .i64 0] := rfl
theorem Try.infoI64L : (Try.prog.info? 2).map (fun i => (i.zero, i.size, i.bytes)) = some (some (.int .i64 0), 1, 8) := by kernel_rfl
theorem make_i64L (m : Nat) (hm : m ≤ 1000000000) (w : World) : (Instr.makeSlice 33 (.int .i64 m) (.int .i64 m)).run Try.prog w = .ok (.slice (some ⟨w.heap.size, 0, none⟩) m m) (w.alloc (.cells ((List.replicate m (0 : Int)).map (Value.int .i64)).toArray 2)) := by
  cases hi : Try.prog.info? 2 with
  | none => have := Try.infoI64L; rw [hi] at this; cases this
  | some i =>
    have h := Try.infoI64L
    rw [hi] at h
    simp only [Option.map_some, Option.some.injEq, Prod.mk.injEq] at h
    obtain ⟨hz, h1, h2⟩ := h
    have hr := run_make (P := Try.prog) w 33 2 i (.int .i64 0) Try.underlying33 hi hz .i64 .i64 m m (by omega) (Int.le_refl _) (by rw [h2]; omega) (by omega)
    rw [hr, h1]
    simp only [Int.toNat_natCast]
    rw [show (madeCells (Value.int IntKind.i64 0).cells (m * 1)) = ((List.replicate m (0 : Int)).map (Value.int .i64)).toArray from by
      apply Array.toList_inj.1
      rw [show (Value.int IntKind.i64 0).cells = #[Value.int .i64 0] from rfl, toList_madeCells_one]; simp]
theorem mn_one (g n : Nat) : (#[.int .i64 1, .slice none 0 0, .int .i64 0, .int .i64 0, .int .i64 0, .int .i64 0, .int .i64 0, .int .i64 0, .int .i64 0, .int .i64 0, .int .i64 0, .int .i64 0, .int .u32 0, .int .i64 0, .int .i64 0, .int .u32 0, .int .i64 0, .int .i64 0, .int .u32 0, .int .i64 0, .int .i64 0, .int .u32 0, .int .i64 0, .int .i64 0, .int .i64 0, .bool false, .bool false, .int .i64 0, .int .i64 0, .bool false, .bool false, .slice (some ⟨g, 0, none⟩) n n, .int .i64 1, .int .i64 0] : Array Value).all (·.oneCell') = true := by simp [Value.oneCell']
theorem mn_tx (w1 W2 X : World) (n : Nat) (hn : n ≤ 1000000) (zc : Array Value) (hz : ((List.replicate n (0 : Int)).map (Value.int .i64)).toArray = zc) (h2 : w1.alloc (.cells zc 2) = W2) (hX : (W2.alloc (.cells #[.int .i64 0, .slice none 0 0, .int .i64 0, .int .i64 0, .int .i64 0, .int .i64 0, .int .i64 0, .int .i64 0, .int .i64 0, .int .i64 0, .int .i64 0, .int .i64 0, .int .u32 0, .int .i64 0, .int .i64 0, .int .u32 0, .int .i64 0, .int .i64 0, .int .u32 0, .int .i64 0, .int .i64 0, .int .u32 0, .int .i64 0, .int .i64 0, .int .i64 0, .bool false, .bool false, .int .i64 0, .int .i64 0, .bool false, .bool false, .slice none 0 0, .int .i64 0, .int .i64 0] 35)).setRow (w1.heap.size + 1) #[.int .i64 1, .slice none 0 0, .int .i64 0, .int .i64 0, .int .i64 0, .int .i64 0, .int .i64 0, .int .i64 0, .int .i64 0, .int .i64 0, .int .i64 0, .int .i64 0, .int .u32 0, .int .i64 0, .int .i64 0, .int .u32 0, .int .i64 0, .int .i64 0, .int .u32 0, .int .i64 0, .int .i64 0, .int .u32 0, .int .i64 0, .int .i64 0, .int .i64 0, .bool false, .bool false, .int .i64 0, .int .i64 0, .bool false, .bool false, .slice (some ⟨w1.heap.size, 0, none⟩) n n, .int .i64 1, .int .i64 0] = X) :
    TxIn W2 W2.heap.size (mnNd w1.heap.size n) (mnNd w1.heap.size n) #[.int .i64 1, .slice none 0 0, .int .i64 0, .int .i64 0, .int .i64 0, .int .i64 0, .int .i64 0, .int .i64 0, .int .i64 0, .int .i64 0, .int .i64 0, .int .i64 0, .int .u32 0, .int .i64 0, .int .i64 0, .int .u32 0, .int .i64 0, .int .i64 0, .int .u32 0, .int .i64 0, .int .i64 0, .int .u32 0, .int .i64 0, .int .i64 0, .int .i64 0, .bool false, .bool false, .int .i64 0, .int .i64 0, .bool false, .bool false, .slice (some ⟨w1.heap.size, 0, none⟩) n n, .int .i64 1, .int .i64 0] X ∧ Below w1.heap.size w1 X := by
  have hs : W2.heap.size = w1.heap.size + 1 := by rw [← h2]; simp
  have hk : Whole W2 w1.heap.size 2 ((List.replicate n (0 : Int)).map (Value.int .i64)) := by rw [← h2, ← hz]; exact whole_new w1 _ 2 _ rfl
  have hI : Ints W2 (.slice (some ⟨w1.heap.size, 0, none⟩) n n) (List.replicate n 0) := Ints.whole hk (by simp) (by omega)
  have hok : (mnNd w1.heap.size n).ok W2 := ⟨⟨by simp [mnNd], .inl ⟨none, 0, rfl, rfl⟩⟩, hI, ⟨none, 0, 0, rfl, by omega, by omega⟩, ⟨_, _, _, rfl, by omega, by omega⟩⟩
  have hb : Below W2.heap.size W2 X := by rw [← hX]; exact ((Below.refl _ W2).alloc (Nat.le_refl _) _).trans (below_rowL _ _ _ (by omega))
  have hb1 : Below w1.heap.size w1 W2 := by rw [← h2]; exact (Below.refl _ w1).alloc (Nat.le_refl _) _
  refine ⟨⟨?_, hb, Nat.le_refl _, rfl, fun Z hZ => hok.below hZ⟩, hb1.trans (hb.mono (by omega))⟩
  rw [← hX, ← hs]
  have h0 : Whole (W2.alloc (.cells #[.int .i64 0, .slice none 0 0, .int .i64 0, .int .i64 0, .int .i64 0, .int .i64 0, .int .i64 0, .int .i64 0, .int .i64 0, .int .i64 0, .int .i64 0, .int .i64 0, .int .u32 0, .int .i64 0, .int .i64 0, .int .u32 0, .int .i64 0, .int .i64 0, .int .u32 0, .int .i64 0, .int .i64 0, .int .u32 0, .int .i64 0, .int .i64 0, .int .i64 0, .bool false, .bool false, .int .i64 0, .int .i64 0, .bool false, .bool false, .slice none 0 0, .int .i64 0, .int .i64 0] 35)) W2.heap.size 35 ndZL.cells := by rw [← shz_cells]; exact whole_new W2 ndZL.cells 35 _ rfl
  exact whole_rowL h0 (#[.int .i64 1, .slice none 0 0, .int .i64 0, .int .i64 0, .int .i64 0, .int .i64 0, .int .i64 0, .int .i64 0, .int .i64 0, .int .i64 0, .int .i64 0, .int .i64 0, .int .u32 0, .int .i64 0, .int .i64 0, .int .u32 0, .int .i64 0, .int .i64 0, .int .u32 0, .int .i64 0, .int .i64 0, .int .u32 0, .int .i64 0, .int .i64 0, .int .i64 0, .bool false, .bool false, .int .i64 0, .int .i64 0, .bool false, .bool false, .slice (some ⟨w1.heap.size, 0, none⟩) n n, .int .i64 1, .int .i64 0] : Array Value).toList
theorem mn_zero (w1 W2 : World) (zc : Array Value) (h2 : w1.alloc (.cells zc 2) = W2) : Whole (W2.alloc (.cells #[.int .i64 0, .slice none 0 0, .int .i64 0, .int .i64 0, .int .i64 0, .int .i64 0, .int .i64 0, .int .i64 0, .int .i64 0, .int .i64 0, .int .i64 0, .int .i64 0, .int .u32 0, .int .i64 0, .int .i64 0, .int .u32 0, .int .i64 0, .int .i64 0, .int .u32 0, .int .i64 0, .int .i64 0, .int .u32 0, .int .i64 0, .int .i64 0, .int .i64 0, .bool false, .bool false, .int .i64 0, .int .i64 0, .bool false, .bool false, .slice none 0 0, .int .i64 0, .int .i64 0] 35)) (w1.heap.size + 1) 35 ndZL.cells := by
  rw [← shz_cells]; exact whole_new W2 ndZL.cells 35 _ (by rw [← h2]; simp)
set_option maxRecDepth 100000 in
set_option maxHeartbeats 2000000 in
theorem many_at (n : Nat) (h1 : 9990 ≤ n) (h2 : n ≤ 10010) (w : World) :
    Calls Try.prog 9 #[.int .i64 (n : Int)] w fun e w' => e = .returned (.bool true) ∧ Below w.heap.size w w' := by
  have g1 : decide ((n : Int) < 9990) = false := by simp; omega
  have g2 : decide ((10010 : Int) < (n : Int)) = false := by simp; omega
  obtain ⟨zc, hzc⟩ : ∃ zc, ((List.replicate n (0 : Int)).map (Value.int .i64)).toArray = zc := ⟨_, rfl⟩
  have hmk := make_i64L n (by omega)
  rw [hzc] at hmk
  have HZC := Lib.hid hzc
  clear hzc
  go_enter Try.func9, Try.ntmps9
  go_wp2_with (go_at_call 10; refine (shown8_any _).mono ?_; rintro e w1 ⟨rfl, hb1⟩; refine Hid.out ?_)
  refine Lib.hid ?_
  have HB1 := Lib.hid hb1
  clear hb1
  obtain ⟨W2, hW2⟩ : ∃ W2, w1.alloc (.cells zc 2) = W2 := ⟨_, rfl⟩
  obtain ⟨X, hX⟩ : ∃ X, (W2.alloc (.cells #[.int .i64 0, .slice none 0 0, .int .i64 0, .int .i64 0, .int .i64 0, .int .i64 0, .int .i64 0, .int .i64 0, .int .i64 0, .int .i64 0, .int .i64 0, .int .i64 0, .int .u32 0, .int .i64 0, .int .i64 0, .int .u32 0, .int .i64 0, .int .i64 0, .int .u32 0, .int .i64 0, .int .i64 0, .int .u32 0, .int .i64 0, .int .i64 0, .int .i64 0, .bool false, .bool false, .int .i64 0, .int .i64 0, .bool false, .bool false, .slice none 0 0, .int .i64 0, .int .i64 0] 35)).setRow (w1.heap.size + 1) #[.int .i64 1, .slice none 0 0, .int .i64 0, .int .i64 0, .int .i64 0, .int .i64 0, .int .i64 0, .int .i64 0, .int .i64 0, .int .i64 0, .int .i64 0, .int .i64 0, .int .u32 0, .int .i64 0, .int .i64 0, .int .u32 0, .int .i64 0, .int .i64 0, .int .u32 0, .int .i64 0, .int .i64 0, .int .u32 0, .int .i64 0, .int .i64 0, .int .i64 0, .bool false, .bool false, .int .i64 0, .int .i64 0, .bool false, .bool false, .slice (some ⟨w1.heap.size, 0, none⟩) n n, .int .i64 1, .int .i64 0] = X := ⟨_, rfl⟩
  obtain ⟨hT, hbX⟩ := mn_tx w1 W2 X n (by omega) zc HZC.out hW2 hX
  have HZ := Lib.hid (mn_zero w1 W2 zc hW2)
  have hs2 : W2.heap.size = w1.heap.size + 1 := by rw [← hW2]; simp
  rw [hs2] at hT
  have HBX := Lib.hid (HB1.out.trans (hbX.mono HB1.out.size))
  have HXX := Lib.hid hX
  have HW2 := Lib.hid hW2
  have iL : Hid ((Try.prog.info? 35).map (·.size) = some (#[.int .i64 1, .slice none 0 0, .int .i64 0, .int .i64 0, .int .i64 0, .int .i64 0, .int .i64 0, .int .i64 0, .int .i64 0, .int .i64 0, .int .i64 0, .int .i64 0, .int .u32 0, .int .i64 0, .int .i64 0, .int .u32 0, .int .i64 0, .int .i64 0, .int .u32 0, .int .i64 0, .int .i64 0, .int .u32 0, .int .i64 0, .int .i64 0, .int .i64 0, .bool false, .bool false, .int .i64 0, .int .i64 0, .bool false, .bool false, .slice (some ⟨w1.heap.size, 0, none⟩) n n, .int .i64 1, .int .i64 0] : Array Value).size) := Lib.hid (by rw [Try.infoNd]; rfl)
  have zL : Hid (ndZL.cells.toArray.size = (#[.int .i64 1, .slice none 0 0, .int .i64 0, .int .i64 0, .int .i64 0, .int .i64 0, .int .i64 0, .int .i64 0, .int .i64 0, .int .i64 0, .int .i64 0, .int .i64 0, .int .u32 0, .int .i64 0, .int .i64 0, .int .u32 0, .int .i64 0, .int .i64 0, .int .u32 0, .int .i64 0, .int .i64 0, .int .u32 0, .int .i64 0, .int .i64 0, .int .i64 0, .bool false, .bool false, .int .i64 0, .int .i64 0, .bool false, .bool false, .slice (some ⟨w1.heap.size, 0, none⟩) n n, .int .i64 1, .int .i64 0] : Array Value).size) := Lib.hid rfl
  have oL := Lib.hid (mn_one w1.heap.size n)
  have hlX : w.heap.size ≤ X.heap.size := HBX.out.size
  obtain ⟨cs, hcs⟩ : ∃ cs, (#[.int .i64 1, .slice none 0 0, .int .i64 0, .int .i64 0, .int .i64 0, .int .i64 0, .int .i64 0, .int .i64 0, .int .i64 0, .int .i64 0, .int .i64 0, .int .i64 0, .int .u32 0, .int .i64 0, .int .i64 0, .int .u32 0, .int .i64 0, .int .i64 0, .int .u32 0, .int .i64 0, .int .i64 0, .int .u32 0, .int .i64 0, .int .i64 0, .int .i64 0, .bool false, .bool false, .int .i64 0, .int .i64 0, .bool false, .bool false, .slice (some ⟨w1.heap.size, 0, none⟩) n n, .int .i64 1, .int .i64 0] : Array Value) = cs := ⟨_, rfl⟩
  have HT : Hid (TxIn W2 (w1.heap.size + 1) (mnNd w1.heap.size n) (mnNd w1.heap.size n) cs X) := Lib.hid (hcs ▸ hT)
  have HMO := Lib.hid (fun Y (hY : TxIn W2 (w1.heap.size + 1) (mnNd w1.heap.size n) (mnNd w1.heap.size n) cs Y) => most_cs hY)
  have HRT := Lib.hid (fun Y (hY : TxIn W2 (w1.heap.size + 1) (mnNd w1.heap.size n) (mnNd w1.heap.size n) cs Y) => right_cs hY)
  rw [mn_text] at HRT
  clear hX hW2 hT hbX hs2 hcs
  by_cases hle : n ≤ 10000
  · have e1 : mostV (mnNd w1.heap.size n) = .tuple #[.int .i64 ((n : Int) - 1), .int .i64 0] := by
      unfold mostV
      rw [if_pos (by rw [mn_text]; simpa using hle)]
      rw [show wideW (mnNd w1.heap.size n).b (mnNd w1.heap.size n).ws 0 (mnNd w1.heap.size n).ws.length = (n : Int) - 1 from zeroW n (by omega)]
    rw [e1] at HMO
    rw [show decide (n ≤ 10000) = true by simpa using hle] at HRT
    have g3 : decide ((10000 : Int) < (n : Int)) = false := by simp; omega
    clear e1 hle
    go_wp2_with (first
      | (rw [HW2.out]; refine wpList_store_row rfl 35 (.tmp 4) (.tmp 17) rfl _ #[.int .i64 1, .slice none 0 0, .int .i64 0, .int .i64 0, .int .i64 0, .int .i64 0, .int .i64 0, .int .i64 0, .int .i64 0, .int .i64 0, .int .i64 0, .int .i64 0, .int .u32 0, .int .i64 0, .int .i64 0, .int .u32 0, .int .i64 0, .int .i64 0, .int .u32 0, .int .i64 0, .int .i64 0, .int .u32 0, .int .i64 0, .int .i64 0, .int .i64 0, .bool false, .bool false, .int .i64 0, .int .i64 0, .bool false, .bool false, .slice (some ⟨w1.heap.size, 0, none⟩) n n, .int .i64 1, .int .i64 0] rfl rfl 35 ndZL.cells.toArray HZ.out iL.out zL.out oL.out ?_; rw [HXX.out]; clear HZ)
      | (with_reducible refine wpList_load_at rfl 35 (.tmp 4) rfl _ rfl cs _ HT.out.load Try.underlying35 rfl (nd_infoC HT.out.eq) ?_)
      | (refine wpList_load_at_w rfl 35 (.tmp 4) rfl _ rfl cs _ HU.out.load Try.underlying35 rfl (nd_infoC HU.out.eq) ?_)
      | (go_at_call 21; refine (HMO.out _ HT.out).mono ?_; clear HMO; rintro e w3 ⟨rfl, hb3⟩; have HU := Lib.hid (HT.out.below hb3); have HB3 := Lib.hid (HBX.out.trans (hb3.mono hlX)); have hl3 := HB3.out.size; clear hb3 HT)
      | (go_at_call 15; refine (HRT.out _ HU.out).mono ?_; clear HRT; rintro e w4 ⟨rfl, hb4⟩; have HB4 := Lib.hid (HB3.out.trans (hb4.mono hl3)); clear hb4))
    all_goals (go_ret; exact ⟨rfl, HB4.out⟩)
  · have e1 : mostV (mnNd w1.heap.size n) = .tuple #[.int .i64 0, .int .i64 90] := by
      unfold mostV
      rw [if_neg (by rw [mn_text]; simpa using hle)]
    rw [e1] at HMO
    rw [show decide (n ≤ 10000) = false by simpa using hle] at HRT
    have g3 : decide ((10000 : Int) < (n : Int)) = true := by simp; omega
    clear e1
    go_wp2_with (first
      | (rw [HW2.out]; refine wpList_store_row rfl 35 (.tmp 4) (.tmp 17) rfl _ #[.int .i64 1, .slice none 0 0, .int .i64 0, .int .i64 0, .int .i64 0, .int .i64 0, .int .i64 0, .int .i64 0, .int .i64 0, .int .i64 0, .int .i64 0, .int .i64 0, .int .u32 0, .int .i64 0, .int .i64 0, .int .u32 0, .int .i64 0, .int .i64 0, .int .u32 0, .int .i64 0, .int .i64 0, .int .u32 0, .int .i64 0, .int .i64 0, .int .i64 0, .bool false, .bool false, .int .i64 0, .int .i64 0, .bool false, .bool false, .slice (some ⟨w1.heap.size, 0, none⟩) n n, .int .i64 1, .int .i64 0] rfl rfl 35 ndZL.cells.toArray HZ.out iL.out zL.out oL.out ?_; rw [HXX.out]; clear HZ)
      | (with_reducible refine wpList_load_at rfl 35 (.tmp 4) rfl _ rfl cs _ HT.out.load Try.underlying35 rfl (nd_infoC HT.out.eq) ?_)
      | (refine wpList_load_at_w rfl 35 (.tmp 4) rfl _ rfl cs _ HU.out.load Try.underlying35 rfl (nd_infoC HU.out.eq) ?_)
      | (go_at_call 21; refine (HMO.out _ HT.out).mono ?_; clear HMO; rintro e w3 ⟨rfl, hb3⟩; have HU := Lib.hid (HT.out.below hb3); have HB3 := Lib.hid (HBX.out.trans (hb3.mono hlX)); have hl3 := HB3.out.size; clear hb3 HT)
      | (go_at_call 15; refine (HRT.out _ HU.out).mono ?_; clear HRT; rintro e w4 ⟨rfl, hb4⟩; have HB4 := Lib.hid (HB3.out.trans (hb4.mono hl3)); clear hb4))
    all_goals (go_ret; exact ⟨rfl, HB4.out⟩)
set_option maxHeartbeats 1000000 in
theorem walk (a0 : Int) (w0 : (Lit.int .i64 a0).wf = true) (w : World) : Calls Try.prog 9 #[.int .i64 a0] w fun e w' => e = .returned (.bool true) ∧ Below w.heap.size w w' := by
  by_cases h1 : a0 < 9990
  · have g1 : decide (a0 < 9990) = true := by simpa using h1
    go_enter Try.func9, Try.ntmps9
    go_wp2_with (go_at_call 10; refine (shown8_any _).mono ?_; rintro e w1 ⟨rfl, hb1⟩; have HB1 := Lib.hid hb1; clear hb1)
    all_goals (go_ret; exact ⟨rfl, HB1.out⟩)
  · by_cases h2 : 10010 < a0
    · have g1 : decide (a0 < 9990) = false := by simpa using h1
      have g2 : decide (10010 < a0) = true := by simpa using h2
      go_enter Try.func9, Try.ntmps9
      go_wp2_with (go_at_call 10; refine (shown8_any _).mono ?_; rintro e w1 ⟨rfl, hb1⟩; have HB1 := Lib.hid hb1; clear hb1)
      all_goals (go_ret; exact ⟨rfl, HB1.out⟩)
    · obtain ⟨n, rfl⟩ := Int.eq_ofNat_of_zero_le (show 0 ≤ a0 by omega)
      exact many_at n (by omega) (by omega) w

set_option maxRecDepth 100000 in
theorem lifted (os : Os) (started : os.Started) (H : Type) (enc : TypeId × Value → H) :
    ReturnsInHanded {} Try.checked os 9 .any (Rows.linesManySpec.pre6 enc Try.prog Try.f9 Rows.linesManyRow.domain false) (Rows.linesManySpec.post enc Try.prog Try.f9 false true false false) := by
  refine returnsInHanded_of_change (C := Try.checked) own started (by kernel_rfl) Try.func9
    (ChangeSpec.witness6 (enc := enc) (C := Try.checked) false ⟨#[], #[.int .i64 0], []⟩ 8 (by kernel_rfl) (by kernel_rfl) (by kernel_rfl) (by kernel_rfl)) ?_
  intro W base args ds gs before hval0 hW hcnd _
  have hval : ∀ (j : Nat) t v, Try.f9.params[j]? = some t → args[j]? = some v → Value.okWide Try.prog W .any base t v := hval0
  have hW' := hW
  obtain ⟨p, q, hA0, hV, rfl, hfz, hnd⟩ := hW
  have hA : DataW.TrodAll enc Try.prog W 0 (fun _ => true) true Try.f9.params.toList args.toList ds p := hA0
  rw [Try.params9] at hA hval
  obtain ⟨v0, vs0, d0, ds0, p0, q0, hargs, rfl, rfl, h0, r0⟩ := trodAll_cons hA
  obtain ⟨rfl, rfl, rfl⟩ := trodAll_nil r0
  obtain rfl : args = #[v0] := by cases args; simp_all
  obtain ⟨rfl, rfl⟩ := trodVars_none hV
  obtain ⟨a0, rfl, rfl, rfl, w0⟩ := open_int Try.underlying3 (hval 0 3 v0 rfl rfl) h0
  clear hA0 hval0
  simp only [List.append_nil] at hW'
  refine (walk a0 w0 W).mono fun e W' ⟨he, hg⟩ => ?_
  subst he
  exact ⟨_, rfl, _, _, _, [], [], [], hW', (trodAll_cons_mk (shut_bool Try.underlying4 _) trodAll_mk0), (trodAll_cons_mk (shut_int Try.underlying3 w0) trodAll_mk0), rfl, hg.frame _, fun h => by cases h⟩

theorem over : Rows.linesManyRow.holds Try.pinned (OpenSpec.ofChange Rows.linesManySpec) :=
  OpenClaim.holds_of_wide 9 Try.f9 rfl rfl rfl rfl rfl rfl rfl ⟨rfl, rfl, rfl, rfl, rfl⟩ rfl rfl rfl rfl rfl (by kernel_rfl) Try.func9 (by kernel_rfl)
    (of_decide_eq_true (by kernel_rfl)) (by unfold Func.isWrapper; first | (rw [if_pos (by decide +kernel)]; kernel_rfl) | (rw [if_neg (by decide +kernel)]; exact ⟨rfl, rfl⟩))
    (fun os started H enc _ => lifted os started H enc)

/-- the statement -/
theorem proved : Rows.LinesManySaid :=
  over
#print axioms proved
end Go.Proofs.Ythgkjgaebgpplaa.linesMany
