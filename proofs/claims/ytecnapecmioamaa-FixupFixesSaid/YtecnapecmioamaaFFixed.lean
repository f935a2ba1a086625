/- Contract of fixup.Fixed: whether every kid may stand where it does. -/
import Derived.Test.YtecnapecmioamaaFSum
import Derived.Test.YtecnapecmioamaaFNode
import Derived.Test.YtecnapecmioamaaFFix
import Derived.ScopeJumps
import Derived.WalkMore
namespace Go.Proofs.Ytecnapecmioamaa
open Go.RowKit Go.Shelf Go.Maps
set_option linter.unusedVariables false
attribute [local go_sem] Oper.semAt_some

def fixedB (ns : List Nd) : Bool := ns.all fun n => n.ks.all (mayAt n.k ns)
/-- all kids so far may stand where they do -/
def soFar (p : Int → Bool) (ks : List Int) (pre : List (Bool × Nat × Nat)) : Prop := ∀ z ∈ ks.take (endR pre), p z = true
def markD (D : Nat) : Deferred := { target := .collected D, args := #[] }
def LI (b off m cap bm N0 : Nat) (ns : List Nd) (w : World) : Act → World → Prop := fun a X =>
  ∃ (i : Nat) (Ds : List Nat) (x9 x10 x23 x24 x25 x26 x27 x28 x29 x30 x31 x32 x33 x34 x35 x36 x37 x38 x39 : Value), a = { tmps := #[.slice (some ⟨b, off, none⟩) m cap, undef, .bool false, .int .i64 0, .int .i64 0, .int .i64 0, .map (some bm), .pointer (some ⟨N0, 0, none⟩), undef, x9, x10, .tuple #[.int .i64 0, .int .i64 0], .slice (some ⟨b, off, none⟩) m cap, .tuple #[.int .i64 0, .int .i64 0], .int .i64 0, .int .i64 0, .int .i64 0, .bool false, undef, .map (some bm), .slice (some ⟨b, off, none⟩) m cap, .int .i64 m, .int .i64 i, x23, x24, x25, x26, x27, x28, x29, x30, x31, x32, x33, x34, x35, x36, x37, x38, x39], defers := Ds.map markD } ∧ i ≤ m ∧
    Hid (Marks N0 Ds X ∧ Below w.heap.size w X ∧ Whole X N0 4 [.bool true] ∧ PermAt X bm ∧ PageAt X (.slice (some ⟨b, off, none⟩) m cap) ns ∧ (∀ n ∈ ns.take i, n.ks.all (mayAt n.k ns) = true) ∧ ∀ D ∈ Ds, D < X.heap.size)
def FX (N0 : Nat) (p : Int → Bool) (ks : List Int) (R : World → Prop) (W3 : World) (pre : List (Bool × Nat × Nat)) (X : World) : Prop :=
  Whole X N0 4 [.bool true] ∧ soFar p ks pre ∧ R X ∧ Below W3.heap.size W3 X
def FXx (N0 : Nat) (Ds : List Nat) (v : Bool) (w : World) (c : Code) (pre : List (Bool × Nat × Nat)) (X : World) : Prop :=
  c = .exit 0 ∧ Whole X N0 4 [.bool false] ∧ Marks N0 Ds X ∧ Below w.heap.size w X ∧ v = false ∧ ∀ D ∈ Ds, D < X.heap.size
set_option maxRecDepth 100000 in
set_option maxHeartbeats 2000000 in
theorem fixed_ok (b off cap m : Nat) (ns : List Nd) (w : World) (hm : ns.length = m) (h1 : 1 ≤ m) (h2 : m ≤ 65536) (hK : ∀ n ∈ ns, n.ks.length ≤ 70000) (hP : PageAt w (.slice (some ⟨b, off, none⟩) m cap) ns)
    (hkind : ∀ n ∈ ns, 0 ≤ n.k ∧ n.k ≤ 10) (hlink : ∀ n ∈ ns, ∀ z ∈ n.ks, 0 ≤ z ∧ z < (m : Int))
    (H : Hid (Calls Try.prog 16 #[.slice (some ⟨b, off, none⟩) m cap] w fun e W' => e = .returned (.tuple #[.int .i64 0, .int .i64 0]) ∧ Below w.heap.size w W')) :
    Calls Try.prog 7 #[.slice (some ⟨b, off, none⟩) m cap] w fun e W' => e = .returned (.tuple #[.bool (fixedB ns), .int .i64 0]) ∧ Below w.heap.size w W' := by
  refine (callsIn_wide (n := 3)).1 (callsIn_of_wp_marks Try.func7 rfl trivial (wpIn_wide.2 ?_) rfl)
  simp only [Try.ntmps7, List.size_toArray, List.length_cons, List.length_nil, Nat.reduceAdd, Nat.reduceSub, Array.replicate_succ, Array.replicate_zero, List.push_toArray, List.append_toArray, List.nil_append, List.cons_append]
  have HP := Lib.hid hP
  have HM := Lib.hid hm
  have HK := Lib.hid hK
  have HKI := Lib.hid hkind
  have HLI := Lib.hid hlink
  clear hP hm hK hkind hlink
  go_wp2
  refine wp_scope_straight ?_
  go_wp2_with (first
    | (go_at_call 16; refine H.out.mono ?_; clear H; rintro e w1 ⟨rfl, hb1⟩; have HB1 := Lib.hid hb1; clear hb1)
    | (go_at_call 14; refine (permitted_any _).mono ?_; rintro e w2 ⟨bm, rfl, hbm, hpm, hb2⟩; have HPM := Lib.hid hpm; have HB2 := Lib.hid hb2; clear hpm hb2))
  refine wp_label ?_
  go_wp2
  obtain ⟨N0, hN0⟩ : ∃ N0, w2.heap.size = N0 := ⟨_, rfl⟩
  have hw0 : w.heap.size ≤ N0 := by rw [← hN0]; exact Nat.le_trans HB1.out.size HB2.out.size
  obtain ⟨W2, hW2⟩ : ∃ W2, w2.alloc (.cells #[.bool true] 4) = W2 := ⟨_, rfl⟩
  have HI0 : Hid (Marks N0 [] W2 ∧ Below w.heap.size w W2 ∧ Whole W2 N0 4 [.bool true] ∧ PermAt W2 bm ∧ PageAt W2 (.slice (some ⟨b, off, none⟩) m cap) ns ∧ (∀ n ∈ ns.take 0, n.ks.all (mayAt n.k ns) = true) ∧ ∀ D ∈ ([] : List Nat), D < W2.heap.size) := Lib.hid (by
    have hb2 : Below w2.heap.size w2 W2 := by rw [← hW2]; exact (Below.refl _ w2).alloc (Nat.le_refl _) _
    refine ⟨Marks.nil _ _, (HB1.out.trans (HB2.out.mono HB1.out.size)).trans (hb2.mono (by omega)), by rw [← hW2, ← hN0]; exact whole_new w2 [.bool true] 4 _ rfl, HPM.out.same (hb2.block bm HPM.out.lt), ?_, by simp, by simp⟩
    exact ((HP.out.below HB1.out).below HB2.out).below hb2)
  rw [hN0, hW2]
  clear hW2 hbm HPM HB1 HB2 HP hN0
  refine wp_loop (LI b off m cap bm N0 ns w) (fun a _ => m - (intOf (a.tmps.getD 22 undef)).toNat) ⟨0, [], undef, undef, undef, undef, undef, undef, undef, undef, undef, undef, undef, undef, undef, undef, undef, undef, undef, undef, undef, rfl, by omega, HI0⟩ ?_
  rintro a X ⟨i, Ds, x9, x10, x23, x24, x25, x26, x27, x28, x29, x30, x31, x32, x33, x34, x35, x36, x37, x38, x39, rfl, hi, HI⟩
  clear HI0
  by_cases hlt : i < m
  · obtain ⟨n, hn⟩ : ∃ n, ns[i]? = some n := ⟨_, List.getElem?_eq_getElem (by rw [HM.out]; exact hlt)⟩
    have hmem : n ∈ ns := List.mem_iff_getElem?.2 ⟨i, hn⟩
    obtain ⟨I1, I2, I3, I4, I5, I6, I7⟩ := HI.out
    obtain ⟨b', o', cap', e, hnd, hok, _⟩ := (show ∃ b' o' cap', (.slice (some ⟨b, off, none⟩) m cap : Value) = .slice (some ⟨b', o', none⟩) ns.length cap' ∧ NdAt X b' (o' + i * 34) n ∧ n.ok X ∧ i < ns.length from by
      obtain ⟨_, g2, ⟨a, c, e, rfl⟩ | ⟨b', o', c, e, hc⟩⟩ := I5
      · simp at hn
      · exact ⟨b', o', c, e, hc i n hn, g2 n hmem, (List.getElem?_eq_some_iff.1 hn).1⟩)
    injection e with e1 e2 e3
    injection e1 with e1; injection e1 with e1 e4
    subst e1 e4
    have LN := Lib.hid hnd.load
    have iN := Lib.hid (nd_info n)
    have oN := Lib.hid (nd_one n X hok)
    have zN : Hid (Nd.zero.cells.toArray.size = n.cells.toArray.size) := Lib.hid (by simp [Nd.len])
    have hKD : ∀ j, j < m → X.cell? ⟨b, off + j * 34, none⟩ = some (.int .i64 (kdOf ns j)) := fun j hj => by
      obtain ⟨_, _, ⟨a, c, e, rfl⟩ | ⟨b', o', c, e, hc⟩⟩ := I5
      · simp at hn
      · injection e with e1 _ _
        injection e1 with e1; injection e1 with e1 e4
        have hj' := List.getElem?_eq_getElem (show j < ns.length by rw [HM.out]; exact hj)
        have := hc j _ hj' 0 _ (Nd.c0 _)
        unfold kdOf
        rw [hj', e1, e4]
        simpa using this
    obtain ⟨q, kc, hkv⟩ := hok.1.form
    obtain ⟨k, hk⟩ : ∃ k, n.k = k := ⟨_, rfl⟩
    obtain ⟨kl, hkl⟩ : ∃ kl, n.ks.length = kl := ⟨_, rfl⟩
    have hk10 := HKI.out n hmem
    rw [hk] at hk10
    rw [hkl] at hkv
    have hbX : b < X.heap.size := cell_lt (hKD i hlt)
    have HLK : Hid (∀ Y : World, Y.heap[bm]? = X.heap[bm]? → (Instr.lookup 49 (.map (some bm)) (.int .i64 k) false).run Try.prog Y = .ok (.int .u64 (permM k)) Y) := Lib.hid fun Y hY => (I4.same hY).look k (litwfP (by omega) (by omega))
    have hPl := I4.lt
    have CS2 : Hid (∀ Y, Whole Y X.heap.size 47 n.cells → Y.cell? ⟨X.heap.size, 0, none⟩ = some (.int .i64 k) ∧ Y.cell? ⟨X.heap.size, 1, none⟩ = some (.slice q kl kc)) := Lib.hid fun Y h => ⟨by rw [h.cellAt, ← hk]; rfl, by rw [h.cellAt, ← hkv]; rfl⟩
    have HRF := Lib.hid (fun Y => runsF_any (some ⟨b, off, none⟩) q m cap kl kc (permM k) Y)
    have HKD := Lib.hid hKD
    have HOK := Lib.hid hok
    have HKV := Lib.hid hkv
    have HKL := Lib.hid hkl
    have HKK := Lib.hid hk
    have HN := Lib.hid hn
    have HMEM := Lib.hid hmem
    have LZ := I3.lt
    obtain ⟨cs, hcs⟩ : ∃ cs, n.cells.toArray = cs := ⟨_, rfl⟩
    rw [hcs] at LN iN oN zN
    have HCE := Lib.hid hcs
    clear hcs hnd hok hKD hkv hk hkl hn hmem I1 I2 I3 I4 I5 I6 I7 e2 e3
    go_wp2_with (first
      | (refine wpList_load_at rfl 47 (.tmp 24) rfl _ rfl cs _ LN.out Try.underlying47 rfl iN.out ?_)
      | (refine wpList_store_row rfl 47 (.tmp 9) (.tmp 25) rfl _ cs rfl rfl 47 Nd.zero.cells.toArray (whole_new X Nd.zero.cells 47 _ rfl) iN.out zN.out oN.out ?_; refine at_world (fun Y => Whole Y X.heap.size 47 n.cells ∧ Below X.heap.size X Y) ⟨by rw [← HCE.out]; exact whole_row (whole_new X Nd.zero.cells 47 _ rfl) _, ((Below.refl _ X).alloc (Nat.le_refl _) _).trans (below_row _ _ _ (Nat.le_refl _))⟩ (fun Y hY => ?_); obtain ⟨KY, BY⟩ := hY; obtain ⟨cy0, cy1⟩ := CS2.out Y KY; have ly := KY.lt; have hlk := HLK.out Y (BY.block bm hPl); have KYY := Lib.hid KY; have BYY := Lib.hid BY; clear KY BY LN oN zN)
      | (go_at_call 17; refine (HRF.out _).mono ?_; rintro e w' ⟨rfl, rfl⟩))
    obtain ⟨W3, hW3⟩ : ∃ W3, ((Y.alloc (.cells #[.slice (some ⟨b, off, none⟩) m cap] 22)).alloc (.cells #[.slice q kl kc] 34)).alloc (.cells #[.int .u64 (permM k)] 56) = W3 := ⟨_, rfl⟩
    have bW3 : Below Y.heap.size Y W3 := by rw [← hW3]; exact (((Below.refl _ Y).alloc (Nat.le_refl _) _).alloc (by simp) _).alloc (by simp; omega) _
    have s3 : W3.heap.size = Y.heap.size + 3 := by rw [← hW3]; simp
    have y0 : Whole W3 Y.heap.size 22 [.slice (some ⟨b, off, none⟩) m cap] := by rw [← hW3]; exact ((whole_new Y [.slice (some ⟨b, off, none⟩) m cap] 22 _ rfl).alloc _).alloc _
    have y1 : Whole W3 (Y.heap.size + 1) 34 [.slice q kl kc] := by rw [← hW3]; exact (whole_new (Y.alloc (.cells #[.slice (some ⟨b, off, none⟩) m cap] 22)) [.slice q kl kc] 34 _ (by simp)).alloc _
    have y2 : Whole W3 (Y.heap.size + 2) 56 [.int .u64 (permM k)] := by rw [← hW3]; exact whole_new ((Y.alloc (.cells #[.slice (some ⟨b, off, none⟩) m cap] 22)).alloc (.cells #[.slice q kl kc] 34)) [.int .u64 (permM k)] 56 _ (by simp)
    have hXY := BYY.out.size
    have b3 : Below X.heap.size X W3 := BYY.out.trans (bW3.mono hXY)
    have hIk : Ints X (.slice q kl kc) n.ks := by rw [← HKV.out]; exact HOK.out.1
    have hCk : CapOk (.slice q kl kc) := by rw [← HKV.out]; exact HOK.out.2.2.1
    have hRun : RunM (Y.heap.size + 3) Y.heap.size (Y.heap.size + 1) (Y.heap.size + 2) b off m cap (permM k) (.slice q kl kc) n.ks (kdOf ns) W3 := by
      refine ⟨by omega, by omega, y0.cellAt 0, y1.cellAt 0, y2.cellAt 0, hIk.below b3, ?_, fun j hj => (b3.cell (p := ⟨b, off + j * 34, none⟩) hbX).trans (HKD.out j hj)⟩
      obtain ⟨_, ⟨a, cap', e, hz⟩ | ⟨b', o', cap', e, hc⟩⟩ := hIk
      · exact .inl hz
      · by_cases hz : n.ks = []
        · exact .inl hz
        · refine .inr ⟨b', o', cap', e, ?_⟩
          have : b' < X.heap.size := cell_lt (hc 0 (List.length_pos_iff.2 hz))
          omega
    obtain ⟨I1, I2, I3, I4, I5, I6, I7⟩ := HI.out
    have hN3 : Whole W3 N0 4 [.bool true] := I3.below b3 I3.lt
    have hM3 : ∀ Z, Below W3.heap.size W3 Z → Marks N0 Ds Z := fun Z hZ => ⟨I1.1, fun D hD => ⟨(I1.2 D hD).1, ((hZ.block D (by have := I7 D hD; omega)).trans (b3.block D (I7 D hD))).trans (I1.2 D hD).2⟩⟩
    have HM3 := Lib.hid hM3
    have HB3 := Lib.hid (I2.trans (b3.mono I2.size))
    have B3 := Lib.hid b3
    have h7 : ∀ D ∈ Ds, D < W3.heap.size := fun D hD => by have := I7 D hD; omega
    have H7 := Lib.hid h7
    have hw3 : w.heap.size ≤ W3.heap.size := (I2.trans (b3.mono I2.size)).size
    rw [hW3]
    clear hW3 bW3 y0 y1 y2 hIk b3 hM3 I1 I2 I3 I4 I5 I6 I7 cy0 cy1 hlk HLK HRF CS2 KYY BYY HKD iN h7
    refine (wpIn_wide (n := 3)).1 (range_next (F := Fence.wide) rfl (by omega) (gf := 37) (lb := #[.pointer (some ⟨Y.heap.size + 1, 0, none⟩), .pointer (some ⟨Y.heap.size + 1 + 1, 0, none⟩), .pointer (some ⟨Y.heap.size, 0, none⟩)]) rfl trivial (enters_of Try.func37 (by kernel_rfl) rfl)
      (Kp := KeepR (RunM (Y.heap.size + 3) Y.heap.size (Y.heap.size + 1) (Y.heap.size + 2) b off m cap (permM k) (.slice q kl kc) n.ks (kdOf ns))) (fun _ _ _ h k => h.trans k) (fun W l o h1 h2 => ⟨by simp, fun hr => hr.below (below_put W o (by omega) h2)⟩)
      (runs_nextV _ (by omega) (Y.heap.size + 3) Y.heap.size (Y.heap.size + 1) (Y.heap.size + 2) b off m cap (permM k) (.slice q kl kc) n.ks (kdOf ns) hCk (by omega) (permM_pos k) (HLI.out n HMEM.out) W3 hRun s3.symm) (fun x => encV_size _ x)
      (FX N0 (mayAt k ns) n.ks (RunM (Y.heap.size + 3) Y.heap.size (Y.heap.size + 1) (Y.heap.size + 2) b off m cap (permM k) (.slice q kl kc) n.ks (kdOf ns)) W3) (FXx N0 Ds (fixedB ns) w) ?own ?ownx
      ⟨hN3, fun z hz => by simp [endR] at hz, hRun, Below.refl _ _⟩ ?round ?done ?stop)
    case own =>
      rintro pre X1 Y1 row ⟨g1, g2, g3, g4⟩ hg hr
      have hnc : NoCells X1 row := fun r e => (hr r e).2
      exact ⟨g1.grown hg (g1.ne hnc), g2, g3.grownN hg hnc, (ownFrom_below (β := Unit) (Nat.le_refl _) (Nat.le_refl _)) () X1 Y1 row g4 hg hr⟩
    case ownx =>
      rintro c pre X1 Y1 row ⟨g1, g2, g3, g4, g5, g6⟩ hg hr
      have hnc : NoCells X1 row := fun r e => (hr r e).2
      refine ⟨g1, g2.grown hg (g2.ne hnc), ⟨g3.1, fun D hD => ⟨(g3.2 D hD).1, (hg.block D (g6 D hD) (fun e => ?_)).trans (g3.2 D hD).2⟩⟩, (ownFrom_below (β := Unit) (Nat.le_refl _) hw3) () X1 Y1 row g4 hg hr, g5, fun D hD => Nat.lt_of_lt_of_le (g6 D hD) hg.size⟩
      have := (hr D e.symm).1
      have := H7.out D hD
      omega
    case round =>
      rintro l pre ⟨r, f, t⟩ V hl hI ⟨hfe, hra⟩
      dsimp only at hfe hra
      have hlow := hI.2.2.1.low
      rcases hlow with h | ⟨qb, qo, c, e, hq⟩
      · have := hra.lt; have := hra.le; rw [h] at this; simp at this; omega
      injection e with e1 e2 e3
      subst e1 e3
      clear e2
      have HFE := Lib.hid hfe
      have HRA := Lib.hid hra
      clear hfe hra
      refine ⟨{ tmps := #[.slice (some ⟨b, off, none⟩) m cap, undef, .bool false, .int .i64 0, .int .i64 0, .int .i64 0, .map (some bm), .pointer (some ⟨N0, 0, none⟩), undef, .pointer (some ⟨X.heap.size, 0, none⟩), .bool r, .tuple #[.int .i64 0, .int .i64 0], .slice (some ⟨b, off, none⟩) m cap, .tuple #[.int .i64 0, .int .i64 0], .int .i64 0, .int .i64 0, .int .i64 0, .bool false, undef, .map (some bm), .slice (some ⟨b, off, none⟩) m cap, .int .i64 m, .int .i64 i, .bool true, .pointer (some ⟨b, off + i * 34, none⟩), .agg cs, .slice (some ⟨b, off, none⟩) m cap, .pointer (some ⟨X.heap.size, 1, none⟩), .slice (some ⟨qb, qo, none⟩) kl kc, .map (some bm), .pointer (some ⟨X.heap.size, 0, none⟩), .int .i64 k, .int .u64 (permM k), .func (.func 37) #[] #[.pointer (some ⟨Y.heap.size + 1, 0, none⟩), .pointer (some ⟨Y.heap.size + 1 + 1, 0, none⟩), .pointer (some ⟨Y.heap.size, 0, none⟩)], .bool r, .slice (some ⟨qb, qo + f, none⟩) (t - f) (kc - f), x36, x37, x38, x39], defers := [] }, V, ?_, KeepsFrom.refl _ _, ⟨Nat.le_refl _, id⟩, ?_⟩
      · intro K hK
        dsimp only [encV, encR]
        gi_wp2
        exact hK
      · intro V₂ hgV hnc' hbl
        obtain ⟨g1, g2, g3, g4⟩ := hI
        have q1 := g1.grown hgV (g1.ne hnc')
        have q3 := g3.grownN hgV hnc'
        have q4 : Below W3.heap.size W3 V₂ := (ownFrom_below (β := Unit) (Nat.le_refl _) (Nat.le_refl _)) () V V₂ (some l) g4 hgV (fun r' e => by injection e with e; exact ⟨by omega, hnc' r' (by rw [e])⟩)
        have c7 := q1.cellAt 0
        have f7 := q1.free 0
        have l7 := q1.lt
        have Q1 := Lib.hid q1
        have Q3 := Lib.hid q3
        have Q4 := Lib.hid q4
        have G2 := Lib.hid g2
        clear g1 g2 g3 g4 q1 q3 q4 hgV hnc' hbl hRun hN3 hCk
        cases r with
        | true =>
          gi_wp2
          refine ⟨KeepsFrom.refl _ _, ⟨Nat.le_refl _, id⟩, Q1.out, ?_, Q3.out, Q4.out⟩
          unfold soFar
          rw [endR_snoc]
          intro z hz
          rw [take_run n.ks f t (Nat.le_of_lt HRA.out.lt)] at hz
          rcases List.mem_append.1 hz with hz | hz
          · rw [HFE.out] at hz; exact G2.out z hz
          · exact HRA.out.mem z hz
        | false =>
          gi_wp2
          have hko : KeepsOthers V₂ (V₂.setCell ⟨N0, 0, none⟩ (.bool false)) := KeepsOthers.setCell _ _ _
          have hmk := HM3.out V₂ Q4.out
          refine ⟨hko.from _, rfl, Q1.out.set 0 _, ⟨hmk.1, fun D hD => ⟨(hmk.2 D hD).1, ?_⟩⟩, ((HB3.out.trans (Q4.out.mono hw3))).setCell (p := ⟨N0, 0, none⟩) hw0 _, ?_, fun D hD => by have := H7.out D hD; have := Q4.out.size; simp; omega⟩
          · rw [Below.heap_setCell V₂ _ _ D (show D ≠ N0 by
              intro e
              have h1 := (hmk.2 D hD).2
              have h2 : V₂.heap[N0]? = _ := Q1.out
              rw [e, h2] at h1; cases h1)]
            exact (hmk.2 D hD).2
          · obtain ⟨z, hz⟩ := List.exists_mem_of_ne_nil _ HRA.out.ne
            have hzf : mayAt k ns z = false := HRA.out.mem z hz
            have hzk : z ∈ n.ks := by
              unfold runOf at hz
              exact List.mem_of_mem_drop (List.mem_of_mem_take hz)
            unfold fixedB
            rw [List.all_eq_false]
            refine ⟨n, HMEM.out, ?_⟩
            rw [Bool.not_eq_true, List.all_eq_false]
            exact ⟨z, hzk, by rw [HKK.out, hzf]; simp⟩
    case done =>
      rintro D xs V hD hS ⟨g1, g2, g3, g4⟩ hmk
      have hok2 : n.ks.all (mayAt n.k ns) = true := by
        rw [List.all_eq_true]
        intro z hz
        rw [HKK.out]
        exact g2 z (by rw [hS, List.take_of_length_le (Nat.le_refl _)]; exact hz)
      have hb4 : Below X.heap.size X V := B3.out.trans (g4.mono (by omega))
      have hmm := HM3.out V g4
      have hlD : D < V.heap.size := (Array.getElem?_eq_some_iff.1 hmk).1
      have HI2 : Hid (Marks N0 (D :: Ds) V ∧ Below w.heap.size w V ∧ Whole V N0 4 [.bool true] ∧ PermAt V bm ∧ PageAt V (.slice (some ⟨b, off, none⟩) m cap) ns ∧ (∀ n ∈ ns.take (i + 1), n.ks.all (mayAt n.k ns) = true) ∧ ∀ E ∈ D :: Ds, E < V.heap.size) := Lib.hid (by
        obtain ⟨I1, I2, I3, I4, I5, I6, I7⟩ := HI.out
        refine ⟨hmm.cons (by have := LZ; omega) hmk (fun E hE => by have := H7.out E hE; omega), I2.trans (hb4.mono I2.size), g1, I4.same (hb4.block bm hPl), I5.below hb4, fun a ha => ?_, fun E hE => ?_⟩
        · rw [List.take_add_one, HN.out] at ha
          rcases List.mem_append.1 ha with ha | ha
          · exact I6 a ha
          · obtain rfl : a = n := by simpa using ha
            exact hok2
        · rcases List.mem_cons.1 hE with rfl | hE
          · exact hlD
          · have := H7.out E hE; have := g4.size; omega)
      clear g1 g2 g3 g4 hmk hS hok2 hb4 hmm hRun hN3 hCk
      go_wp2
      refine ⟨⟨i + 1, D :: Ds, _, _, _, _, _, _, _, _, _, _, _, _, _, _, _, _, _, _, _, rfl, by omega, HI2⟩, by simp [intOf]; omega⟩
    case stop =>
      rintro D c pre V hD _ ⟨rfl, g2, g3, g4, g5, g6⟩ hmk
      have c7 := g2.cellAt 0
      have l7 := g2.lt
      have hmm : Marks N0 (D :: Ds) V := g3.cons (by have := LZ; omega) hmk (fun E hE => by have := H7.out E hE; omega)
      have HMM := Lib.hid hmm
      have HBW := Lib.hid g4
      have HF := Lib.hid g5
      clear g2 g3 g4 g6 hmk hmm hRun hN3 hCk
      refine wpIn_wide.2 ?_
      go_wp2
      refine leaves_marks N0 (D :: Ds) _ HMM.out (fun W' hck hbk => ⟨.tuple #[.bool false, .int .i64 0], by simp [results, Try.results7, go_sem], by rw [HF.out], HBW.out.trans (hbk.mono hw0)⟩)
  · obtain rfl : i = m := by omega
    obtain ⟨I1, I2, I3, I4, I5, I6, I7⟩ := HI.out
    have c7 := I3.cellAt 0
    have l7 := I3.lt
    have hT : fixedB ns = true := by
      unfold fixedB
      rw [List.all_eq_true]
      intro n hn
      exact I6 n (by rw [List.take_of_length_le (by rw [HM.out]; exact Nat.le_refl _)]; exact hn)
    have HT := Lib.hid hT
    have HMM := Lib.hid I1
    have HBW := Lib.hid I2
    clear I1 I2 I3 I4 I5 I6 I7 hT
    go_wp2
    refine leaves_marks N0 Ds _ HMM.out (fun W' hck hbk => ⟨.tuple #[.bool true, .int .i64 0], by simp [results, Try.results7, go_sem], by rw [HT.out], HBW.out.trans (hbk.mono hw0)⟩)
set_option maxHeartbeats 400000 in
theorem fixed_bad (p : Option Addr) (m cap : Nat) (w : World) (b : Int) (hb : b ≠ 0) (x : Int) (H : Hid (Calls Try.prog 16 #[.slice p m cap] w fun e W' => e = .returned (.tuple #[.int .i64 x, .int .i64 b]) ∧ Below w.heap.size w W')) :
    Calls Try.prog 7 #[.slice p m cap] w fun e W' => e = .returned (.tuple #[.bool false, .int .i64 b]) ∧ Below w.heap.size w W' := by
  have hb' : (b != 0) = true := by simpa using hb
  refine (callsIn_wide (n := 3)).1 (callsIn_of_wp_marks Try.func7 rfl trivial (wpIn_wide.2 ?_) rfl)
  simp only [Try.ntmps7, List.size_toArray, List.length_cons, List.length_nil, Nat.reduceAdd, Nat.reduceSub, Array.replicate_succ, Array.replicate_zero, List.push_toArray, List.append_toArray, List.nil_append, List.cons_append]
  go_wp2
  refine wp_scope_straight ?_
  go_wp2_with (go_at_call 16; refine H.out.mono ?_; clear H; rintro e w1 ⟨rfl, hb1⟩; have HB1 := Lib.hid hb1; clear hb1)
  simp only [Exit.noGoto]
  refine leaves_marks w.heap.size [] _ (Marks.nil _ _) (fun W' hck hbk => ⟨.tuple #[.bool false, .int .i64 b], by simp [results, Try.results7, go_sem], rfl, HB1.out.trans hbk⟩)
theorem fixedF_good (lv : Value) (ns : List Nd) (w : World) (hP : PageAt w lv ns) (hK : ∀ n ∈ ns, n.ks.length ≤ 70000) (F : Fine ns) : Calls Try.prog 7 #[lv] w fun e W' => e = .returned (.tuple #[.bool (fixedB ns), .int .i64 0]) ∧ Below w.heap.size w W' := by
  have H := check_any lv ns w hP hK
  rw [fine_check F] at H
  have hw := F.wrong
  rw [List.any_eq_false] at hw
  have hk : ∀ n ∈ ns, 0 ≤ n.k ∧ n.k ≤ 10 := fun n hn => (wrong_kind (n := n) (by simpa using hw n hn)).1
  have hl : ∀ n ∈ ns, ∀ z ∈ n.ks, 0 ≤ z ∧ z < (ns.length : Int) := fun n hn z hz => by have := F.link n hn z hz; omega
  have h1 := F.len1
  have h2 := F.len2
  obtain ⟨_, _, ⟨a, cap, e, rfl⟩ | ⟨b, off, cap, e, hc⟩⟩ := (id hP)
  · simp at h1
  · subst e
    exact fixed_ok b off cap _ ns w rfl h1 h2 hK hP hk hl (Lib.hid H)
theorem fixedF_not (lv : Value) (ns : List Nd) (w : World) (hP : PageAt w lv ns) (hK : ∀ n ∈ ns, n.ks.length ≤ 70000) (hb : (checkP ns).2 ≠ 0) : Calls Try.prog 7 #[lv] w fun e W' => e = .returned (.tuple #[.bool false, .int .i64 (checkP ns).2]) ∧ Below w.heap.size w W' := by
  have H := check_any lv ns w hP hK
  obtain ⟨p, cap, rfl⟩ := hP.form
  exact fixed_bad p _ cap w _ hb _ (Lib.hid H)
end Go.Proofs.Ytecnapecmioamaa
