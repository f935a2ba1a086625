/- Contract of collapse.requests.at. Written by mk_CoAt.py. -/
import Derived.Test.YtceippgkmoijdaaCoCl
import Derived.Test.YtceippgkmoijdaaOrdL
namespace Go.Proofs.Ytceippgkmoijdaa
open Go.RowKit Go.Shelf Go.Sort Go.Maps
set_option linter.unusedVariables false
set_option linter.unusedSimpArgs false
attribute [local go_sem] Oper.semAt_some

theorem wpList_build1 {P : Program} {ops : Array Oper} {rest : List Oper} {o : Oper} {a : Act} {w X : World} {Q : Exit → Act → World → Prop} (hgd : o.guard = none) (t : TypeId) (x : Operand) (ho : o.op = .buildSlice t 1 #[(0, x)]) (u r : Value) (hx : a.eval x = u)
    (hr : (Instr.buildSlice t 1 #[(0, u)]).run P w = .ok r X) (h : wpList P ops Q rest (a.put o.dst r) X) : wpList P ops Q (o :: rest) a w :=
  wpList_plain hgd fun _ hK => wp_build1 t x ho u r hx hr (hK _ _ h)
/-- the memory of at: claims that grow, what it was given, its result -/
structure AtM (W : World) (vs : List Value) (v : Value) (cs : List Cl) (X : World) : Prop where
  own : X.ownsRow (W.heap.size + 2) 108 7 v cs.length (cs.flatMap Cl.cells)
  box : Whole X W.heap.size 89 vs
  res : Whole X (W.heap.size + 1) 108 Cl.zero.cells
  be : Below W.heap.size W X
  sz : W.heap.size + 2 ≤ X.heap.size
theorem AtM.below {W : World} {vs : List Value} {v : Value} {cs : List Cl} {X Y : World} (h : AtM W vs v cs X) (hb : Below X.heap.size X Y) : AtM W vs v cs Y :=
  ⟨own_belowT h.own hb, h.box.below hb h.box.lt, h.res.below hb h.res.lt, h.be.trans (hb.mono h.be.size), Nat.le_trans h.sz hb.size⟩
theorem AtM.one {W : World} {vs : List Value} {a : Cl} {X : World} (hb : Whole X W.heap.size 89 vs) (hr : Whole X (W.heap.size + 1) 108 Cl.zero.cells) (be : Below W.heap.size W X) (sz : X.heap.size = W.heap.size + 2) : AtM W vs (.slice (some ⟨X.heap.size, 0, none⟩) 1 1) [a] (X.alloc (.cells a.cells.toArray 108)) :=
  ⟨⟨rfl, .inr ⟨X.heap.size, 1, a.cells.toArray, rfl, by omega, heap_alloc_new X _, Nat.le_refl _, by unfold maxLen; omega, by simp [Cl.cells_len], by simpa using List.take_of_length_le (by rw [Cl.cells_len]; exact Nat.le_refl 7)⟩⟩, hb.alloc _, hr.alloc _, be.alloc (by omega) _, by simp; omega⟩
theorem AtM.add {W : World} {vs : List Value} {v : Value} {cs : List Cl} {X : World} (h : AtM W vs v cs X) (hl : cs.length ≤ 1000) (a : Cl) :
    ∃ v' X', (Builtin.append_ #[87, 87] 87 #[v, .slice (some ⟨X.heap.size, 0, none⟩) 1 1]).run Try.prog (X.alloc (.cells a.cells.toArray 108)) = .ok v' X' ∧ AtM W vs v' (cs ++ [a]) X' := by
  have h1 := h.below ((Below.refl X.heap.size X).alloc (Nat.le_refl _) (.cells a.cells.toArray 108))
  have hz : RowsK Cl.cells 7 (X.alloc (.cells a.cells.toArray 108)) (.slice (some ⟨X.heap.size, 0, none⟩) 1 1) [a] := RowsK.whole Cl.cells_len (zs := [a]) (m := 1) (by simpa using whole_new X a.cells 108 _ rfl) rfl 1 (by decide)
  obtain ⟨v', X', hr, ho, hb⟩ := run_appCl _ (W.heap.size + 2) v cs.length cs [a] h1.own _ 1 1 hz (by omega) (by omega) h1.sz
  refine ⟨v', X', hr, by simpa using ho, h1.box.below hb (by omega), h1.res.below hb (by omega), h1.be.trans (hb.mono (by omega)), ?_⟩
  exact Nat.le_trans h1.sz hb.size
theorem AtM.rows {W : World} {vs : List Value} {v : Value} {cs : List Cl} {X : World} (h : AtM W vs v cs X) (hl : cs.length ≤ 1000) : ∃ p c, v = .slice p cs.length c ∧ RowsK Cl.cells 7 X (.slice p cs.length c) cs := by
  have hr := own_rowsCl h.own rfl (by omega)
  obtain ⟨p, c, e⟩ := hr.slice
  exact ⟨p, c, e, e ▸ hr⟩
theorem results_clV {fn : Func} {W : World} {g q : Nat} {tmps : Array Value} (c : Cl) (hf : fn.results = #[.cell q 108]) (ht : tmps.getD q undef = .pointer (some ⟨g, 0, none⟩)) (h : Whole W g 108 c.cells) :
    (results fn tmps).run Try.prog W = .ok c.val W :=
  results_cell_row hf tmps W g 108 c.cells.toArray (0, 0) _ ht h Try.underlying108 rfl (by rw [Try.infoClN]; simp [Cl.cells_len])
/-- what is asked for at a seam along a band, beside cells -/
def atP (SS FF LL : List Cl) (i j : Nat) : List Cl := [SS.getD i Cl.zero] ++ (if i = 0 then [FF.getD j Cl.zero] else []) ++ (if i + 1 = SS.length then [LL.getD j Cl.zero] else [])
set_option maxRecDepth 100000 in
set_option maxHeartbeats 8000000 in
theorem at_any (p1 p2 p3 : Option Addr) (n1 n2 n3 c1 c2 c3 : Nat) (SS FF LL : List Cl) (i j : Nat) (W : World) (H1 : RowsK Cl.cells 7 W (.slice p1 n1 c1) SS) (H2 : RowsK Cl.cells 7 W (.slice p2 n2 c2) FF) (H3 : RowsK Cl.cells 7 W (.slice p3 n3 c3) LL) (hi : i < n1) (hj : j < n2) (hj3 : j < n3) (hn1 : n1 ≤ 40000)
    (M : Int) (hM : M ≤ 1000000000000000000) (hC : ∀ c ∈ SS ++ FF ++ LL, OkC M c) :
    Calls Try.prog 59 #[.agg #[.slice p1 n1 c1, .slice p2 n2 c2, .slice p3 n3 c3], .int .i64 (i : Int), .int .i64 (j : Int)] W fun e X => e = .returned (togP (atP SS FF LL i j)).val ∧ Below W.heap.size W X := by
  have l1 := H1.len
  have l2 := H2.len
  have l3 := H3.len
  have g1 := getD_get SS i (by omega)
  have g2 := getD_get FF j (by omega)
  have g3 := getD_get LL j (by omega)
  have hCA : ∀ c ∈ atP SS FF LL i j, (0 ≤ c.n ∧ c.n ≤ 1000000000000000000) ∧ (0 < c.n → c.won.hue) := fun c hc => by
    have : c ∈ SS ++ FF ++ LL := by
      have m1 := List.mem_of_getElem? g1
      have m2 := List.mem_of_getElem? g2
      have m3 := List.mem_of_getElem? g3
      unfold atP at hc
      simp only [List.mem_append, List.mem_singleton] at hc ⊢
      rcases hc with (rfl | hc) | hc
      · exact .inl (.inl m1)
      · split at hc
        · obtain rfl := List.mem_singleton.1 hc; exact .inl (.inr m2)
        · simp at hc
      · split at hc
        · obtain rfl := List.mem_singleton.1 hc; exact .inr m3
        · simp at hc
    have := hC c this
    exact ⟨⟨this.1.1, Int.le_trans this.1.2 hM⟩, this.2⟩
  obtain ⟨b1, o1, rfl, lb1, hc1⟩ := H1.at i _ g1
  obtain ⟨b2, o2, rfl, lb2, hc2⟩ := H2.at j _ g2
  obtain ⟨b3, o3, rfl, lb3, hc3⟩ := H3.at j _ g3
  have HATP : Hid (atP SS FF LL i j = [SS.getD i Cl.zero] ++ (if i = 0 then [FF.getD j Cl.zero] else []) ++ (if i + 1 = n1 then [LL.getD j Cl.zero] else [])) := Lib.hid (by unfold atP; rw [l1])
  obtain ⟨A, hA⟩ : ∃ A, atP SS FF LL i j = A := ⟨_, rfl⟩
  rw [hA] at HATP hCA ⊢
  obtain ⟨s, hs⟩ : ∃ s, SS.getD i Cl.zero = s := ⟨_, rfl⟩
  obtain ⟨f, hf⟩ : ∃ s, FF.getD j Cl.zero = s := ⟨_, rfl⟩
  obtain ⟨l, hl⟩ : ∃ s, LL.getD j Cl.zero = s := ⟨_, rfl⟩
  rw [hs, hf, hl] at HATP
  rw [hs] at hc1
  rw [hf] at hc2
  rw [hl] at hc3
  have HL : ∀ (b o i : Nat) (s : Cl) (X : World), b < W.heap.size → Below W.heap.size W X → (∀ q v, s.cells[q]? = some v → W.cell? ⟨b, o + i * 7 + q, none⟩ = some v) → ∀ q v, s.cells.toArray[q]? = some v → X.cell? ((⟨b, o + i * 7, none⟩ : Addr).add q) = some v := fun b o i s X hb hX h q v hv => by
    rw [add_plainC]; exact (hX.cell (p := ⟨b, o + i * 7 + q, none⟩) hb).trans (h q v (by simpa using hv))
  have L1 := Lib.hid (fun X hX => HL b1 o1 i s X lb1 hX hc1)
  have L2 := Lib.hid (fun X hX => HL b2 o2 j f X lb2 hX hc2)
  have L3 := Lib.hid (fun X hX => HL b3 o3 j l X lb3 hX hc3)
  have iN : Hid (∀ c : Cl, (Try.prog.info? 108).map (·.size) = some c.cells.toArray.size) := Lib.hid (fun c => by rw [Try.infoClN]; simp [Cl.cells_len])
  have HCA := Lib.hid hCA
  have hin : (i : Int) < (n1 : Int) := by omega
  have hjn : (j : Int) < (n2 : Int) := by omega
  have hjn3 : (j : Int) < (n3 : Int) := by omega
  have hw1 : IntKind.i64.wrap ((n1 : Int) - 1) = ((n1 - 1 : Nat) : Int) := by rw [IntKind.wrap_i64]; omega
  obtain ⟨nm, hnm⟩ : ∃ v, n1 - 1 = v := ⟨_, rfl⟩
  rw [hnm] at hw1
  have HNM : Hid (i = nm ↔ i + 1 = n1) := Lib.hid (by omega)
  have LBS := Lib.hid (show b1 < W.heap.size ∧ b2 < W.heap.size ∧ b3 < W.heap.size from ⟨lb1, lb2, lb3⟩)
  clear H1 H2 H3 hC hCA hA hs hf hl hc1 hc2 hc3 HL l1 l2 l3 g1 g2 g3 hnm lb1 lb2 lb3 hM
  obtain ⟨zc, hzc⟩ : ∃ zc, zc = Cl.zero.cells.toArray := ⟨_, rfl⟩
  go_enter Try.func59, Try.ntmps59
  have KB : Hid (Whole ((W.alloc (.cells #[.slice (some ⟨b1, o1, none⟩) n1 c1, .slice (some ⟨b2, o2, none⟩) n2 c2, .slice (some ⟨b3, o3, none⟩) n3 c3] 89)).alloc (.cells #[.int .i64 0, .int .i64 0, .int .u32 0, .int .i64 0, .int .i64 0, .int .i64 0, .int .i64 0] 108)) W.heap.size 89 [.slice (some ⟨b1, o1, none⟩) n1 c1, .slice (some ⟨b2, o2, none⟩) n2 c2, .slice (some ⟨b3, o3, none⟩) n3 c3]) := Lib.hid ((whole_new W [.slice (some ⟨b1, o1, none⟩) n1 c1, .slice (some ⟨b2, o2, none⟩) n2 c2, .slice (some ⟨b3, o3, none⟩) n3 c3] 89 _ rfl).alloc _)
  have KR : Hid (Whole ((W.alloc (.cells #[.slice (some ⟨b1, o1, none⟩) n1 c1, .slice (some ⟨b2, o2, none⟩) n2 c2, .slice (some ⟨b3, o3, none⟩) n3 c3] 89)).alloc (.cells #[.int .i64 0, .int .i64 0, .int .u32 0, .int .i64 0, .int .i64 0, .int .i64 0, .int .i64 0] 108)) (W.heap.size + 1) 108 Cl.zero.cells) := Lib.hid (whole_new (W.alloc _) Cl.zero.cells 108 _ (by simp))
  have BE : Hid (Below W.heap.size W ((W.alloc (.cells #[.slice (some ⟨b1, o1, none⟩) n1 c1, .slice (some ⟨b2, o2, none⟩) n2 c2, .slice (some ⟨b3, o3, none⟩) n3 c3] 89)).alloc (.cells #[.int .i64 0, .int .i64 0, .int .u32 0, .int .i64 0, .int .i64 0, .int .i64 0, .int .i64 0] 108))) := Lib.hid (((Below.refl _ W).alloc (Nat.le_refl _) _).alloc (by simp) _)
  have SZ : Hid (((W.alloc (.cells #[.slice (some ⟨b1, o1, none⟩) n1 c1, .slice (some ⟨b2, o2, none⟩) n2 c2, .slice (some ⟨b3, o3, none⟩) n3 c3] 89)).alloc (.cells #[.int .i64 0, .int .i64 0, .int .u32 0, .int .i64 0, .int .i64 0, .int .i64 0, .int .i64 0] 108)).heap.size = W.heap.size + 2) := Lib.hid (by simp)
  by_cases hz : i = 0
  · by_cases hl : i + 1 = n1
    · have hi0 : decide (((i : Nat) : Int) = 0) = true := by simp; omega
      have hi1 : (((i : Nat) : Int) == 0) = true := by simp; omega
      have hil : decide (((i : Nat) : Int) = ((nm : Nat) : Int)) = true := by have := HNM.out; simp; omega
      have hil1 : (((i : Nat) : Int) == ((nm : Nat) : Int)) = true := by have := HNM.out; simp; omega
      have HZL := Lib.hid (And.intro hz hl)
      clear hz hl
      go_wp2_with (first
        | (refine at_worldX (fun X => Whole X W.heap.size 89 [.slice (some ⟨b1, o1, none⟩) n1 c1, .slice (some ⟨b2, o2, none⟩) n2 c2, .slice (some ⟨b3, o3, none⟩) n3 c3] ∧ Whole X (W.heap.size + 1) 108 Cl.zero.cells ∧ Below W.heap.size W X ∧ X.heap.size = W.heap.size + 2) ⟨KB.out, KR.out, BE.out, SZ.out⟩ (fun X hX => ?_); have KX := Lib.hid hX; clear hX KB KR BE SZ; have q0 := KX.out.1.cellAt 0; have lk := KX.out.1.lt; simp only [List.getElem?_cons_zero] at q0; have LX := Lib.hid (L1.out X KX.out.2.2.1); have lb1 : b1 < X.heap.size := Nat.lt_of_lt_of_le LBS.out.1 KX.out.2.2.1.size; have M1 := Lib.hid (AtM.one (a := s) KX.out.1 KX.out.2.1 KX.out.2.2.1 KX.out.2.2.2))
        | (refine wpList_loadC rfl 108 (.tmp 11) rfl _ rfl s.cells.toArray _ LX.out Try.underlying108 rfl (iN.out s) ?_)
        | (refine wpList_build1 rfl 87 (.tmp 12) rfl s.val _ rfl (build_cl1 s X) ?_; generalize X.alloc (.cells s.cells.toArray 108) = X1 at M1 ⊢; clear q0 lk lb1 LX; have qa := M1.out.box.cellAt 1; have lka := M1.out.box.lt; simp only [List.getElem?_cons_zero, List.getElem?_cons_succ] at qa; have LXa := Lib.hid (L2.out X1 M1.out.be); have lba : b2 < X1.heap.size := Nat.lt_of_lt_of_le LBS.out.2.1 M1.out.be.size)
        | (refine wpList_loadC rfl 108 (.tmp 20) rfl _ rfl f.cells.toArray _ LXa.out Try.underlying108 rfl (iN.out f) ?_)
        | (refine wpList_build1 rfl 87 (.tmp 21) rfl f.val _ rfl (build_cl1 f X1) ?_; obtain ⟨v2, X2, hrA, hA2⟩ := AtM.add M1.out (by simp) f; have M2 := Lib.hid hA2; clear hA2)
        | (at_builtin; refine Lib.wpList_append_run _ rfl _ _ _ _ rfl _ _ rfl rfl _ _ hrA ?_; clear hrA; have qsb := M2.out.box.cellAt 0; have lsb := M2.out.box.lt; simp only [List.getElem?_cons_zero] at qsb; have qc := M2.out.box.cellAt 2; have lkc := M2.out.box.lt; simp only [List.getElem?_cons_zero, List.getElem?_cons_succ] at qc; have LXc := Lib.hid (L3.out X2 M2.out.be); have lbc : b3 < X2.heap.size := Nat.lt_of_lt_of_le LBS.out.2.2 M2.out.be.size)
        | (refine wpList_loadC rfl 108 (.tmp 34) rfl _ rfl l.cells.toArray _ LXc.out Try.underlying108 rfl (iN.out l) ?_)
        | (refine wpList_build1 rfl 87 (.tmp 35) rfl l.val _ rfl (build_cl1 l X2) ?_; obtain ⟨v3, X3, hrA, hA2⟩ := AtM.add M2.out (by simp) l; have M3 := Lib.hid hA2; clear hA2)
        | (at_builtin; refine Lib.wpList_append_run _ rfl _ _ _ _ rfl _ _ rfl rfl _ _ hrA ?_; clear hrA; skip)
        | fail)
      obtain ⟨pr, cr, er, hrr⟩ := AtM.rows M3.out (by simp)
      have HRR := Lib.hid hrr
      clear hrr
      have HA : Hid (A = [s] ++ [f] ++ [l]) := Lib.hid (by rw [HATP.out]; rw [if_pos HZL.out.1]; rw [if_pos HZL.out.2])
      subst er
      refine (tog_any pr 3 cr A X3 (by rw [HA.out]; exact HRR.out) (by rw [HA.out]; rfl) (by omega) (fun c hc => (HCA.out c hc).1) (fun c hc => (HCA.out c hc).2)).mono ?_
      rintro e Y ⟨rfl, hb⟩
      have MY := Lib.hid (M3.out.below hb)
      have HRY := Lib.hid MY.out.res
      have zN : Hid (Cl.zero.cells.toArray.size = (togP A).cells.toArray.size) := Lib.hid (by simp [Cl.cells_len])
      have oN := Lib.hid (Cl.one (togP A))
      clear hb
      go_wp2_with (refine wpList_store_row rfl 108 (.tmp 6) (.tmp 39) rfl _ (togP A).cells.toArray rfl rfl 108 Cl.zero.cells.toArray HRY.out (iN.out (togP A)) zN.out oN.out ?_)
      refine bodyPost_ret (results_clV (g := W.heap.size + 1) (togP A) rfl rfl (whole_rowA HRY.out _)) rfl ⟨rfl, ?_⟩
      exact MY.out.be.trans (below_setRow (Below.refl _ _) _ _ (by omega))
    · have hi0 : decide (((i : Nat) : Int) = 0) = true := by simp; omega
      have hi1 : (((i : Nat) : Int) == 0) = true := by simp; omega
      have hil : ¬ (((i : Nat) : Int) = ((nm : Nat) : Int)) := by have := HNM.out; omega
      have HZL := Lib.hid (And.intro hz hl)
      clear hz hl
      go_wp2_with (first
        | (refine at_worldX (fun X => Whole X W.heap.size 89 [.slice (some ⟨b1, o1, none⟩) n1 c1, .slice (some ⟨b2, o2, none⟩) n2 c2, .slice (some ⟨b3, o3, none⟩) n3 c3] ∧ Whole X (W.heap.size + 1) 108 Cl.zero.cells ∧ Below W.heap.size W X ∧ X.heap.size = W.heap.size + 2) ⟨KB.out, KR.out, BE.out, SZ.out⟩ (fun X hX => ?_); have KX := Lib.hid hX; clear hX KB KR BE SZ; have q0 := KX.out.1.cellAt 0; have lk := KX.out.1.lt; simp only [List.getElem?_cons_zero] at q0; have LX := Lib.hid (L1.out X KX.out.2.2.1); have lb1 : b1 < X.heap.size := Nat.lt_of_lt_of_le LBS.out.1 KX.out.2.2.1.size; have M1 := Lib.hid (AtM.one (a := s) KX.out.1 KX.out.2.1 KX.out.2.2.1 KX.out.2.2.2))
        | (refine wpList_loadC rfl 108 (.tmp 11) rfl _ rfl s.cells.toArray _ LX.out Try.underlying108 rfl (iN.out s) ?_)
        | (refine wpList_build1 rfl 87 (.tmp 12) rfl s.val _ rfl (build_cl1 s X) ?_; generalize X.alloc (.cells s.cells.toArray 108) = X1 at M1 ⊢; clear q0 lk lb1 LX; have qa := M1.out.box.cellAt 1; have lka := M1.out.box.lt; simp only [List.getElem?_cons_zero, List.getElem?_cons_succ] at qa; have LXa := Lib.hid (L2.out X1 M1.out.be); have lba : b2 < X1.heap.size := Nat.lt_of_lt_of_le LBS.out.2.1 M1.out.be.size)
        | (refine wpList_loadC rfl 108 (.tmp 20) rfl _ rfl f.cells.toArray _ LXa.out Try.underlying108 rfl (iN.out f) ?_)
        | (refine wpList_build1 rfl 87 (.tmp 21) rfl f.val _ rfl (build_cl1 f X1) ?_; obtain ⟨v2, X2, hrA, hA2⟩ := AtM.add M1.out (by simp) f; have M2 := Lib.hid hA2; clear hA2)
        | (at_builtin; refine Lib.wpList_append_run _ rfl _ _ _ _ rfl _ _ rfl rfl _ _ hrA ?_; clear hrA; have qsb := M2.out.box.cellAt 0; have lsb := M2.out.box.lt; simp only [List.getElem?_cons_zero] at qsb)
        | fail)
      obtain ⟨pr, cr, er, hrr⟩ := AtM.rows M2.out (by simp)
      have HRR := Lib.hid hrr
      clear hrr
      have HA : Hid (A = [s] ++ [f]) := Lib.hid (by rw [HATP.out]; rw [if_pos HZL.out.1]; rw [if_neg HZL.out.2]; try simp)
      subst er
      refine (tog_any pr 2 cr A X2 (by rw [HA.out]; exact HRR.out) (by rw [HA.out]; rfl) (by omega) (fun c hc => (HCA.out c hc).1) (fun c hc => (HCA.out c hc).2)).mono ?_
      rintro e Y ⟨rfl, hb⟩
      have MY := Lib.hid (M2.out.below hb)
      have HRY := Lib.hid MY.out.res
      have zN : Hid (Cl.zero.cells.toArray.size = (togP A).cells.toArray.size) := Lib.hid (by simp [Cl.cells_len])
      have oN := Lib.hid (Cl.one (togP A))
      clear hb
      go_wp2_with (refine wpList_store_row rfl 108 (.tmp 6) (.tmp 39) rfl _ (togP A).cells.toArray rfl rfl 108 Cl.zero.cells.toArray HRY.out (iN.out (togP A)) zN.out oN.out ?_)
      refine bodyPost_ret (results_clV (g := W.heap.size + 1) (togP A) rfl rfl (whole_rowA HRY.out _)) rfl ⟨rfl, ?_⟩
      exact MY.out.be.trans (below_setRow (Below.refl _ _) _ _ (by omega))
  · by_cases hl : i + 1 = n1
    · have hi0 : ¬ (((i : Nat) : Int) = 0) := by omega
      have hil : decide (((i : Nat) : Int) = ((nm : Nat) : Int)) = true := by have := HNM.out; simp; omega
      have hil1 : (((i : Nat) : Int) == ((nm : Nat) : Int)) = true := by have := HNM.out; simp; omega
      have HZL := Lib.hid (And.intro hz hl)
      clear hz hl
      go_wp2_with (first
        | (refine at_worldX (fun X => Whole X W.heap.size 89 [.slice (some ⟨b1, o1, none⟩) n1 c1, .slice (some ⟨b2, o2, none⟩) n2 c2, .slice (some ⟨b3, o3, none⟩) n3 c3] ∧ Whole X (W.heap.size + 1) 108 Cl.zero.cells ∧ Below W.heap.size W X ∧ X.heap.size = W.heap.size + 2) ⟨KB.out, KR.out, BE.out, SZ.out⟩ (fun X hX => ?_); have KX := Lib.hid hX; clear hX KB KR BE SZ; have q0 := KX.out.1.cellAt 0; have lk := KX.out.1.lt; simp only [List.getElem?_cons_zero] at q0; have LX := Lib.hid (L1.out X KX.out.2.2.1); have lb1 : b1 < X.heap.size := Nat.lt_of_lt_of_le LBS.out.1 KX.out.2.2.1.size; have M1 := Lib.hid (AtM.one (a := s) KX.out.1 KX.out.2.1 KX.out.2.2.1 KX.out.2.2.2))
        | (refine wpList_loadC rfl 108 (.tmp 11) rfl _ rfl s.cells.toArray _ LX.out Try.underlying108 rfl (iN.out s) ?_)
        | (refine wpList_build1 rfl 87 (.tmp 12) rfl s.val _ rfl (build_cl1 s X) ?_; generalize X.alloc (.cells s.cells.toArray 108) = X1 at M1 ⊢; clear q0 lk lb1 LX; skip; have qsb := M1.out.box.cellAt 0; have lsb := M1.out.box.lt; simp only [List.getElem?_cons_zero] at qsb; have qc := M1.out.box.cellAt 2; have lkc := M1.out.box.lt; simp only [List.getElem?_cons_zero, List.getElem?_cons_succ] at qc; have LXc := Lib.hid (L3.out X1 M1.out.be); have lbc : b3 < X1.heap.size := Nat.lt_of_lt_of_le LBS.out.2.2 M1.out.be.size)
        | (refine wpList_loadC rfl 108 (.tmp 34) rfl _ rfl l.cells.toArray _ LXc.out Try.underlying108 rfl (iN.out l) ?_)
        | (refine wpList_build1 rfl 87 (.tmp 35) rfl l.val _ rfl (build_cl1 l X1) ?_; obtain ⟨v3, X3, hrA, hA2⟩ := AtM.add M1.out (by simp) l; have M3 := Lib.hid hA2; clear hA2)
        | (at_builtin; refine Lib.wpList_append_run _ rfl _ _ _ _ rfl _ _ rfl rfl _ _ hrA ?_; clear hrA; skip)
        | fail)
      obtain ⟨pr, cr, er, hrr⟩ := AtM.rows M3.out (by simp)
      have HRR := Lib.hid hrr
      clear hrr
      have HA : Hid (A = [s] ++ [l]) := Lib.hid (by rw [HATP.out]; rw [if_neg HZL.out.1]; rw [if_pos HZL.out.2]; try simp)
      subst er
      refine (tog_any pr 2 cr A X3 (by rw [HA.out]; exact HRR.out) (by rw [HA.out]; rfl) (by omega) (fun c hc => (HCA.out c hc).1) (fun c hc => (HCA.out c hc).2)).mono ?_
      rintro e Y ⟨rfl, hb⟩
      have MY := Lib.hid (M3.out.below hb)
      have HRY := Lib.hid MY.out.res
      have zN : Hid (Cl.zero.cells.toArray.size = (togP A).cells.toArray.size) := Lib.hid (by simp [Cl.cells_len])
      have oN := Lib.hid (Cl.one (togP A))
      clear hb
      go_wp2_with (refine wpList_store_row rfl 108 (.tmp 6) (.tmp 39) rfl _ (togP A).cells.toArray rfl rfl 108 Cl.zero.cells.toArray HRY.out (iN.out (togP A)) zN.out oN.out ?_)
      refine bodyPost_ret (results_clV (g := W.heap.size + 1) (togP A) rfl rfl (whole_rowA HRY.out _)) rfl ⟨rfl, ?_⟩
      exact MY.out.be.trans (below_setRow (Below.refl _ _) _ _ (by omega))
    · have hi0 : ¬ (((i : Nat) : Int) = 0) := by omega
      have hil : ¬ (((i : Nat) : Int) = ((nm : Nat) : Int)) := by have := HNM.out; omega
      have HZL := Lib.hid (And.intro hz hl)
      clear hz hl
      go_wp2_with (first
        | (refine at_worldX (fun X => Whole X W.heap.size 89 [.slice (some ⟨b1, o1, none⟩) n1 c1, .slice (some ⟨b2, o2, none⟩) n2 c2, .slice (some ⟨b3, o3, none⟩) n3 c3] ∧ Whole X (W.heap.size + 1) 108 Cl.zero.cells ∧ Below W.heap.size W X ∧ X.heap.size = W.heap.size + 2) ⟨KB.out, KR.out, BE.out, SZ.out⟩ (fun X hX => ?_); have KX := Lib.hid hX; clear hX KB KR BE SZ; have q0 := KX.out.1.cellAt 0; have lk := KX.out.1.lt; simp only [List.getElem?_cons_zero] at q0; have LX := Lib.hid (L1.out X KX.out.2.2.1); have lb1 : b1 < X.heap.size := Nat.lt_of_lt_of_le LBS.out.1 KX.out.2.2.1.size; have M1 := Lib.hid (AtM.one (a := s) KX.out.1 KX.out.2.1 KX.out.2.2.1 KX.out.2.2.2))
        | (refine wpList_loadC rfl 108 (.tmp 11) rfl _ rfl s.cells.toArray _ LX.out Try.underlying108 rfl (iN.out s) ?_)
        | (refine wpList_build1 rfl 87 (.tmp 12) rfl s.val _ rfl (build_cl1 s X) ?_; generalize X.alloc (.cells s.cells.toArray 108) = X1 at M1 ⊢; clear q0 lk lb1 LX; skip; have qsb := M1.out.box.cellAt 0; have lsb := M1.out.box.lt; simp only [List.getElem?_cons_zero] at qsb)
        | fail)
      obtain ⟨pr, cr, er, hrr⟩ := AtM.rows M1.out (by simp)
      rw [← er] at hrr
      clear er
      have HRR := Lib.hid hrr
      clear hrr
      have HA : Hid (A = [s]) := Lib.hid (by rw [HATP.out]; rw [if_neg HZL.out.1]; rw [if_neg HZL.out.2]; try simp)
      refine (tog_any (some ⟨X.heap.size, 0, none⟩) 1 1 A X1 (by rw [HA.out]; exact HRR.out) (by rw [HA.out]; rfl) (by omega) (fun c hc => (HCA.out c hc).1) (fun c hc => (HCA.out c hc).2)).mono ?_
      rintro e Y ⟨rfl, hb⟩
      have MY := Lib.hid (M1.out.below hb)
      have HRY := Lib.hid MY.out.res
      have zN : Hid (Cl.zero.cells.toArray.size = (togP A).cells.toArray.size) := Lib.hid (by simp [Cl.cells_len])
      have oN := Lib.hid (Cl.one (togP A))
      clear hb
      go_wp2_with (refine wpList_store_row rfl 108 (.tmp 6) (.tmp 39) rfl _ (togP A).cells.toArray rfl rfl 108 Cl.zero.cells.toArray HRY.out (iN.out (togP A)) zN.out oN.out ?_)
      refine bodyPost_ret (results_clV (g := W.heap.size + 1) (togP A) rfl rfl (whole_rowA HRY.out _)) rfl ⟨rfl, ?_⟩
      exact MY.out.be.trans (below_setRow (Below.refl _ _) _ _ (by omega))
end Go.Proofs.Ytceippgkmoijdaa
