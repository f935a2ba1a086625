/- The document's lines, and what a text needs (purflingref08.Break, Box). Written by mk_LnRefB.py. -/
import Derived.Test.YthgkjgaebgpplaaLnRef
namespace Go.Proofs.Ythgkjgaebgpplaa
open Go.RowKit Go.Shelf
set_option linter.unusedVariables false
attribute [local go_sem] Oper.semAt_some

theorem isLine_of {b width : Int} {ws : List Int} {s e : Nat} (h1 : s < e) (h2 : e ≤ ws.length) (h3 : ∀ m, s + 1 < m → m ≤ e → wideW b ws s m ≤ width) (h4 : e < ws.length → width < wideW b ws s (e + 1)) : IsLine b width ws s e := ⟨h1, h2, h3, h4⟩
set_option maxRecDepth 100000 in
set_option maxHeartbeats 4000000 in
theorem refBreak_at (n : Nd) (w : World) (p : Option Addr) (m c : Nat) (width b : Int) (hok : n.ok w) (ht : okW b n.ws) (hwv : n.wv = .slice p m c) (hm : n.ws.length = m) (hb : n.b = b) :
    Calls Try.prog 17 #[n.val, .int .i64 width] w fun e W' => ∃ lv Ls, e = .returned lv ∧ Broke (IsLine b width n.ws) 0 Ls n.ws.length ∧ OwnL w.heap.size W' lv Ls ∧ Below w.heap.size w W' := by
  have HN := NdIn.new n w hok
  obtain ⟨cs, hcs⟩ : ∃ cs, n.cells.toArray = cs := ⟨_, rfl⟩
  obtain ⟨W0, hW0⟩ : ∃ W0, w.alloc (.cells cs 35) = W0 := ⟨_, rfl⟩
  rw [hcs, hW0] at HN
  have hB0 : Below w.heap.size w W0 := by rw [← hW0]; exact (Below.refl _ w).alloc (Nat.le_refl _) _
  have HN0 := Lib.hid HN
  have HB0 := Lib.hid hB0
  have HOK : Hid (∀ X, Below w.heap.size w X → n.ok X) := Lib.hid fun X hX => hok.below hX
  have HM := Lib.hid hm
  have HT := Lib.hid ht
  have HWV := Lib.hid hwv
  have hm64 : m ≤ 10000 := by have := ht.2.1; omega
  have HWD := Lib.hid (fun (X : World) (fr to : Nat) (h1 : fr ≤ to) (h2 : to ≤ m) (hX : NdIn n w.heap.size X) => show Calls Try.prog 24 #[.agg cs, .int .i64 fr, .int .i64 to] X (fun e Y => e = .returned (.int .i64 (wideW b n.ws fr to)) ∧ Below X.heap.size X Y) from by
    have := refWide_at n X p m c fr to b hX.ok ht hwv hm hb h1 h2
    rwa [show n.val = .agg n.cells.toArray from rfl, hcs] at this)
  have HLN := Lib.hid (fun (X : World) (hX : NdIn n w.heap.size X) => hX.cells' cs hcs)
  have iN := Lib.hid (nd_infoC hcs)
  rw [show n.val = .agg n.cells.toArray from rfl, hcs]
  obtain ⟨i1, hi1, hz0', hz1', hz2'⟩ := info_parts Try.infoLn
  have HZ1 := Lib.hid hz0'
  have HZ2 := Lib.hid hz1'
  have HZ3 := Lib.hid hz2'
  clear HN hok hwv hm hb hcs ht hB0 hz0' hz1' hz2'
  have hs0 : W0.heap.size = w.heap.size + 1 := by rw [← hW0]; simp
  have HS0 := Lib.hid hs0
  clear hs0
  go_enter Try.func17, Try.ntmps17
  go_wp2
  go_loopw [5, 6] (fun s5 s6 X => ∃ (lv : Value) (Ls : List (Nat × Nat)) (s : Nat), s ≤ m ∧ lv = s5 ∧ s6 = .int .i64 s ∧ Hid (Broke (IsLine b width n.ws) 0 Ls s) ∧ Hid (NdIn n w.heap.size X) ∧ Hid (OwnL (w.heap.size + 1) X lv Ls) ∧ Hid (Below w.heap.size w X)) (fun _ s6 _ => m - (intOf s6).toNat)
  case atStart => exact ⟨.slice none 0 0, [], 0, Nat.zero_le _, rfl, rfl, Lib.hid rfl, HN0, Lib.hid ⟨rfl, .inl ⟨rfl, rfl⟩⟩, HB0⟩
  case round =>
    clear HN0 HB0 HS0
    obtain ⟨lv, Ls, s, hsm, rfl, rfl, HBR, HN, HO, HB⟩ := hrel
    have c31 := HN.out.w
    rw [HWV.out] at c31
    have lg := HN.out.row.lt
    by_cases hlt : s < m
    · have g1 : decide ((s : Int) < (m : Int)) = true := by simp; omega
      go_wp2
      go_loopw [7] (fun s7 X => ∃ e : Nat, s < e ∧ e ≤ m ∧ s7 = .int .i64 e ∧ Hid (∀ m', s + 1 < m' → m' ≤ e → wideW b n.ws s m' ≤ width) ∧ Hid (NdIn n w.heap.size X) ∧ Hid (OwnL (w.heap.size + 1) X lv Ls) ∧ Hid (Below w.heap.size w X)) (fun s7 _ => m - (intOf s7).toNat)
      case atStart => exact ⟨s + 1, by omega, by omega, by go_num, Lib.hid (fun m' h1 h2 => by omega), HN, HO, HB⟩
      case round =>
        clear HN HO HB c31 lg
        obtain ⟨e, hse, hem, rfl, HF, HN, HO, HB⟩ := hrel
        have c31 := HN.out.w
        rw [HWV.out] at c31
        have lg := HN.out.row.lt
        by_cases hlt2 : e < m
        · have g2 : decide ((e : Int) < (m : Int)) = true := by simp; omega
          have g2n : decide (e < m) = true := by simp; omega
          have HWE : Hid (Calls Try.prog 24 #[.agg cs, .int .i64 s, .int .i64 ((e : Int) + 1)] wr fun e' Y => e' = .returned (.int .i64 (wideW b n.ws s (e + 1))) ∧ Below wr.heap.size wr Y) := Lib.hid (by
            have := HWD.out wr s (e + 1) (by omega) (by omega) HN.out
            rwa [show ((e + 1 : Nat) : Int) = (e : Int) + 1 by omega] at this)
          obtain ⟨we, hwe⟩ : ∃ we, wideW b n.ws s (e + 1) = we := ⟨_, rfl⟩
          rw [hwe] at HWE
          have HWW := Lib.hid hwe
          clear hwe
          by_cases hfit : we ≤ width
          · have g3 : decide (we ≤ width) = true := by simpa using hfit
            have HF2 : Hid (∀ m', s + 1 < m' → m' ≤ e + 1 → wideW b n.ws s m' ≤ width) := Lib.hid fun m' h1 h2 => by
              by_cases he : m' = e + 1
              · rw [he, HWW.out]; exact hfit
              · exact HF.out m' h1 (by omega)
            go_wp2_with (first
              | (refine wpList_load_at_w rfl 35 (.tmp 2) rfl _ rfl cs _ (HLN.out _ HN.out) Try.underlying35 rfl iN.out ?_)
              | (go_at_call 24; refine HWE.out.mono ?_; clear HWE; rintro e' w5 ⟨rfl, hb5⟩; have HN5 := Lib.hid (HN.out.below hb5); have HO5 := Lib.hid (own_grown HO.out (grownL hb5) (fun _ e => by cases e)); have HB5 := Lib.hid (HB.out.trans (hb5.mono HB.out.size)); clear hb5))
            go_roundw
            case rel => exact ⟨e + 1, by omega, by omega, by go_num, HF2, HN5, HO5, HB5⟩
            case measure => simp [intOf]; omega
          · have g3 : decide (we ≤ width) = false := by simpa using hfit
            have HLI := Lib.hid (isLine_of (b := b) (width := width) (ws := n.ws) hse (by rw [HM.out]; omega) HF.out (fun _ => by rw [HWW.out]; omega))
            go_wp2_with (first
              | (refine wpList_load_at_w rfl 35 (.tmp 2) rfl _ rfl cs _ (HLN.out _ HN.out) Try.underlying35 rfl iN.out ?_)
              | (go_at_call 24; refine HWE.out.mono ?_; clear HWE; rintro e' w5 ⟨rfl, hb5⟩; have HN5 := Lib.hid (HN.out.below hb5); have HO5 := Lib.hid (own_grown HO.out (grownL hb5) (fun _ e => by cases e)); have HB5 := Lib.hid (HB.out.trans (hb5.mono HB.out.size)); clear hb5; refine Hid.out ?_))
            refine Lib.hid ?_
            clear HN HO HB
            have HN := HN5
            have HO := HO5
            have HB := HB5
            have hLs : Ls.length ≤ 10000 := by have := HBR.out.len; omega
            have hsz : w.heap.size + 1 ≤ w5.heap.size := by have := HN.out.row.lt; omega
            have HFIN := Lib.hid (fun (w9 : World) (v9 : Value) (hg : (w5.alloc (.cells #[.int .i64 (s : Int), .int .i64 (e : Int)] 57)).grownBy w9 lv.ownBlock) (hown : w9.ownsRow (w.heap.size + 1) 57 2 v9 (Ls.length + 1) (flatLn Ls ++ [.int .i64 (s : Int), .int .i64 (e : Int)])) => show NdIn n w.heap.size w9 ∧ OwnL (w.heap.size + 1) w9 v9 (Ls ++ [(s, e)]) ∧ Below w.heap.size w w9 from by
              have hbb : Below w.heap.size w w9 := (HB.out.alloc HB.out.size _).grown hg (by have := HB.out.size; simp; omega) (fun g e => by have := (HO.out.lt g e).1; omega)
              refine ⟨⟨(HN.out.row.alloc _).grown hg (own_lowL HO.out (by omega)), HOK.out _ hbb⟩, ?_, hbb⟩
              unfold OwnL
              rw [flatLn_snoc, List.length_append]
              exact hown)
            have HBR2 : Hid (Broke (IsLine b width n.ws) 0 (Ls ++ [(s, e)]) e) := Lib.hid (HBR.out.snoc HLI.out)
            go_wp2_with (at_builtin; refine wpList_append_own_at _ rfl _ _ 38 rfl (w.heap.size + 1) 57 i1 (.agg #[.int .i64 0, .int .i64 0]) 2 16 Try.underlying38 hi1 HZ1.out HZ2.out HZ3.out rfl (by decide) lv Ls.length (flatLn Ls) rfl (HO.out.alloc _) ⟨w5.heap.size, 0, none⟩ 1 1 [.int .i64 (s : Int), .int .i64 (e : Int)] rfl rfl (lay_newL _ [.int .i64 (s : Int), .int .i64 (e : Int)] 57 w5.heap.size rfl) (by simp [Value.oneCell']) (by unfold maxLen; omega) (by omega) (by simp; omega) ?_; intro v9 w9 hown9 hgrow9 _ _; have HF9 := Lib.hid (HFIN.out w9 v9 hgrow9 hown9); clear hown9 hgrow9 HFIN)
            go_roundw
            case rel => exact ⟨v9, Ls ++ [(s, e)], e, hem, rfl, rfl, HBR2, Lib.hid HF9.out.1, Lib.hid HF9.out.2.1, Lib.hid HF9.out.2.2⟩
            case measure => simp [intOf]; omega
        · have g2 : decide ((e : Int) < (m : Int)) = false := by simp; omega
          have g2n : decide (e < m) = false := by simp; omega
          have HLI := Lib.hid (isLine_of (b := b) (width := width) (ws := n.ws) hse (by rw [HM.out]; omega) HF.out (fun h => by rw [HM.out] at h; omega))
          have hLs : Ls.length ≤ 10000 := by have := HBR.out.len; omega
          have hsz : w.heap.size + 1 ≤ wr.heap.size := by have := HN.out.row.lt; omega
          have HFIN := Lib.hid (fun (w9 : World) (v9 : Value) (hg : (wr.alloc (.cells #[.int .i64 (s : Int), .int .i64 (e : Int)] 57)).grownBy w9 lv.ownBlock) (hown : w9.ownsRow (w.heap.size + 1) 57 2 v9 (Ls.length + 1) (flatLn Ls ++ [.int .i64 (s : Int), .int .i64 (e : Int)])) => show NdIn n w.heap.size w9 ∧ OwnL (w.heap.size + 1) w9 v9 (Ls ++ [(s, e)]) ∧ Below w.heap.size w w9 from by
            have hbb : Below w.heap.size w w9 := (HB.out.alloc HB.out.size _).grown hg (by have := HB.out.size; simp; omega) (fun g e => by have := (HO.out.lt g e).1; omega)
            refine ⟨⟨(HN.out.row.alloc _).grown hg (own_lowL HO.out (by omega)), HOK.out _ hbb⟩, ?_, hbb⟩
            unfold OwnL
            rw [flatLn_snoc, List.length_append]
            exact hown)
          have HBR2 : Hid (Broke (IsLine b width n.ws) 0 (Ls ++ [(s, e)]) e) := Lib.hid (HBR.out.snoc HLI.out)
          go_wp2_with (at_builtin; refine wpList_append_own_at _ rfl _ _ 38 rfl (w.heap.size + 1) 57 i1 (.agg #[.int .i64 0, .int .i64 0]) 2 16 Try.underlying38 hi1 HZ1.out HZ2.out HZ3.out rfl (by decide) lv Ls.length (flatLn Ls) rfl (HO.out.alloc _) ⟨wr.heap.size, 0, none⟩ 1 1 [.int .i64 (s : Int), .int .i64 (e : Int)] rfl rfl (lay_newL _ [.int .i64 (s : Int), .int .i64 (e : Int)] 57 wr.heap.size rfl) (by simp [Value.oneCell']) (by unfold maxLen; omega) (by omega) (by simp; omega) ?_; intro v9 w9 hown9 hgrow9 _ _; have HF9 := Lib.hid (HFIN.out w9 v9 hgrow9 hown9); clear hown9 hgrow9 HFIN)
          go_roundw
          case rel => exact ⟨v9, Ls ++ [(s, e)], e, hem, rfl, rfl, HBR2, Lib.hid HF9.out.1, Lib.hid HF9.out.2.1, Lib.hid HF9.out.2.2⟩
          case measure => simp [intOf]; omega
    · obtain rfl : s = m := by omega
      have HBR2 : Hid (Broke (IsLine b width n.ws) 0 Ls n.ws.length) := Lib.hid (by rw [HM.out]; exact HBR.out)
      have g1 : decide ((s : Int) < (s : Int)) = false := by simp
      go_wp2
      go_ret
      exact ⟨lv, Ls, rfl, HBR2.out, own_keptL HO.out (CellsKept.refl _) (by omega), HB.out⟩
end Go.Proofs.Ythgkjgaebgpplaa
