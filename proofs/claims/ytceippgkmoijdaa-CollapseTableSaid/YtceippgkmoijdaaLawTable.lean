/- Where nobody else asks for a border, the table's is drawn at the rim, and none within, for any numbers of rows and columns, and any lines. -/
import Derived.Test.YtceippgkmoijdaaRows
import Derived.WalkKit
import Derived.ProofKit
import Derived.OpenShut
import Derived.Below
import Derived.Test.YtceippgkmoijdaaCoTb
import Derived.ShutString
namespace Go.Proofs.Ytceippgkmoijdaa.collapseTable
open Go.ChangeShapes Go.WideShapes Go.ChangeAt Go.RowKit
set_option linter.unusedVariables false

theorem own : ownKnob Try.prog.godebug = none := by kernel_rfl
theorem laidOut : laidOutB Try.prog = true := by kernel_rfl

open Go.Shelf Go.Sort Go.Maps
attribute [local go_sem] Oper.semAt_some
def tabV : FmV := ⟨.slice none 0 0, .slice none 0 0, .slice none 0 0, .slice none 0 0, .slice none 0 0, .slice none 0 0⟩
theorem tab_at (W : World) (n m : Nat) (hn : n ≤ 8) (hm : m ≤ 8) (t : Fr) : FmAt W (tabF n m t) tabV :=
  ⟨⟨by simp [tabF], .inl ⟨none, 0, rfl, rfl⟩⟩, by intro p hp; simp [tabF] at hp, RowsK.none, RowsK.none, RowsK.none, RowsK.none, RowsK.none, ⟨by show (-9223372036854775808 : Int) ≤ (n : Int); omega, by show (n : Int) ≤ 9223372036854775807; omega⟩, ⟨by show (-9223372036854775808 : Int) ≤ (m : Int); omega, by show (m : Int) ≤ 9223372036854775807; omega⟩⟩
set_option maxRecDepth 100000 in
set_option maxHeartbeats 8000000 in
theorem walk (w : World) (a0 : Int) (h0 : (Lit.int .i64 a0).wf = true) (a1 : Int) (h1 : (Lit.int .i64 a1).wf = true) (t : Fr) (ht : t.fit) :
    Calls Try.prog 6 #[.int .i64 a0, .int .i64 a1, t.val] w fun e w' => e = .returned (.bool true) ∧ Below w.heap.size w w' := by
  have HS := Lib.hid (fun X => shown12_any X)
  have b0 := fitZ.i64 h0
  have b1 := fitZ.i64 h1
  clear h0 h1
  by_cases hr : (1 ≤ a0 ∧ a0 ≤ 8) ∧ (1 ≤ a1 ∧ a1 ≤ 8)
  · obtain ⟨⟨c0, c1⟩, c2, c3⟩ := hr
    obtain ⟨n, rfl⟩ : ∃ n : Nat, a0 = (n : Int) := ⟨a0.toNat, by omega⟩
    obtain ⟨m, rfl⟩ : ∃ m : Nat, a1 = (m : Int) := ⟨a1.toNat, by omega⟩
    have HE := Lib.hid (show (∃ es : List Ed, (∀ e ∈ es, e.won = wantS n m t e) ∧ ∀ X, Calls Try.prog 18 #[(tabF n m t).val tabV] X fun e X' => ∃ u, e = .returned (.tuple #[u, .int .i64 0]) ∧ RowsK Ed.cells 10 X' u es ∧ Below X.heap.size X X') ∨ ((∀ X, Calls Try.prog 18 #[(tabF n m t).val tabV] X fun e X' => e = .returned (.tuple #[.slice none 0 0, .int .i64 120]) ∧ Below X.heap.size X X') ∧ (∀ X, Calls Try.prog 20 #[(tabF n m t).val tabV] X fun e X' => e = .returned (.bool false) ∧ Below X.heap.size X X')) by
      by_cases hk : frB t = true
      · exact .inl ⟨_, tab_edges n m (by omega) (by omega) t hk, fun X => edges_ok (tabF n m t) tabV n m X (tab_at X n m (by omega) (by omega) t) (tab_ok n m (by omega) (by omega) t hk) (tab_hue n m (by omega) (by omega) t ht.hue)⟩
      · have hno : ¬ okF (tabF n m t) := fun h => hk h.tb
        exact .inr ⟨fun X => edges_no (tabF n m t) tabV X (tab_at X n m (by omega) (by omega) t) hno, fun X => right_no (tabF n m t) tabV X (tab_at X n m (by omega) (by omega) t) hno⟩)
    clear b0 b1 ht
    unfold Fm.val at HE
    obtain ⟨fa, hfa⟩ : ∃ fa, ((tabF n m t).cells tabV).toArray = fa := ⟨_, rfl⟩
    rw [hfa] at HE
    have HWS := Lib.hid (fun e => show wantS n m t e = if e.lies = true ∧ e.row = 0 then tbS t 0 else if e.lies = true ∧ e.row = n then tbS t 2 else if e.lies = false ∧ e.col = 0 then tbS t 3 else if e.lies = false ∧ e.col = m then tbS t 1 else Si.zero from rfl)
    have HZ : Hid (tbS t 0 = ⟨t.a.st, t.a.wd, t.a.co, 5, 0, 0⟩ ∧ tbS t 1 = ⟨t.b.st, t.b.wd, t.b.co, 5, 0, 0⟩ ∧ tbS t 2 = ⟨t.c.st, t.c.wd, t.c.co, 5, 0, 0⟩ ∧ tbS t 3 = ⟨t.d.st, t.d.wd, t.d.co, 5, 0, 0⟩) := Lib.hid ⟨rfl, rfl, rfl, rfl⟩
    obtain ⟨ws, hws⟩ : ∃ ws, wantS n m t = ws := ⟨_, rfl⟩
    rw [hws] at HE HWS
    clear hws
    obtain ⟨T, hT⟩ : ∃ T, tbS t = T := ⟨_, rfl⟩
    rw [hT] at HWS HZ
    clear hT
    obtain ⟨⟨s0, v0, k0⟩, ⟨s1, v1, k1⟩, ⟨s2, v2, k2⟩, ⟨s3, v3, k3⟩⟩ := t
    dsimp only at HZ
    show Calls Try.prog 6 #[.int .i64 (n : Int), .int .i64 (m : Int), .agg #[.int .i64 s0, .int .i64 v0, .int .u32 k0, .int .i64 s1, .int .i64 v1, .int .u32 k1, .int .i64 s2, .int .i64 v2, .int .u32 k2, .int .i64 s3, .int .i64 v3, .int .u32 k3]] w _
    have hfx : fa = #[.int .i64 (n : Int), .int .i64 (m : Int), .slice none 0 0, .slice none 0 0, .slice none 0 0, .slice none 0 0, .slice none 0 0, .slice none 0 0, .int .i64 s0, .int .i64 v0, .int .u32 k0, .int .i64 s1, .int .i64 v1, .int .u32 k1, .int .i64 s2, .int .i64 v2, .int .u32 k2, .int .i64 s3, .int .i64 v3, .int .u32 k3] := by rw [← hfa]; rfl
    have HFA := Lib.hid hfx
    clear hfa hfx
    have IFA : Hid ((Try.prog.info? 30).map (·.size) = some fa.size) := Lib.hid (by rw [HFA.out]; kernel_rfl)
    have OFA : Hid (fa.all (·.oneCell') = true) := Lib.hid (by rw [HFA.out]; simp [Value.oneCell'])
    have ZFA : Hid (zeroFm.toArray.size = fa.size) := Lib.hid (by rw [HFA.out]; rfl)
    have HB5 : Hid (Whole (w.alloc (.cells #[.int .i64 s0, .int .i64 v0, .int .u32 k0, .int .i64 s1, .int .i64 v1, .int .u32 k1, .int .i64 s2, .int .i64 v2, .int .u32 k2, .int .i64 s3, .int .i64 v3, .int .u32 k3] 28)) w.heap.size 28 [.int .i64 s0, .int .i64 v0, .int .u32 k0, .int .i64 s1, .int .i64 v1, .int .u32 k1, .int .i64 s2, .int .i64 v2, .int .u32 k2, .int .i64 s3, .int .i64 v3, .int .u32 k3]) := Lib.hid (whole_new w _ 28 _ rfl)
    have BB0 : Hid (Below w.heap.size w (w.alloc (.cells #[.int .i64 s0, .int .i64 v0, .int .u32 k0, .int .i64 s1, .int .i64 v1, .int .u32 k1, .int .i64 s2, .int .i64 v2, .int .u32 k2, .int .i64 s3, .int .i64 v3, .int .u32 k3] 28))) := Lib.hid ((Below.refl _ w).alloc (Nat.le_refl _) _)
    go_enter Try.func6, Try.ntmps6
    go_wp2_with fail
    refine (HS.out _).mono ?_
    rintro e wa ⟨rfl, ba⟩
    have KA := Lib.hid (HB5.out.below ba HB5.out.lt)
    have BA := Lib.hid (BB0.out.trans (ba.mono BB0.out.size))
    have LK := Lib.hid (show ∀ j u, (#[.int .i64 s0, .int .i64 v0, .int .u32 k0, .int .i64 s1, .int .i64 v1, .int .u32 k1, .int .i64 s2, .int .i64 v2, .int .u32 k2, .int .i64 s3, .int .i64 v3, .int .u32 k3] : Array Value)[j]? = some u → wa.cell? ((⟨w.heap.size, 0, none⟩ : Addr).add j) = some u from (show Whole _ _ _ (#[.int .i64 s0, .int .i64 v0, .int .u32 k0, .int .i64 s1, .int .i64 v1, .int .u32 k1, .int .i64 s2, .int .i64 v2, .int .u32 k2, .int .i64 s3, .int .i64 v3, .int .u32 k3] : Array Value).toList from KA.out).loads)
    have KF := Lib.hid (whole_new wa zeroFm 30 _ rfl)
    have BF := Lib.hid ((Below.refl wa.heap.size wa).alloc (Nat.le_refl _) (.cells zeroFm.toArray 30))
    clear ba HS HB5 BB0
    go_wp2_with (first
      | (refine wpList_loadC rfl 28 (.tmp 5) rfl ⟨w.heap.size, 0, none⟩ rfl (#[.int .i64 s0, .int .i64 v0, .int .u32 k0, .int .i64 s1, .int .i64 v1, .int .u32 k1, .int .i64 s2, .int .i64 v2, .int .u32 k2, .int .i64 s3, .int .i64 v3, .int .u32 k3] : Array Value) _ LK.out Try.underlying28 rfl (by kernel_rfl) ?_)
      | (refine wpList_valS (some 33) rfl rfl (.agg fa) (by rw [HFA.out]; kernel_rfl) ?_)
      | (refine wpList_store_row rfl 30 (.tmp 8) (.tmp 33) rfl wa.heap.size fa rfl rfl 30 zeroFm.toArray KF.out IFA.out ZFA.out OFA.out ?_; refine Hid.out ?_)
      | fail)
    refine at_worldX (fun X => Whole X wa.heap.size 30 fa.toList ∧ Below wa.heap.size wa X) ⟨whole_rowA KF.out _, BF.out.trans (below_setRow (Below.refl _ _) _ _ (Nat.le_refl _))⟩ (fun X hX => ?_)
    have KX := Lib.hid hX.1
    have BX := Lib.hid hX.2
    have KAX := Lib.hid (KA.out.below BX.out KA.out.lt)
    have LF : Hid (∀ j u, fa[j]? = some u → X.cell? ((⟨wa.heap.size, 0, none⟩ : Addr).add j) = some u) := Lib.hid KX.out.loads
    obtain ⟨fb, hfb⟩ : ∃ b, wa.heap.size = b := ⟨_, rfl⟩
    rw [hfb] at KX LF
    have LTB : Hid (w.heap.size < fb) := Lib.hid (by rw [← hfb]; exact KA.out.lt)
    have BW := Lib.hid (BA.out.trans (BX.out.mono BA.out.size))
    rw [hfb]
    clear hX KF BF LK KA OFA ZFA hfb BA BX
    refine Lib.hid ?_
    go_wp2_with (first
      | (refine wpList_loadC rfl 30 (.tmp 8) rfl ⟨fb, 0, none⟩ rfl fa _ LF.out Try.underlying30 rfl IFA.out ?_)
      | fail)
    rcases HE.out with ⟨es, hw, hE⟩ | ⟨hN, hR⟩
    · have HW := Lib.hid hw
      refine (hE X).mono ?_
      rintro e w3 ⟨u, rfl, hu, b3⟩
      obtain ⟨p, c, hpc⟩ := hu.slice
      subst hpc
      have hl1 : es.length ≤ 9223372036854775807 := hu.1
      obtain ⟨L, hL⟩ : ∃ L, es.length = L := ⟨_, rfl⟩
      have HL := Lib.hid hL
      have HU := Lib.hid hu
      rw [hL] at HU hl1
      try rw [hL]
      have KT := Lib.hid (KAX.out.below b3 KAX.out.lt)
      have B3 := Lib.hid (BW.out.trans (b3.mono BW.out.size))
      clear HE hE hw hu hL b3 KAX BW KX LF IFA HFA LTB
      go_wp2
      go_loopw [11] (fun s11 X => ∃ i : Nat, i ≤ L ∧ s11 = .int .i64 (i : Int) ∧ Hid (Below w3.heap.size w3 X)) (fun s11 _ => L - (intOf s11).toNat)
      case atStart => exact ⟨0, Nat.zero_le _, rfl, Lib.hid (Below.refl _ _)⟩
      case round =>
        obtain ⟨i, hi, rfl, HX⟩ := hrel
        by_cases hlt : i < L
        · obtain ⟨x, hx⟩ : ∃ x, es[i]? = some x := ⟨_, List.getElem?_eq_getElem (by rw [HL.out]; exact hlt)⟩
          obtain ⟨g, o, rfl, lg, hc⟩ := (HU.out.below HX.out).at i x hx
          have hwon := HW.out x (List.mem_of_getElem? hx)
          have KTR := Lib.hid (KT.out.below HX.out KT.out.lt)
          obtain ⟨xs, hxs⟩ : ∃ xs, x.cells = xs := ⟨_, rfl⟩
          obtain ⟨ea, hea⟩ : ∃ ea, xs.toArray = ea := ⟨_, rfl⟩
          rw [hxs] at hc
          have LN : Hid (∀ j' u, ea[j']? = some u → wr.cell? ((⟨g, o + i * 10, none⟩ : Addr).add j') = some u) := Lib.hid (fun j' u hj' => by rw [add_plainC]; exact hc j' u (by rw [← hea] at hj'; simpa using hj'))
          have iN : Hid ((Try.prog.info? 56).map (·.size) = some ea.size) := Lib.hid (by rw [Try.infoEdN, ← hea, ← hxs]; simp [Ed.cells_len])
          have oN : Hid (ea.all (·.oneCell') = true) := Lib.hid (by rw [← hea, ← hxs]; exact Ed.one x)
          have zN : Hid (Ed.zero.cells.toArray.size = ea.size) := Lib.hid (by rw [← hea, ← hxs]; simp [Ed.cells_len])
          have HEA := Lib.hid hea
          have HXS := Lib.hid hxs
          have hil : (i : Int) < (L : Int) := by omega
          clear hc hx hea hxs
          go_wp2_with (first
            | (refine wpList_loadC rfl 56 (.tmp 55) rfl ⟨g, o + i * 10, none⟩ rfl ea _ LN.out Try.underlying56 rfl iN.out ?_)
            | (refine wpList_store_row rfl 56 (.tmp 12) (.tmp 56) rfl _ ea rfl rfl 56 Ed.zero.cells.toArray (whole_new wr Ed.zero.cells 56 _ rfl) iN.out zN.out oN.out ?_; refine Hid.out ?_)
            | fail)
          refine at_worldX (fun X => Whole X wr.heap.size 56 xs ∧ Below wr.heap.size wr X) ⟨by rw [← HEA.out]; exact whole_rowA (whole_new wr Ed.zero.cells 56 _ rfl) _, ((Below.refl _ wr).alloc (Nat.le_refl _) _).trans (below_setRow (Below.refl _ _) _ _ (Nat.le_refl _))⟩ (fun Y hY => ?_)
          have KY := hY.1
          have BY := hY.2
          have KTY := KTR.out.below BY KTR.out.lt
          have HBY := Lib.hid (HX.out.trans (BY.mono HX.out.size))
          rw [← HXS.out] at KY
          obtain ⟨row, col, l, ⟨st, wd, co, bb, ro, cl⟩, an⟩ := x
          have n0 := KY.cellAt 0
          have n1 := KY.cellAt 1
          have n2 := KY.cellAt 2
          have n3 := KY.cellAt 3
          have n4 := KY.cellAt 4
          have n5 := KY.cellAt 5
          have n6 := KY.cellAt 6
          have n7 := KY.cellAt 7
          have n8 := KY.cellAt 8
          have lY := KY.lt
          have z0 := KTY.cellAt 0
          have z1 := KTY.cellAt 1
          have z2 := KTY.cellAt 2
          have z3 := KTY.cellAt 3
          have z4 := KTY.cellAt 4
          have z5 := KTY.cellAt 5
          have z6 := KTY.cellAt 6
          have z7 := KTY.cellAt 7
          have z8 := KTY.cellAt 8
          have z9 := KTY.cellAt 9
          have z10 := KTY.cellAt 10
          have z11 := KTY.cellAt 11
          have lT := KTY.lt
          simp only [Ed.cells, Si.cells, List.cons_append, List.nil_append, List.getElem?_cons_zero, List.getElem?_cons_succ] at n0 n1 n2 n3 n4 n5 n6 n7 n8 z0 z1 z2 z3 z4 z5 z6 z7 z8 z9 z10 z11
          clear hY KY BY KTY KTR LN iN oN zN HEA HXS HX
          refine Lib.hid ?_
          cases l with
          | true =>
            by_cases q0 : row = 0
            · subst q0
              obtain ⟨rfl, rfl, rfl, rfl, rfl, rfl⟩ : st = s0 ∧ wd = v0 ∧ co = k0 ∧ bb = 5 ∧ ro = 0 ∧ cl = 0 := by
                have h := hwon
                rw [HWS.out, if_pos ⟨rfl, rfl⟩, HZ.out.1] at h
                simpa using h
              clear hwon HWS HZ
              go_wp2
              go_roundw
              case rel => exact ⟨i + 1, by omega, by go_num, Lib.hid (HBY.out.alloc HBY.out.size _)⟩
              case measure => simp [intOf]; omega
            · have q0b : (row == 0) = false := by simpa using q0
              by_cases q1 : row = (n : Int)
              · subst q1
                obtain ⟨rfl, rfl, rfl, rfl, rfl, rfl⟩ : st = s2 ∧ wd = v2 ∧ co = k2 ∧ bb = 5 ∧ ro = 0 ∧ cl = 0 := by
                  have h := hwon
                  rw [HWS.out, if_neg (fun h => q0 h.2), if_pos ⟨rfl, rfl⟩, HZ.out.2.2.1] at h
                  simpa using h
                clear hwon HWS HZ
                go_wp2
                go_roundw
                case rel => exact ⟨i + 1, by omega, by go_num, Lib.hid (HBY.out.alloc HBY.out.size _)⟩
                case measure => simp [intOf]; omega
              · have q1b : (row == (n : Int)) = false := by simpa using q1
                obtain ⟨rfl, rfl, rfl, rfl, rfl, rfl⟩ : st = 0 ∧ wd = 0 ∧ co = 0 ∧ bb = 0 ∧ ro = 0 ∧ cl = 0 := by
                  have h := hwon
                  rw [HWS.out, if_neg (fun h => q0 h.2), if_neg (fun h => q1 h.2), if_neg (fun h => by simpa using h.1), if_neg (fun h => by simpa using h.1), show Si.zero = ⟨0, 0, 0, 0, 0, 0⟩ from rfl] at h
                  simpa using h
                clear hwon HWS HZ
                go_wp2
                go_roundw
                case rel => exact ⟨i + 1, by omega, by go_num, Lib.hid (HBY.out.alloc HBY.out.size _)⟩
                case measure => simp [intOf]; omega
          | false =>
            by_cases q0 : col = 0
            · subst q0
              obtain ⟨rfl, rfl, rfl, rfl, rfl, rfl⟩ : st = s3 ∧ wd = v3 ∧ co = k3 ∧ bb = 5 ∧ ro = 0 ∧ cl = 0 := by
                have h := hwon
                rw [HWS.out, if_neg (fun h => by simpa using h.1), if_neg (fun h => by simpa using h.1), if_pos ⟨rfl, rfl⟩, HZ.out.2.2.2] at h
                simpa using h
              clear hwon HWS HZ
              go_wp2
              go_roundw
              case rel => exact ⟨i + 1, by omega, by go_num, Lib.hid (HBY.out.alloc HBY.out.size _)⟩
              case measure => simp [intOf]; omega
            · have q0b : (col == 0) = false := by simpa using q0
              by_cases q1 : col = (m : Int)
              · subst q1
                obtain ⟨rfl, rfl, rfl, rfl, rfl, rfl⟩ : st = s1 ∧ wd = v1 ∧ co = k1 ∧ bb = 5 ∧ ro = 0 ∧ cl = 0 := by
                  have h := hwon
                  rw [HWS.out, if_neg (fun h => by simpa using h.1), if_neg (fun h => by simpa using h.1), if_neg (fun h => q0 h.2), if_pos ⟨rfl, rfl⟩, HZ.out.2.1] at h
                  simpa using h
                clear hwon HWS HZ
                go_wp2
                go_roundw
                case rel => exact ⟨i + 1, by omega, by go_num, Lib.hid (HBY.out.alloc HBY.out.size _)⟩
                case measure => simp [intOf]; omega
              · have q1b : (col == (m : Int)) = false := by simpa using q1
                obtain ⟨rfl, rfl, rfl, rfl, rfl, rfl⟩ : st = 0 ∧ wd = 0 ∧ co = 0 ∧ bb = 0 ∧ ro = 0 ∧ cl = 0 := by
                  have h := hwon
                  rw [HWS.out, if_neg (fun h => by simpa using h.1), if_neg (fun h => by simpa using h.1), if_neg (fun h => q0 h.2), if_neg (fun h => q1 h.2), show Si.zero = ⟨0, 0, 0, 0, 0, 0⟩ from rfl] at h
                  simpa using h
                clear hwon HWS HZ
                go_wp2
                go_roundw
                case rel => exact ⟨i + 1, by omega, by go_num, Lib.hid (HBY.out.alloc HBY.out.size _)⟩
                case measure => simp [intOf]; omega
        · obtain rfl : L = i := by omega
          have B9 := Lib.hid (B3.out.trans (HX.out.mono B3.out.size))
          clear HX HW HU KT HWS HZ
          go_wp2
          go_ret
          exact ⟨rfl, B9.out⟩
    · refine (hN X).mono ?_
      rintro e w3 ⟨rfl, b3⟩
      have HR := Lib.hid (hR w3)
      have LF3 : Hid (∀ j u, fa[j]? = some u → w3.cell? ((⟨fb, 0, none⟩ : Addr).add j) = some u) := Lib.hid (KX.out.below b3 KX.out.lt).loads
      have B3 := Lib.hid (BW.out.trans (b3.mono BW.out.size))
      clear HE hN hR b3 KX LF BW
      go_wp2_with (first
        | (refine wpList_loadCw (by simp [Region.wanted, yielded, Act.put] <;> rfl) 30 (.tmp 8) rfl ⟨fb, 0, none⟩ rfl fa _ LF3.out Try.underlying30 rfl IFA.out ?_)
        | (refine wpList_loadC rfl 30 (.tmp 8) rfl ⟨fb, 0, none⟩ rfl fa _ LF3.out Try.underlying30 rfl IFA.out ?_)
        | (go_at_call 20; refine HR.out.mono ?_; clear HR; rintro e w4 ⟨rfl, b4⟩; have B4 := Lib.hid (B3.out.trans (b4.mono B3.out.size)); clear b4)
        | fail)
      go_ret
      exact ⟨rfl, B4.out⟩
  · have hq : a0 < 1 ∨ (¬ a0 < 1 ∧ 8 < a0) ∨ (¬ a0 < 1 ∧ ¬ 8 < a0 ∧ a1 < 1) ∨ (¬ a0 < 1 ∧ ¬ 8 < a0 ∧ ¬ a1 < 1 ∧ 8 < a1) := by omega
    have BB0 : Hid (Below w.heap.size w (w.alloc (.cells t.cells.toArray 28))) := Lib.hid ((Below.refl _ w).alloc (Nat.le_refl _) _)
    unfold Fr.val
    obtain ⟨ta, hta⟩ : ∃ ta, t.cells.toArray = ta := ⟨_, rfl⟩
    rw [hta] at BB0 ⊢
    clear hr hta ht
    rcases hq with k1 | ⟨k1, k2⟩ | ⟨k1, k2, k3⟩ | ⟨k1, k2, k3, k4⟩
    all_goals
      go_enter Try.func6, Try.ntmps6
      go_wp2_with fail
      refine (HS.out _).mono ?_
      rintro e wa ⟨rfl, ba⟩
      have BA := Lib.hid (BB0.out.trans (ba.mono BB0.out.size))
      clear ba HS BB0
      go_wp2
      go_ret
      exact ⟨rfl, BA.out⟩

set_option maxRecDepth 100000 in
theorem lifted (os : Os) (started : os.Started) (H : Type) (enc : TypeId × Value → H) :
    ReturnsInHanded {} Try.checked os 6 .any (Rows.collapseTableSpec.pre6 enc Try.prog Try.f6 Rows.collapseTableRow.domain false) (Rows.collapseTableSpec.post enc Try.prog Try.f6 false true false false) := by
  refine returnsInHanded_of_change (C := Try.checked) own started (by kernel_rfl) Try.func6
    (ChangeSpec.witness6 (enc := enc) (C := Try.checked) false ⟨#[], #[.int .i64 0, .int .i64 0, .agg #[.int .i64 0, .int .i64 0, .int .u32 0, .int .i64 0, .int .i64 0, .int .u32 0, .int .i64 0, .int .i64 0, .int .u32 0, .int .i64 0, .int .i64 0, .int .u32 0]], []⟩ 8 (by kernel_rfl) (by kernel_rfl) (by kernel_rfl) (by kernel_rfl)) ?_
  intro W base args ds gs before hval0 hW hcnd _
  have hval : ∀ (j : Nat) t v, Try.f6.params[j]? = some t → args[j]? = some v → Value.okWide Try.prog W .any base t v := hval0
  have hW' := hW
  obtain ⟨p, q, hA0, hV, rfl, hfz, hnd⟩ := hW
  have hA : DataW.TrodAll enc Try.prog W 0 (fun _ => true) true Try.f6.params.toList args.toList ds p := hA0
  rw [Try.params6] at hA hval
  obtain ⟨v0, vs0, d0, ds0, p0, q0, hargs, rfl, rfl, h0, r0⟩ := trodAll_cons hA
  obtain ⟨v1, vs1, d1, ds1, p1, q1, rfl, rfl, rfl, h1, r1⟩ := trodAll_cons r0
  obtain ⟨v2, vs2, d2, ds2, p2, q2, rfl, rfl, rfl, h2, r2⟩ := trodAll_cons r1
  obtain ⟨rfl, rfl, rfl⟩ := trodAll_nil r2
  obtain rfl : args = #[v0, v1, v2] := by cases args; simp_all
  obtain ⟨rfl, rfl⟩ := trodVars_none hV
  obtain ⟨a0, rfl, rfl, rfl, w0⟩ := open_int Try.underlying3 (hval 0 3 v0 rfl rfl) h0
  obtain ⟨a1, rfl, rfl, rfl, w1⟩ := open_int Try.underlying3 (hval 1 3 v1 rfl rfl) h1
  have k2 := h2
  have lt2 : ∀ x ∈ p2, x.block < W.heap.size := by obtain ⟨m, hm⟩ := k2; exact DataW.trod_lt m _ _ _ hm
  obtain ⟨a2, rfl, w2⟩ := open_lines4 (hval 2 28 v2 rfl rfl) h2
  clear hA0 hval0
  simp only [List.append_nil] at hW'
  refine (walk W a0 w0 a1 w1 a2 w2).mono fun e W' ⟨he, hg⟩ => ?_
  subst he
  exact ⟨_, rfl, _, _, _, [], _, [], hW', (trodAll_cons_mk (shut_bool Try.underlying4 _) trodAll_mk0), (trodAll_cons_mk (shut_int Try.underlying3 w0) (trodAll_cons_mk (shut_int Try.underlying3 w1) (trodAll_cons_mk (Below.trod laidOut (by kernel_rfl) (of_decide_eq_true (by kernel_rfl)) k2 hg lt2) trodAll_mk0))), rfl, hg.frame _, fun h => by cases h⟩

theorem over : Rows.collapseTableRow.holds Try.pinned (OpenSpec.ofChange Rows.collapseTableSpec) :=
  OpenClaim.holds_of_wide 6 Try.f6 rfl rfl rfl rfl rfl rfl rfl ⟨rfl, rfl, rfl, rfl, rfl⟩ rfl rfl rfl rfl rfl (by kernel_rfl) Try.func6 (by kernel_rfl)
    (of_decide_eq_true (by kernel_rfl)) (by unfold Func.isWrapper; first | (rw [if_pos (by decide +kernel)]; kernel_rfl) | (rw [if_neg (by decide +kernel)]; exact ⟨rfl, rfl⟩))
    (fun os started H enc _ => lifted os started H enc)

/-- the statement -/
theorem proved : Rows.CollapseTableSaid :=
  over
#print axioms proved
end Go.Proofs.Ytceippgkmoijdaa.collapseTable
