/- Columns without needs need what their sizes say, for any sizes (the first forty). -/
import Derived.Test.YtmfllaanobafkaaRows
import Derived.WalkKit
import Derived.ProofKit
import Derived.OpenShut
import Derived.Below
import Derived.Test.YtmfllaanobafkaaKLaw
import Derived.ShutString
namespace Go.Proofs.Ytmfllaanobafkaa.columnsBare
open Go.ChangeShapes Go.WideShapes Go.ChangeAt Go.RowKit
set_option linter.unusedVariables false

theorem own : ownKnob Try.prog.godebug = none := by kernel_rfl
theorem laidOut : laidOutB Try.prog = true := by kernel_rfl

open Go.Shelf
theorem bare_at (zs : List Sz) (i : Nat) (s : Sz) (h : zs[i]? = some s) : (bandsB zs [])[i]? = some (setB (askB ⟨0, 0, -1, -1⟩ s)) := by
  simp [bandsB, List.getElem?_mapIdx, h, bandB, rawB]
theorem bare_len (n : Int) (h : 0 ≤ n) : setB (askB ⟨0, 0, -1, -1⟩ ⟨1, n⟩) = ⟨0, n, -1, n⟩ := by
  have h1 : max (-1) n = n := by omega
  have h2 : max n 0 = n := by omega
  simp [setB, askB, h1, h2, h]
theorem bare_share (n : Int) (h : 0 ≤ n) : setB (askB ⟨0, 0, -1, -1⟩ ⟨2, n⟩) = ⟨0, 0, n, -1⟩ := by
  have h1 : max (-1) n = n := by omega
  simp [setB, askB, h1, h]
theorem bare_none (k n : Int) (h1 : k ≠ 1) (h2 : k ≠ 2) : setB (askB ⟨0, 0, -1, -1⟩ ⟨k, n⟩) = ⟨0, 0, -1, -1⟩ := by
  simp [setB, askB, h1, h2]
set_option maxRecDepth 100000 in
set_option maxHeartbeats 8000000 in
theorem walk (w : World) (a0 : Option Addr) (len0 cap0 : Nat) (z0 : List Sz) (w0 : SizeArg w a0 len0 cap0 z0) :
    Calls Try.prog 7 #[.slice a0 len0 cap0] w fun e w' => e = .returned (.bool true) ∧ Below w.heap.size w w' := by
  obtain ⟨hz, hzl, hz1, hz2, hzw, hzs⟩ := RowArg.take Sz.cells_len (by omega) w0 40
  have HS := Lib.hid (fun X => shown13_any X)
  have hmin : min (len0 : Int) 40 = ((min len0 40 : Nat) : Int) := by omega
  have hml : min len0 40 ≤ 40 := by omega
  have hmc : min len0 40 ≤ cap0 := by omega
  have hcs : (a0 = none ∧ min len0 40 = 0 ∧ cap0 = 0 ∧ len0 = 0) ∨ ∃ g off mm, a0 = some ⟨g, off, mm⟩ := by
    rcases hzs with ⟨h1, h2, h3⟩ | h
    · exact .inl ⟨h1, by omega, h3, h2⟩
    · exact .inr h
  generalize min len0 40 = m at *
  generalize z0.take 40 = zs at *
  have HB := Lib.hid (fun X (hX : Below w.heap.size w X) => bandsK_any a0 none m cap0 0 0 zs [] X (hz.below hX) RowsK.none)
  have HZ := Lib.hid (fun X (hX : Below w.heap.size w X) => hz.below hX)
  have HZL := Lib.hid hzl
  clear w0 hzw hz1 hzs hz hzl
  cases hr : rightK zs [] with
  | false =>
    rw [ansB_bad hr, errB_bad hr] at HB
    simp only [List.length_nil] at HB
    clear hr HZ
    rcases hcs with ⟨rfl, rfl, rfl, rfl⟩ | ⟨g, off, mm, rfl⟩
    all_goals
      go_enter Try.func7, Try.ntmps7
      go_wp2_with fail
      refine (HS.out _).mono ?_
      rintro e wa ⟨rfl, ba⟩
      have BA := Lib.hid ba
      clear ba HS
      go_wp2_with fail
      refine (HB.out _ BA.out).mono ?_
      rintro e wb ⟨pa, ka, rfl, hra, bb⟩
      have BB := Lib.hid (BA.out.trans (bb.mono BA.out.size))
      clear bb BA HB hra
      go_wp2
      go_ret
      exact ⟨rfl, BB.out⟩
  | true =>
    rw [ansB_ok hr, errB_ok hr, bandsB_len, HZL.out] at HB
    have HOK := Lib.hid (((rightK_iff zs []).1 hr).2.1)
    clear hr
    rcases hcs with ⟨rfl, rfl, rfl, rfl⟩ | ⟨g, off, mm, rfl⟩
    · go_enter Try.func7, Try.ntmps7
      go_wp2_with fail
      refine (HS.out _).mono ?_
      rintro e wa ⟨rfl, ba⟩
      have BA := Lib.hid ba
      clear ba HS
      go_wp2_with fail
      refine (HB.out _ BA.out).mono ?_
      rintro e wb ⟨pa, ka, rfl, hra, bb⟩
      have RA := Lib.hid hra
      have BB := Lib.hid (BA.out.trans (bb.mono BA.out.size))
      clear bb BA HB hra
      go_wp2
      refine wp_loop_rounds 1 ?_
      rw [rounds_succ]
      go_wp2
      go_ret
      exact ⟨rfl, BB.out⟩
    · go_enter Try.func7, Try.ntmps7
      go_wp2_with fail
      refine (HS.out _).mono ?_
      rintro e wa ⟨rfl, ba⟩
      have BA := Lib.hid ba
      clear ba HS
      go_wp2_with fail
      refine (HB.out _ BA.out).mono ?_
      rintro e wb ⟨pa, ka, rfl, hra, bb⟩
      have RA := Lib.hid hra
      have BB := Lib.hid (BA.out.trans (bb.mono BA.out.size))
      clear bb BA HB hra
      go_wp2
      go_loopw [6] (fun s6 X => ∃ i : Nat, i ≤ m ∧ s6 = .int .i64 (i : Int) ∧ Hid (Below wb.heap.size wb X)) (fun s6 _ => m - (intOf s6).toNat)
      case atStart => exact ⟨0, Nat.zero_le _, rfl, Lib.hid (Below.refl _ _)⟩
      case round =>
        obtain ⟨i, hi, rfl, HX⟩ := hrel
        by_cases hlt : i < m
        · obtain ⟨s, hs⟩ : ∃ s, zs[i]? = some s := ⟨_, List.getElem?_eq_getElem (by rw [HZL.out]; exact hlt)⟩
          have hso := (szB_iff s).1 (HOK.out s (List.mem_of_getElem? hs))
          have HWX := Lib.hid (BB.out.trans (HX.out.mono BB.out.size))
          obtain ⟨g1, o1, eg1, l1, ha⟩ := (HZ.out _ HWX.out).at i s hs
          obtain ⟨g2, o2, rfl, l2, hb⟩ := (RA.out.below HX.out).at i _ (bare_at zs i s hs)
          have e3 : g1 = g ∧ o1 = off ∧ mm = none := by injection eg1 with e; injection e with e1 e2 e3; exact ⟨e1.symm, e2.symm, e3⟩
          obtain ⟨e1, e2, rfl⟩ := e3
          subst e1
          subst e2
          obtain ⟨sk, sn⟩ := s
          have x0 : wr.cell? ⟨g1, o1 + i * 2, none⟩ = some (.int .i64 sk) := ha 0 _ rfl
          have x1 : wr.cell? ⟨g1, o1 + i * 2 + 1, none⟩ = some (.int .i64 sn) := ha 1 _ rfl
          have hn0 := hso.1
          obtain ⟨nb, hnb⟩ : ∃ nb, setB (askB ⟨0, 0, -1, -1⟩ ⟨sk, sn⟩) = nb := ⟨_, rfl⟩
          rw [hnb] at hb
          have y0 : wr.cell? ⟨g2, o2 + i * 4, none⟩ = some (.int .i64 nb.mn) := hb 0 _ rfl
          have y1 : wr.cell? ⟨g2, o2 + i * 4 + 1, none⟩ = some (.int .i64 nb.mx) := hb 1 _ rfl
          have y2 : wr.cell? ⟨g2, o2 + i * 4 + 2, none⟩ = some (.int .i64 nb.sh) := hb 2 _ rfl
          have y3 : wr.cell? ⟨g2, o2 + i * 4 + 3, none⟩ = some (.int .i64 nb.wt) := hb 3 _ rfl
          dsimp only at hn0
          clear hs hso ha hb eg1
          rcases (show sk = 1 ∨ sk = 2 ∨ (sk ≠ 1 ∧ sk ≠ 2) by omega) with rfl | rfl | ⟨k1, k2⟩
          · rw [bare_len sn hn0] at hnb
            subst hnb
            dsimp only at y0 y1 y2 y3
            have hneq := band_eql 0 sn (-1) sn
            obtain ⟨V, hV⟩ : ∃ V, wr.alloc (.cells #[.int .i64 0, .int .i64 0, .int .i64 (-1), .int .i64 (-1)] 42) = V := ⟨_, rfl⟩
            have KV : Hid (Whole V wr.heap.size 42 [.int .i64 0, .int .i64 0, .int .i64 (-1), .int .i64 (-1)]) := Lib.hid (hV ▸ whole_new wr [.int .i64 0, .int .i64 0, .int .i64 (-1), .int .i64 (-1)] 42 _ rfl)
            have BV : Below wr.heap.size wr V := by rw [← hV]; exact (Below.refl _ wr).alloc (Nat.le_refl _) _
            have HV := Lib.hid (HX.out.trans (BV.mono HX.out.size))
            have q0 := (BV.cell (p := ⟨g1, o1 + i * 2, none⟩) l1).trans x0
            have q1 := (BV.cell (p := ⟨g1, o1 + i * 2 + 1, none⟩) l1).trans x1
            have lq : g1 < V.heap.size := by have := BV.size; omega
            have lwr : wr.heap.size < V.heap.size := KV.out.lt
            have BVH := Lib.hid BV
            clear BV
            go_wp2
            try rw [hV]
            clear q0 q1
            refine region_held_atC (S := fun X => Hid (SBk wr.heap.size wr.heap.size V X)) (by kernel_rfl) (fun w2 hw2 => ?_)
            have SV : Hid (SBk wr.heap.size wr.heap.size V w2) := Lib.hid (hw2 ▸ SBk.start _ _ _)
            have KG : Hid (Whole w2 wr.heap.size 42 [.int .i64 0, .int .i64 0, .int .i64 (-1), .int .i64 (-1)]) := Lib.hid (hw2 ▸ KV.out.below (below_dn V.heap.size V 1) KV.out.lt)
            clear hw2
            try simp only [Act.put, List.setIfInBounds_toArray, List.set_cons_succ, List.set_cons_zero]
            refine wpAnyH_takeC (i := 0) (v := .slice (some ⟨g1, o1, none⟩) m cap0) (some 40) rfl rfl (by kernel_rfl) (by kernel_rfl) (by kernel_rfl) (fun _ _ _ h => h) (Or.inl ⟨by rfl, ?_⟩) SV ?_
            · intro X hX; go_simp
            try simp only [Act.put, List.setIfInBounds_toArray, List.set_cons_succ, List.set_cons_zero]
            refine wpAnyH_takeC (i := 1) (v := .int .i64 (i : Int)) (some 41) rfl rfl (by kernel_rfl) (by kernel_rfl) (by kernel_rfl) (fun _ _ _ h => h) (Or.inl ⟨by rfl, ?_⟩) SV ?_
            · intro X hX; go_simp
            try simp only [Act.put, List.setIfInBounds_toArray, List.set_cons_succ, List.set_cons_zero]
            refine wpAnyH_takeC (i := 2) (v := .pointer (some ⟨g1, o1 + i * 2, none⟩)) (some 42) rfl rfl (by kernel_rfl) (by kernel_rfl) (by kernel_rfl) (fun _ _ _ h => h) (Or.inl ⟨by rfl, ?_⟩) SV ?_
            · intro X hX; go_simp
            try simp only [Act.put, List.setIfInBounds_toArray, List.set_cons_succ, List.set_cons_zero]
            refine wpAnyH_takeC (i := 3) (v := .pointer (some ⟨g1, o1 + i * 2 + 1, none⟩)) (some 43) rfl rfl (by kernel_rfl) (by kernel_rfl) (by kernel_rfl) (fun _ _ _ h => h) (Or.inl ⟨by rfl, ?_⟩) SV ?_
            · intro X hX; go_simp
            try simp only [Act.put, List.setIfInBounds_toArray, List.set_cons_succ, List.set_cons_zero]
            refine wpAnyH_takeC (i := 4) (v := .int .i64 sn) (some 44) rfl rfl (by kernel_rfl) (by kernel_rfl) (by kernel_rfl) (fun _ _ _ h => h) (Or.inl ⟨by rfl, ?_⟩) SV ?_
            · intro X hX; have o1 := (hX.out.lo.cell (p := ⟨g1, o1 + i * 2 + 1, none⟩) l1).trans (BVH.out.cell (p := ⟨g1, o1 + i * 2 + 1, none⟩) l1 |>.trans x1); have lX := hX.out.lo.size; go_simp
            try simp only [Act.put, List.setIfInBounds_toArray, List.set_cons_succ, List.set_cons_zero]
            refine wpAnyH_takeC (i := 5) (v := .slice (some ⟨g1, o1, none⟩) m cap0) (some 45) rfl rfl (by kernel_rfl) (by kernel_rfl) (by kernel_rfl) (fun _ _ _ h => h) (Or.inl ⟨by rfl, ?_⟩) SV ?_
            · intro X hX; go_simp
            try simp only [Act.put, List.setIfInBounds_toArray, List.set_cons_succ, List.set_cons_zero]
            refine wpAnyH_takeC (i := 6) (v := .int .i64 (i : Int)) (some 46) rfl rfl (by kernel_rfl) (by kernel_rfl) (by kernel_rfl) (fun _ _ _ h => h) (Or.inl ⟨by rfl, ?_⟩) SV ?_
            · intro X hX; go_simp
            try simp only [Act.put, List.setIfInBounds_toArray, List.set_cons_succ, List.set_cons_zero]
            refine wpAnyH_takeC (i := 7) (v := .pointer (some ⟨g1, o1 + i * 2, none⟩)) (some 47) rfl rfl (by kernel_rfl) (by kernel_rfl) (by kernel_rfl) (fun _ _ _ h => h) (Or.inl ⟨by rfl, ?_⟩) SV ?_
            · intro X hX; go_simp
            try simp only [Act.put, List.setIfInBounds_toArray, List.set_cons_succ, List.set_cons_zero]
            refine wpAnyH_takeC (i := 8) (v := .pointer (some ⟨g1, o1 + i * 2 + 1, none⟩)) (some 48) rfl rfl (by kernel_rfl) (by kernel_rfl) (by kernel_rfl) (fun _ _ _ h => h) (Or.inl ⟨by rfl, ?_⟩) SV ?_
            · intro X hX; go_simp
            try simp only [Act.put, List.setIfInBounds_toArray, List.set_cons_succ, List.set_cons_zero]
            refine wpAnyH_takeC (i := 9) (v := .int .i64 sn) (some 49) rfl rfl (by kernel_rfl) (by kernel_rfl) (by kernel_rfl) (fun _ _ _ h => h) (Or.inl ⟨by rfl, ?_⟩) SV ?_
            · intro X hX; have o1 := (hX.out.lo.cell (p := ⟨g1, o1 + i * 2 + 1, none⟩) l1).trans (BVH.out.cell (p := ⟨g1, o1 + i * 2 + 1, none⟩) l1 |>.trans x1); have lX := hX.out.lo.size; go_simp
            try simp only [Act.put, List.setIfInBounds_toArray, List.set_cons_succ, List.set_cons_zero]
            refine wpAnyH_takeC (i := 10) (v := .agg #[.int .i64 0, .int .i64 sn, .int .i64 (-1), .int .i64 sn]) (some 50) rfl rfl (by kernel_rfl) (by kernel_rfl) (by kernel_rfl) (fun _ _ _ h => h) (Or.inl ⟨by rfl, ?_⟩) SV ?_
            · intro X hX; go_simp
            try simp only [Act.put, List.setIfInBounds_toArray, List.set_cons_succ, List.set_cons_zero]
            refine wpAnyH_all (rs := [11]) (by kernel_rfl) (by simp) ?_
            intro ii hii
            obtain rfl : ii = 11 := by simpa using hii
            clear hii
            refine wpOp_step rfl (fun K hK => ?_)
            refine wp_store_rowC rfl 42 (.tmp 7) (.tmp 50) rfl wr.heap.size #[.int .i64 0, .int .i64 sn, .int .i64 (-1), .int .i64 sn] rfl rfl 42 _ KG.out (by kernel_rfl) rfl (by simp [Value.oneCell']) ?_
            have KX := Lib.hid (whole_rowA KG.out #[.int .i64 0, .int .i64 sn, .int .i64 (-1), .int .i64 sn])
            have SX : Hid (SBk wr.heap.size wr.heap.size V (w2.setRow wr.heap.size #[.int .i64 0, .int .i64 sn, .int .i64 (-1), .int .i64 sn])) := Lib.hid ⟨SV.out.lo.trans ⟨rfl, rfl, rfl, by simp, fun k hk => setRow_other w2 wr.heap.size k _ (by omega)⟩, SV.out.kp.trans ⟨by simp, fun k hk _ => setRow_other w2 wr.heap.size k _ (by simpa using hk)⟩⟩
            refine hK _ _ ⟨SX, ?_⟩
            clear hK K SV KG
            generalize w2.setRow wr.heap.size #[.int .i64 0, .int .i64 sn, .int .i64 (-1), .int .i64 sn] = w3 at *
            refine wpAnyH_done (by kernel_rfl) ?_ _
            have HW3 := Lib.hid (BVH.out.trans SX.out.lo)
            have p0 := (HW3.out.cell (p := ⟨g2, o2 + i * 4, none⟩) l2).trans y0
            have p1 := (HW3.out.cell (p := ⟨g2, o2 + i * 4 + 1, none⟩) l2).trans y1
            have p2 := (HW3.out.cell (p := ⟨g2, o2 + i * 4 + 2, none⟩) l2).trans y2
            have p3 := (HW3.out.cell (p := ⟨g2, o2 + i * 4 + 3, none⟩) l2).trans y3
            have lp : g2 < w3.heap.size := by have := HW3.out.size; omega
            have n0 := KX.out.cellAt 0
            have n1 := KX.out.cellAt 1
            have n2 := KX.out.cellAt 2
            have n3 := KX.out.cellAt 3
            have ln := KX.out.lt
            have HL3 := Lib.hid (HX.out.trans (HW3.out.mono HX.out.size))
            have s0 := (HW3.out.cell (p := ⟨g1, o1 + i * 2, none⟩) l1).trans x0
            have ls : g1 < w3.heap.size := by have := HW3.out.size; omega
            simp only [List.getElem?_cons_zero, List.getElem?_cons_succ, Array.toList] at n0 n1 n2 n3
            clear y0 y1 y2 y3 l2 lq lwr x0 x1 l1 HW3 KX SX HV BVH KV HX
            go_wp2
            go_quiet (fail)
            go_wp2
            go_roundw
            case rel => exact ⟨i + 1, by omega, by go_num, Lib.hid (HL3.out.trans (below_dn _ _ _))⟩
            case measure => simp [intOf]; omega
          · rw [bare_share sn hn0] at hnb
            subst hnb
            dsimp only at y0 y1 y2 y3
            have hneq := band_eql 0 0 sn (-1)
            go_wp2
            go_quiet (fail)
            go_wp2
            go_roundw
            case rel => exact ⟨i + 1, by omega, by go_num, Lib.hid ((HX.out.alloc HX.out.size _).trans (below_dn _ _ _))⟩
            case measure => simp [intOf]; omega
          · rw [bare_none sk sn k1 k2] at hnb
            subst hnb
            dsimp only at y0 y1 y2 y3
            have hneq := band_eql 0 0 (-1) (-1)
            have k1' : (sk == 1) = false := by simpa using k1
            have k2' : (sk == 2) = false := by simpa using k2
            go_wp2
            go_quiet (fail)
            go_wp2
            go_roundw
            case rel => exact ⟨i + 1, by omega, by go_num, Lib.hid ((HX.out.alloc HX.out.size _).trans (below_dn _ _ _))⟩
            case measure => simp [intOf]; omega
        · go_wp2
          go_ret
          exact ⟨rfl, BB.out.trans (HX.out.mono BB.out.size)⟩

set_option maxRecDepth 100000 in
theorem lifted (os : Os) (started : os.Started) (H : Type) (enc : TypeId × Value → H) :
    ReturnsInHanded {} Try.checked os 7 .any (Rows.columnsBareSpec.pre6 enc Try.prog Try.f7 Rows.columnsBareRow.domain false) (Rows.columnsBareSpec.post enc Try.prog Try.f7 false true false false) := by
  refine returnsInHanded_of_change (C := Try.checked) own started (by kernel_rfl) Try.func7
    (ChangeSpec.witness6 (enc := enc) (C := Try.checked) false ⟨#[], #[.slice none 0 0], []⟩ 8 (by kernel_rfl) (by kernel_rfl) (by kernel_rfl) (by kernel_rfl)) ?_
  intro W base args ds gs before hval0 hW hcnd _
  have hval : ∀ (j : Nat) t v, Try.f7.params[j]? = some t → args[j]? = some v → Value.okWide Try.prog W .any base t v := hval0
  have hW' := hW
  obtain ⟨p, q, hA0, hV, rfl, hfz, hnd⟩ := hW
  have hA : DataW.TrodAll enc Try.prog W 0 (fun _ => true) true Try.f7.params.toList args.toList ds p := hA0
  rw [Try.params7] at hA hval
  obtain ⟨v0, vs0, d0, ds0, p0, q0, hargs, rfl, rfl, h0, r0⟩ := trodAll_cons hA
  obtain ⟨rfl, rfl, rfl⟩ := trodAll_nil r0
  obtain rfl : args = #[v0] := by cases args; simp_all
  obtain ⟨rfl, rfl⟩ := trodVars_none hV
  obtain ⟨a0, len0, cap0, rfl⟩ := okWide_slice Try.underlying22 (hval 0 22 v0 rfl rfl)
  have k0 := h0
  have lt0 : ∀ x ∈ p0, x.block < W.heap.size := by obtain ⟨m, hm⟩ := k0; exact DataW.trod_lt m _ _ _ hm
  obtain ⟨z0, w0⟩ : ∃ zs, SizeArg W a0 len0 cap0 zs := by
    obtain ⟨fuel, hf⟩ := h0
    exact open_sizes (by simpa [Value.cells] using hf)
  clear hA0 hval0
  simp only [List.append_nil] at hW'
  refine (walk W a0 len0 cap0 z0 w0).mono fun e W' ⟨he, hg⟩ => ?_
  subst he
  exact ⟨_, rfl, _, _, _, [], _, [], hW', (trodAll_cons_mk (shut_bool Try.underlying4 _) trodAll_mk0), (trodAll_cons_mk (Below.trod laidOut (by kernel_rfl) (of_decide_eq_true (by kernel_rfl)) k0 hg lt0) trodAll_mk0), rfl, hg.frame _, fun h => by cases h⟩

theorem over : Rows.columnsBareRow.holds Try.pinned (OpenSpec.ofChange Rows.columnsBareSpec) :=
  OpenClaim.holds_of_wide 7 Try.f7 rfl rfl rfl rfl rfl rfl rfl ⟨rfl, rfl, rfl, rfl, rfl⟩ rfl rfl rfl rfl rfl (by kernel_rfl) Try.func7 (by kernel_rfl)
    (of_decide_eq_true (by kernel_rfl)) (by unfold Func.isWrapper; first | (rw [if_pos (by decide +kernel)]; kernel_rfl) | (rw [if_neg (by decide +kernel)]; exact ⟨rfl, rfl⟩))
    (fun os started H enc _ => lifted os started H enc)

/-- the statement -/
theorem proved : Rows.ColumnsBareSaid :=
  over
#print axioms proved
end Go.Proofs.Ytmfllaanobafkaa.columnsBare
