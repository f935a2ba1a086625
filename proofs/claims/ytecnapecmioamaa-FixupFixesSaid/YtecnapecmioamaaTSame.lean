/- The document's SameNode and Same: two nodes, two pages that are the same but for where their slices lie. -/
import Derived.Test.YtecnapecmioamaaTComp
import Derived.Test.YtecnapecmioamaaTPure
import Derived.Test.YtecnapecmioamaaSOpen
import Derived.ChangeKeysEq
import Derived.OrdersHeld
import Derived.Deep.RegionHeld3
namespace Go.Proofs.Ytecnapecmioamaa
open Go.RowKit Go.Shelf
set_option linter.unusedVariables false
attribute [local go_sem] Oper.semAt_some

theorem has_info (t : TypeId) (h : (Try.prog.info? t).isSome = true) : ∃ i, Try.prog.info? t = some i := Option.isSome_iff_exists.1 h
theorem pads_eql (a b c d : Int) (X : World) : (Op.equalIn 9999 37 (.agg #[.int .i64 a, .int .i64 b, .int .i64 c, .int .i64 d]) (.agg #[.int .i64 a, .int .i64 b, .int .i64 c, .int .i64 d])).run Try.prog X = .ok true X := by
  obtain ⟨i, hi⟩ := has_info 2 (by kernel_rfl)
  rw [show (9999 : Nat) = 9998 + 1 from rfl, run_equalIn_array X 9998 _ _ Try.underlying37 hi, Try.cellsI64, show List.range 4 = [0, 1, 2, 3] from rfl]
  simp only [Op.eqItems]
  go_simp
theorem gaps_eql (a b : Int) (X : World) : (Op.equalIn 9999 42 (.agg #[.int .i64 a, .int .i64 b]) (.agg #[.int .i64 a, .int .i64 b])).run Try.prog X = .ok true X := by
  obtain ⟨i, hi⟩ := has_info 2 (by kernel_rfl)
  rw [show (9999 : Nat) = 9998 + 1 from rfl, run_equalIn_array X 9998 _ _ Try.underlying42 hi, Try.cellsI64, show List.range 2 = [0, 1] from rfl]
  simp only [Op.eqItems]
  go_simp
theorem lines_eql (a b c d e f g h i j k l : Int) (X : World) : (Op.equalIn 9999 41 (.agg #[.int .i64 a, .int .i64 b, .int .u32 c, .int .i64 d, .int .i64 e, .int .u32 f, .int .i64 g, .int .i64 h, .int .u32 i, .int .i64 j, .int .i64 k, .int .u32 l]) (.agg #[.int .i64 a, .int .i64 b, .int .u32 c, .int .i64 d, .int .i64 e, .int .u32 f, .int .i64 g, .int .i64 h, .int .u32 i, .int .i64 j, .int .i64 k, .int .u32 l])).run Try.prog X = .ok true X := by
  obtain ⟨i, hi⟩ := has_info 40 (by kernel_rfl)
  rw [show (9999 : Nat) = 9998 + 1 from rfl, run_equalIn_array X 9998 _ _ Try.underlying41 hi, Try.cellsLine, show List.range 4 = [0, 1, 2, 3] from rfl]
  simp only [Op.eqItems]
  go_simp
set_option maxRecDepth 100000 in
set_option maxHeartbeats 2000000 in
theorem sty_eql (s : Sty) (X : World) : (binOp .eql 44 (.agg s.cells.toArray) (.agg s.cells.toArray)).run Try.prog X = .ok (.bool true) X := by
  rw [s.cells_lit]
  have h1 := fun X => pads_eql (s.sd 0).p (s.sd 1).p (s.sd 2).p (s.sd 3).p X
  have h2 := fun X => gaps_eql s.g0 s.g1 X
  have h3 := fun X => lines_eql (s.sd 0).s (s.sd 0).w (s.sd 0).c (s.sd 1).s (s.sd 1).w (s.sd 1).c (s.sd 2).s (s.sd 2).w (s.sd 2).c (s.sd 3).s (s.sd 3).w (s.sd 3).c X
  go_simp
set_option maxRecDepth 100000 in
set_option maxHeartbeats 4000000 in
theorem samenode_at (a b : Nd) (w : World) (S : SameNd a b) (ha : a.ok w) (hb : b.ok w) : Calls Try.prog 22 #[.agg a.cells.toArray, .agg b.cells.toArray] w fun e W' => e = .returned (.bool true) ∧ Below w.heap.size w W' := by
  obtain ⟨X0, hX0⟩ : ∃ X0, (w.alloc (.cells a.cells.toArray 47)).alloc (.cells b.cells.toArray 47) = X0 := ⟨_, rfl⟩
  have ka : Whole X0 w.heap.size 47 a.cells := by rw [← hX0]; exact (whole_new w _ _ _ rfl).alloc _
  have kb : Whole X0 (w.heap.size + 1) 47 b.cells := by rw [← hX0]; exact whole_new (w.alloc _) _ _ _ (by simp)
  have hbw : Below w.heap.size w X0 := by rw [← hX0]; exact ((Below.refl _ w).alloc (Nat.le_refl _) _).alloc (by simp) _
  have KA := Lib.hid ka
  have KB := Lib.hid kb
  have HB := Lib.hid hbw
  have iwa := ha.2.1.below hbw
  have iwb := hb.2.1.below hbw
  have ika := ha.1.below hbw
  have ikb := hb.1.below hbw
  obtain ⟨pa, ca, hwa⟩ := iwa.form
  obtain ⟨pb, cb, hwb⟩ := iwb.form
  obtain ⟨qa, da, hka⟩ := ika.form
  obtain ⟨qb, db, hkb⟩ := ikb.form
  rw [hwa] at iwa; rw [hwb, S.ws] at iwb; rw [hka] at ika; rw [hkb, S.ks] at ikb
  have a31 : X0.cell? ⟨w.heap.size, 31, none⟩ = some (.slice pa a.ws.length ca) := by rw [ka.cellAt, a.c31, hwa]
  have b31 : X0.cell? ⟨w.heap.size + 1, 31, none⟩ = some (.slice pb a.ws.length cb) := by rw [kb.cellAt, b.c31, hwb, S.ws]
  have a1 : X0.cell? ⟨w.heap.size, 1, none⟩ = some (.slice qa a.ks.length da) := by rw [ka.cellAt, a.c1, hka]
  have b1 : X0.cell? ⟨w.heap.size + 1, 1, none⟩ = some (.slice qb a.ks.length db) := by rw [kb.cellAt, b.c1, hkb, S.ks]
  have a0 : X0.cell? ⟨w.heap.size, 0, none⟩ = some (.int .i64 a.k) := by rw [ka.cellAt, a.c0]
  have b0 : X0.cell? ⟨w.heap.size + 1, 0, none⟩ = some (.int .i64 a.k) := by rw [kb.cellAt, b.c0, S.k]
  have a32 : X0.cell? ⟨w.heap.size, 32, none⟩ = some (.int .i64 a.b) := by rw [ka.cellAt, a.c32]
  have b32 : X0.cell? ⟨w.heap.size + 1, 32, none⟩ = some (.int .i64 a.b) := by rw [kb.cellAt, b.c32, S.b]
  have a33 : X0.cell? ⟨w.heap.size, 33, none⟩ = some (.int .i64 a.h) := by rw [ka.cellAt, a.c33]
  have b33 : X0.cell? ⟨w.heap.size + 1, 33, none⟩ = some (.int .i64 a.h) := by rw [kb.cellAt, b.c33, S.h]
  have la := ka.lt
  have lb := kb.lt
  have SA : Hid (∀ n, ∀ j v, a.s.cells.toArray[j]? = some v → (X0.drewN n).cell? ((⟨w.heap.size, 2, none⟩ : Addr).add j) = some v) := Lib.hid fun n j v hj => (NdAt.whole ka).style j v hj
  have SB : Hid (∀ n, ∀ j v, a.s.cells.toArray[j]? = some v → (X0.drewN n).cell? ((⟨w.heap.size + 1, 2, none⟩ : Addr).add j) = some v) := Lib.hid fun n j v hj => (NdAt.whole kb).style j v (by rw [S.s]; exact hj)
  have iS := Lib.hid (sty_info' a.s)
  have hE := fun X => sty_eql a.s X
  have IWA := Lib.hid iwa
  have IWB := Lib.hid iwb
  have IKA := Lib.hid ika
  have IKB := Lib.hid ikb
  have hsm := iwa.small
  obtain ⟨sc, hsc⟩ : ∃ sc, a.s.cells.toArray = sc := ⟨_, rfl⟩
  rw [hsc] at SA SB iS hE
  obtain ⟨xa, hxa⟩ : ∃ xa, a.cells.toArray = xa := ⟨_, rfl⟩
  obtain ⟨xb, hxb⟩ : ∃ xb, b.cells.toArray = xb := ⟨_, rfl⟩
  rw [hxa, hxb] at hX0 ⊢
  clear hsc hxa hxb hwa hwb hka hkb iwa iwb ika ikb hbw ka kb ha hb S
  generalize a.k = nk at *
  generalize a.b = nb at *
  generalize a.h = nh at *
  go_enter Try.func22, Try.ntmps22
  go_wp2
  try rw [hX0]
  clear hX0
  generalize hws : a.ws = zs at *
  generalize hks : a.ks = ys at *
  go_loopw [5] (fun i x => ∃ t n : Nat, t ≤ zs.length ∧ i = .int .i64 t ∧ x = X0.drewN n) (fun i _ => zs.length - (intOf i).toNat)
  case atStart => exact ⟨0, 0, Nat.zero_le _, rfl, rfl⟩
  case round =>
    obtain ⟨t, n, ht, rfl, rfl⟩ := hrel
    by_cases htl : t < zs.length
    · obtain ⟨ba, oa, rfl, hca⟩ := IWA.out.at' t htl
      obtain ⟨bb, ob, rfl, hcb⟩ := IWB.out.at' t htl
      have ca' := hca t htl
      have cb' := hcb t htl
      have lca := cell_lt ca'
      have lcb := cell_lt cb'
      clear hca hcb a1 b1 a0 b0 a32 b32 a33 b33
      generalize zs[t]?.getD 0 = z at *
      go_wp2
      go_quiet (fail)
      go_wp2
      go_roundw
      case rel => exact ⟨t + 1, _, by omega, by go_num, rfl⟩
      case measure => simp [intOf]; omega
    · have hte : t = zs.length := by omega
      have hI : Hid (∀ n, Ints (X0.drewN n) (.slice qa ys.length da) ys ∧ Ints (X0.drewN n) (.slice qb ys.length db) ys) := Lib.hid fun n => ⟨IKA.out.below (below_dn _ _ n), IKB.out.below (below_dn _ _ n)⟩
      have a0' : X0.cell? ⟨w.heap.size, 0, none⟩ = some (.int .i64 nk) := a0
      go_wp2_with (first
        | (go_at_call 12; refine (ints_any _ _ ys ys _ (hI.out _).1 (hI.out _).2).mono ?_; rintro e w2 ⟨rfl, n2, rfl⟩; rw [show decide (ys = ys) = true from by simp])
        | (refine wpList_load_at_w rfl 44 (.tmp 46) rfl _ rfl sc _ (by first | exact SA.out _ | (rw [World.drewN_drewN]; exact SA.out _)) Try.underlying44 rfl iS.out ?_)
        | (refine wpList_load_at_w rfl 44 (.tmp 48) rfl _ rfl sc _ (by first | exact SB.out _ | (rw [World.drewN_drewN]; exact SB.out _)) Try.underlying44 rfl iS.out ?_))
      go_ret
      exact ⟨rfl, HB.out.trans (below_dn _ _ _)⟩
set_option maxRecDepth 100000 in
set_option maxHeartbeats 4000000 in
theorem same_at (b1 o1 b2 o2 m c1 c2 : Nat) (ns ns' : List Nd) (w : World) (hm : ns.length = m) (hm' : ns'.length = m) (hms : m ≤ 65536)
    (hc1 : ∀ i n, ns[i]? = some n → NdAt w b1 (o1 + i * 34) n) (hc2 : ∀ i n, ns'[i]? = some n → NdAt w b2 (o2 + i * 34) n) (hok1 : ∀ n ∈ ns, n.ok w) (hok2 : ∀ n ∈ ns', n.ok w)
    (hs : ∀ (i : Nat) (a b : Nd), ns[i]? = some a → ns'[i]? = some b → SameNd a b) :
    Calls Try.prog 9 #[.slice (some ⟨b1, o1, none⟩) m c1, .slice (some ⟨b2, o2, none⟩) m c2] w fun e W' => e = .returned (.bool true) ∧ Below w.heap.size w W' := by
  have HM := Lib.hid hm
  have HM' := Lib.hid hm'
  have C1 := Lib.hid hc1
  have C2 := Lib.hid hc2
  have K1 := Lib.hid hok1
  have K2 := Lib.hid hok2
  have HS := Lib.hid hs
  clear hm hm' hc1 hc2 hok1 hok2 hs
  go_enter Try.func9, Try.ntmps9
  go_wp2
  go_loopw [5] (fun i x => ∃ t : Nat, t ≤ m ∧ i = .int .i64 t ∧ Hid (Below w.heap.size w x)) (fun i _ => m - (intOf i).toNat)
  case atStart => exact ⟨0, Nat.zero_le _, rfl, Lib.hid (Below.refl _ w)⟩
  case round =>
    obtain ⟨t, ht, rfl, HB⟩ := hrel
    by_cases htl : t < m
    · obtain ⟨a, ha⟩ : ∃ a, ns[t]? = some a := ⟨_, List.getElem?_eq_getElem (by rw [HM.out]; exact htl)⟩
      obtain ⟨b, hb⟩ : ∃ b, ns'[t]? = some b := ⟨_, List.getElem?_eq_getElem (by rw [HM'.out]; exact htl)⟩
      have SN := HS.out t a b ha hb
      have HA := Lib.hid (C1.out t a ha)
      have HBB := Lib.hid (C2.out t b hb)
      have OA := Lib.hid (K1.out a (List.mem_iff_getElem?.2 ⟨t, ha⟩))
      have OB := Lib.hid (K2.out b (List.mem_iff_getElem?.2 ⟨t, hb⟩))
      have htm : (t : Int) < (m : Int) := by omega
      have CALL : Hid (∀ X, Below w.heap.size w X → Calls Try.prog 22 #[.agg a.cells.toArray, .agg b.cells.toArray] X fun e W' => e = .returned (.bool true) ∧ Below X.heap.size X W') := Lib.hid fun X hX => samenode_at a b X SN (OA.out.below hX) (OB.out.below hX)
      clear ha hb C1 C2 K1 K2 HS
      go_wp2
      refine region_held_at (S := fun X => Hid (Below w.heap.size w X)) (by kernel_rfl) (fun W6 hW6 => ?_)
      have SV : Hid (Below w.heap.size w W6) := by apply Lib.hid; rw [← hW6]; exact HB.out.trans ((below_dn _ wr 1).mono (Nat.le_refl _))
      clear hW6
      refine wpAnyH_take (i := 0) (v := .slice (some ⟨b1, o1, none⟩) m c1) rfl (by kernel_rfl) (by kernel_rfl) (by kernel_rfl) (fun _ _ _ h => h) (Or.inl ⟨by rfl, ?_⟩) SV ?_
      · intro X hX; go_simp
      refine wpAnyH_take (i := 1) (v := .int .i64 t) rfl (by kernel_rfl) (by kernel_rfl) (by kernel_rfl) (fun _ _ _ h => h) (Or.inl ⟨by rfl, ?_⟩) SV ?_
      · intro X hX; go_simp
      refine wpAnyH_take (i := 2) (v := .pointer (some ⟨b1, o1 + t * 34, none⟩)) rfl (by kernel_rfl) (by kernel_rfl) (by kernel_rfl) (fun _ _ _ h => h) (Or.inl ⟨by rfl, ?_⟩) SV ?_
      · intro X hX; go_simp
      refine wpAnyH_take (i := 3) (v := .agg a.cells.toArray) rfl (by kernel_rfl) (by kernel_rfl) (by kernel_rfl) (fun _ _ _ h => h) (yieldsIf_load_mid (by rfl) 47 (.tmp 20) rfl b1 (o1 + t * 34) rfl a.cells _ (fun X hX => HA.out.below hX.out) Try.underlying47 rfl (by have := nd_info a; simpa using this)) SV ?_
      refine wpAnyH_take (i := 4) (v := .slice (some ⟨b2, o2, none⟩) m c2) rfl (by kernel_rfl) (by kernel_rfl) (by kernel_rfl) (fun _ _ _ h => h) (Or.inl ⟨by rfl, ?_⟩) SV ?_
      · intro X hX; go_simp
      refine wpAnyH_take (i := 5) (v := .int .i64 t) rfl (by kernel_rfl) (by kernel_rfl) (by kernel_rfl) (fun _ _ _ h => h) (Or.inl ⟨by rfl, ?_⟩) SV ?_
      · intro X hX; go_simp
      refine wpAnyH_take (i := 6) (v := .pointer (some ⟨b2, o2 + t * 34, none⟩)) rfl (by kernel_rfl) (by kernel_rfl) (by kernel_rfl) (fun _ _ _ h => h) (Or.inl ⟨by rfl, ?_⟩) SV ?_
      · intro X hX; go_simp
      refine wpAnyH_take (i := 7) (v := .agg b.cells.toArray) rfl (by kernel_rfl) (by kernel_rfl) (by kernel_rfl) (fun _ _ _ h => h) (yieldsIf_load_mid (by rfl) 47 (.tmp 24) rfl b2 (o2 + t * 34) rfl b.cells _ (fun X hX => HBB.out.below hX.out) Try.underlying47 rfl (by have := nd_info b; simpa using this)) SV ?_
      refine wpAnyH_all (rs := [8]) (by kernel_rfl) (by simp) ?_
      intro i hi; obtain rfl : i = 8 := by simpa using hi
      refine wpOp_step rfl (fun K hK => ?_)
      go_simp
      refine (CALL.out _ SV.out).mono ?_
      rintro e w7 ⟨rfl, hb⟩
      have S7 : Hid (Below w.heap.size w w7) := Lib.hid (SV.out.trans (hb.mono SV.out.size))
      refine hK _ _ ⟨S7, ?_⟩
      clear hK K hi hb
      refine wpAnyH_take (i := 9) (v := .bool true) rfl (by kernel_rfl) (by kernel_rfl) (by kernel_rfl) (fun _ _ _ h => h) (Or.inl ⟨by rfl, ?_⟩) S7 ?_
      · intro X hX; go_simp
      refine wpAnyH_done (by kernel_rfl) ?_ _
      go_wp2
      go_roundw
      case rel => exact ⟨t + 1, by omega, by go_num, S7⟩
      case measure => simp [intOf]; omega
    · have hte : t = m := by omega
      go_wp2
      go_ret
      exact ⟨rfl, HB.out⟩
theorem same_any (v v' : Value) (ns ns' : List Nd) (w : World) (h : PageAt w v ns) (h' : PageAt w v' ns') (h1 : 1 ≤ ns.length) (h2 : ns.length ≤ 65536) (hl : ns'.length = ns.length) (hs : ∀ (i : Nat) (a b : Nd), ns[i]? = some a → ns'[i]? = some b → SameNd a b) :
    Calls Try.prog 9 #[v, v'] w fun e W' => e = .returned (.bool true) ∧ Below w.heap.size w W' := by
  obtain ⟨p, c, rfl⟩ := h.form
  obtain ⟨p', c', rfl⟩ := h'.form
  obtain ⟨b, off, rfl, hc⟩ := page_some h h1
  obtain ⟨b', off', rfl, hc'⟩ := page_some h' (by omega)
  rw [hl]
  exact same_at b off b' off' _ c c' ns ns' w rfl hl h2 hc hc' h.2.1 h'.2.1 hs
end Go.Proofs.Ytecnapecmioamaa
