/- The document's Fix (layer 5). Written by mk_FRefFix.py. -/
import Derived.Test.YtecnapecmioamaaFRefM
import Derived.Test.YtecnapecmioamaaCLoad
import Derived.Maps.AppendAt
namespace Go.Proofs.Ytecnapecmioamaa
open Go.RowKit Go.Shelf Go.Maps
set_option linter.unusedVariables false
set_option linter.unusedSimpArgs false
attribute [local go_sem] Oper.semAt_some

theorem Try.infoIntX : (Try.prog.info? 3).map (fun i => (i.zero, i.size, i.bytes)) = some (some (.int .i64 0), 1, 8) := by kernel_rfl
/-- a number appended to a list of its own -/
theorem run_appX (w : World) (ty : TypeId) (B : Nat) (v : Value) (zs : List Int) (hown : w.ownsRow B 3 1 v zs.length (zs.map (Value.int .i64))) (g : Nat) (z : Int) (hz : w.cell? ⟨g, 0, none⟩ = some (.int .i64 z)) (hl : zs.length ≤ 1000000) (hB : B ≤ w.heap.size) :
    ∃ v' w', (Builtin.append_ #[34, 34] ty #[v, .slice (some ⟨g, 0, none⟩) 1 1]).run Try.prog w = .ok v' w' ∧ w'.ownsRow B 3 1 v' (zs ++ [z]).length ((zs ++ [z]).map (Value.int .i64)) ∧ w.grownBy w' v.ownBlock ∧ (v'.ownBlock = v.ownBlock ∨ v'.ownBlock = some w.heap.size) := by
  obtain ⟨i0, hi, hz0, hz1, hz2⟩ := info_parts Try.infoIntX
  obtain ⟨v', w', h1, h2, h3, -, h4⟩ := run_append_own_at (P := Try.prog) w B 34 ty 3 i0 (.int .i64 0) 1 8 Try.underlying34 hi hz0 hz1 hz2 rfl (by decide) v zs.length _ hown ⟨g, 0, none⟩ 1 1 [.int .i64 z] rfl
    (fun j u hj => (by cases j with | zero => (simp only [List.getElem?_cons_zero, Option.some.injEq] at hj; rw [add_plainC, ← hj]; exact hz) | succ j => simp at hj)) (by simp [Value.oneCell']) (by unfold maxLen; omega) (by omega) hB
  exact ⟨v', w', h1, by simpa using h2, h3, h4⟩
theorem wp_appRunX {o : Oper} {a : Act} {w X : World} {K : Act → World → Prop} {Q : Exit → Act → World → Prop} (dst : Option Tmp) (hd : o.dst = dst) (s x : Operand) (t : TypeId) (ho : o.op = .call { callee := .builtin .append, args := #[s, x], argTypes := #[t, t] })
    (v v2 r : Value) (hs : a.eval s = v) (hx : a.eval x = v2) (hr : (Builtin.append_ #[t, t] o.type #[v, v2]).run Try.prog w = .ok r X) (h : K (a.put dst r) X) : o.wp Try.prog a w K Q := by
  subst hd
  unfold Oper.wp execOp
  simp only [ho, resolve, invoke, builtin, Sem.run_bind, Sem.run_pure, Result.andThen_ok, List.map_toArray, List.map_cons, List.map_nil, hs, hx, hr]
  exact h
theorem wpList_appRunX {ops : Array Oper} {rest : List Oper} {o : Oper} {a : Act} {w w' : World} {v' : Value} {Q : Exit → Act → World → Prop} (dst : Option Tmp) (hd : o.dst = dst) (hgd : o.guard = none) (s x : Operand) (t : TypeId) (ho : o.op = .call { callee := .builtin .append, args := #[s, x], argTypes := #[t, t] })
    (v u : Value) (hs : a.eval s = v) (hx : a.eval x = u) (hr : (Builtin.append_ #[t, t] o.type #[v, u]).run Try.prog w = .ok v' w') (h : wpList Try.prog ops Q rest (a.put dst v') w') : wpList Try.prog ops Q (o :: rest) a w :=
  wpList_plain hgd fun K hK => wp_appRunX dst hd s x t ho v u v' hs hx hr (hK _ _ h)
theorem comp_bare (ns : List Nd) : (ns.map compQ).map Nd.bare = ns.map compB := by
  rw [List.map_map]; rfl
/-- the state between two nodes -/
structure DS (B0 : List Nd) (w : World) (i : Nat) (ns : List Nd) (L cap : Nat) (X : World) : Prop where
  laid : Laid X L cap ns.length ns
  bare : ns.map Nd.bare = iterB B0 i
  le : ns.length ≤ cap
  max : cap ≤ maxLen
  low : w.heap.size ≤ L
  below : Below w.heap.size w X
  done : i ≤ ns.length
theorem DS.len {B0 : List Nd} {w : World} {i : Nat} {ns : List Nd} {L cap : Nat} {X : World} (h : DS B0 w i ns L cap X) : ns.length = (iterB B0 i).length := by rw [← h.bare, List.length_map]
theorem DX.laid {w : World} {b5 L cap cnt : Nat} {n0 : Nd} {ns nds : List Nd} {kids : List Int} {kvX : Value} {op : Bool} {X : World} (h : DX w b5 L cap cnt n0 ns nds kids kvX op X) : Laid X L cap cnt (ns ++ nds) := ⟨h.row.1, h.row.2, h.ok⟩
theorem Laid.at {X : World} {L cap k : Nat} {ns : List Nd} (h : Laid X L cap k ns) (hk : k ≤ 1000000) (j : Nat) (n : Nd) (hn : ns[j]? = some n) : NdAt X L (j * 34) n := by
  have hl := (List.getElem?_eq_some_iff.1 hn).1
  have hlen : ns.length = k := h.len
  have hpg : PageAt X (.slice (some ⟨L, 0, none⟩) k cap) ns := h.page hk
  obtain ⟨b', o', he, hc⟩ : ∃ b off, (some (⟨L, 0, none⟩ : Addr)) = some ⟨b, off, none⟩ ∧ ∀ i n, ns[i]? = some n → NdAt X b (off + i * 34) n := page_some hpg (by omega)
  injection he with he; injection he with he1 he2
  subst he1 he2
  have := hc j n hn
  rwa [Nat.zero_add] at this
theorem Laid.kind {X : World} {L cap k : Nat} {ns : List Nd} (h : Laid X L cap k ns) (hk : k ≤ 1000000) (j : Nat) (hj : j < k) : X.cell? ⟨L, j * 34, none⟩ = some (.int .i64 (kdOf ns j)) := by
  have hl : j < ns.length := by rw [h.len]; exact hj
  have hn := List.getElem?_eq_getElem hl
  have := h.at hk j _ hn 0 _ (Nd.c0 _)
  unfold kdOf
  rw [hn]
  simpa using this
theorem FK_step (p : Int → Bool) (n : Nat) (ks : List Int) (j : Nat) (z : Int) (h : ks[j]? = some z) : FK p n (ks.take (j + 1)) = stepK p n (FK p n (ks.take j)) z := by
  rw [List.take_add_one, h, FK_append]; rfl
theorem cell_grownX {V X : World} {row : Option Nat} (hg : V.grownBy X row) {b o : Nat} {v : Value} (h : V.cell? ⟨b, o, none⟩ = some v) (hne : row ≠ some b) : X.cell? ⟨b, o, none⟩ = some v :=
  (World.cell?_of_block (a := ⟨b, o, none⟩) (hg.block b (cell_lt h) (fun e => hne e.symm))).trans h
theorem RowAt.unfrozen {X : World} {L cap k : Nat} {ns : List Nd} (h : RowAt X L cap k ns) (o : Nat) : X.frozen? ⟨L, o, none⟩ = false := by
  obtain ⟨⟨cur, h1, _⟩, _⟩ := h
  simp [World.frozen?, h1]
theorem away_ne {g : Option Nat} {n : Nd} {qb qo kl kc : Nat} (h : AwayN g n) (hk : n.kv = .slice (some ⟨qb, qo, none⟩) kl kc) (hn : n.ks ≠ []) : g ≠ some qb := fun e => by
  rcases (h qb e).1 with h0 | ⟨b, off, cp, e2, hne⟩
  · exact hn h0
  · rw [hk] at e2
    injection e2 with e3
    injection e3 with e3
    injection e3 with e3
    exact hne e3.symm
set_option maxRecDepth 100000 in
set_option maxHeartbeats 8000000 in
theorem refFix_ok (p : Option Addr) (m0 c0 : Nat) (ns : List Nd) (w : World) (h1 : 1 ≤ ns.length) (h2 : ns.length ≤ 65536) (hP : PageAt w (.slice p m0 c0) ns) (hm0 : ns.length = m0) (hv : ∀ n ∈ ns, validS n.s = true) (hW : Way (ns.map compB)) (hk : (kidsOf (ns.map compB)).length ≤ (ns.map compB).length) :
    Calls Try.prog 10 #[.slice p m0 c0] w fun e X => (∃ v ns', e = .returned v ∧ PageAt X v ns' ∧ ns'.map Nd.bare = fixPg ns) ∧ Below w.heap.size w X := by
  have H := Lib.hid (refComputed_own p m0 c0 ns w hm0 (by omega) hP hv)
  have HOKW := Lib.hid (fun n (hn : n ∈ ns) => hP.2.1 n hn)
  obtain ⟨B0, hB0⟩ : ∃ B0, ns.map compB = B0 := ⟨_, rfl⟩
  have HB0 := Lib.hid hB0
  rw [hB0] at hW hk
  have hlB : B0.length = ns.length := by rw [← hB0]; simp
  have HW := Lib.hid hW
  have HBD : Hid (∀ (i : Nat) (ns' : List Nd) (L cap : Nat) (X : World), DS B0 w i ns' L cap X → ns'.length ≤ 262144) := Lib.hid fun i ns' L cap X h => by
    have := iter_bound hW hk i (by rw [← h.len]; exact h.done)
    have h3 := h.len
    omega
  have HEND : Hid (∀ (ns' : List Nd) (L cap : Nat) (X : World), DS B0 w ns'.length ns' L cap X → ns'.map Nd.bare = fixPg ns) := Lib.hid fun ns' L cap X h => by
    rw [h.bare]
    unfold fixPg
    rw [HB0.out]
    exact (fixP_of hW hk ns'.length h.len).symm
  have HM0 : Hid (ns.length = m0 ∧ 1 ≤ m0) := Lib.hid (by omega)
  have hm1 : m0 ≤ 65536 := by omega
  clear hB0 hW hk hlB hP hv hm0
  go_enter Try.func10, Try.ntmps10
  go_wp2_with fail
  refine H.out.mono ?_
  clear H
  rintro e w1 ⟨v, rfl, -, hown, hb1⟩
  have HDS : Hid (∃ L cap, v = .slice (some ⟨L, 0, none⟩) (ns.map compQ).length cap ∧ DS B0 w 0 (ns.map compQ) L cap w1) := Lib.hid (by
    rcases hown.2 with ⟨rfl, hn⟩ | ⟨g, cap, cur, rfl, hbg, hgg, hnc, hcm, hcs, htk⟩
    · have := HM0.out; omega
    · have hl : (ns.map compQ).length = m0 := by rw [List.length_map]; exact HM0.out.1
      refine ⟨g, cap, by rw [hl], ⟨⟨⟨cur, hgg, hcs, by rw [hl]; exact htk⟩, rfl, fun n hn => ?_⟩, by rw [comp_bare, HB0.out]; rfl, by rw [hl]; exact hnc, hcm, hbg, hb1, Nat.zero_le _⟩⟩
      obtain ⟨a, ha, rfl⟩ := List.mem_map.1 hn
      have ho := compQ_ok (HOKW.out a ha)
      exact ⟨ho.below hb1, ho.apart hbg⟩)
  obtain ⟨L0, cap0, rfl, hds⟩ := HDS.out
  have D0 := Lib.hid hds
  clear HDS hds hown hb1 HOKW
  go_wp2
  go_loopw [3, 4] (fun s3 s4 X => ∃ (i : Nat) (ns' : List Nd) (L cap nl : Nat), s4 = .int .i64 (i : Int) ∧ s3 = .slice (some ⟨L, 0, none⟩) nl cap ∧ i ≤ nl ∧ nl ≤ 262144 ∧ Hid (ns'.length = nl ∧ DS B0 w i ns' L cap X)) (fun _ s4 _ => 262144 - (intOf s4).toNat)
  case atStart => exact ⟨0, ns.map compQ, L0, cap0, ns.length, rfl, rfl, Nat.zero_le _, by have := HM0.out; omega, Lib.hid ⟨by simp, D0.out⟩⟩
  case round =>
    obtain ⟨i, ns', L, cap, nl, rfl, rfl, hin, hnl, HD⟩ := hrel
    clear D0
    by_cases hlt : i < nl
    · obtain ⟨n, hn⟩ : ∃ n, ns'[i]? = some n := ⟨_, List.getElem?_eq_getElem (by rw [HD.out.1]; exact hlt)⟩
      have hmem : n ∈ ns' := List.mem_iff_getElem?.2 ⟨i, hn⟩
      have HLD : Hid (Laid wr L cap nl ns') := Lib.hid (by have h := HD.out.2.laid; rwa [HD.out.1] at h)
      have LN := Lib.hid (HLD.out.at (by omega) i n hn).load
      have iN := Lib.hid (nd_info n)
      have oN := Lib.hid (nd_one n wr (HLD.out.ok n hmem).1)
      have zN : Hid (Nd.zero.cells.toArray.size = n.cells.toArray.size) := Lib.hid (by simp [Nd.len])
      have HN := Lib.hid hn
      have lL : L < wr.heap.size := by obtain ⟨⟨cur, h, _⟩, _⟩ := HLD.out; exact (Array.getElem?_eq_some_iff.1 h).1
      obtain ⟨cs, hcs⟩ : ∃ cs, n.cells.toArray = cs := ⟨_, rfl⟩
      rw [hcs] at LN iN oN zN
      have HCE := Lib.hid hcs
      obtain ⟨b5, hb5⟩ : ∃ b, b = wr.heap.size := ⟨_, rfl⟩
      have HB5 := Lib.hid hb5
      clear hn hmem hcs hb5
      go_wp2_with (first
        | (refine wpList_load_at rfl 47 (.tmp 20) rfl _ rfl cs _ LN.out Try.underlying47 rfl iN.out ?_)
        | (refine wpList_store_row rfl 47 (.tmp 5) (.tmp 21) rfl _ cs rfl rfl 47 Nd.zero.cells.toArray (whole_new wr Nd.zero.cells 47 _ rfl) iN.out zN.out oN.out ?_; refine at_world (fun X => Whole X wr.heap.size 47 n.cells ∧ Below wr.heap.size wr X) ⟨by rw [← HCE.out]; exact whole_row (whole_new wr Nd.zero.cells 47 _ rfl) _, ((Below.refl _ wr).alloc (Nat.le_refl _) _).trans (below_row _ _ _ (Nat.le_refl _))⟩ (fun X hX => ?_); obtain ⟨KX, BX⟩ := hX; have KXX := Lib.hid KX; have BXX := Lib.hid BX; clear KX BX LN oN zN iN))
      rw [← HB5.out] at KXX ⊢
      have HK1 : Hid (n.ks.length ≤ 70000 ∧ (0 ≤ n.k ∧ n.k ≤ 10) ∧ ∀ z ∈ n.ks, 0 ≤ z ∧ z < (nl : Int)) := Lib.hid (by
        have hwi := HW.out.iter i
        have hb : n.bare ∈ iterB B0 i := by rw [← HD.out.2.bare]; exact List.mem_map.2 ⟨n, List.mem_iff_getElem?.2 ⟨i, HN.out⟩, rfl⟩
        have hlen := HD.out.2.len
        exact ⟨hwi.few n.bare hb, hwi.kind n.bare hb, fun z hz => by have := hwi.kids n.bare hb z hz; have := HD.out.1; omega⟩)
      have DX0 : Hid (DX w b5 L cap nl n ns' [] [] (.slice none 0 0) false X) := Lib.hid (by
        have hs := HD.out.2.below.size
        have hb := HB5.out
        refine ⟨HD.out.2.below.trans (BXX.out.mono hs), ?_, fun a ha => ?_, by have := HD.out.2.le; rw [HD.out.1] at this; exact this, HD.out.2.max, HD.out.2.low, by omega, by omega, KXX.out, World.ownsRow_nil _ _ _ _, fun a ha b e => (by cases e), fun e => (by cases e)⟩
        · rw [List.append_nil]
          exact RowAt.same (show RowAt wr L cap nl ns' from ⟨HLD.out.1, HLD.out.2⟩) (BXX.out.block L lL)
        · rw [List.append_nil] at ha
          exact ⟨(HLD.out.ok a ha).1.below BXX.out, (HLD.out.ok a ha).2⟩)
      obtain ⟨q, kc, hkv⟩ := (HLD.out.ok n (List.mem_iff_getElem?.2 ⟨i, HN.out⟩)).1.1.form
      obtain ⟨kl, hkl⟩ : ∃ kl, n.ks.length = kl := ⟨_, rfl⟩
      rw [hkl] at hkv HK1
      have HKV := Lib.hid hkv
      have HKL := Lib.hid hkl
      have hkl7 : kl ≤ 70000 := HK1.out.1
      have HF : Hid (∀ (nds : List Nd) (kids : List Int) (kvX : Value) (op : Bool) (L2 cap2 cnt : Nat) (Y : World), DX w b5 L2 cap2 cnt n ns' nds kids kvX op Y → Y.cell? ⟨b5, 0, none⟩ = some (.int .i64 n.k) ∧ Y.cell? ⟨b5, 1, none⟩ = some (.slice q kl kc) ∧ b5 < Y.heap.size ∧ L2 < Y.heap.size) := Lib.hid (fun nds kids kvX op L2 cap2 cnt Y h => by
        have e0 := h.box.cellAt 0
        have e1 := h.box.cellAt 1
        rw [Nd.c0] at e0
        rw [Nd.c1, HKV.out] at e1
        exact ⟨e0, e1, h.box.lt, h.row.lt⟩)
      have HF2 : Hid (∀ (j : Nat) (z : Int), n.ks[j]? = some z → ∃ qb qo, q = some ⟨qb, qo, none⟩ ∧ 0 ≤ z ∧ z < (nl : Int) ∧ ∀ (nds : List Nd) (kids : List Int) (kvX : Value) (op : Bool) (L2 cap2 cnt : Nat) (Y : World), DX w b5 L2 cap2 cnt n ns' nds kids kvX op Y → nl ≤ cnt → cnt ≤ 1000000 → Y.cell? ⟨qb, qo + j, none⟩ = some (.int .i64 z) ∧ Y.cell? ⟨L2, z.toNat * 34, none⟩ = some (.int .i64 (kdOf ns' z.toNat))) := Lib.hid (fun j z hz => by
        have hj := (List.getElem?_eq_some_iff.1 hz).1
        have hb := HK1.out.2.2 z (List.mem_of_getElem? hz)
        have hmem : n ∈ ns' := List.mem_iff_getElem?.2 ⟨i, HN.out⟩
        obtain ⟨_, ⟨a, cp, e, h0⟩ | ⟨qb, qo, cp, e, hc⟩⟩ := (HLD.out.ok n hmem).1.1
        · rw [h0] at hj; simp at hj
        · rw [HKV.out] at e
          injection e with e1
          refine ⟨qb, qo, e1, hb.1, hb.2, fun nds kids kvX op L2 cap2 cnt Y h hc1 hc2 => ⟨?_, ?_⟩⟩
          · obtain ⟨_, ⟨a, cp, e, h0⟩ | ⟨qb2, qo2, cp2, e2, hc2⟩⟩ := (h.ok n (List.mem_append_left _ hmem)).1.1
            · rw [h0] at hj; simp at hj
            · rw [HKV.out, e1] at e2
              injection e2 with e3
              injection e3 with e3
              injection e3 with e3 e4
              subst e3 e4
              have := hc2 j hj
              rw [hz] at this; exact this
          · have := h.laid.kind hc2 z.toNat (by omega)
            rwa [kdOf_append _ _ _ (by rw [HD.out.1]; omega)] at this)
      clear hkv hkl KXX BXX lL
      go_loopw [3, 6, 7, 8] (fun s3 s6 s7 s8 X => ∃ (j : Nat) (kids : List Int) (news : List (List Int)) (nds : List Nd) (kvX : Value) (op : Bool) (L cap cnt : Nat) (zo : Int), kvX = s6 ∧ s8 = .int .i64 (j : Int) ∧ s3 = .slice (some ⟨L, 0, none⟩) cnt cap ∧ s7 = .int .i64 zo ∧ j ≤ kl ∧ Hid (cnt = nl + news.length ∧ zo = (if op then ((nl + news.length : Nat) : Int) - 1 else -1)) ∧ Hid (FK (mayAt n.k ns') nl (n.ks.take j) = (kids, news, op)) ∧ Hid (nds.map Nd.bare = news.map (newNd n.k)) ∧ Hid (DX w b5 L cap cnt n ns' nds kids kvX op X)) (fun _ _ _ s8 _ => kl - (intOf s8).toNat)
      case atStart => exact ⟨0, [], [], [], _, false, L, cap, nl, -1, rfl, rfl, rfl, rfl, Nat.zero_le _, Lib.hid ⟨rfl, rfl⟩, Lib.hid rfl, Lib.hid rfl, DX0⟩
      case round =>
        obtain ⟨j, kids, news, nds, kvX, op, L2, cap2, cnt, zo, rfl, rfl, rfl, rfl, hj, HC, HFK, HNB, HX⟩ := hrel
        clear DX0
        obtain ⟨y0, y1, l5, lL⟩ := HF.out _ _ _ _ _ _ _ _ HX.out
        have hlens : news.length ≤ j ∧ kids.length ≤ j := by
          have := FK_len (mayAt n.k ns') nl (n.ks.take j)
          rw [HFK.out, List.length_take] at this
          have := HKL.out
          dsimp only at *
          omega
        have hcnt : nl ≤ cnt ∧ cnt ≤ 400000 := by have := HC.out.1; omega
        by_cases hjl : j < kl
        · obtain ⟨z, hz⟩ : ∃ z, n.ks[j]? = some z := ⟨_, List.getElem?_eq_getElem (by rw [HKL.out]; exact hjl)⟩
          obtain ⟨qb, qo, rfl, hz0, hz1, hcell⟩ := HF2.out j z hz
          have HCL := Lib.hid hcell
          have HFS := Lib.hid (FK_step (mayAt n.k ns') nl n.ks j z hz)
          rw [HFK.out] at HFS
          have HPM : Hid (mayAt n.k ns' z = mayP n.k (kdOf ns' z.toNat)) := Lib.hid rfl
          obtain ⟨zn, rfl⟩ : ∃ zn : Nat, z = (zn : Int) := ⟨z.toNat, by omega⟩
          rw [Int.toNat_natCast] at HPM HCL
          have HMY := Lib.hid (fun X => refMay_any n.k (kdOf ns' zn) X)
          rw [← HPM.out] at HMY
          have HZ := Lib.hid hz
          have hzc : (zn : Int) < (cnt : Int) := by omega
          have hjk : (j : Int) < (kl : Int) := by omega
          clear hcell hz
          go_wp2_with fail
          refine region_held_atC (S := fun X => Hid (DX w b5 L2 cap2 cnt n ns' nds kids kvX op X)) (by kernel_rfl) (fun w9 hw9 => ?_)
          have SV : Hid (DX w b5 L2 cap2 cnt n ns' nds kids kvX op w9) := Lib.hid (HX.out.below (hw9 ▸ below_dn _ _ 1))
          clear hw9 HX y0 y1 l5 lL
          try simp only [Act.put, List.setIfInBounds_toArray, List.set_cons_succ, List.set_cons_zero]
          refine wpAnyH_takeC (i := 0) (v := .pointer (some ⟨b5, 0, none⟩)) (some 29) rfl rfl (by kernel_rfl) (by kernel_rfl) (by kernel_rfl) (fun _ _ _ h => h) (Or.inl ⟨by rfl, ?_⟩) SV ?_
          · intro X hX; obtain ⟨y0, y1, l5, lL⟩ := HF.out _ _ _ _ _ _ _ _ hX.out; obtain ⟨x0, x1⟩ := HCL.out _ _ _ _ _ _ _ _ hX.out hcnt.1 (by omega); go_simp
          try simp only [Act.put, List.setIfInBounds_toArray, List.set_cons_succ, List.set_cons_zero]
          refine wpAnyH_takeC (i := 1) (v := .int .i64 n.k) (some 30) rfl rfl (by kernel_rfl) (by kernel_rfl) (by kernel_rfl) (fun _ _ _ h => h) (Or.inl ⟨by rfl, ?_⟩) SV ?_
          · intro X hX; obtain ⟨y0, y1, l5, lL⟩ := HF.out _ _ _ _ _ _ _ _ hX.out; obtain ⟨x0, x1⟩ := HCL.out _ _ _ _ _ _ _ _ hX.out hcnt.1 (by omega); go_simp
          try simp only [Act.put, List.setIfInBounds_toArray, List.set_cons_succ, List.set_cons_zero]
          refine wpAnyH_takeC (i := 2) (v := .slice (some ⟨L2, 0, none⟩) cnt cap2) (some 31) rfl rfl (by kernel_rfl) (by kernel_rfl) (by kernel_rfl) (fun _ _ _ h => h) (Or.inl ⟨by rfl, ?_⟩) SV ?_
          · intro X hX; go_simp
          try simp only [Act.put, List.setIfInBounds_toArray, List.set_cons_succ, List.set_cons_zero]
          refine wpAnyH_takeC (i := 3) (v := .pointer (some ⟨b5, 1, none⟩)) (some 32) rfl rfl (by kernel_rfl) (by kernel_rfl) (by kernel_rfl) (fun _ _ _ h => h) (Or.inl ⟨by rfl, ?_⟩) SV ?_
          · intro X hX; obtain ⟨y0, y1, l5, lL⟩ := HF.out _ _ _ _ _ _ _ _ hX.out; obtain ⟨x0, x1⟩ := HCL.out _ _ _ _ _ _ _ _ hX.out hcnt.1 (by omega); go_simp
          try simp only [Act.put, List.setIfInBounds_toArray, List.set_cons_succ, List.set_cons_zero]
          refine wpAnyH_takeC (i := 4) (v := .slice (some ⟨qb, qo, none⟩) kl kc) (some 33) rfl rfl (by kernel_rfl) (by kernel_rfl) (by kernel_rfl) (fun _ _ _ h => h) (Or.inl ⟨by rfl, ?_⟩) SV ?_
          · intro X hX; obtain ⟨y0, y1, l5, lL⟩ := HF.out _ _ _ _ _ _ _ _ hX.out; obtain ⟨x0, x1⟩ := HCL.out _ _ _ _ _ _ _ _ hX.out hcnt.1 (by omega); go_simp
          try simp only [Act.put, List.setIfInBounds_toArray, List.set_cons_succ, List.set_cons_zero]
          refine wpAnyH_takeC (i := 5) (v := .int .i64 (j : Int)) (some 34) rfl rfl (by kernel_rfl) (by kernel_rfl) (by kernel_rfl) (fun _ _ _ h => h) (Or.inl ⟨by rfl, ?_⟩) SV ?_
          · intro X hX; go_simp
          try simp only [Act.put, List.setIfInBounds_toArray, List.set_cons_succ, List.set_cons_zero]
          refine wpAnyH_takeC (i := 6) (v := .pointer (some ⟨qb, qo + j, none⟩)) (some 35) rfl rfl (by kernel_rfl) (by kernel_rfl) (by kernel_rfl) (fun _ _ _ h => h) (Or.inl ⟨by rfl, ?_⟩) SV ?_
          · intro X hX; go_simp
          try simp only [Act.put, List.setIfInBounds_toArray, List.set_cons_succ, List.set_cons_zero]
          refine wpAnyH_takeC (i := 7) (v := .int .i64 (zn : Int)) (some 36) rfl rfl (by kernel_rfl) (by kernel_rfl) (by kernel_rfl) (fun _ _ _ h => h) (Or.inl ⟨by rfl, ?_⟩) SV ?_
          · intro X hX; obtain ⟨y0, y1, l5, lL⟩ := HF.out _ _ _ _ _ _ _ _ hX.out; obtain ⟨x0, x1⟩ := HCL.out _ _ _ _ _ _ _ _ hX.out hcnt.1 (by omega); have lx := cell_lt x0; go_simp
          try simp only [Act.put, List.setIfInBounds_toArray, List.set_cons_succ, List.set_cons_zero]
          refine wpAnyH_takeC (i := 8) (v := .pointer (some ⟨L2, zn * 34, none⟩)) (some 37) rfl rfl (by kernel_rfl) (by kernel_rfl) (by kernel_rfl) (fun _ _ _ h => h) (Or.inl ⟨by rfl, ?_⟩) SV ?_
          · intro X hX; go_simp
          try simp only [Act.put, List.setIfInBounds_toArray, List.set_cons_succ, List.set_cons_zero]
          refine wpAnyH_takeC (i := 9) (v := .pointer (some ⟨L2, zn * 34, none⟩)) (some 38) rfl rfl (by kernel_rfl) (by kernel_rfl) (by kernel_rfl) (fun _ _ _ h => h) (Or.inl ⟨by rfl, ?_⟩) SV ?_
          · intro X hX; obtain ⟨y0, y1, l5, lL⟩ := HF.out _ _ _ _ _ _ _ _ hX.out; obtain ⟨x0, x1⟩ := HCL.out _ _ _ _ _ _ _ _ hX.out hcnt.1 (by omega); go_simp
          try simp only [Act.put, List.setIfInBounds_toArray, List.set_cons_succ, List.set_cons_zero]
          refine wpAnyH_takeC (i := 10) (v := .int .i64 (kdOf ns' zn)) (some 39) rfl rfl (by kernel_rfl) (by kernel_rfl) (by kernel_rfl) (fun _ _ _ h => h) (Or.inl ⟨by rfl, ?_⟩) SV ?_
          · intro X hX; obtain ⟨y0, y1, l5, lL⟩ := HF.out _ _ _ _ _ _ _ _ hX.out; obtain ⟨x0, x1⟩ := HCL.out _ _ _ _ _ _ _ _ hX.out hcnt.1 (by omega); go_simp
          try simp only [Act.put, List.setIfInBounds_toArray, List.set_cons_succ, List.set_cons_zero]
          refine wpAnyH_all (rs := [11]) (by kernel_rfl) (by simp) ?_
          intro ii hii; obtain rfl : ii = 11 := by simpa using hii
          clear hii
          refine wpOp_step rfl (fun K hK => ?_)
          go_simp
          refine (HMY.out _).mono ?_
          rintro e w8 ⟨rfl, rfl⟩
          refine hK _ _ ⟨SV, ?_⟩
          clear hK K
          try simp only [Act.put, List.setIfInBounds_toArray, List.set_cons_succ, List.set_cons_zero]
          refine wpAnyH_takeC (i := 12) (v := .bool (mayAt n.k ns' (zn : Int))) (some 9) rfl rfl (by kernel_rfl) (by kernel_rfl) (by kernel_rfl) (fun _ _ _ h => h) (Or.inl ⟨by rfl, ?_⟩) SV ?_
          · intro X hX; go_simp
          try simp only [Act.put, List.setIfInBounds_toArray, List.set_cons_succ, List.set_cons_zero]
          refine wpAnyH_done (by kernel_rfl) ?_ _
          have HX := SV
          clear SV HMY
          obtain ⟨y0, y1, l5, lL⟩ := HF.out _ _ _ _ _ _ _ _ HX.out
          obtain ⟨x0, x1⟩ := HCL.out _ _ _ _ _ _ _ _ HX.out hcnt.1 (by omega)
          have lx := cell_lt x0
          have hB9 := HX.out.lo.size
          obtain ⟨mb, hmb⟩ : ∃ mb, mb = mayAt n.k ns' (zn : Int) := ⟨_, rfl⟩
          rw [← hmb]
          unfold stepK at HFS
          rw [← hmb] at HFS
          clear hmb
          cases mb with
          | true =>
            simp only [if_true] at HFS
            go_wp2_with (at_builtin; refine Hid.out ?_)
            refine Lib.hid ?_
            have HXA := HX.out.below ((Below.refl _ w9).alloc (Nat.le_refl _) (.cells #[.int .i64 (zn : Int)] 3))
            obtain ⟨v', w8, hr8, ho8, hg8, hat8⟩ := run_appX (w9.alloc (.cells #[.int .i64 (zn : Int)] 3)) 34 w.heap.size kvX kids HXA.own w9.heap.size (zn : Int) (by simp) (by omega) (by simp; omega)
            have D8 := Lib.hid (HXA.kid ho8 hg8 hat8).close
            refine wpList_appRunX (some 49) rfl rfl _ _ _ rfl _ _ rfl rfl hr8 ?_
            clear HXA ho8 hg8 hat8 hr8 y0 y1 l5 lL x0 x1 lx HX
            go_wp2
            go_roundw
            case rel => exact ⟨j + 1, _, _, nds, _, false, L2, cap2, cnt, -1, rfl, by go_num, rfl, rfl, by omega, Lib.hid ⟨HC.out.1, rfl⟩, HFS, HNB, D8⟩
            case measure => simp [intOf]; omega
          | false =>
            cases op with
            | true =>
              obtain ⟨ini, nd, rfl, hoO, hawO, hneO, hwsO⟩ := HX.out.opn rfl
              have hne : news ≠ [] := by
                have := (FK_len (mayAt n.k ns') nl (n.ks.take j)).2.2
                rw [HFK.out] at this; exact this rfl
              obtain ⟨nw, run, rfl⟩ : ∃ nw run, news = nw ++ [run] := ⟨_, _, (List.dropLast_concat_getLast hne).symm⟩
              have hnb := HNB.out
              rw [List.map_append, List.map_append] at hnb
              have hnb' := List.append_inj' hnb rfl
              have hb1 : ini.map Nd.bare = nw.map (newNd n.k) := hnb'.1
              have hb2 : nd.bare = newNd n.k run := by simpa using hnb'.2
              have hrun : nd.ks = run := congrArg Nd.ks hb2
              have hil : ini.length = nw.length := by have := congrArg List.length hb1; simpa using this
              have HFS2 : Hid (FK (mayAt n.k ns') nl (n.ks.take (j + 1)) = (kids, nw ++ [run ++ [(zn : Int)]], true)) := Lib.hid (by rw [HFS.out]; simp)
              have HNB2 : ∀ v', Hid ((ini ++ [{ nd with kv := v', ks := nd.ks ++ [(zn : Int)] }]).map Nd.bare = (nw ++ [run ++ [(zn : Int)]]).map (newNd n.k)) := fun v' => Lib.hid (by
                rw [List.map_append, List.map_append, hb1]
                have e : Nd.bare { nd with kv := v', ks := nd.ks ++ [(zn : Int)] } = { nd.bare with ks := nd.ks ++ [(zn : Int)] } := rfl
                simp only [List.map_cons, List.map_nil]
                rw [e, hb2, hrun]; rfl)
              obtain ⟨ix, hix⟩ : ∃ ix, (ns' ++ ini).length = ix := ⟨_, rfl⟩
              have hcx := HC.out
              simp only [List.length_append, List.length_cons, List.length_nil] at hcx hix hlens
              have hns := HD.out.1
              obtain rfl : zo = (ix : Int) := by have := hcx.2; simp at this; omega
              have hixc : ix < cnt := by omega
              have HCN : Hid (cnt = nl + (nw ++ [run ++ [(zn : Int)]]).length ∧ (ix : Int) = (if true then ((nl + (nw ++ [run ++ [(zn : Int)]]).length : Nat) : Int) - 1 else -1)) := Lib.hid (by simp only [List.length_append, List.length_cons, List.length_nil, if_true]; omega)
              replace hix : (ns' ++ ini).length = ix := by rw [List.length_append]; exact hix
              obtain ⟨kp, k6, c6, hkvO⟩ := own_slice hoO
              have hrl : nd.ks.length ≤ 70000 := by
                rw [hrun]
                have := (FK_run (mayAt n.k ns') nl (n.ks.take j) run (by rw [HFK.out]; simp)).1
                rw [List.length_take] at this
                have := HKL.out
                omega
              have hcnt2 := hcnt
              have hixi : (ix : Int) < (cnt : Int) := by omega
              clear hne hnb hnb' hb1 hb2 hrun hil hcx HFS HFK HNB HC hns
              go_wp2_with fail
              refine region_held_atC (S := fun X => Hid (X.cell? ⟨b5, 1, none⟩ = some (.slice (some ⟨qb, qo, none⟩) kl kc) ∧ b5 < X.heap.size ∧ L2 < X.heap.size ∧ X.cell? ⟨qb, qo + j, none⟩ = some (.int .i64 (zn : Int)))) (by kernel_rfl) (fun w10 hw10 => ?_)
              have DXR : Hid (DX w b5 L2 cap2 cnt n ns' (ini ++ [nd]) kids kvX true w10) := Lib.hid (HX.out.below (hw10 ▸ below_dn _ _ 1))
              have hoO10 : w10.ownsRow w.heap.size 3 1 nd.kv nd.ks.length (nd.ks.map (Value.int .i64)) := own_same hoO fun g e => (hw10 ▸ below_dn _ _ 1 : Below w9.heap.size w9 w10).block g (hoO.lt g e).2
              clear hw10
              have SV : Hid (w10.cell? ⟨b5, 1, none⟩ = some (.slice (some ⟨qb, qo, none⟩) kl kc) ∧ b5 < w10.heap.size ∧ L2 < w10.heap.size ∧ w10.cell? ⟨qb, qo + j, none⟩ = some (.int .i64 (zn : Int))) := Lib.hid (by
                have h1 := HF.out _ _ _ _ _ _ _ _ DXR.out
                have h2 := HCL.out _ _ _ _ _ _ _ _ DXR.out hcnt2.1 (by omega)
                exact ⟨h1.2.1, h1.2.2.1, h1.2.2.2, h2.1⟩)
              have hB10 := DXR.out.lo.size
              have hN10 : w10.cell? ⟨L2, ix * 34 + 1, none⟩ = some (.slice kp k6 c6) := by
                have := DXR.out.laid.at (by omega) ix nd (by rw [← List.append_assoc, List.getElem?_append_right (by omega), hix, Nat.sub_self]; rfl) 1 _ (Nd.c1 nd)
                rwa [hkvO] at this
              have HXA := Lib.hid (DXR.out.below ((Below.refl _ w10).alloc (Nat.le_refl _) (.cells #[.int .i64 (zn : Int)] 3)))
              have hoOA : (w10.alloc (.cells #[.int .i64 (zn : Int)] 3)).ownsRow w.heap.size 3 1 nd.kv nd.ks.length (nd.ks.map (Value.int .i64)) := own_same hoO10 fun g e => ((Below.refl _ w10).alloc (Nat.le_refl _) (.cells #[.int .i64 (zn : Int)] 3)).block g (hoO10.lt g e).2
              obtain ⟨v', w11, hr11, ho11, hg11, hat11⟩ := run_appX (w10.alloc (.cells #[.int .i64 (zn : Int)] 3)) 34 w.heap.size nd.kv nd.ks hoOA w10.heap.size (zn : Int) (by simp) (by omega) (by simp; omega)
              obtain ⟨vp, vk, vc, rfl⟩ := own_slice ho11
              have D12 := Lib.hid (HXA.out.grow ho11 hg11 hat11 hix)
              have hrL := own_ne_rowA hoOA HXA.out.row
              have hr5 : nd.kv.ownBlock ≠ some b5 := whole_own HXA.out.box hoOA (by decide)
              have hrq : nd.kv.ownBlock ≠ some qb := away_ne (hawO n (List.mem_append_left _ (List.mem_iff_getElem?.2 ⟨i, HN.out⟩))) HKV.out (by intro e; have := HKL.out; rw [e] at this; simp at this; omega)
              have S12 : Hid ((w10.alloc (.cells #[.int .i64 (zn : Int)] 3)).cell? ⟨b5, 1, none⟩ = some (.slice (some ⟨qb, qo, none⟩) kl kc) ∧ b5 < (w10.alloc (.cells #[.int .i64 (zn : Int)] 3)).heap.size ∧ L2 < (w10.alloc (.cells #[.int .i64 (zn : Int)] 3)).heap.size ∧ (w10.alloc (.cells #[.int .i64 (zn : Int)] 3)).cell? ⟨qb, qo + j, none⟩ = some (.int .i64 (zn : Int))) := Lib.hid (by
                have h1 := HF.out _ _ _ _ _ _ _ _ HXA.out
                have h2 := HCL.out _ _ _ _ _ _ _ _ HXA.out hcnt2.1 (by omega)
                exact ⟨h1.2.1, h1.2.2.1, h1.2.2.2, h2.1⟩)
              have S13 : Hid (w11.cell? ⟨b5, 1, none⟩ = some (.slice (some ⟨qb, qo, none⟩) kl kc) ∧ b5 < w11.heap.size ∧ L2 < w11.heap.size ∧ w11.cell? ⟨qb, qo + j, none⟩ = some (.int .i64 (zn : Int))) := Lib.hid (by
                have hs := hg11.size
                exact ⟨cell_grownX hg11 S12.out.1 hr5, Nat.lt_of_lt_of_le S12.out.2.1 hs, Nat.lt_of_lt_of_le S12.out.2.2.1 hs, cell_grownX hg11 S12.out.2.2.2 hrq⟩)
              have hL11 : w11.cell? ⟨L2, ix * 34 + 1, none⟩ = some (.slice kp k6 c6) := cell_grownX hg11 (((Below.refl _ w10).alloc (Nat.le_refl _) (.cells #[.int .i64 (zn : Int)] 3)).cell (p := ⟨L2, ix * 34 + 1, none⟩) SV.out.2.2.1 |>.trans hN10) hrL
              have fL11 : w11.frozen? ⟨L2, ix * 34 + 1, none⟩ = false := (HXA.out.row.grownA hg11 hrL).unfrozen _
              have S16 : Hid ((w11.setCell ⟨L2, ix * 34 + 1, none⟩ (.slice vp vk vc)).cell? ⟨b5, 1, none⟩ = some (.slice (some ⟨qb, qo, none⟩) kl kc) ∧ b5 < (w11.setCell ⟨L2, ix * 34 + 1, none⟩ (.slice vp vk vc)).heap.size ∧ L2 < (w11.setCell ⟨L2, ix * 34 + 1, none⟩ (.slice vp vk vc)).heap.size ∧ (w11.setCell ⟨L2, ix * 34 + 1, none⟩ (.slice vp vk vc)).cell? ⟨qb, qo + j, none⟩ = some (.int .i64 (zn : Int))) := Lib.hid (by
                have h1 := HF.out _ _ _ _ _ _ _ _ D12.out
                have h2 := HCL.out _ _ _ _ _ _ _ _ D12.out hcnt2.1 (by omega)
                exact ⟨h1.2.1, h1.2.2.1, h1.2.2.2, h2.1⟩)
              rw [hkvO] at hr11
              have l11 := S13.out.2.2.1
              have l10 := SV.out.2.2.1
              clear ho11 hg11 hat11 hrL hr5 hrq hoOA hoO10 HXA DXR
              try simp only [Act.put, List.setIfInBounds_toArray, List.set_cons_succ, List.set_cons_zero]
              refine wpAnyH_takeC (i := 0) (v := .slice (some ⟨L2, 0, none⟩) cnt cap2) (some 66) rfl rfl (by kernel_rfl) (by kernel_rfl) (by kernel_rfl) (fun _ _ _ h => h) (Or.inl ⟨by rfl, ?_⟩) SV ?_
              · intro X hX; go_simp
              try simp only [Act.put, List.setIfInBounds_toArray, List.set_cons_succ, List.set_cons_zero]
              refine wpAnyH_takeC (i := 1) (v := .int .i64 (ix : Int)) (some 67) rfl rfl (by kernel_rfl) (by kernel_rfl) (by kernel_rfl) (fun _ _ _ h => h) (Or.inl ⟨by rfl, ?_⟩) SV ?_
              · intro X hX; go_simp
              try simp only [Act.put, List.setIfInBounds_toArray, List.set_cons_succ, List.set_cons_zero]
              refine wpAnyH_takeC (i := 2) (v := .slice (some ⟨L2, 0, none⟩) cnt cap2) (some 68) rfl rfl (by kernel_rfl) (by kernel_rfl) (by kernel_rfl) (fun _ _ _ h => h) (Or.inl ⟨by rfl, ?_⟩) SV ?_
              · intro X hX; go_simp
              try simp only [Act.put, List.setIfInBounds_toArray, List.set_cons_succ, List.set_cons_zero]
              refine wpAnyH_takeC (i := 3) (v := .int .i64 (ix : Int)) (some 69) rfl rfl (by kernel_rfl) (by kernel_rfl) (by kernel_rfl) (fun _ _ _ h => h) (Or.inl ⟨by rfl, ?_⟩) SV ?_
              · intro X hX; go_simp
              try simp only [Act.put, List.setIfInBounds_toArray, List.set_cons_succ, List.set_cons_zero]
              refine wpAnyH_takeC (i := 4) (v := .pointer (some ⟨L2, ix * 34, none⟩)) (some 70) rfl rfl (by kernel_rfl) (by kernel_rfl) (by kernel_rfl) (fun _ _ _ h => h) (Or.inl ⟨by rfl, ?_⟩) SV ?_
              · intro X hX; go_simp
              try simp only [Act.put, List.setIfInBounds_toArray, List.set_cons_succ, List.set_cons_zero]
              refine wpAnyH_takeC (i := 5) (v := .pointer (some ⟨L2, ix * 34 + 1, none⟩)) (some 71) rfl rfl (by kernel_rfl) (by kernel_rfl) (by kernel_rfl) (fun _ _ _ h => h) (Or.inl ⟨by rfl, ?_⟩) SV ?_
              · intro X hX; obtain ⟨y1, l5, lL, x0⟩ := hX.out; go_simp
              try simp only [Act.put, List.setIfInBounds_toArray, List.set_cons_succ, List.set_cons_zero]
              refine wpAnyH_takeC (i := 7) (v := .pointer (some ⟨b5, 1, none⟩)) (some 73) rfl rfl (by kernel_rfl) (by kernel_rfl) (by kernel_rfl) (fun _ _ _ h => h) (Or.inl ⟨by rfl, ?_⟩) SV ?_
              · intro X hX; obtain ⟨y1, l5, lL, x0⟩ := hX.out; go_simp
              try simp only [Act.put, List.setIfInBounds_toArray, List.set_cons_succ, List.set_cons_zero]
              refine wpAnyH_takeC (i := 8) (v := .slice (some ⟨qb, qo, none⟩) kl kc) (some 74) rfl rfl (by kernel_rfl) (by kernel_rfl) (by kernel_rfl) (fun _ _ _ h => h) (Or.inl ⟨by rfl, ?_⟩) SV ?_
              · intro X hX; obtain ⟨y1, l5, lL, x0⟩ := hX.out; go_simp
              try simp only [Act.put, List.setIfInBounds_toArray, List.set_cons_succ, List.set_cons_zero]
              refine wpAnyH_takeC (i := 9) (v := .int .i64 (j : Int)) (some 75) rfl rfl (by kernel_rfl) (by kernel_rfl) (by kernel_rfl) (fun _ _ _ h => h) (Or.inl ⟨by rfl, ?_⟩) SV ?_
              · intro X hX; go_simp
              try simp only [Act.put, List.setIfInBounds_toArray, List.set_cons_succ, List.set_cons_zero]
              refine wpAnyH_takeC (i := 10) (v := .pointer (some ⟨qb, qo + j, none⟩)) (some 76) rfl rfl (by kernel_rfl) (by kernel_rfl) (by kernel_rfl) (fun _ _ _ h => h) (Or.inl ⟨by rfl, ?_⟩) SV ?_
              · intro X hX; go_simp
              try simp only [Act.put, List.setIfInBounds_toArray, List.set_cons_succ, List.set_cons_zero]
              refine wpAnyH_takeC (i := 11) (v := .int .i64 (zn : Int)) (some 77) rfl rfl (by kernel_rfl) (by kernel_rfl) (by kernel_rfl) (fun _ _ _ h => h) (Or.inl ⟨by rfl, ?_⟩) SV ?_
              · intro X hX; obtain ⟨y1, l5, lL, x0⟩ := hX.out; have lx := cell_lt x0; go_simp
              try simp only [Act.put, List.setIfInBounds_toArray, List.set_cons_succ, List.set_cons_zero]
              refine wpAnyH_all (rs := [6, 12]) (by kernel_rfl) (by simp) ?_
              intro ii hii
              rcases (show ii = 6 ∨ ii = 12 by simpa using hii) with rfl | rfl
              · clear hii
                refine wpOp_step rfl (fun K hK => ?_)
                go_simp
                refine hK _ _ ⟨SV, ?_⟩
                clear hK K
                try simp only [Act.put, List.setIfInBounds_toArray, List.set_cons_succ, List.set_cons_zero]
                refine wpAnyH_all (rs := [12]) (by kernel_rfl) (by simp) ?_
                intro ii hii; obtain rfl : ii = 12 := by simpa using hii
                clear hii
                refine wpOp_step rfl (fun K hK => ?_)
                go_simp
                refine hK _ _ ⟨S12, ?_⟩
                clear hK K
                try simp only [Act.put, List.setIfInBounds_toArray, List.set_cons_succ, List.set_cons_zero]
                refine wpAnyH_all (rs := [13]) (by kernel_rfl) (by simp) ?_
                intro ii hii; obtain rfl : ii = 13 := by simpa using hii
                clear hii
                refine wpOp_step rfl (fun K hK => ?_)
                refine wp_appRunX (some 79) rfl _ _ _ rfl _ _ _ rfl rfl hr11 ?_
                refine hK _ _ ⟨S13, ?_⟩
                clear hK K
                have SV := S13
                try simp only [Act.put, List.setIfInBounds_toArray, List.set_cons_succ, List.set_cons_zero]
                refine wpAnyH_takeC (i := 14) (v := .pointer (some ⟨L2, ix * 34, none⟩)) (some 80) rfl rfl (by kernel_rfl) (by kernel_rfl) (by kernel_rfl) (fun _ _ _ h => h) (Or.inl ⟨by rfl, ?_⟩) SV ?_
                · intro X hX; go_simp
                try simp only [Act.put, List.setIfInBounds_toArray, List.set_cons_succ, List.set_cons_zero]
                refine wpAnyH_takeC (i := 15) (v := .pointer (some ⟨L2, ix * 34 + 1, none⟩)) (some 81) rfl rfl (by kernel_rfl) (by kernel_rfl) (by kernel_rfl) (fun _ _ _ h => h) (Or.inl ⟨by rfl, ?_⟩) SV ?_
                · intro X hX; obtain ⟨y1, l5, lL, x0⟩ := hX.out; go_simp
                try simp only [Act.put, List.setIfInBounds_toArray, List.set_cons_succ, List.set_cons_zero]
                refine wpAnyH_all (rs := [16]) (by kernel_rfl) (by simp) ?_
                intro ii hii; obtain rfl : ii = 16 := by simpa using hii
                clear hii
                refine wpOp_step rfl (fun K hK => ?_)
                go_simp
                refine hK _ _ ⟨S16, ?_⟩
                clear hK K
                try simp only [Act.put, List.setIfInBounds_toArray, List.set_cons_succ, List.set_cons_zero]
                refine wpAnyH_done (by kernel_rfl) ?_ _
                clear hr11 hL11 fL11 hN10 S12 S13 S16 SV HX hoO
                go_wp2
                go_roundw
                case rel => exact ⟨j + 1, kids, _, _, _, true, L2, cap2, cnt, (ix : Int), rfl, by go_num, rfl, rfl, by omega, HCN, HFS2, HNB2 _, D12⟩
                case measure => simp [intOf]; omega
              · clear hii
                refine wpOp_step rfl (fun K hK => ?_)
                go_simp
                refine hK _ _ ⟨S12, ?_⟩
                clear hK K
                try simp only [Act.put, List.setIfInBounds_toArray, List.set_cons_succ, List.set_cons_zero]
                refine wpAnyH_all (rs := [6]) (by kernel_rfl) (by simp) ?_
                intro ii hii; obtain rfl : ii = 6 := by simpa using hii
                clear hii
                refine wpOp_step rfl (fun K hK => ?_)
                go_simp
                refine hK _ _ ⟨S12, ?_⟩
                clear hK K
                try simp only [Act.put, List.setIfInBounds_toArray, List.set_cons_succ, List.set_cons_zero]
                refine wpAnyH_all (rs := [13]) (by kernel_rfl) (by simp) ?_
                intro ii hii; obtain rfl : ii = 13 := by simpa using hii
                clear hii
                refine wpOp_step rfl (fun K hK => ?_)
                refine wp_appRunX (some 79) rfl _ _ _ rfl _ _ _ rfl rfl hr11 ?_
                refine hK _ _ ⟨S13, ?_⟩
                clear hK K
                have SV := S13
                try simp only [Act.put, List.setIfInBounds_toArray, List.set_cons_succ, List.set_cons_zero]
                refine wpAnyH_takeC (i := 14) (v := .pointer (some ⟨L2, ix * 34, none⟩)) (some 80) rfl rfl (by kernel_rfl) (by kernel_rfl) (by kernel_rfl) (fun _ _ _ h => h) (Or.inl ⟨by rfl, ?_⟩) SV ?_
                · intro X hX; go_simp
                try simp only [Act.put, List.setIfInBounds_toArray, List.set_cons_succ, List.set_cons_zero]
                refine wpAnyH_takeC (i := 15) (v := .pointer (some ⟨L2, ix * 34 + 1, none⟩)) (some 81) rfl rfl (by kernel_rfl) (by kernel_rfl) (by kernel_rfl) (fun _ _ _ h => h) (Or.inl ⟨by rfl, ?_⟩) SV ?_
                · intro X hX; obtain ⟨y1, l5, lL, x0⟩ := hX.out; go_simp
                try simp only [Act.put, List.setIfInBounds_toArray, List.set_cons_succ, List.set_cons_zero]
                refine wpAnyH_all (rs := [16]) (by kernel_rfl) (by simp) ?_
                intro ii hii; obtain rfl : ii = 16 := by simpa using hii
                clear hii
                refine wpOp_step rfl (fun K hK => ?_)
                go_simp
                refine hK _ _ ⟨S16, ?_⟩
                clear hK K
                try simp only [Act.put, List.setIfInBounds_toArray, List.set_cons_succ, List.set_cons_zero]
                refine wpAnyH_done (by kernel_rfl) ?_ _
                clear hr11 hL11 fL11 hN10 S12 S13 S16 SV HX hoO
                go_wp2
                go_roundw
                case rel => exact ⟨j + 1, kids, _, _, _, true, L2, cap2, cnt, (ix : Int), rfl, by go_num, rfl, rfl, by omega, HCN, HFS2, HNB2 _, D12⟩
                case measure => simp [intOf]; omega
            | false =>
              obtain ⟨ix, rfl⟩ : ∃ ix, ix = cnt := ⟨_, rfl⟩
              have hzo : zo < 0 := by have := HC.out.2; simp at this; omega
              have HAR := Lib.hid (fun X => refAround_any n.k X)
              obtain ⟨nd0, hnd0⟩ : ∃ nd0, nd0 = newNd n.k [] := ⟨_, rfl⟩
              have HND0 := Lib.hid hnd0
              clear hnd0
              go_wp2_with fail
              refine (HAR.out _).mono ?_
              rintro e w8 ⟨rfl, rfl⟩
              clear HAR
              go_wp2_with (at_builtin; refine Hid.out ?_)
              refine Lib.hid ?_
              have HXA := Lib.hid (HX.out.below ((Below.refl _ w9).alloc (Nat.le_refl _) (.cells nd0.cells.toArray 47)))
              have hok0 : nd0.ok (w9.alloc (.cells nd0.cells.toArray 47)) := by rw [HND0.out]; exact ⟨ints_nil _, ints_nil _, capok_slice _ _ _ (by omega) (by omega), capok_slice _ _ _ (by omega) (by omega)⟩
              obtain ⟨L3, cap3, w10, hr7, g1, g2, g3, g4, g5, -, -⟩ := append_node (w9.alloc (.cells nd0.cells.toArray 47)) L2 cap2 ix (ns' ++ nds) HXA.out.laid HXA.out.le HXA.out.mx (by omega) nd0 hok0 (by rw [HND0.out]; exact .inl rfl) (by rw [HND0.out]; exact .inl rfl) ⟨w9.heap.size, 0, none⟩ 1 (lay_new w9 nd0.cells _ _ rfl) 22
              have D10 := Lib.hid (HXA.out.node ⟨g1.row, g1.len⟩ g1.ok g2 g3 g4 g5 (by rw [HND0.out]; rfl) (by rw [HND0.out]; rfl) (by rw [HND0.out]; rfl))
              have hds : (w9.alloc (.cells nd0.cells.toArray 47)) = (w9.alloc (.cells (newNd n.k []).cells.toArray 47)) := by rw [HND0.out]
              rw [hds] at hr7
              refine wpList_appRunX (some 61) rfl rfl _ _ _ rfl _ _ rfl rfl hr7 ?_
              clear hr7 hds hok0 g1 g2 g3 g4 g5 HXA y0 y1 l5 lL x0 x1 lx HX
              obtain ⟨cnt3, hcnt3⟩ : ∃ c, c = ix + 1 := ⟨_, rfl⟩
              rw [← hcnt3] at D10 ⊢
              have HC3 := Lib.hid hcnt3
              clear hcnt3
              have hB10 := D10.out.lo.size
              go_wp2_with (at_builtin; refine Hid.out ?_)
              refine Lib.hid ?_
              have HXB := Lib.hid (D10.out.below ((Below.refl _ w10).alloc (Nat.le_refl _) (.cells #[.int .i64 (ix : Int)] 3)))
              obtain ⟨v8, w11, hr8, ho8, hg8, hat8⟩ := run_appX (w10.alloc (.cells #[.int .i64 (ix : Int)] 3)) 34 w.heap.size kvX kids HXB.out.own w10.heap.size (ix : Int) (by simp) (by omega) (by simp; omega)
              have HX := Lib.hid (HXB.out.kid ho8 hg8 hat8)
              refine wpList_appRunX (some 65) rfl rfl _ _ _ rfl _ _ rfl rfl hr8 ?_
              clear hr8 ho8 hg8 hat8 HXB D10
              obtain ⟨ini, nd, hnds, hoO, hawO, hneO, hwsO⟩ := HX.out.opn rfl
              have hnds' := List.append_inj' hnds rfl
              obtain rfl : nds = ini := hnds'.1
              obtain rfl : nd0 = nd := by simpa using hnds'.2
              obtain ⟨nd, rfl⟩ : ∃ nd, nd = nd0 := ⟨_, rfl⟩
              obtain ⟨ini, rfl⟩ : ∃ ini, ini = nds := ⟨_, rfl⟩
              have hrun : nd.ks = [] := by rw [HND0.out]; rfl
              have hil : ini.length = news.length := by have := congrArg List.length HNB.out; simpa using this
              have HFS2 : Hid (FK (mayAt n.k ns') nl (n.ks.take (j + 1)) = (kids ++ [(ix : Int)], news ++ [[(zn : Int)]], true)) := Lib.hid (by rw [HFS.out, HC.out.1]; simp)
              have HNB2 : ∀ v', Hid ((ini ++ [{ nd with kv := v', ks := nd.ks ++ [(zn : Int)] }]).map Nd.bare = (news ++ [[(zn : Int)]]).map (newNd n.k)) := fun v' => Lib.hid (by
                rw [List.map_append, List.map_append, HNB.out]
                have e : Nd.bare { nd with kv := v', ks := nd.ks ++ [(zn : Int)] } = { nd.bare with ks := nd.ks ++ [(zn : Int)] } := rfl
                simp only [List.map_cons, List.map_nil]
                rw [e, HND0.out]; rfl)
              have hns := HD.out.1
              have hix : (ns' ++ ini).length = ix := by rw [List.length_append]; have := HC.out.1; omega
              have HCN : Hid (cnt3 = nl + (news ++ [[(zn : Int)]]).length ∧ (ix : Int) = (if true then ((nl + (news ++ [[(zn : Int)]]).length : Nat) : Int) - 1 else -1)) := Lib.hid (by have := HC.out.1; have := HC3.out; simp only [List.length_append, List.length_cons, List.length_nil, if_true]; omega)
              obtain ⟨kp, k6, c6, hkvO⟩ := own_slice hoO
              have hrl : nd.ks.length ≤ 70000 := by rw [hrun]; simp
              have hcnt2 : nl ≤ cnt3 ∧ cnt3 ≤ 400001 := by have := HC3.out; omega
              have hixi : (ix : Int) < (cnt3 : Int) := by have := HC3.out; omega
              have hixc : ix < cnt3 := by have := HC3.out; omega
              clear hnds hnds' hrun hil HFS HFK HNB HC hns
              go_wp2_with fail
              refine region_held_atC (S := fun X => Hid (X.cell? ⟨b5, 1, none⟩ = some (.slice (some ⟨qb, qo, none⟩) kl kc) ∧ b5 < X.heap.size ∧ L3 < X.heap.size ∧ X.cell? ⟨qb, qo + j, none⟩ = some (.int .i64 (zn : Int)))) (by kernel_rfl) (fun w10 hw10 => ?_)
              have DXR : Hid (DX w b5 L3 cap3 cnt3 n ns' (ini ++ [nd]) (kids ++ [(ix : Int)]) v8 true w10) := Lib.hid (HX.out.below (hw10 ▸ below_dn _ _ 1))
              have hoO10 : w10.ownsRow w.heap.size 3 1 nd.kv nd.ks.length (nd.ks.map (Value.int .i64)) := own_same hoO fun g e => (hw10 ▸ below_dn _ _ 1 : Below w11.heap.size w11 w10).block g (hoO.lt g e).2
              clear hw10
              have SV : Hid (w10.cell? ⟨b5, 1, none⟩ = some (.slice (some ⟨qb, qo, none⟩) kl kc) ∧ b5 < w10.heap.size ∧ L3 < w10.heap.size ∧ w10.cell? ⟨qb, qo + j, none⟩ = some (.int .i64 (zn : Int))) := Lib.hid (by
                have h1 := HF.out _ _ _ _ _ _ _ _ DXR.out
                have h2 := HCL.out _ _ _ _ _ _ _ _ DXR.out hcnt2.1 (by omega)
                exact ⟨h1.2.1, h1.2.2.1, h1.2.2.2, h2.1⟩)
              have hB10 := DXR.out.lo.size
              have hN10 : w10.cell? ⟨L3, ix * 34 + 1, none⟩ = some (.slice kp k6 c6) := by
                have := DXR.out.laid.at (by omega) ix nd (by rw [← List.append_assoc, List.getElem?_append_right (by omega), hix, Nat.sub_self]; rfl) 1 _ (Nd.c1 nd)
                rwa [hkvO] at this
              have HXA := Lib.hid (DXR.out.below ((Below.refl _ w10).alloc (Nat.le_refl _) (.cells #[.int .i64 (zn : Int)] 3)))
              have hoOA : (w10.alloc (.cells #[.int .i64 (zn : Int)] 3)).ownsRow w.heap.size 3 1 nd.kv nd.ks.length (nd.ks.map (Value.int .i64)) := own_same hoO10 fun g e => ((Below.refl _ w10).alloc (Nat.le_refl _) (.cells #[.int .i64 (zn : Int)] 3)).block g (hoO10.lt g e).2
              obtain ⟨v', w11, hr11, ho11, hg11, hat11⟩ := run_appX (w10.alloc (.cells #[.int .i64 (zn : Int)] 3)) 34 w.heap.size nd.kv nd.ks hoOA w10.heap.size (zn : Int) (by simp) (by omega) (by simp; omega)
              obtain ⟨vp, vk, vc, rfl⟩ := own_slice ho11
              have D12 := Lib.hid (HXA.out.grow ho11 hg11 hat11 hix)
              have hrL := own_ne_rowA hoOA HXA.out.row
              have hr5 : nd.kv.ownBlock ≠ some b5 := whole_own HXA.out.box hoOA (by decide)
              have hrq : nd.kv.ownBlock ≠ some qb := away_ne (hawO n (List.mem_append_left _ (List.mem_iff_getElem?.2 ⟨i, HN.out⟩))) HKV.out (by intro e; have := HKL.out; rw [e] at this; simp at this; omega)
              have S12 : Hid ((w10.alloc (.cells #[.int .i64 (zn : Int)] 3)).cell? ⟨b5, 1, none⟩ = some (.slice (some ⟨qb, qo, none⟩) kl kc) ∧ b5 < (w10.alloc (.cells #[.int .i64 (zn : Int)] 3)).heap.size ∧ L3 < (w10.alloc (.cells #[.int .i64 (zn : Int)] 3)).heap.size ∧ (w10.alloc (.cells #[.int .i64 (zn : Int)] 3)).cell? ⟨qb, qo + j, none⟩ = some (.int .i64 (zn : Int))) := Lib.hid (by
                have h1 := HF.out _ _ _ _ _ _ _ _ HXA.out
                have h2 := HCL.out _ _ _ _ _ _ _ _ HXA.out hcnt2.1 (by omega)
                exact ⟨h1.2.1, h1.2.2.1, h1.2.2.2, h2.1⟩)
              have S13 : Hid (w11.cell? ⟨b5, 1, none⟩ = some (.slice (some ⟨qb, qo, none⟩) kl kc) ∧ b5 < w11.heap.size ∧ L3 < w11.heap.size ∧ w11.cell? ⟨qb, qo + j, none⟩ = some (.int .i64 (zn : Int))) := Lib.hid (by
                have hs := hg11.size
                exact ⟨cell_grownX hg11 S12.out.1 hr5, Nat.lt_of_lt_of_le S12.out.2.1 hs, Nat.lt_of_lt_of_le S12.out.2.2.1 hs, cell_grownX hg11 S12.out.2.2.2 hrq⟩)
              have hL11 : w11.cell? ⟨L3, ix * 34 + 1, none⟩ = some (.slice kp k6 c6) := cell_grownX hg11 (((Below.refl _ w10).alloc (Nat.le_refl _) (.cells #[.int .i64 (zn : Int)] 3)).cell (p := ⟨L3, ix * 34 + 1, none⟩) SV.out.2.2.1 |>.trans hN10) hrL
              have fL11 : w11.frozen? ⟨L3, ix * 34 + 1, none⟩ = false := (HXA.out.row.grownA hg11 hrL).unfrozen _
              have S16 : Hid ((w11.setCell ⟨L3, ix * 34 + 1, none⟩ (.slice vp vk vc)).cell? ⟨b5, 1, none⟩ = some (.slice (some ⟨qb, qo, none⟩) kl kc) ∧ b5 < (w11.setCell ⟨L3, ix * 34 + 1, none⟩ (.slice vp vk vc)).heap.size ∧ L3 < (w11.setCell ⟨L3, ix * 34 + 1, none⟩ (.slice vp vk vc)).heap.size ∧ (w11.setCell ⟨L3, ix * 34 + 1, none⟩ (.slice vp vk vc)).cell? ⟨qb, qo + j, none⟩ = some (.int .i64 (zn : Int))) := Lib.hid (by
                have h1 := HF.out _ _ _ _ _ _ _ _ D12.out
                have h2 := HCL.out _ _ _ _ _ _ _ _ D12.out hcnt2.1 (by omega)
                exact ⟨h1.2.1, h1.2.2.1, h1.2.2.2, h2.1⟩)
              rw [hkvO] at hr11
              have l11 := S13.out.2.2.1
              have l10 := SV.out.2.2.1
              clear ho11 hg11 hat11 hrL hr5 hrq hoOA hoO10 HXA DXR
              try simp only [Act.put, List.setIfInBounds_toArray, List.set_cons_succ, List.set_cons_zero]
              refine wpAnyH_takeC (i := 0) (v := .slice (some ⟨L3, 0, none⟩) cnt3 cap3) (some 66) rfl rfl (by kernel_rfl) (by kernel_rfl) (by kernel_rfl) (fun _ _ _ h => h) (Or.inl ⟨by rfl, ?_⟩) SV ?_
              · intro X hX; go_simp
              try simp only [Act.put, List.setIfInBounds_toArray, List.set_cons_succ, List.set_cons_zero]
              refine wpAnyH_takeC (i := 1) (v := .int .i64 (ix : Int)) (some 67) rfl rfl (by kernel_rfl) (by kernel_rfl) (by kernel_rfl) (fun _ _ _ h => h) (Or.inl ⟨by rfl, ?_⟩) SV ?_
              · intro X hX; go_simp
              try simp only [Act.put, List.setIfInBounds_toArray, List.set_cons_succ, List.set_cons_zero]
              refine wpAnyH_takeC (i := 2) (v := .slice (some ⟨L3, 0, none⟩) cnt3 cap3) (some 68) rfl rfl (by kernel_rfl) (by kernel_rfl) (by kernel_rfl) (fun _ _ _ h => h) (Or.inl ⟨by rfl, ?_⟩) SV ?_
              · intro X hX; go_simp
              try simp only [Act.put, List.setIfInBounds_toArray, List.set_cons_succ, List.set_cons_zero]
              refine wpAnyH_takeC (i := 3) (v := .int .i64 (ix : Int)) (some 69) rfl rfl (by kernel_rfl) (by kernel_rfl) (by kernel_rfl) (fun _ _ _ h => h) (Or.inl ⟨by rfl, ?_⟩) SV ?_
              · intro X hX; go_simp
              try simp only [Act.put, List.setIfInBounds_toArray, List.set_cons_succ, List.set_cons_zero]
              refine wpAnyH_takeC (i := 4) (v := .pointer (some ⟨L3, ix * 34, none⟩)) (some 70) rfl rfl (by kernel_rfl) (by kernel_rfl) (by kernel_rfl) (fun _ _ _ h => h) (Or.inl ⟨by rfl, ?_⟩) SV ?_
              · intro X hX; go_simp
              try simp only [Act.put, List.setIfInBounds_toArray, List.set_cons_succ, List.set_cons_zero]
              refine wpAnyH_takeC (i := 5) (v := .pointer (some ⟨L3, ix * 34 + 1, none⟩)) (some 71) rfl rfl (by kernel_rfl) (by kernel_rfl) (by kernel_rfl) (fun _ _ _ h => h) (Or.inl ⟨by rfl, ?_⟩) SV ?_
              · intro X hX; obtain ⟨y1, l5, lL, x0⟩ := hX.out; go_simp
              try simp only [Act.put, List.setIfInBounds_toArray, List.set_cons_succ, List.set_cons_zero]
              refine wpAnyH_takeC (i := 7) (v := .pointer (some ⟨b5, 1, none⟩)) (some 73) rfl rfl (by kernel_rfl) (by kernel_rfl) (by kernel_rfl) (fun _ _ _ h => h) (Or.inl ⟨by rfl, ?_⟩) SV ?_
              · intro X hX; obtain ⟨y1, l5, lL, x0⟩ := hX.out; go_simp
              try simp only [Act.put, List.setIfInBounds_toArray, List.set_cons_succ, List.set_cons_zero]
              refine wpAnyH_takeC (i := 8) (v := .slice (some ⟨qb, qo, none⟩) kl kc) (some 74) rfl rfl (by kernel_rfl) (by kernel_rfl) (by kernel_rfl) (fun _ _ _ h => h) (Or.inl ⟨by rfl, ?_⟩) SV ?_
              · intro X hX; obtain ⟨y1, l5, lL, x0⟩ := hX.out; go_simp
              try simp only [Act.put, List.setIfInBounds_toArray, List.set_cons_succ, List.set_cons_zero]
              refine wpAnyH_takeC (i := 9) (v := .int .i64 (j : Int)) (some 75) rfl rfl (by kernel_rfl) (by kernel_rfl) (by kernel_rfl) (fun _ _ _ h => h) (Or.inl ⟨by rfl, ?_⟩) SV ?_
              · intro X hX; go_simp
              try simp only [Act.put, List.setIfInBounds_toArray, List.set_cons_succ, List.set_cons_zero]
              refine wpAnyH_takeC (i := 10) (v := .pointer (some ⟨qb, qo + j, none⟩)) (some 76) rfl rfl (by kernel_rfl) (by kernel_rfl) (by kernel_rfl) (fun _ _ _ h => h) (Or.inl ⟨by rfl, ?_⟩) SV ?_
              · intro X hX; go_simp
              try simp only [Act.put, List.setIfInBounds_toArray, List.set_cons_succ, List.set_cons_zero]
              refine wpAnyH_takeC (i := 11) (v := .int .i64 (zn : Int)) (some 77) rfl rfl (by kernel_rfl) (by kernel_rfl) (by kernel_rfl) (fun _ _ _ h => h) (Or.inl ⟨by rfl, ?_⟩) SV ?_
              · intro X hX; obtain ⟨y1, l5, lL, x0⟩ := hX.out; have lx := cell_lt x0; go_simp
              try simp only [Act.put, List.setIfInBounds_toArray, List.set_cons_succ, List.set_cons_zero]
              refine wpAnyH_all (rs := [6, 12]) (by kernel_rfl) (by simp) ?_
              intro ii hii
              rcases (show ii = 6 ∨ ii = 12 by simpa using hii) with rfl | rfl
              · clear hii
                refine wpOp_step rfl (fun K hK => ?_)
                go_simp
                refine hK _ _ ⟨SV, ?_⟩
                clear hK K
                try simp only [Act.put, List.setIfInBounds_toArray, List.set_cons_succ, List.set_cons_zero]
                refine wpAnyH_all (rs := [12]) (by kernel_rfl) (by simp) ?_
                intro ii hii; obtain rfl : ii = 12 := by simpa using hii
                clear hii
                refine wpOp_step rfl (fun K hK => ?_)
                go_simp
                refine hK _ _ ⟨S12, ?_⟩
                clear hK K
                try simp only [Act.put, List.setIfInBounds_toArray, List.set_cons_succ, List.set_cons_zero]
                refine wpAnyH_all (rs := [13]) (by kernel_rfl) (by simp) ?_
                intro ii hii; obtain rfl : ii = 13 := by simpa using hii
                clear hii
                refine wpOp_step rfl (fun K hK => ?_)
                refine wp_appRunX (some 79) rfl _ _ _ rfl _ _ _ rfl rfl hr11 ?_
                refine hK _ _ ⟨S13, ?_⟩
                clear hK K
                have SV := S13
                try simp only [Act.put, List.setIfInBounds_toArray, List.set_cons_succ, List.set_cons_zero]
                refine wpAnyH_takeC (i := 14) (v := .pointer (some ⟨L3, ix * 34, none⟩)) (some 80) rfl rfl (by kernel_rfl) (by kernel_rfl) (by kernel_rfl) (fun _ _ _ h => h) (Or.inl ⟨by rfl, ?_⟩) SV ?_
                · intro X hX; go_simp
                try simp only [Act.put, List.setIfInBounds_toArray, List.set_cons_succ, List.set_cons_zero]
                refine wpAnyH_takeC (i := 15) (v := .pointer (some ⟨L3, ix * 34 + 1, none⟩)) (some 81) rfl rfl (by kernel_rfl) (by kernel_rfl) (by kernel_rfl) (fun _ _ _ h => h) (Or.inl ⟨by rfl, ?_⟩) SV ?_
                · intro X hX; obtain ⟨y1, l5, lL, x0⟩ := hX.out; go_simp
                try simp only [Act.put, List.setIfInBounds_toArray, List.set_cons_succ, List.set_cons_zero]
                refine wpAnyH_all (rs := [16]) (by kernel_rfl) (by simp) ?_
                intro ii hii; obtain rfl : ii = 16 := by simpa using hii
                clear hii
                refine wpOp_step rfl (fun K hK => ?_)
                go_simp
                refine hK _ _ ⟨S16, ?_⟩
                clear hK K
                try simp only [Act.put, List.setIfInBounds_toArray, List.set_cons_succ, List.set_cons_zero]
                refine wpAnyH_done (by kernel_rfl) ?_ _
                clear hr11 hL11 fL11 hN10 S12 S13 S16 SV HX hoO
                go_wp2
                go_roundw
                case rel => exact ⟨j + 1, (kids ++ [(ix : Int)]), _, _, _, true, L3, cap3, cnt3, (ix : Int), rfl, by go_num, rfl, rfl, by omega, HCN, HFS2, HNB2 _, D12⟩
                case measure => simp [intOf]; omega
              · clear hii
                refine wpOp_step rfl (fun K hK => ?_)
                go_simp
                refine hK _ _ ⟨S12, ?_⟩
                clear hK K
                try simp only [Act.put, List.setIfInBounds_toArray, List.set_cons_succ, List.set_cons_zero]
                refine wpAnyH_all (rs := [6]) (by kernel_rfl) (by simp) ?_
                intro ii hii; obtain rfl : ii = 6 := by simpa using hii
                clear hii
                refine wpOp_step rfl (fun K hK => ?_)
                go_simp
                refine hK _ _ ⟨S12, ?_⟩
                clear hK K
                try simp only [Act.put, List.setIfInBounds_toArray, List.set_cons_succ, List.set_cons_zero]
                refine wpAnyH_all (rs := [13]) (by kernel_rfl) (by simp) ?_
                intro ii hii; obtain rfl : ii = 13 := by simpa using hii
                clear hii
                refine wpOp_step rfl (fun K hK => ?_)
                refine wp_appRunX (some 79) rfl _ _ _ rfl _ _ _ rfl rfl hr11 ?_
                refine hK _ _ ⟨S13, ?_⟩
                clear hK K
                have SV := S13
                try simp only [Act.put, List.setIfInBounds_toArray, List.set_cons_succ, List.set_cons_zero]
                refine wpAnyH_takeC (i := 14) (v := .pointer (some ⟨L3, ix * 34, none⟩)) (some 80) rfl rfl (by kernel_rfl) (by kernel_rfl) (by kernel_rfl) (fun _ _ _ h => h) (Or.inl ⟨by rfl, ?_⟩) SV ?_
                · intro X hX; go_simp
                try simp only [Act.put, List.setIfInBounds_toArray, List.set_cons_succ, List.set_cons_zero]
                refine wpAnyH_takeC (i := 15) (v := .pointer (some ⟨L3, ix * 34 + 1, none⟩)) (some 81) rfl rfl (by kernel_rfl) (by kernel_rfl) (by kernel_rfl) (fun _ _ _ h => h) (Or.inl ⟨by rfl, ?_⟩) SV ?_
                · intro X hX; obtain ⟨y1, l5, lL, x0⟩ := hX.out; go_simp
                try simp only [Act.put, List.setIfInBounds_toArray, List.set_cons_succ, List.set_cons_zero]
                refine wpAnyH_all (rs := [16]) (by kernel_rfl) (by simp) ?_
                intro ii hii; obtain rfl : ii = 16 := by simpa using hii
                clear hii
                refine wpOp_step rfl (fun K hK => ?_)
                go_simp
                refine hK _ _ ⟨S16, ?_⟩
                clear hK K
                try simp only [Act.put, List.setIfInBounds_toArray, List.set_cons_succ, List.set_cons_zero]
                refine wpAnyH_done (by kernel_rfl) ?_ _
                clear hr11 hL11 fL11 hN10 S12 S13 S16 SV HX hoO
                go_wp2
                go_roundw
                case rel => exact ⟨j + 1, (kids ++ [(ix : Int)]), _, _, _, true, L3, cap3, cnt3, (ix : Int), rfl, by go_num, rfl, rfl, by omega, HCN, HFS2, HNB2 _, D12⟩
                case measure => simp [intOf]; omega
        · obtain rfl : kl = j := by omega
          have hni : (ns' ++ nds)[i]? = some n := by rw [List.getElem?_append_left (by rw [HD.out.1]; exact hlt)]; exact HN.out
          obtain ⟨vp, vk, vc, rfl⟩ := own_slice HX.out.own
          have hso := ints_own HX.out.own
          have hLX := own_ne_rowA HX.out.own HX.out.row
          have hap : Apart L2 (.slice vp vk vc) kids := by
            by_cases hz : kids = []
            · exact .inl hz
            obtain ⟨_, ⟨a, cp, e, h0⟩ | ⟨b, off, cp, e, hc⟩⟩ := hso.1
            · exact absurd h0 hz
            · exact .inr ⟨b, off, cp, e, fun e6 => hLX (by rw [e, ← e6]; rfl)⟩
          have hla := HX.out.laid.kids i n hni (.slice vp vk vc) kids hso.1 hso.2.1 hap HX.out.le
          have htk : n.ks.take kl = n.ks := List.take_of_length_le (by rw [HKL.out]; exact Nat.le_refl _)
          have hfk := HFK.out
          rw [htk] at hfk
          have hbr := fix_bare ns' nds i n (.slice vp vk vc) kids news n.k nl HN.out HD.out.1 rfl HNB.out (by rw [hfk]) (by rw [hfk])
          have hlen : ((ns' ++ nds).set i { n with kv := .slice vp vk vc, ks := kids }).length = cnt := by rw [List.length_set]; exact HX.out.row.2
          have DSN : Hid (DS B0 w (i + 1) ((ns' ++ nds).set i { n with kv := .slice vp vk vc, ks := kids }) L2 cap2 (wr.setCell ⟨L2, i * 34 + 1, none⟩ (.slice vp vk vc))) := Lib.hid ⟨by rw [hlen]; exact hla, by rw [hbr, HD.out.2.bare]; rfl, by rw [hlen]; exact HX.out.le, HX.out.mx, HX.out.bl, HX.out.lo.setCell (p := ⟨L2, i * 34 + 1, none⟩) HX.out.bl _, by rw [hlen]; omega⟩
          have hbd := HBD.out _ _ _ _ _ DSN.out
          rw [hlen] at hbd
          have HLE := Lib.hid hlen
          have cN : wr.cell? ⟨L2, i * 34 + 1, none⟩ = some n.kv := HX.out.laid.at (by omega) i n hni 1 _ (Nd.c1 n)
          have fN := HX.out.row.unfrozen (i * 34 + 1)
          have hic : (i : Int) < (cnt : Int) := by omega
          clear hni hso hLX hap hla htk hfk hbr hlen HX HFK HNB HC HF HF2
          go_wp2
          go_roundw
          case rel => exact ⟨i + 1, _, L2, cap2, cnt, by go_num, rfl, by omega, hbd, Lib.hid ⟨HLE.out, DSN.out⟩⟩
          case measure => simp [intOf]; omega
    · have hil : i = nl := by omega
      subst hil
      obtain ⟨hl, hd⟩ := HD.out
      subst hl
      have HPG := Lib.hid (hd.laid.page (c := cap) (by omega))
      have HBB := Lib.hid (HEND.out _ _ _ _ hd)
      have HLO := Lib.hid hd.below
      clear hd HD HEND HBD
      generalize ns'.length = nl at *
      go_wp2
      go_ret
      exact ⟨⟨_, ns', rfl, HPG.out, HBB.out⟩, HLO.out⟩
end Go.Proofs.Ytecnapecmioamaa
