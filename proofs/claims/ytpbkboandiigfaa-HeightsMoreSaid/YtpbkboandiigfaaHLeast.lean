/- Contracts of heights' of, enlarged, Least. -/
import Derived.Test.YtpbkboandiigfaaHRight
import Derived.Test.YtpbkboandiigfaaMul
import Derived.Test.YtpbkboandiigfaaSpOverF
namespace Go.Proofs.Ytpbkboandiigfaa
open Go.RowKit Go.Shelf Go.Sort Go.Lib
set_option linter.unusedVariables false
set_option linter.unusedSimpArgs false
attribute [local go_sem] Oper.semAt_some

theorem results_twoH {W : World} {tmps : Array Value} {fn : Func} {a b : Nat} {x y : Value} (hf : fn.results = #[.tmp a, .tmp b]) (hx : tmps[a]? = some x) (hy : tmps[b]? = some y) : (results fn tmps).run Try.prog W = .ok (.tuple #[x, y]) W := by
  simp [results, hf, go_sem, hx, hy]
theorem wpList_copy_run {P : Program} {w : World} {ops : Array Oper} {rest : List Oper} {o : Oper} {a : Act} {Q : Exit → Act → World → Prop} (hgd : o.guard = none) (d s : Operand) (dT sT : TypeId)
    (ho : o.op = .call { callee := .builtin .copy, args := #[d, s], argTypes := #[dT, sT] }) (vd vs : Value) (hd : a.eval d = vd) (hs : a.eval s = vs) (v' : Value) (w' : World) (hr : (Builtin.copy_ #[dT, sT] o.type #[vd, vs]).run P w = .ok v' w')
    (h : wpList P ops Q rest (a.put o.dst v') w') : wpList P ops Q (o :: rest) a w :=
  wpList_plain hgd fun _ hK => by
    unfold Oper.wp execOp
    simp only [ho, resolve, invoke, builtin, Sem.run_bind, Sem.run_pure, Result.andThen_ok, List.map_toArray, List.map_cons, List.map_nil, hd, hs, hr]
    exact hK _ _ h
theorem meetsH_snoc (gap : Int) (L : List Int) (zs : List Ht) (i : Nat) (z : Ht) (h : zs[i]? = some z) : meetsH gap L (zs.take (i + 1)) = meetH gap (meetsH gap L (zs.take i)) z := by
  unfold meetsH
  rw [List.take_add_one, h]
  simp [List.foldl_append]
set_option maxHeartbeats 1000000 in
theorem of_any (z : Ht) (G n cap r k : Nat) (hr : z.ro = (r : Int)) (hk : z.rs = (k : Int)) (hk1 : 1 ≤ k) (hn : r + k ≤ n) (hc : n ≤ cap) (hcm : cap ≤ 9223372036854775807) (W : World) :
    Calls Try.prog 22 #[z.val, .slice (some ⟨G, 0, none⟩) n cap] W fun e X => e = .returned (.slice (some ⟨G, r, none⟩) k k) ∧ Below W.heap.size W X := by
  obtain ⟨nd, ro, co, rs, cs, hi⟩ := z
  dsimp only at hr hk
  subst hr hk
  unfold Ht.val
  have hw : IntKind.i64.wrap ((r : Int) + (k : Int)) = ((r + k : Nat) : Int) := by rw [IntKind.wrap_i64]; omega
  have h1 : r + k - r = k := by omega
  have h2 : r ≤ r + k := by omega
  have h3 : r + k ≤ cap := by omega
  have h4 : ¬ (r + k = r) := by omega
  have h5 : ¬ (k = 0) := by omega
  clear hk1
  go_enter Try.func22, Try.ntmps22
  go_wp2
  go_ret
  exact ⟨by first | rfl | (simp [h1]; done), (Below.refl _ _).alloc (Nat.le_refl _) _⟩
set_option maxHeartbeats 1000000 in
theorem enl_any (n : Int) (a0 : Option Addr) (k c : Nat) (l : List Int) (W : World) (hk : l.length = k) (hl : Nums .i64 W (.slice a0 k c) l) (ho : OverOk n l l) :
    Calls Try.prog 23 #[.int .i64 n, .slice a0 k c] W fun e X => ∃ g cap sp, e = .returned (.slice (some ⟨g, 0, none⟩) k cap) ∧ IRow X g (overP n l l) sp ∧ W.heap.size ≤ g ∧ k ≤ cap ∧ cap ≤ 9223372036854775807 ∧ Below W.heap.size W X := by
  have HO := Lib.hid ((overF_any a0 a0 k k c c n l l W hk hk hl hl).mono (R' := fun e X => ∃ g cap sp, e = .returned (.tuple #[.slice (some ⟨g, 0, none⟩) k cap, .int .i64 0]) ∧ IRow X g (overP n l l) sp ∧ W.heap.size ≤ g ∧ k ≤ cap ∧ cap ≤ 9223372036854775807 ∧ Below W.heap.size W X) (fun e X h => by
    rcases h with ⟨_, h⟩ | ⟨h, _⟩
    · exact h
    · rw [(overB_iff _ _ _).2 ho] at h; cases h))
  generalize overP n l l = op at HO ⊢
  clear hk hl ho
  go_enter Try.func23, Try.ntmps23
  go_wp2_with fail
  refine HO.out.mono ?_
  rintro e w1 ⟨g, cap, sp, rfl, h1, h2, h3, h4, h5⟩
  have H1 := Lib.hid (And.intro h1 (And.intro h2 h5))
  clear HO h1 h2 h5
  go_wp2
  go_ret
  exact ⟨g, cap, sp, rfl, H1.out.1, H1.out.2.1, h3, h4, H1.out.2.2⟩
/-- what heights.Least answers -/
def leastR (ws : List Int) (ps : List Pc) (hs : List Int) (gap : Int) : Bool := decide (ps.length ≤ 1000) && rightH ws ps hs gap
def LeastPost (ws : List Int) (ps : List Pc) (hs : List Int) (gap : Int) (W : World) (e : Ending) (X : World) : Prop :=
  Below W.heap.size W X ∧ ((leastR ws ps hs gap = true ∧ ∃ p c, e = .returned (.tuple #[.slice p ws.length c, .int .i64 0]) ∧ Nums .i64 X (.slice p ws.length c) (leastP ws (htZ ps hs) gap) ∧ (leastP ws (htZ ps hs) gap).length = ws.length ∧ ((p = none ∧ ws.length = 0 ∧ c = 0) ∨ ∃ G, p = some ⟨G, 0, none⟩ ∧ W.heap.size ≤ G)) ∨
    (leastR ws ps hs gap = false ∧ e = .returned (.tuple #[.slice none 0 0, .int .i64 160])))
theorem rightH_iff {ws : List Int} {ps : List Pc} {hs : List Int} {gap : Int} (h : rightH ws ps hs gap = true) : hs.length = ps.length ∧ ws.length ≤ 10000 ∧ (0 ≤ gap ∧ gap ≤ 1073741824) ∧ (∀ z ∈ reqP ws, 0 ≤ z ∧ z ≤ 1073741824) ∧ ∀ z ∈ htZ ps hs, HtOk gap ws.length z := by
  unfold rightH okB at h
  simp only [Bool.and_eq_true, decide_eq_true_eq, List.all_eq_true, reqP_len] at h
  obtain ⟨h1, ⟨h2, h3, h4⟩, h5⟩ := h
  have hg : outB 0 1073741824 gap = false := by simpa using h3
  have hg' := outB_false hg
  refine ⟨h1, h2, hg', fun z hz => ?_, fun z hz => HtOk.of (h5 z hz) hg'.1 hg'.2 h2⟩
  have : (reqP ws).any (outB 0 1073741824) = false := by simpa using h4
  rw [List.any_eq_false] at this
  exact outB_false (by simpa using this z hz)
theorem req_okW {ws : List Int} (h : ∀ z ∈ reqP ws, 0 ≤ z ∧ z ≤ 1073741824) : OkW (reqP ws) := fun z hz => by have := h z hz; omega
theorem htL_len (m : Nat) (zs : List Ht) (h : ∀ s ∈ zs, 1 ≤ s.rs ∧ s.rs ≤ m) : (htL m zs).length = zs.length := by
  have e : htL m zs = (htT m (tagH zs)).map (·.2) := by
    unfold htT htL
    rw [List.map_flatMap]
    congr 1
    funext c
    conv => lhs; rw [← tagH_val zs, List.filter_map]
    rfl
  have hmem : ∀ x ∈ tagH zs, 1 ≤ x.2.rs ∧ x.2.rs ≤ m := fun x hx => h x.2 (by rw [← tagH_val zs]; exact List.mem_map_of_mem hx)
  have hperm : (htT m (tagH zs)).Perm (tagH zs) := (List.perm_ext_iff_of_nodup (nodup_ofH bfH_irr (htT_sorted m _ (tagH_lt zs))) (nodup_ofH (R := fun x y => x.1 < y.1) (fun x => Nat.lt_irrefl _) (tagH_lt zs))).2 (mem_htT m _ hmem)
  rw [e, List.length_map, hperm.length_eq, tagH_len]
set_option maxRecDepth 100000 in
set_option maxHeartbeats 8000000 in
theorem least_any (p q r : Option Addr) (m c k ck h ch : Nat) (ws : List Int) (ps : List Pc) (hs : List Int) (gap : Int) (W : World) (hw : IArg W p m c ws) (hm : m ≤ 1000000) (hp : RowsK Pc.cells 5 W (.slice q k ck) ps) (hpl : ps.length = k) (hh : Ints W (.slice r h ch) hs) (hhl : hs.length = h)
    (hfit : ∀ z ∈ htZ ps hs, z.fit) (hg1 : -9223372036854775808 ≤ gap) (hg2 : gap ≤ 9223372036854775807) :
    Calls Try.prog 12 #[.slice p m c, .slice q k ck, .slice r h ch, .int .i64 gap] W (LeastPost ws ps hs gap W) := by
  by_cases hk : 1000 < k
  · have HB : Hid (leastR ws ps hs gap = false) := Lib.hid (by unfold leastR; rw [decide_eq_false (by omega), Bool.false_and])
    clear hw hp hpl hh hhl hfit
    go_enter Try.func12, Try.ntmps12
    go_wp2
    exact bodyPost_ret (results_twoH rfl rfl rfl) rfl ⟨Below.refl _ _, .inr ⟨HB.out, rfl⟩⟩
  have HR := Lib.hid (hright_any p q r m c k ck h ch ws ps hs gap W hw hm hp hpl hh hhl hfit)
  have HLR : Hid (leastR ws ps hs gap = rightH ws ps hs gap) := Lib.hid (by unfold leastR; rw [decide_eq_true (by omega), Bool.true_and])
  cases hb : rightH ws ps hs gap with
  | false =>
    rw [hb] at HR HLR
    clear hw hp hpl hh hhl hfit hb
    go_enter Try.func12, Try.ntmps12
    go_wp2_with fail
    refine HR.out.mono ?_
    rintro e w1 ⟨rfl, b1⟩
    have B1 := Lib.hid b1
    clear HR b1
    go_wp2
    exact bodyPost_ret (results_twoH rfl rfl rfl) rfl ⟨B1.out, .inr ⟨HLR.out, rfl⟩⟩
  | true =>
    rw [hb] at HR HLR
    obtain ⟨x1, x2, x3, x4, x5⟩ := rightH_iff hb
    have hhk : h = k := by omega
    subst hhk
    have hzl : (htZ ps hs).length = h := by rw [htZ_len _ _ x1, hpl]
    have hrs : ∀ s ∈ htZ ps hs, 1 ≤ s.rs ∧ s.rs ≤ ((m : Nat) : Int) := fun s hs' => by have h5 := x5 s hs'; have := h5.k1; have := h5.k2; have := h5.r0; have := hw.len; omega
    have hwl := hw.len
    have HRQ := Lib.hid (fun X (hX : Below W.heap.size W X) => req_any p m c ws X (hw.below hX) hm)
    have HTN := Lib.hid (fun Bp Bh X (hX : Below W.heap.size W X) hT => inTurnH_any m (by omega) Bp Bh q r h ck ch ps hs (by omega) hpl hhl X hT (hp.below hX) (hh.below hX) _ rfl hrs (by omega))
    have HCE := Lib.hid (fun X => cells_any q r h ck h ch X)
    have HLL := Lib.hid (htL_len m (htZ ps hs) hrs)
    have HOKZ : Hid (∀ s ∈ htL m (htZ ps hs), HtOk gap m s) := Lib.hid (fun s hs' => by have := x5 s ((mem_htL _ _ _).1 hs').1; rwa [hwl] at this)
    have HQ0 : Hid ((reqP ws).length = m ∧ OkW (reqP ws)) := Lib.hid ⟨by rw [reqP_len, hwl], req_okW x4⟩
    have HLP : Hid (leastP ws (htZ ps hs) gap = meetsH gap (reqP ws) (htL m (htZ ps hs))) := Lib.hid (by unfold leastP meetsH; rw [hwl])
    have HWL := Lib.hid hwl
    clear hw hp hpl hh hhl hfit hb x1 x2 x3 x4 x5 hrs hwl
    have HPO : Hid (∀ e X p c, Below W.heap.size W X → e = .returned (.tuple #[.slice p m c, .int .i64 0]) → Nums .i64 X (.slice p m c) (meetsH gap (reqP ws) (htL m (htZ ps hs))) → (meetsH gap (reqP ws) (htL m (htZ ps hs))).length = m → ((p = none ∧ m = 0 ∧ c = 0) ∨ ∃ G, p = some ⟨G, 0, none⟩ ∧ W.heap.size ≤ G) → LeastPost ws ps hs gap W e X) := Lib.hid (fun e X p c h1 h2 h3 h4 h5 => by
      unfold LeastPost
      rw [HLP.out, HLR.out, HWL.out]
      exact ⟨h1, .inl ⟨rfl, p, c, h2, h3, h4, h5⟩⟩)
    generalize LeastPost ws ps hs gap W = PO at HPO ⊢
    clear HLP HLR HWL
    obtain ⟨zs, hzs⟩ : ∃ zs, htL m (htZ ps hs) = zs := ⟨_, rfl⟩
    rw [hzs] at HTN HLL HOKZ HPO
    rw [hzl] at HTN HLL
    obtain ⟨L0, hL0⟩ : ∃ L, reqP ws = L := ⟨_, rfl⟩
    rw [hL0] at HQ0 HPO
    unfold ReqQ at HRQ
    rw [hL0] at HRQ
    clear hzs hL0 hzl
    go_enter Try.func12, Try.ntmps12
    go_wp2_with fail
    refine HR.out.mono ?_
    rintro e w1 ⟨rfl, b1⟩
    have B1 := Lib.hid b1
    clear HR b1
    go_wp2_with fail
    refine (HRQ.out w1 B1.out).mono ?_
    rintro e w2 ⟨p2, c2, rfl, b2, g1, g2, g3⟩
    have B2 := Lib.hid (B1.out.trans (b2.mono B1.out.size))
    have S12 : W.heap.size ≤ w1.heap.size := B1.out.size
    clear HRQ B1 b2
    go_wp2_with (first
      | (go_at_call 21; refine (HCE.out _).mono ?_; clear HCE; rintro e w' ⟨rfl, rfl⟩; refine Hid.out ?_)
      | fail)
    have kP : Whole ((w2.alloc (.cells #[.slice q h ck] 23)).alloc (.cells #[.slice r h ch] 22)) w2.heap.size 23 [.slice q h ck] := (whole_new w2 [.slice q h ck] 23 _ rfl).alloc _
    have kH : Whole ((w2.alloc (.cells #[.slice q h ck] 23)).alloc (.cells #[.slice r h ch] 22)) (w2.heap.size + 1) 22 [.slice r h ch] := whole_new (w2.alloc (.cells #[.slice q h ck] 23)) [.slice r h ch] 22 _ (by simp)
    have hbW : Below w2.heap.size w2 ((w2.alloc (.cells #[.slice q h ck] 23)).alloc (.cells #[.slice r h ch] 22)) := ((Below.refl _ w2).alloc (Nat.le_refl _) _).alloc (by simp) _
    obtain ⟨W3, hW3⟩ : ∃ W3, (w2.alloc (.cells #[.slice q h ck] 23)).alloc (.cells #[.slice r h ch] 22) = W3 := ⟨_, rfl⟩
    rw [hW3] at kP kH hbW
    have B3 := Lib.hid (B2.out.trans (hbW.mono B2.out.size))
    have HT3 := Lib.hid (HTN.out w2.heap.size (w2.heap.size + 1) W3 B3.out ⟨kP.cellAt 0, kH.cellAt 0⟩)
    have HB23 := Lib.hid hbW
    rw [hW3]
    clear kP kH hbW hW3 HTN B2
    refine Lib.hid ?_
    go_wp2_with (first
      | (go_at_call 20; refine HT3.out.mono ?_; rintro e w4 ⟨v4, rfl, ho4, hb4⟩; refine Hid.out ?_)
      | fail)
    have B4 := Lib.hid (B3.out.trans (hb4.mono B3.out.size))
    have HB24 := Lib.hid (HB23.out.trans (hb4.mono HB23.out.size))
    have hzr := own_rowsN ho4 HLL.out (by omega)
    obtain ⟨p4, c4, hp4⟩ := hzr.slice
    rw [HLL.out] at hp4
    subst hp4
    have S23 : w2.heap.size ≤ W3.heap.size := HB23.out.size
    have HBL : Hid (∀ g o, p4 = some ⟨g, o, none⟩ → w2.heap.size ≤ g) := Lib.hid (fun g o e => by
      rcases ho4.2 with ⟨e', _⟩ | ⟨g', cap', cur', e', hb', _⟩
      · rw [e] at e'; cases e'
      · rw [e] at e'; injection e' with e1; injection e1 with e1; injection e1 with e1; omega)
    have HZ := Lib.hid hzr
    clear ho4 hb4 hzr HT3 B3 HB23
    rcases g3 with ⟨rfl, rfl, rfl⟩ | ⟨G, sp, rfl, hi2, hG⟩
    · have hz0 : zs = [] := List.eq_nil_iff_forall_not_mem.2 fun s hs' => by have h5 := HOKZ.out s hs'; have := h5.k1; have := h5.k2; have := h5.r0; omega
      have hh0 : h = 0 := by rw [← HLL.out, hz0]; rfl
      subst hh0
      have hl0 : L0 = [] := List.length_eq_zero_iff.1 HQ0.out.1
      have HIN : Hid (Nums .i64 w4 (.slice none 0 0) (meetsH gap L0 zs) ∧ (meetsH gap L0 zs).length = 0) := Lib.hid (by rw [hz0, hl0]; exact ⟨⟨by simp [meetsH], .inl ⟨none, 0, rfl, by omega, rfl⟩⟩, rfl⟩)
      clear HZ HBL HOKZ HQ0 HLL HB24
      refine Lib.hid ?_
      go_wp2
      go_loopw [32] (fun s32 X => s32 = .int .i64 0 ∧ Hid (X = w4)) (fun _ _ => 0)
      case atStart => exact ⟨rfl, Lib.hid rfl⟩
      case round =>
        obtain ⟨rfl, HX⟩ := hrel
        obtain rfl := HX.out
        clear HX
        go_wp2
        first
          | exact HPO.out _ _ none 0 B4.out rfl HIN.out.1 HIN.out.2 (.inl ⟨rfl, trivial, rfl⟩)
          | exact HPO.out _ _ none 0 B4.out rfl HIN.out.1 HIN.out.2 (.inl ⟨rfl, rfl, rfl⟩)
    · have lG2 := hi2.lt
      have K0 : Hid (IRow w4 G (meetsH gap L0 (zs.take 0)) sp) := Lib.hid (hi2.below HB24.out lG2)
      have HGE : Hid (W.heap.size ≤ G ∧ G < w2.heap.size) := Lib.hid ⟨by omega, lG2⟩
      clear hi2 lG2 hG HB24
      refine Lib.hid ?_
      go_wp2
      go_loopw [32] (fun s32 X => ∃ i : Nat, i ≤ h ∧ s32 = .int .i64 (i : Int) ∧ Hid (IRow X G (meetsH gap L0 (zs.take i)) sp) ∧ Hid (Upd [G] w4 X)) (fun s32 _ => h - (intOf s32).toNat)
      case atStart => exact ⟨0, Nat.zero_le _, rfl, K0, Lib.hid (Upd.refl _ _)⟩
      case round =>
        clear K0
        obtain ⟨i, hi, rfl, HI, HU⟩ := hrel
        by_cases hlt : i < h
        · obtain ⟨z, hz⟩ : ∃ z, zs[i]? = some z := ⟨_, List.getElem?_eq_getElem (by rw [HLL.out]; exact hlt)⟩
          have hok := HOKZ.out z (List.mem_of_getElem? hz)
          obtain ⟨b, o, hpo, lb, hc⟩ := HZ.out.at i z hz
          have hbG := HBL.out b o hpo
          subst hpo
          have hneG : b ∉ [G] := by have := HGE.out.2; simp; omega
          have hLok := meetsH_ok (zs.take i) HQ0.out.1 HQ0.out.2 (fun s hs' => HOKZ.out s (List.mem_of_mem_take hs'))
          have HSN := Lib.hid (meetsH_snoc gap L0 zs i z hz)
          obtain ⟨L, hL⟩ : ∃ L, meetsH gap L0 (zs.take i) = L := ⟨_, rfl⟩
          rw [hL] at HI hLok HSN
          obtain ⟨nd, ro, co, rs, cs, hgt⟩ := z
          obtain ⟨rn, rfl⟩ : ∃ rn : Nat, ro = (rn : Int) := ⟨ro.toNat, by have := hok.r0; dsimp only at this; omega⟩
          obtain ⟨kn, rfl⟩ : ∃ kn : Nat, rs = (kn : Int) := ⟨rs.toNat, by have := hok.k1; dsimp only at this; omega⟩
          have hk1 : 1 ≤ kn := by have := hok.k1; dsimp only at this; omega
          have hrk : rn + kn ≤ m := by have := hok.k2; dsimp only at this; omega
          have hov := hok.over hLok.1 hLok.2
          have hll := hok.lol hLok.1 hLok.2
          dsimp only at hov hll
          rw [Int.toNat_natCast, Int.toNat_natCast] at hov hll
          have hme : meetH gap L ⟨nd, (rn : Int), co, (kn : Int), cs, hgt⟩ = spl L rn (overP (partP hgt gap (kn : Int)) (seg L rn kn) (seg L rn kn)) := rfl
          have hll2 : (overP (partP hgt gap (kn : Int)) (seg L rn kn) (seg L rn kn)).length = kn := hll
          rw [hme] at HSN
          have HOF := Lib.hid (fun X => of_any ⟨nd, (rn : Int), co, (kn : Int), cs, hgt⟩ G m c2 rn kn rfl rfl hk1 hrk g1 g2 X)
          have HPT := Lib.hid (fun X => part_any hgt gap (kn : Int) X (by have := hok.h0; dsimp only at this; omega) (by have := hok.h1; dsimp only at this; omega) hg1 hg2 (by omega) (by omega))
          have HSL := seg_len L rn kn (by rw [hLok.1]; exact hrk)
          have HEN := Lib.hid (fun X (hn : Nums .i64 X (.slice (some ⟨G, rn, none⟩) kn kn) (seg L rn kn)) => enl_any (partP hgt gap (kn : Int)) (some ⟨G, rn, none⟩) kn kn (seg L rn kn) X HSL hn hov)
          obtain ⟨op, hop⟩ : ∃ op, overP (partP hgt gap (kn : Int)) (seg L rn kn) (seg L rn kn) = op := ⟨_, rfl⟩
          rw [hop] at HSN HEN hll2
          obtain ⟨pp, hpp⟩ : ∃ pp, partP hgt gap (kn : Int) = pp := ⟨_, rfl⟩
          rw [hpp] at HEN HPT
          have HLM := Lib.hid hLok.1
          have HOP := Lib.hid hll2
          have hcw : ∀ t v, (Ht.cells ⟨nd, (rn : Int), co, (kn : Int), cs, hgt⟩)[t]? = some v → wr.cell? ⟨b, o + i * 6 + t, none⟩ = some v := fun t v hv => HU.out.cell (hc t v hv) hneG
          have q0 : wr.cell? ⟨b, o + i * 6, none⟩ = some (.int .i64 nd) := hcw 0 _ rfl
          have q1 : wr.cell? ⟨b, o + i * 6 + 1, none⟩ = some (.int .i64 (rn : Int)) := hcw 1 _ rfl
          have q2 : wr.cell? ⟨b, o + i * 6 + 2, none⟩ = some (.int .i64 co) := hcw 2 _ rfl
          have q3 : wr.cell? ⟨b, o + i * 6 + 3, none⟩ = some (.int .i64 (kn : Int)) := hcw 3 _ rfl
          have q4 : wr.cell? ⟨b, o + i * 6 + 4, none⟩ = some (.int .i64 cs) := hcw 4 _ rfl
          have q5 : wr.cell? ⟨b, o + i * 6 + 5, none⟩ = some (.int .i64 hgt) := hcw 5 _ rfl
          have lbr := cell_lt q0
          have KX := Lib.hid (whole_new wr [.int .i64 nd, .int .i64 (rn : Int), .int .i64 co, .int .i64 (kn : Int), .int .i64 cs, .int .i64 hgt] 45 _ rfl)
          have BX := Lib.hid ((Below.refl wr.heap.size wr).alloc (Nat.le_refl _) (.cells #[.int .i64 nd, .int .i64 (rn : Int), .int .i64 co, .int .i64 (kn : Int), .int .i64 cs, .int .i64 hgt] 45))
          have HGI := Lib.hid HI.out.lt
          dsimp only [Ht.val] at HOF
          clear hz hok hc hcw hLok hL hov hll hme hop hpp hll2 hbG HSL hneG
          go_wp2_with (first
            | (go_at_call 22; refine (HOF.out _).mono ?_; clear HOF; rintro e w5 ⟨rfl, hb5⟩; refine Hid.out ?_)
            | fail)
          have KX5 := Lib.hid (KX.out.below hb5 KX.out.lt)
          have B5 := Lib.hid (BX.out.trans (hb5.mono BX.out.size))
          have g5 := KX5.out.cellAt 5
          have lg5 := KX5.out.lt
          simp only [List.getElem?_cons_zero, List.getElem?_cons_succ] at g5
          have HI5 := Lib.hid (HI.out.below B5.out HGI.out)
          have HN5 := Lib.hid (HEN.out w5 (HI5.out.nums rn kn kn (by rw [HLM.out]; exact hrk) (Nat.le_refl _) (by omega)))
          clear q0 q1 q2 q3 q4 q5 lbr KX BX hb5 HEN HI
          refine Lib.hid ?_
          go_wp2_with (first
            | (go_at_call 24; refine (HPT.out _).mono ?_; clear HPT; rintro e w' ⟨rfl, rfl⟩)
            | (go_at_call 23; refine HN5.out.mono ?_; rintro e w6 ⟨g6, cap6, sp6, rfl, hi6, hge6, hc61, hc62, hb6⟩; refine Hid.out ?_)
            | fail)
          have HI6 := Lib.hid (HI5.out.below hb6 HI5.out.lt)
          have U6 := Lib.hid (HU.out.trans (Upd.of_below ((B5.out).trans (hb6.mono B5.out.size))))
          have h6 := fun j (hj : j < kn) => hi6.cell j (by rw [HOP.out]; exact hj)
          obtain ⟨w7, hr7, hi7, hu7⟩ := HI6.out.copy rn kn kn cap6 g6 0 3 op HOP.out (by rw [HLM.out]; exact hrk) (fun j hj => by rw [Nat.zero_add]; exact h6 j hj)
          have KN : Hid (IRow w7 G (meetsH gap L0 (zs.take (i + 1))) sp) := Lib.hid (by rw [HSN.out]; exact hi7)
          have UN := Lib.hid (U6.out.trans hu7)
          clear h6 hi7 hu7 HI6 U6 hi6 hge6 hc61 hc62 hb6 HN5 HI5 B5 KX5 g5 lg5 HSN HU
          refine Lib.hid ?_
          go_wp2_with (first
            | (refine wpList_copy_run rfl (.tmp 39) (.tmp 47) 22 22 rfl _ _ rfl rfl _ _ hr7 ?_)
            | fail)
          go_roundw
          case rel => exact ⟨i + 1, by omega, by go_num, KN, UN⟩
          case measure => simp [intOf]; omega
        · obtain rfl : h = i := by omega
          have hall : zs.take h = zs := List.take_of_length_le (by rw [HLL.out]; exact Nat.le_refl _)
          have hlen := meetsH_ok zs HQ0.out.1 HQ0.out.2 HOKZ.out
          have HF : Hid (Below W.heap.size W wr ∧ Nums .i64 wr (.slice (some ⟨G, 0, none⟩) m c2) (meetsH gap L0 zs) ∧ (meetsH gap L0 zs).length = m) := Lib.hid (by
            refine ⟨B4.out.trans (HU.out.below B4.out.size (by simpa using HGE.out.1)), ?_, hlen.1⟩
            have hI := HI.out
            rw [hall] at hI
            refine ⟨by rw [hlen.1]; omega, .inr ⟨G, 0, c2, by rw [hlen.1], by rw [hlen.1]; exact g1, g2, fun j hj => ?_⟩⟩
            rw [Nat.zero_add]
            exact hI.cell j hj)
          have HG3 := HGE.out.1
          clear hall hlen HI HU HZ HBL HOKZ HQ0 HLL
          go_wp2
          exact HPO.out _ _ _ c2 HF.out.1 rfl HF.out.2.1 HF.out.2.2 (.inr ⟨G, rfl, HG3⟩)
end Go.Proofs.Ytpbkboandiigfaa
