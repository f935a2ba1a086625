/- A page's first nodes, kids and words (purflinglaw04.Cut): contract. -/
import Derived.Test.YtecnapecmioamaaTBuild
namespace Go.Proofs.Ytecnapecmioamaa
open Go.RowKit Go.Shelf
set_option linter.unusedVariables false
attribute [local go_sem] Oper.semAt_some

theorem list_new (w : World) (xs : List Value) (t g : Nat) (hg : g = w.heap.size) : ∀ j u, xs[j]? = some u → (w.alloc (.cells xs.toArray t)).cell? ((⟨g, 0, none⟩ : Addr).add j) = some u := by
  intro j u hj
  have h := (whole_new w xs t g hg).cellAt j
  rw [add_plain, Nat.zero_add]
  exact h.trans hj
theorem fill_all (z cs : Array Value) (h : z.size = cs.size) : Array.foldl (fun (a : Array Value) (x : Value × Nat) => a.setIfInBounds x.2 x.1) z cs.zipIdx 0 cs.size = cs := by
  have key : ∀ (l : List Value) (k : Nat) (a : Array Value), k + l.length ≤ a.size → ((l.zipIdx k).foldl (fun (a : Array Value) (x : Value × Nat) => a.setIfInBounds x.2 x.1) a).toList = a.toList.take k ++ l ++ a.toList.drop (k + l.length) := by
    intro l
    induction l with
    | nil => intro k a _; simp
    | cons v l ih =>
      intro k a hk
      simp only [List.zipIdx_cons, List.foldl_cons]
      rw [ih (k + 1) _ (by simp at hk ⊢; omega)]
      simp only [List.length_cons] at hk
      have hka : k < a.toList.length := by simp; omega
      simp only [Array.toList_setIfInBounds, List.length_cons]
      rw [List.take_add_one, List.getElem?_set_self hka, List.take_set_of_le (Nat.le_refl _), List.drop_set_of_lt (by omega)]
      simp [Nat.add_comm, Nat.add_left_comm]
  have h1 := key cs.toList 0 z (by simp; omega)
  apply Array.toList_inj.1
  have h2 : Array.foldl (fun (a : Array Value) (x : Value × Nat) => a.setIfInBounds x.2 x.1) z cs.zipIdx 0 cs.size = cs.zipIdx.toList.foldl (fun (a : Array Value) (x : Value × Nat) => a.setIfInBounds x.2 x.1) z := by
    rw [Array.foldl_toList]; congr 1; simp
  rw [h2, Array.toList_zipIdx, h1]
  simp; omega
def cutV (k : Nat) : Value → Value
  | .slice p l c => .slice p (min l k) c
  | v => v
def cutN (n : Nd) : Nd := { n with kv := cutV 30 n.kv, ks := n.ks.take 30, wv := cutV 40 n.wv, ws := n.ws.take 40 }
def cutP (ns : List Nd) : List Nd := (ns.take 150).map cutN
theorem cut_ints {W : World} {v : Value} {zs : List Int} (k : Nat) (h : Ints W v zs) : Ints W (cutV k v) (zs.take k) := by
  obtain ⟨h1, ⟨a, cap, rfl, rfl⟩ | ⟨b, off, cap, rfl, hc⟩⟩ := h
  · refine ⟨by simp, .inl ⟨a, cap, ?_, by simp⟩⟩
    show Value.slice a (min 0 k) cap = _
    rw [Nat.zero_min]
  · refine ⟨by rw [List.length_take]; omega, .inr ⟨b, off, cap, ?_, fun j hj => ?_⟩⟩
    · show Value.slice _ (min zs.length k) cap = _
      rw [List.length_take, Nat.min_comm]
    · rw [List.length_take] at hj
      rw [hc j (by omega), List.getElem?_take_of_lt (by omega)]
theorem cut_capok {v : Value} (k : Nat) (h : CapOk v) : CapOk (cutV k v) := by
  obtain ⟨p, l, c, rfl, h1, h2⟩ := h
  exact ⟨p, min l k, c, rfl, by omega, h2⟩
theorem cut_ok {W : World} {n : Nd} (h : n.ok W) : (cutN n).ok W := ⟨cut_ints 30 h.1, cut_ints 40 h.2.1, cut_capok 30 h.2.2.1, cut_capok 40 h.2.2.2⟩
theorem cut_cells (n : Nd) (kv wv : Value) (h1 : cutV 30 n.kv = kv) (h2 : cutV 40 n.wv = wv) : (n.cells.set 1 kv).set 31 wv = (cutN n).cells := by
  subst h1 h2; rfl
theorem cutP_kids (ns : List Nd) : ∀ n ∈ cutP ns, n.ks.length ≤ 70000 := fun n hn => by
  obtain ⟨a, _, rfl⟩ := List.mem_map.1 hn
  simp [cutN]; omega
theorem flatN_snoc (ns : List Nd) (n : Nd) : flatN (ns ++ [n]) = flatN ns ++ n.cells := by simp [flatN]
theorem own_page {X : World} {base k : Nat} {v : Value} {ns : List Nd} (h : X.ownsRow base 47 34 v k (flatN ns)) (hok : ∀ n ∈ ns, n.ok X) : PageAt X v ns := by
  have hl : ns.length = k := by have := h.1; rw [flatN_len] at this; omega
  rcases h.2 with ⟨rfl, rfl⟩ | ⟨g, cap, cur, rfl, hb, hg, hnc, hcm, hcs, ht⟩
  · obtain rfl : ns = [] := List.eq_nil_of_length_eq_zero hl
    exact nil_page X
  · have hc := h.cells (g := g) rfl
    unfold maxLen at hcm
    refine ⟨by omega, hok, .inr ⟨g, 0, cap, by rw [hl], fun i n hn j u hj => ?_⟩⟩
    have := hc (i * 34 + j) u (flat_get ns i n j u hn hj)
    rw [add_plain] at this
    rw [show 0 + i * 34 + j = 0 + (i * 34 + j) by omega]
    exact this
theorem own_same34 {X Y : World} {base e size n : Nat} {v : Value} {xs : List Value} (h : X.ownsRow base e size v n xs) (hk : ∀ g, v.ownBlock = some g → Y.heap[g]? = X.heap[g]?) : Y.ownsRow base e size v n xs := by
  refine ⟨h.1, ?_⟩
  rcases h.2 with hn | ⟨g, cap, cur, rfl, hb, hg, rest⟩
  · exact .inl hn
  · exact .inr ⟨g, cap, cur, rfl, hb, (hk g rfl).trans hg, rest⟩
set_option maxRecDepth 100000 in
set_option maxHeartbeats 2000000 in
theorem cut_at (p : Option Addr) (m cap : Nat) (ns : List Nd) (w : World) (hm : ns.length = m) (hP : PageAt w (.slice p m cap) ns) :
    Calls Try.prog 5 #[.slice p m cap] w fun e W' => ∃ v, e = .returned v ∧ PageAt W' v (cutP ns) ∧ Below w.heap.size w W' := by
  have hms : m ≤ 9223372036854775807 := by have := hP.1; omega
  have HP := Lib.hid hP
  have HM := Lib.hid hm
  clear hP hm
  cases hi0 : Try.prog.info? 47 with
  | none => have := Try.infoNd2; rw [hi0] at this; cases this
  | some i0 =>
  have hq := Try.infoNd2
  rw [hi0] at hq
  simp only [Option.map_some, Option.some.injEq, Prod.mk.injEq] at hq
  obtain ⟨hz0, hz1, hz2⟩ := hq
  have HZ0 := Lib.hid hz0
  clear hz0
  go_enter Try.func5, Try.ntmps5
  go_wp2
  go_loopw [3, 4] (fun v i x => ∃ k : Nat, k ≤ m ∧ k ≤ 150 ∧ i = .int .i64 k ∧ Hid (x.ownsRow w.heap.size 47 34 v k (flatN ((ns.take k).map cutN))) ∧ Hid (Below w.heap.size w x)) (fun _ i _ => m - (intOf i).toNat)
  case atStart => exact ⟨0, Nat.zero_le _, by omega, rfl, Lib.hid (World.ownsRow_nil _ _ _ _), Lib.hid (Below.refl _ _)⟩
  case round =>
    obtain ⟨k, hk, hk2, rfl, HO, HB⟩ := hrel
    by_cases hlt : k < m ∧ k < 150
    · obtain ⟨hlt, hlt2⟩ := hlt
      obtain ⟨b, off, rfl, hc⟩ := page_some HP.out (by rw [HM.out]; omega)
      obtain ⟨n, hn⟩ : ∃ n, ns[k]? = some n := ⟨_, List.getElem?_eq_getElem (by rw [HM.out]; exact hlt)⟩
      have hmem : n ∈ ns := List.mem_iff_getElem?.2 ⟨k, hn⟩
      have hok := HP.out.2.1 n hmem
      have LN := Lib.hid ((hc k n hn).below HB.out).load
      have iN := Lib.hid (nd_info n)
      have oN := Lib.hid (nd_one n w hok)
      have zN : Hid (Nd.zero.cells.toArray.size = n.cells.toArray.size) := Lib.hid (by simp [Nd.len])
      have HOK := Lib.hid hok
      have SN : Hid ((ns.take (k + 1)).map cutN = (ns.take k).map cutN ++ [cutN n]) := Lib.hid (by rw [List.take_add_one, hn]; simp)
      obtain ⟨kq, kl, kc, hkv, hkl, hkc⟩ := hok.2.2.1
      obtain ⟨wq, wl, wc, hwv, hwl, hwc⟩ := hok.2.2.2
      have HCS : Hid (∀ X g, Whole X g 47 n.cells → X.cell? ⟨g, 1, none⟩ = some (.slice kq kl kc) ∧ X.cell? ⟨g, 31, none⟩ = some (.slice wq wl wc)) := Lib.hid fun X g h => ⟨by rw [h.cellAt, n.c1, hkv], by rw [h.cellAt, n.c31, hwv]⟩
      obtain ⟨cs, hcs⟩ : ∃ cs, n.cells.toArray = cs := ⟨_, rfl⟩
      rw [hcs] at LN iN oN zN
      have HCE := Lib.hid hcs
      have hz0 : w.heap.size ≤ wr.heap.size := HB.out.size
      have HKV := Lib.hid hkv
      have HWV := Lib.hid hwv
      clear hcs hn hmem hkv hwv hok hc
      obtain ⟨kl', hk30⟩ : ∃ kl', (kl ≤ 30 ∧ kl' = kl) ∨ (30 < kl ∧ kl' = 30) := ⟨min kl 30, by omega⟩
      obtain ⟨wl', hw40⟩ : ∃ wl', (wl ≤ 40 ∧ wl' = wl) ∨ (40 < wl ∧ wl' = 40) := ⟨min wl 40, by omega⟩
      have HCC : Hid ((n.cells.set 1 (.slice kq kl' kc)).set 31 (.slice wq wl' wc) = (cutN n).cells) := Lib.hid (cut_cells n _ _ (by rw [HKV.out]; show Value.slice kq (min kl 30) kc = _; congr 1; omega) (by rw [HWV.out]; show Value.slice wq (min wl 40) wc = _; congr 1; omega))
      obtain ⟨ccs, hccs⟩ : ∃ ccs, (cutN n).cells.toArray = ccs := ⟨_, rfl⟩
      have LCW : Hid (∀ X, Whole X wr.heap.size 47 n.cells → ∀ j v, ccs[j]? = some v → ((X.setCell ⟨wr.heap.size, 1, none⟩ (.slice kq kl' kc)).setCell ⟨wr.heap.size, 31, none⟩ (.slice wq wl' wc)).cell? ((⟨wr.heap.size, 0, none⟩ : Addr).add j) = some v) := Lib.hid fun X hX j v hj => by
        have h := (hX.set 1 (.slice kq kl' kc)).set 31 (.slice wq wl' wc)
        rw [HCC.out] at h
        rw [← hccs] at hj
        exact (NdAt.whole h).load j v hj
      have iC : Hid ((Try.prog.info? 47).map (·.size) = some ccs.size) := Lib.hid (by rw [← hccs]; exact nd_info (cutN n))
      have oC : Hid (ccs.all (·.oneCell') = true) := Lib.hid (by rw [← hccs]; exact nd_one (cutN n) w (cut_ok HOK.out))
      have HCN := Lib.hid hccs
      have OW : Hid (∀ X, Below wr.heap.size wr X → ((X.setCell ⟨wr.heap.size, 1, none⟩ (.slice kq kl' kc)).setCell ⟨wr.heap.size, 31, none⟩ (.slice wq wl' wc)).ownsRow w.heap.size 47 34 u3 k (flatN ((ns.take k).map cutN))) := Lib.hid fun X hX => own_same34 HO.out fun g e => by
        have h1 := (HO.out.lt g e).2
        exact (Below.heap_setCell _ _ _ g (by simp; omega)).trans ((Below.heap_setCell _ _ _ g (by simp; omega)).trans (hX.block g h1))
      have hcsz : ccs.size = 34 := by rw [← hccs]; simp [Nd.len]
      have hfill : Array.foldl (fun (cs : Array Value) (x : Value × Nat) => cs.setIfInBounds x.snd x.fst) #[.int .i64 0, .slice none 0 0, .int .i64 0, .int .i64 0, .int .i64 0, .int .i64 0, .int .i64 0, .int .i64 0, .int .i64 0, .int .i64 0, .int .i64 0, .int .i64 0, .int .u32 0, .int .i64 0, .int .i64 0, .int .u32 0, .int .i64 0, .int .i64 0, .int .u32 0, .int .i64 0, .int .i64 0, .int .u32 0, .int .i64 0, .int .i64 0, .int .i64 0, .bool false, .bool false, .int .i64 0, .int .i64 0, .bool false, .bool false, .slice none 0 0, .int .i64 0, .int .i64 0] ccs.zipIdx 0 34 = ccs := by
        have h := fill_all Nd.zero.cells.toArray ccs (by rw [hcsz]; exact nd_size0)
        rw [hcsz] at h
        exact h
      clear hccs
      have a30 : ((kl : Int) ≤ 30 ∧ kl' = kl) ∨ (30 < (kl : Int) ∧ kl' = 30) := by omega
      have a40 : ((wl : Int) ≤ 40 ∧ wl' = wl) ∨ (40 < (wl : Int) ∧ wl' = 40) := by omega
      clear hk30 hw40
      rcases a30 with ⟨a30, rfl⟩ | ⟨a30, rfl⟩ <;> rcases a40 with ⟨a40, rfl⟩ | ⟨a40, rfl⟩
      all_goals
        go_wp2_with (first
          | (refine wpList_load_at rfl 47 (.tmp 18) rfl _ rfl cs _ LN.out Try.underlying47 rfl iN.out ?_)
          | (refine wpList_store_row rfl 47 (.tmp 5) (.tmp 19) rfl _ cs rfl rfl 47 Nd.zero.cells.toArray (whole_new wr Nd.zero.cells 47 _ rfl) iN.out zN.out oN.out ?_; refine at_world (fun X => Whole X wr.heap.size 47 n.cells ∧ Below wr.heap.size wr X) ⟨by rw [← HCE.out]; exact whole_row (whole_new wr Nd.zero.cells 47 _ rfl) _, ((Below.refl _ wr).alloc (Nat.le_refl _) _).trans (below_row _ _ _ (Nat.le_refl _))⟩ (fun X hX => ?_); obtain ⟨KX, BX⟩ := hX; obtain ⟨kx, kw⟩ := HCS.out X _ KX; have lx := KX.lt; have fx1 := KX.free 1; have fx31 := KX.free 31; have KXX := Lib.hid KX; have BXX := Lib.hid BX; clear KX BX)
          | (refine wpList_load_at rfl 47 (.tmp 5) rfl _ rfl ccs _ (LCW.out X KXX.out) Try.underlying47 rfl iC.out ?_; clear kx kw fx1 fx31)
          | (at_builtin; refine wpList_append_own_at _ rfl _ _ 22 rfl w.heap.size 47 i0 (.agg Nd.zero.cells.toArray) 34 288 Try.underlying22 hi0 HZ0.out hz1 hz2 nd_size0 (by decide) _ _ _ rfl ((OW.out X BXX.out).alloc _) ⟨X.heap.size, 0, none⟩ 1 1 (cutN n).cells rfl ?c0 ?c1 ?c2 ?c3 ?c4 ?c5 ?_))
        case c0 => rw [Nd.len]
        case c1 =>
          intro j u hj
          have h := HCN.out
          simp only [← h]
          first
            | (simpa using hj)
            | (exact list_new _ (cutN n).cells _ _ (by simp) j u hj)
        case c2 =>
          intro u hu
          have h := oC.out
          rw [← HCN.out] at h
          exact (Array.all_eq_true_iff_forall_mem.1 h) u (by simpa using hu)
        case c3 => unfold maxLen; omega
        case c4 => omega
        case c5 => first | (simp; have := BXX.out.size; omega) | (have := BXX.out.size; omega)
        intro v' W7 hown7 hgrow7 _ hat7
        have hO7 : Hid (W7.ownsRow w.heap.size 47 34 v' (k + 1) (flatN ((ns.take (k + 1)).map cutN))) := Lib.hid (by rw [SN.out, flatN_snoc]; simpa using hown7)
        have hB7 : Hid (Below w.heap.size w W7) := Lib.hid (((((HB.out.trans (BXX.out.mono hz0)).setCell (p := ⟨wr.heap.size, 1, none⟩) hz0 _).setCell (p := ⟨wr.heap.size, 31, none⟩) hz0 _).alloc (by simp; have := BXX.out.size; omega) _).grown hgrow7 (by simp; have := BXX.out.size; omega) (fun g e => (HO.out.lt g e).1))
        clear hown7 hgrow7 hat7
        go_wp2
        go_roundw
        case rel => exact ⟨k + 1, by omega, by omega, by go_num, hO7, hB7⟩
        case measure => simp [intOf]; omega
    · have hkm : k = min m 150 := by omega
      have hpg : PageAt wr u3 (cutP ns) := by
        have e : cutP ns = (ns.take k).map cutN := by
          unfold cutP
          by_cases h : 150 ≤ m
          · rw [show k = 150 by omega]
          · rw [List.take_of_length_le (by rw [HM.out]; omega), List.take_of_length_le (by rw [HM.out]; omega)]
        rw [e]
        exact own_page HO.out fun nd hnd => by
          obtain ⟨a, ha, rfl⟩ := List.mem_map.1 hnd
          exact cut_ok ((HP.out.2.1 a (List.mem_of_mem_take ha)).below HB.out)
      have HPG := Lib.hid hpg
      obtain ⟨p3, c3, rfl⟩ := hpg.form
      clear hpg
      by_cases h1 : k < m
      · have h2 : k = 150 := by omega
        subst h2
        clear hlt hkm HO
        go_wp2
        go_ret
        exact ⟨_, rfl, HPG.out, HB.out⟩
      · have h2 : k = m := by omega
        clear hlt hkm HO
        go_wp2
        go_ret
        exact ⟨_, rfl, HPG.out, HB.out⟩
theorem cut_any (lv : Value) (ns : List Nd) (w : World) (hP : PageAt w lv ns) :
    Calls Try.prog 5 #[lv] w fun e W' => ∃ v, e = .returned v ∧ PageAt W' v (cutP ns) ∧ Below w.heap.size w W' := by
  obtain ⟨p, cap, rfl⟩ := hP.form
  exact cut_at p _ cap ns w rfl hP
end Go.Proofs.Ytecnapecmioamaa
