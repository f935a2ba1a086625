/- Contract of rect.cancel: whether nothing is left at any corner. -/
import Derived.Test.YtjdnhpbifblneaaRCanc
import Derived.Test.YtjdnhpbifblneaaMarks
import Derived.ScopeJumps
namespace Go.Proofs.Ytjdnhpbifblneaa
open Go.RowKit Go.Shelf Go.Sort Go.Lib
set_option linter.unusedVariables false
attribute [local go_sem] Oper.semAt_some run_store_complex'

def CanI (cs : List Cor) (b3 B : Nat) (w : World) (pre : List (Nat × Cor)) (W : World) : Prop :=
  ∃ k, k ≤ cs.length ∧ pre = elsC cs k ∧ okTo cs k ∧ Whole W b3 3 [.int .i64 (psum cs k)] ∧ Below B w W
/-- what holds at the jump -/
def CanX (cs : List Cor) (b3 B : Nat) (w : World) (c : Code) (pre : List (Nat × Cor)) (W : World) : Prop :=
  c = .goto 0 ∧ cancB cs = false ∧ (∃ s : Int, s ≠ 0 ∧ Whole W b3 3 [.int .i64 s]) ∧ Below B w W
theorem CanI.own (cs : List Cor) (b3 B : Nat) (w : World) (K : Nat) (h1 : B ≤ w.heap.size) (h2 : B ≤ K) : OwnFrom K (CanI cs b3 B w) := fun s X Y row ⟨k, hk, hp, ho, hw, hb⟩ hg hr =>
  ⟨k, hk, hp, ho, hw.grown hg (hw.ne fun r e => (hr r e).2), (ownFrom_below (β := Unit) h1 h2) () X Y row hb hg hr⟩
theorem CanX.own (cs : List Cor) (b3 B : Nat) (w : World) (K : Nat) (h1 : B ≤ w.heap.size) (h2 : B ≤ K) (c : Code) : OwnFrom K (CanX cs b3 B w c) := fun s X Y row ⟨hc, hz, ⟨u, hu, hw⟩, hb⟩ hg hr =>
  ⟨hc, hz, ⟨u, hu, hw.grown hg (hw.ne fun r e => (hr r e).2)⟩, (ownFrom_below (β := Unit) h1 h2) () X Y row hb hg hr⟩
theorem grown_below {A B C : World} {row : Option Nat} (h : A.grownBy B row) (hb : Below A.heap.size B C) : A.grownBy C row :=
  ⟨hb.os.trans h.os, hb.tape.trans h.tape, hb.output.trans h.output, Nat.le_trans h.size hb.size, fun k hk hr => (hb.block k hk).trans (h.block k hk hr)⟩
/-- what holds at the label -/
def JC (cs : List Cor) (g cap : Nat) (w : World) (a : Act) (W : World) : Prop :=
  ∃ b3 D s, a = { tmps := #[.slice (some ⟨g, 0, none⟩) cs.length cap, .pointer (some ⟨w.heap.size, 0, none⟩), .bool false, .pointer (some ⟨b3, 0, none⟩), undef, undef, .slice (some ⟨g, 0, none⟩) cs.length cap, .tuple #[], .slice (some ⟨g, 0, none⟩) cs.length cap, .func (.func 43) #[] #[.pointer (some ⟨b3 + 1, 0, none⟩)], undef, undef, undef, undef, undef, undef, undef, undef, undef, undef, undef, undef, undef, undef, undef, undef, undef, undef, undef, undef, undef], defers := [{ target := .collected D, args := #[] }] } ∧ w.heap.size ≤ D ∧ W.heap[D]? = some (.deferred (some [])) ∧ Hid ((s == 0) = cancB cs) ∧ Whole W b3 3 [.int .i64 s] ∧ w.grownBy W (some g)
def CancelPost (cs : List Cor) (g : Nat) (w : World) (e : Ending) (W' : World) : Prop := e = .returned (.bool (cancB cs)) ∧ w.grownBy W' (some g)
set_option maxRecDepth 100000 in
set_option maxHeartbeats 2000000 in
theorem cancel_any (base g cap : Nat) (cs : List Cor) (cur : Array Value) (w : World) (hb : base ≤ g) (hg : w.heap[g]? = some (.cells cur 59 (0, 0))) (hnc : cs.length ≤ cap) (hcm : cap ≤ maxLen) (hcs : cur.size = cap * 2) (htk : cur.toList.take (cs.length * 2) = encC cs)
    (h1 : 1 ≤ cs.length) (h2 : cs.length ≤ 4000) (ht : ∀ c ∈ cs, c.t = 1 ∨ c.t = -1) :
    Calls Try.prog 14 #[.slice (some ⟨g, 0, none⟩) cs.length cap] w (CancelPost cs g w) := by
  have hglt : g < w.heap.size := (Array.getElem?_eq_some_iff.1 hg).1
  have SC := Lib.hid (fun W (hW : Below w.heap.size w W) => sortC_own base g cap cs cur W hb ((hW.block g hglt).trans hg) hnc hcm hcs htk (by omega))
  unfold maxLen at hcm
  clear hcs htk hg hb
  refine (callsIn_wide (n := 3)).1 (callsIn_of_wp_marks Try.func14 rfl trivial (wpIn_wide.2 ?_) rfl)
  simp only [Try.ntmps14, List.size_toArray, List.length_cons, List.length_nil, Nat.reduceAdd, Nat.reduceSub, Array.replicate_succ, Array.replicate_zero, List.push_toArray, List.append_toArray, List.nil_append, List.cons_append]
  go_wp2_with fail
  refine wp_scope_jumps 0 (JC cs g cap w) (fun _ _ => 0) rfl ?_ ?_
  · go_wp2_with fail
    refine (SC.out _ ((Below.refl _ w).alloc (Nat.le_refl _) _)).mono ?_
    rintro e w1 ⟨rfl, ds, hp, hs, ⟨cur', hg', htk'⟩, hgr⟩
    have hl : ds.length = cs.length := hp.length_eq
    have hsz := hgr.size
    simp only [World.size_alloc] at hsz
    have hltb : w.heap.size < w1.heap.size := by omega
    have hneb : w.heap.size ≠ w1.heap.size := by omega
    have kb : Whole w1 w.heap.size 44 [.slice (some ⟨g, 0, none⟩) cs.length cap] := (whole_new w [.slice (some ⟨g, 0, none⟩) cs.length cap] 44 _ rfl).grown hgr (by simp; omega)
    have cb : w1.cell? ⟨w.heap.size, 0, none⟩ = some (.slice (some ⟨g, 0, none⟩) cs.length cap) := kb.cellAt 0
    have HGR : Hid (w.grownBy w1 (some g)) := Lib.hid ⟨hgr.os, hgr.tape, hgr.output, by omega, fun k hk hr => (hgr.block k (by simp <;> omega) hr).trans (Below.heap_alloc w _ k hk)⟩
    have hcells : ∀ j v, (encC ds)[j]? = some v → w1.cell? ⟨g, j, none⟩ = some v := by
      intro j v hv
      have hj : j < cs.length * 2 := by have := (List.getElem?_eq_some_iff.1 hv).1; rw [encC_len, hl] at this; exact this
      have h1 : (cur'.toList.take (cs.length * 2))[j]? = (encC ds)[j]? := by rw [htk']
      rw [List.getElem?_take_of_lt hj] at h1
      simp only [World.cell?, hg']
      simp only [Option.isSome_none, Bool.false_eq_true, if_false]
      rw [← Array.getElem?_toList, h1]; exact hv
    have HC := Lib.hid hcells
    have HP := Lib.hid hp
    have HS := Lib.hid hs
    have HL := Lib.hid hl
    have htd : Hid (∀ c ∈ ds, c.t = 1 ∨ c.t = -1) := Lib.hid fun c hc => ht c (hp.mem_iff.1 hc)
    have hl1 : 1 ≤ ds.length := by omega
    have hl2 : ds.length ≤ 4000 := by omega
    have hglt1 : g < w1.heap.size := by omega
    clear hgr hg' htk' hcells hp hs hl SC ht
    go_wp2_with (go_at_call 32; refine (allC_any _ _ _ _).mono ?_; rintro e w' ⟨rfl, rfl⟩)
    have hB : Below w1.heap.size w1 ((w1.alloc (.cells #[.int .i64 0] 3)).alloc (.cells #[.slice (some ⟨g, 0, none⟩) cs.length cap] 44)) := ((Below.refl _ w1).alloc (Nat.le_refl _) _).alloc (by simp) _
    have k3 : Whole ((w1.alloc (.cells #[.int .i64 0] 3)).alloc (.cells #[.slice (some ⟨g, 0, none⟩) cs.length cap] 44)) w1.heap.size 3 [.int .i64 0] := (whole_new w1 [.int .i64 0] 3 _ rfl).alloc _
    have ks : Whole ((w1.alloc (.cells #[.int .i64 0] 3)).alloc (.cells #[.slice (some ⟨g, 0, none⟩) cs.length cap] 44)) (w1.heap.size + 1) 44 [.slice (some ⟨g, 0, none⟩) cs.length cap] := whole_new (w1.alloc (.cells #[.int .i64 0] 3)) [.slice (some ⟨g, 0, none⟩) cs.length cap] 44 _ (by simp)
    have hsz2 : ((w1.alloc (.cells #[.int .i64 0] 3)).alloc (.cells #[.slice (some ⟨g, 0, none⟩) cs.length cap] 44)).heap.size = w1.heap.size + 2 := by simp
    obtain ⟨W2, hW2⟩ : ∃ W2, (w1.alloc (.cells #[.int .i64 0] 3)).alloc (.cells #[.slice (some ⟨g, 0, none⟩) cs.length cap] 44) = W2 := ⟨_, rfl⟩
    rw [hW2] at hB k3 ks hsz2 ⊢
    clear hW2
    have hsz3 : w1.heap.size + 2 ≤ W2.heap.size := by omega
    clear hsz2
    refine (wpIn_wide (n := 3)).1 (range_next (F := Fence.wide) rfl (by omega) (gf := 43) (lb := #[.pointer (some ⟨w1.heap.size + 1, 0, none⟩)]) rfl trivial (enters_of Try.func43 (by kernel_rfl) rfl)
      (B := w1.heap.size) (by omega) (allC_next Fence.wide _ trivial rfl (by omega) (w1.heap.size + 1) g cap ds (by omega) W2 w1 hglt1 (by omega) (by rw [HL.out]; exact ks.cellAt 0) HC.out hB) (fun _ => rfl)
      (CanI ds w1.heap.size w1.heap.size w1) (CanX ds w1.heap.size w1.heap.size w1) (CanI.own _ _ _ _ _ (Nat.le_refl _) (by omega)) (fun c => CanX.own _ _ _ _ _ (Nat.le_refl _) (by omega) c)
      ⟨0, Nat.zero_le _, rfl, fun j a b h1 h2 => by omega, k3, hB⟩ ?round ?done ?stop)
    case round =>
      rintro l pre x V hl ⟨k', hk', hpre, hok, hw3, hbV⟩ ⟨k, hk, hpre', rfl⟩
      obtain rfl : k' = k := by have := congrArg List.length (hpre.symm.trans hpre'); rw [elsC_len, elsC_len] at this; exact this
      obtain ⟨c, hc⟩ : ∃ c, ds[k']? = some c := ⟨ds[k'], List.getElem?_eq_getElem hk⟩
      have hel : elC ds k' = (k', c) := by unfold elC; rw [hc]; rfl
      rw [hel]
      have hbs := hbV.size
      refine ⟨{ tmps := #[.slice (some ⟨g, 0, none⟩) cs.length cap, .pointer (some ⟨w.heap.size, 0, none⟩), .bool false, .pointer (some ⟨w1.heap.size, 0, none⟩), .int .i64 (k' : Int), .pointer (some ⟨V.heap.size, 0, none⟩), .slice (some ⟨g, 0, none⟩) cs.length cap, .tuple #[], .slice (some ⟨g, 0, none⟩) cs.length cap, .func (.func 43) #[] #[.pointer (some ⟨w1.heap.size + 1, 0, none⟩)], .int .i64 (k' : Int), .agg #[.complex .f64 (FN c.i) (FN c.j), .int .i64 c.t], undef, undef, undef, undef, undef, undef, undef, undef, undef, undef, undef, undef, undef, undef, undef, undef, undef, undef, undef], defers := [] }, V.alloc (.cells #[.complex .f64 (FN c.i) (FN c.j), .int .i64 c.t] 59), ?_, (KeepsOthers.alloc V _).from _, (Below.refl _ V).alloc (by omega) _, ?_⟩
      · intro K hK
        clear hw3 hbV hok htd HC HP HS k3 ks hB
        dsimp only [encP]
        gi_wp2
        exact hK
      · intro V₂ hgV hnc' hbl
        have kc : Whole V₂ V.heap.size 59 [.complex .f64 (FN c.i) (FN c.j), .int .i64 c.t] := Whole.grown (whole_new V [.complex .f64 (FN c.i) (FN c.j), .int .i64 c.t] 59 _ rfl) hgV (Whole.ne (whole_new V [.complex .f64 (FN c.i) (FN c.j), .int .i64 c.t] 59 _ rfl) hnc')
        have kw : Whole V₂ w1.heap.size 3 [.int .i64 (psum ds k')] := (hw3.alloc _).grown hgV ((hw3.alloc _).ne hnc')
        have hb2 : Below w1.heap.size w1 V₂ := (hbV.trans ((Below.refl _ V).alloc (by omega) _)).trans hbl
        have q1 : V₂.cell? ⟨w.heap.size, 0, none⟩ = some (.slice (some ⟨g, 0, none⟩) cs.length cap) := (hb2.cell (p := ⟨w.heap.size, 0, none⟩) hltb).trans cb
        have hbd := psum_bd ds htd.out k'
        have hct := htd.out c (List.mem_of_getElem? hc)
        have hct1 : -1 ≤ c.t ∧ c.t ≤ 1 := by omega
        have hkl : k' < 4000 := by omega
        have hps := Lib.hid (psum_succ ds k' c hc)
        have hfw : ∀ V₃ : World, V₃ = V₂.drew → Whole V₃ w1.heap.size 3 [.int .i64 (psum ds k')] := fun V₃ e => e ▸ kw
        have kcD : Whole V₂.drew V.heap.size 59 [.complex .f64 (FN c.i) (FN c.j), .int .i64 c.t] := kc
        have kwD : Whole V₂.drew w1.heap.size 3 [.int .i64 (psum ds k')] := kw
        have hb2D : Below w1.heap.size w1 V₂.drew := hb2.trans (below_dn _ V₂ 1)
        have KD : Hid (KeepsOthers V₂ V₂.drew) := Lib.hid (KeepsOthers.drew V₂)
        by_cases hz : psum ds k' = 0
        · have hok' : Hid (okTo ds (k' + 1)) := Lib.hid (okTo_step hok fun _ _ _ _ _ => .inl hz)
          rw [hz] at kwD hps
          have SV : V₂.drew.cell? ⟨w1.heap.size, 0, none⟩ = some (.int .i64 0) ∧ V₂.drew.cell? ⟨V.heap.size, 1, none⟩ = some (.int .i64 c.t) := ⟨kwD.cellAt 0, kcD.cellAt 1⟩
          clear hz hfw hok hw3 hbV hbl kc kw hb2 q1 hgV hnc' k3 ks hB
          gi_wp2
          refine wpIn_round_held (fun X => X.cell? ⟨w1.heap.size, 0, none⟩ = some (.int .i64 0) ∧ X.cell? ⟨V.heap.size, 1, none⟩ = some (.int .i64 c.t)) (by kernel_rfl) (by kernel_rfl) (fun ⟨_, _, h⟩ => h) ?_
          refine wpAnyH_take (i := 0) (v := .int .i64 0) rfl (by kernel_rfl) (by kernel_rfl) (by kernel_rfl) (fun _ _ _ h => h) (Or.inl ⟨by rfl, ?_⟩) SV ?_
          · rintro X ⟨s0, s1⟩; go_simp
          change wpAnyH _ _ _ _ _ _ _ { tmps := #[.slice (some ⟨g, 0, none⟩) cs.length cap, .pointer (some ⟨w.heap.size, 0, none⟩), .bool false, .pointer (some ⟨w1.heap.size, 0, none⟩), .int .i64 (k' : Int), .pointer (some ⟨V.heap.size, 0, none⟩), .slice (some ⟨g, 0, none⟩) cs.length cap, .tuple #[], .slice (some ⟨g, 0, none⟩) cs.length cap, .func (.func 43) #[] #[.pointer (some ⟨w1.heap.size + 1, 0, none⟩)], .int .i64 (k' : Int), .agg #[.complex .f64 (FN c.i) (FN c.j), .int .i64 c.t], .int .i64 0, undef, undef, undef, undef, undef, undef, undef, undef, undef, undef, undef, undef, undef, undef, undef, undef, undef, undef], defers := [] } _
          refine wpAnyH_take (i := 1) (v := .bool false) rfl (by kernel_rfl) (by kernel_rfl) (by kernel_rfl) (fun _ _ _ h => h) (Or.inl ⟨by rfl, ?_⟩) SV ?_
          · rintro X ⟨s0, s1⟩; go_simp
          change wpAnyH _ _ _ _ _ _ _ { tmps := #[.slice (some ⟨g, 0, none⟩) cs.length cap, .pointer (some ⟨w.heap.size, 0, none⟩), .bool false, .pointer (some ⟨w1.heap.size, 0, none⟩), .int .i64 (k' : Int), .pointer (some ⟨V.heap.size, 0, none⟩), .slice (some ⟨g, 0, none⟩) cs.length cap, .tuple #[], .slice (some ⟨g, 0, none⟩) cs.length cap, .func (.func 43) #[] #[.pointer (some ⟨w1.heap.size + 1, 0, none⟩)], .int .i64 (k' : Int), .agg #[.complex .f64 (FN c.i) (FN c.j), .int .i64 c.t], .int .i64 0, .bool false, undef, undef, undef, undef, undef, undef, undef, undef, undef, undef, undef, undef, undef, undef, undef, undef, undef], defers := [] } _
          refine wpAnyH_take (i := 2) (v := .bool false) rfl (by kernel_rfl) (by kernel_rfl) (by kernel_rfl) (fun _ _ _ h => h) (Or.inl ⟨by rfl, ?_⟩) SV ?_
          · rintro X ⟨s0, s1⟩; go_simp
          change wpAnyH _ _ _ _ _ _ _ { tmps := #[.slice (some ⟨g, 0, none⟩) cs.length cap, .pointer (some ⟨w.heap.size, 0, none⟩), .bool false, .pointer (some ⟨w1.heap.size, 0, none⟩), .int .i64 (k' : Int), .pointer (some ⟨V.heap.size, 0, none⟩), .slice (some ⟨g, 0, none⟩) cs.length cap, .tuple #[], .slice (some ⟨g, 0, none⟩) cs.length cap, .func (.func 43) #[] #[.pointer (some ⟨w1.heap.size + 1, 0, none⟩)], .int .i64 (k' : Int), .agg #[.complex .f64 (FN c.i) (FN c.j), .int .i64 c.t], .int .i64 0, .bool false, .bool false, undef, undef, undef, undef, undef, undef, undef, undef, undef, undef, undef, undef, undef, undef, undef, undef], defers := [] } _
          refine wpAnyH_take (i := 3) (v := undef) rfl (by kernel_rfl) (by kernel_rfl) (by kernel_rfl) (fun _ _ _ h => h) (Or.inr ⟨by rfl, rfl⟩) SV ?_
          change wpAnyH _ _ _ _ _ _ _ { tmps := #[.slice (some ⟨g, 0, none⟩) cs.length cap, .pointer (some ⟨w.heap.size, 0, none⟩), .bool false, .pointer (some ⟨w1.heap.size, 0, none⟩), .int .i64 (k' : Int), .pointer (some ⟨V.heap.size, 0, none⟩), .slice (some ⟨g, 0, none⟩) cs.length cap, .tuple #[], .slice (some ⟨g, 0, none⟩) cs.length cap, .func (.func 43) #[] #[.pointer (some ⟨w1.heap.size + 1, 0, none⟩)], .int .i64 (k' : Int), .agg #[.complex .f64 (FN c.i) (FN c.j), .int .i64 c.t], .int .i64 0, .bool false, .bool false, undef, undef, undef, undef, undef, undef, undef, undef, undef, undef, undef, undef, undef, undef, undef, undef], defers := [] } _
          refine wpAnyH_take (i := 4) (v := undef) rfl (by kernel_rfl) (by kernel_rfl) (by kernel_rfl) (fun _ _ _ h => h) (Or.inr ⟨by rfl, rfl⟩) SV ?_
          change wpAnyH _ _ _ _ _ _ _ { tmps := #[.slice (some ⟨g, 0, none⟩) cs.length cap, .pointer (some ⟨w.heap.size, 0, none⟩), .bool false, .pointer (some ⟨w1.heap.size, 0, none⟩), .int .i64 (k' : Int), .pointer (some ⟨V.heap.size, 0, none⟩), .slice (some ⟨g, 0, none⟩) cs.length cap, .tuple #[], .slice (some ⟨g, 0, none⟩) cs.length cap, .func (.func 43) #[] #[.pointer (some ⟨w1.heap.size + 1, 0, none⟩)], .int .i64 (k' : Int), .agg #[.complex .f64 (FN c.i) (FN c.j), .int .i64 c.t], .int .i64 0, .bool false, .bool false, undef, undef, undef, undef, undef, undef, undef, undef, undef, undef, undef, undef, undef, undef, undef, undef], defers := [] } _
          refine wpAnyH_take (i := 5) (v := undef) rfl (by kernel_rfl) (by kernel_rfl) (by kernel_rfl) (fun _ _ _ h => h) (Or.inr ⟨by rfl, rfl⟩) SV ?_
          change wpAnyH _ _ _ _ _ _ _ { tmps := #[.slice (some ⟨g, 0, none⟩) cs.length cap, .pointer (some ⟨w.heap.size, 0, none⟩), .bool false, .pointer (some ⟨w1.heap.size, 0, none⟩), .int .i64 (k' : Int), .pointer (some ⟨V.heap.size, 0, none⟩), .slice (some ⟨g, 0, none⟩) cs.length cap, .tuple #[], .slice (some ⟨g, 0, none⟩) cs.length cap, .func (.func 43) #[] #[.pointer (some ⟨w1.heap.size + 1, 0, none⟩)], .int .i64 (k' : Int), .agg #[.complex .f64 (FN c.i) (FN c.j), .int .i64 c.t], .int .i64 0, .bool false, .bool false, undef, undef, undef, undef, undef, undef, undef, undef, undef, undef, undef, undef, undef, undef, undef, undef], defers := [] } _
          refine wpAnyH_take (i := 6) (v := undef) rfl (by kernel_rfl) (by kernel_rfl) (by kernel_rfl) (fun _ _ _ h => h) (Or.inr ⟨by rfl, rfl⟩) SV ?_
          change wpAnyH _ _ _ _ _ _ _ { tmps := #[.slice (some ⟨g, 0, none⟩) cs.length cap, .pointer (some ⟨w.heap.size, 0, none⟩), .bool false, .pointer (some ⟨w1.heap.size, 0, none⟩), .int .i64 (k' : Int), .pointer (some ⟨V.heap.size, 0, none⟩), .slice (some ⟨g, 0, none⟩) cs.length cap, .tuple #[], .slice (some ⟨g, 0, none⟩) cs.length cap, .func (.func 43) #[] #[.pointer (some ⟨w1.heap.size + 1, 0, none⟩)], .int .i64 (k' : Int), .agg #[.complex .f64 (FN c.i) (FN c.j), .int .i64 c.t], .int .i64 0, .bool false, .bool false, undef, undef, undef, undef, undef, undef, undef, undef, undef, undef, undef, undef, undef, undef, undef, undef], defers := [] } _
          refine wpAnyH_take (i := 7) (v := undef) rfl (by kernel_rfl) (by kernel_rfl) (by kernel_rfl) (fun _ _ _ h => h) (Or.inr ⟨by rfl, rfl⟩) SV ?_
          change wpAnyH _ _ _ _ _ _ _ { tmps := #[.slice (some ⟨g, 0, none⟩) cs.length cap, .pointer (some ⟨w.heap.size, 0, none⟩), .bool false, .pointer (some ⟨w1.heap.size, 0, none⟩), .int .i64 (k' : Int), .pointer (some ⟨V.heap.size, 0, none⟩), .slice (some ⟨g, 0, none⟩) cs.length cap, .tuple #[], .slice (some ⟨g, 0, none⟩) cs.length cap, .func (.func 43) #[] #[.pointer (some ⟨w1.heap.size + 1, 0, none⟩)], .int .i64 (k' : Int), .agg #[.complex .f64 (FN c.i) (FN c.j), .int .i64 c.t], .int .i64 0, .bool false, .bool false, undef, undef, undef, undef, undef, undef, undef, undef, undef, undef, undef, undef, undef, undef, undef, undef], defers := [] } _
          refine wpAnyH_take (i := 8) (v := undef) rfl (by kernel_rfl) (by kernel_rfl) (by kernel_rfl) (fun _ _ _ h => h) (Or.inr ⟨by rfl, rfl⟩) SV ?_
          change wpAnyH _ _ _ _ _ _ _ { tmps := #[.slice (some ⟨g, 0, none⟩) cs.length cap, .pointer (some ⟨w.heap.size, 0, none⟩), .bool false, .pointer (some ⟨w1.heap.size, 0, none⟩), .int .i64 (k' : Int), .pointer (some ⟨V.heap.size, 0, none⟩), .slice (some ⟨g, 0, none⟩) cs.length cap, .tuple #[], .slice (some ⟨g, 0, none⟩) cs.length cap, .func (.func 43) #[] #[.pointer (some ⟨w1.heap.size + 1, 0, none⟩)], .int .i64 (k' : Int), .agg #[.complex .f64 (FN c.i) (FN c.j), .int .i64 c.t], .int .i64 0, .bool false, .bool false, undef, undef, undef, undef, undef, undef, undef, undef, undef, undef, undef, undef, undef, undef, undef, undef], defers := [] } _
          refine wpAnyH_take (i := 9) (v := undef) rfl (by kernel_rfl) (by kernel_rfl) (by kernel_rfl) (fun _ _ _ h => h) (Or.inr ⟨by rfl, rfl⟩) SV ?_
          change wpAnyH _ _ _ _ _ _ _ { tmps := #[.slice (some ⟨g, 0, none⟩) cs.length cap, .pointer (some ⟨w.heap.size, 0, none⟩), .bool false, .pointer (some ⟨w1.heap.size, 0, none⟩), .int .i64 (k' : Int), .pointer (some ⟨V.heap.size, 0, none⟩), .slice (some ⟨g, 0, none⟩) cs.length cap, .tuple #[], .slice (some ⟨g, 0, none⟩) cs.length cap, .func (.func 43) #[] #[.pointer (some ⟨w1.heap.size + 1, 0, none⟩)], .int .i64 (k' : Int), .agg #[.complex .f64 (FN c.i) (FN c.j), .int .i64 c.t], .int .i64 0, .bool false, .bool false, undef, undef, undef, undef, undef, undef, undef, undef, undef, undef, undef, undef, undef, undef, undef, undef], defers := [] } _
          refine wpAnyH_take (i := 10) (v := undef) rfl (by kernel_rfl) (by kernel_rfl) (by kernel_rfl) (fun _ _ _ h => h) (Or.inr ⟨by rfl, rfl⟩) SV ?_
          change wpAnyH _ _ _ _ _ _ _ { tmps := #[.slice (some ⟨g, 0, none⟩) cs.length cap, .pointer (some ⟨w.heap.size, 0, none⟩), .bool false, .pointer (some ⟨w1.heap.size, 0, none⟩), .int .i64 (k' : Int), .pointer (some ⟨V.heap.size, 0, none⟩), .slice (some ⟨g, 0, none⟩) cs.length cap, .tuple #[], .slice (some ⟨g, 0, none⟩) cs.length cap, .func (.func 43) #[] #[.pointer (some ⟨w1.heap.size + 1, 0, none⟩)], .int .i64 (k' : Int), .agg #[.complex .f64 (FN c.i) (FN c.j), .int .i64 c.t], .int .i64 0, .bool false, .bool false, undef, undef, undef, undef, undef, undef, undef, undef, undef, undef, undef, undef, undef, undef, undef, undef], defers := [] } _
          refine wpAnyH_take (i := 11) (v := undef) rfl (by kernel_rfl) (by kernel_rfl) (by kernel_rfl) (fun _ _ _ h => h) (Or.inr ⟨by rfl, rfl⟩) SV ?_
          change wpAnyH _ _ _ _ _ _ _ { tmps := #[.slice (some ⟨g, 0, none⟩) cs.length cap, .pointer (some ⟨w.heap.size, 0, none⟩), .bool false, .pointer (some ⟨w1.heap.size, 0, none⟩), .int .i64 (k' : Int), .pointer (some ⟨V.heap.size, 0, none⟩), .slice (some ⟨g, 0, none⟩) cs.length cap, .tuple #[], .slice (some ⟨g, 0, none⟩) cs.length cap, .func (.func 43) #[] #[.pointer (some ⟨w1.heap.size + 1, 0, none⟩)], .int .i64 (k' : Int), .agg #[.complex .f64 (FN c.i) (FN c.j), .int .i64 c.t], .int .i64 0, .bool false, .bool false, undef, undef, undef, undef, undef, undef, undef, undef, undef, undef, undef, undef, undef, undef, undef, undef], defers := [] } _
          refine wpAnyH_take (i := 12) (v := .bool false) rfl (by kernel_rfl) (by kernel_rfl) (by kernel_rfl) (fun _ _ _ h => h) (Or.inl ⟨by rfl, ?_⟩) SV ?_
          · rintro X ⟨s0, s1⟩; go_simp
          change wpAnyH _ _ _ _ _ _ _ { tmps := #[.slice (some ⟨g, 0, none⟩) cs.length cap, .pointer (some ⟨w.heap.size, 0, none⟩), .bool false, .pointer (some ⟨w1.heap.size, 0, none⟩), .int .i64 (k' : Int), .pointer (some ⟨V.heap.size, 0, none⟩), .slice (some ⟨g, 0, none⟩) cs.length cap, .tuple #[], .slice (some ⟨g, 0, none⟩) cs.length cap, .func (.func 43) #[] #[.pointer (some ⟨w1.heap.size + 1, 0, none⟩)], .int .i64 (k' : Int), .agg #[.complex .f64 (FN c.i) (FN c.j), .int .i64 c.t], .int .i64 0, .bool false, .bool false, undef, undef, undef, undef, undef, undef, undef, undef, undef, .bool false, undef, undef, undef, undef, undef, undef], defers := [] } _
          refine wpAnyH_done (by kernel_rfl) ?_ _
          have HBD := Lib.hid (below_dn w1.heap.size V₂ 1)
          have HB2D := Lib.hid hb2D
          have HKW := Lib.hid kwD
          have f3 := kwD.free 0
          have c3 := kwD.cellAt 0
          have c5 := kcD.cellAt 1
          change Hid (Below w1.heap.size V₂ V₂.drew) at HBD
          generalize V₂.drew = V3 at *
          replace c3 : V3.cell? ⟨w1.heap.size, 0, none⟩ = some (.int .i64 0) := c3
          replace c5 : V3.cell? ⟨V.heap.size, 1, none⟩ = some (.int .i64 c.t) := c5
          have HEL := Lib.hid hel
          have HPS := Lib.hid hps.out
          have HPRE := Lib.hid hpre
          clear SV hb2D kwD kcD hel hps hpre' hpre
          gi_wp2
          refine ⟨(KD.out.trans (KeepsOthers.setCell _ _ _)).from _, HBD.out.setCell (p := ⟨w1.heap.size, 0, none⟩) (Nat.le_refl _) _, k' + 1, by omega, by rw [elsC_succ, HEL.out, HPRE.out], hok'.out, ?_, HB2D.out.setCell (p := ⟨w1.heap.size, 0, none⟩) (Nat.le_refl _) _⟩
          rw [HPS.out]
          have := HKW.out.set 0 (.int .i64 (0 + c.t))
          simpa using this
        · obtain ⟨s, hs'⟩ : ∃ s, psum ds k' = s := ⟨_, rfl⟩
          rw [hs'] at kwD hps hz hbd
          have k1 : 1 ≤ k' := by
            rcases Nat.eq_zero_or_pos k' with e | e
            · exact absurd (by rw [← hs', e, psum_zero]) hz
            · exact e
          obtain ⟨d, hd⟩ : ∃ d, ds[k' - 1]? = some d := ⟨ds[k' - 1], List.getElem?_eq_getElem (by omega)⟩
          have q2 : V₂.drew.cell? ⟨g, (k' - 1) * 2, none⟩ = some (.complex .f64 (FN d.i) (FN d.j)) := (hb2D.cell (p := ⟨g, (k' - 1) * 2, none⟩) hglt1).trans (HC.out _ _ (by have := encC_get ds (k' - 1) d hd 0 _ rfl; simpa using this))
          have q1D : V₂.drew.cell? ⟨w.heap.size, 0, none⟩ = some (.slice (some ⟨g, 0, none⟩) cs.length cap) := q1
          obtain ⟨bb, hbb⟩ : ∃ bb, (!((FloatKind.f64.format.order (FN c.i) (FN d.i) == some .eq) && (FloatKind.f64.format.order (FN c.j) (FN d.j) == some .eq))) = bb := ⟨_, rfl⟩
          have hbb' : bb = !(decide (c.i.1 = d.i.1) && decide (c.j.1 = d.j.1)) := by rw [← hbb, FN_eq c.i.2 d.i.2, FN_eq c.j.2 d.j.2]
          have hsz' : (s != 0) = true := by simpa using hz
          have hkl2 : k' - 1 < cs.length := by have := HL.out; omega
          have hwr : IntKind.i64.wrap ((k' : Int) - 1) = (k' : Int) - 1 := by simp [IntKind.wrap, IntKind.bits, IntKind.signed]; omega
          have hix : ((k' : Int) - 1).toNat = k' - 1 := by omega
          have hix0 : 0 ≤ (k' : Int) - 1 := by omega
          have hix1 : (k' : Int) - 1 < (cs.length : Int) := by omega
          have SV : V₂.drew.cell? ⟨w1.heap.size, 0, none⟩ = some (.int .i64 s) ∧ V₂.drew.cell? ⟨V.heap.size, 0, none⟩ = some (.complex .f64 (FN c.i) (FN c.j)) ∧ V₂.drew.cell? ⟨V.heap.size, 1, none⟩ = some (.int .i64 c.t) ∧ V₂.drew.cell? ⟨w.heap.size, 0, none⟩ = some (.slice (some ⟨g, 0, none⟩) cs.length cap) ∧ V₂.drew.cell? ⟨g, (k' - 1) * 2, none⟩ = some (.complex .f64 (FN d.i) (FN d.j)) :=
            ⟨kwD.cellAt 0, kcD.cellAt 0, kcD.cellAt 1, q1D, q2⟩
          have HBB := Lib.hid hbb'
          have HSS := Lib.hid hs'
          clear hfw hw3 hbV hbl kc kw hb2 q1 hgV hnc' k3 ks hB hbb' hs' q2 q1D
          gi_wp2
          refine wpIn_round_held (fun X => X.cell? ⟨w1.heap.size, 0, none⟩ = some (.int .i64 s) ∧ X.cell? ⟨V.heap.size, 0, none⟩ = some (.complex .f64 (FN c.i) (FN c.j)) ∧ X.cell? ⟨V.heap.size, 1, none⟩ = some (.int .i64 c.t) ∧ X.cell? ⟨w.heap.size, 0, none⟩ = some (.slice (some ⟨g, 0, none⟩) cs.length cap) ∧ X.cell? ⟨g, (k' - 1) * 2, none⟩ = some (.complex .f64 (FN d.i) (FN d.j))) (by kernel_rfl) (by kernel_rfl) (fun ⟨_, _, h⟩ => h) ?_
          refine wpAnyH_take (i := 0) (v := .int .i64 s) rfl (by kernel_rfl) (by kernel_rfl) (by kernel_rfl) (fun _ _ _ h => h) (Or.inl ⟨by rfl, ?_⟩) SV ?_
          · rintro X ⟨s0, s1, s2, s3, s4⟩; go_simp
          change wpAnyH _ _ _ _ _ _ _ { tmps := #[.slice (some ⟨g, 0, none⟩) cs.length cap, .pointer (some ⟨w.heap.size, 0, none⟩), .bool false, .pointer (some ⟨w1.heap.size, 0, none⟩), .int .i64 (k' : Int), .pointer (some ⟨V.heap.size, 0, none⟩), .slice (some ⟨g, 0, none⟩) cs.length cap, .tuple #[], .slice (some ⟨g, 0, none⟩) cs.length cap, .func (.func 43) #[] #[.pointer (some ⟨w1.heap.size + 1, 0, none⟩)], .int .i64 (k' : Int), .agg #[.complex .f64 (FN c.i) (FN c.j), .int .i64 c.t], .int .i64 s, undef, undef, undef, undef, undef, undef, undef, undef, undef, undef, undef, undef, undef, undef, undef, undef, undef, undef], defers := [] } _
          refine wpAnyH_take (i := 1) (v := .bool true) rfl (by kernel_rfl) (by kernel_rfl) (by kernel_rfl) (fun _ _ _ h => h) (Or.inl ⟨by rfl, ?_⟩) SV ?_
          · rintro X ⟨s0, s1, s2, s3, s4⟩; go_simp
          change wpAnyH _ _ _ _ _ _ _ { tmps := #[.slice (some ⟨g, 0, none⟩) cs.length cap, .pointer (some ⟨w.heap.size, 0, none⟩), .bool false, .pointer (some ⟨w1.heap.size, 0, none⟩), .int .i64 (k' : Int), .pointer (some ⟨V.heap.size, 0, none⟩), .slice (some ⟨g, 0, none⟩) cs.length cap, .tuple #[], .slice (some ⟨g, 0, none⟩) cs.length cap, .func (.func 43) #[] #[.pointer (some ⟨w1.heap.size + 1, 0, none⟩)], .int .i64 (k' : Int), .agg #[.complex .f64 (FN c.i) (FN c.j), .int .i64 c.t], .int .i64 s, .bool true, undef, undef, undef, undef, undef, undef, undef, undef, undef, undef, undef, undef, undef, undef, undef, undef, undef], defers := [] } _
          refine wpAnyH_take (i := 2) (v := .bool true) rfl (by kernel_rfl) (by kernel_rfl) (by kernel_rfl) (fun _ _ _ h => h) (Or.inl ⟨by rfl, ?_⟩) SV ?_
          · rintro X ⟨s0, s1, s2, s3, s4⟩; go_simp
          change wpAnyH _ _ _ _ _ _ _ { tmps := #[.slice (some ⟨g, 0, none⟩) cs.length cap, .pointer (some ⟨w.heap.size, 0, none⟩), .bool false, .pointer (some ⟨w1.heap.size, 0, none⟩), .int .i64 (k' : Int), .pointer (some ⟨V.heap.size, 0, none⟩), .slice (some ⟨g, 0, none⟩) cs.length cap, .tuple #[], .slice (some ⟨g, 0, none⟩) cs.length cap, .func (.func 43) #[] #[.pointer (some ⟨w1.heap.size + 1, 0, none⟩)], .int .i64 (k' : Int), .agg #[.complex .f64 (FN c.i) (FN c.j), .int .i64 c.t], .int .i64 s, .bool true, .bool true, undef, undef, undef, undef, undef, undef, undef, undef, undef, undef, undef, undef, undef, undef, undef, undef], defers := [] } _
          refine wpAnyH_take (i := 3) (v := .pointer (some ⟨V.heap.size, 0, none⟩)) rfl (by kernel_rfl) (by kernel_rfl) (by kernel_rfl) (fun _ _ _ h => h) (Or.inl ⟨by rfl, ?_⟩) SV ?_
          · rintro X ⟨s0, s1, s2, s3, s4⟩; go_simp
          change wpAnyH _ _ _ _ _ _ _ { tmps := #[.slice (some ⟨g, 0, none⟩) cs.length cap, .pointer (some ⟨w.heap.size, 0, none⟩), .bool false, .pointer (some ⟨w1.heap.size, 0, none⟩), .int .i64 (k' : Int), .pointer (some ⟨V.heap.size, 0, none⟩), .slice (some ⟨g, 0, none⟩) cs.length cap, .tuple #[], .slice (some ⟨g, 0, none⟩) cs.length cap, .func (.func 43) #[] #[.pointer (some ⟨w1.heap.size + 1, 0, none⟩)], .int .i64 (k' : Int), .agg #[.complex .f64 (FN c.i) (FN c.j), .int .i64 c.t], .int .i64 s, .bool true, .bool true, .pointer (some ⟨V.heap.size, 0, none⟩), undef, undef, undef, undef, undef, undef, undef, undef, undef, undef, undef, undef, undef, undef, undef], defers := [] } _
          refine wpAnyH_take (i := 4) (v := .complex .f64 (FN c.i) (FN c.j)) rfl (by kernel_rfl) (by kernel_rfl) (by kernel_rfl) (fun _ _ _ h => h) (Or.inl ⟨by rfl, ?_⟩) SV ?_
          · rintro X ⟨s0, s1, s2, s3, s4⟩; go_simp
          change wpAnyH _ _ _ _ _ _ _ { tmps := #[.slice (some ⟨g, 0, none⟩) cs.length cap, .pointer (some ⟨w.heap.size, 0, none⟩), .bool false, .pointer (some ⟨w1.heap.size, 0, none⟩), .int .i64 (k' : Int), .pointer (some ⟨V.heap.size, 0, none⟩), .slice (some ⟨g, 0, none⟩) cs.length cap, .tuple #[], .slice (some ⟨g, 0, none⟩) cs.length cap, .func (.func 43) #[] #[.pointer (some ⟨w1.heap.size + 1, 0, none⟩)], .int .i64 (k' : Int), .agg #[.complex .f64 (FN c.i) (FN c.j), .int .i64 c.t], .int .i64 s, .bool true, .bool true, .pointer (some ⟨V.heap.size, 0, none⟩), .complex .f64 (FN c.i) (FN c.j), undef, undef, undef, undef, undef, undef, undef, undef, undef, undef, undef, undef, undef, undef], defers := [] } _
          refine wpAnyH_take (i := 5) (v := .slice (some ⟨g, 0, none⟩) cs.length cap) rfl (by kernel_rfl) (by kernel_rfl) (by kernel_rfl) (fun _ _ _ h => h) (Or.inl ⟨by rfl, ?_⟩) SV ?_
          · rintro X ⟨s0, s1, s2, s3, s4⟩; go_simp
          change wpAnyH _ _ _ _ _ _ _ { tmps := #[.slice (some ⟨g, 0, none⟩) cs.length cap, .pointer (some ⟨w.heap.size, 0, none⟩), .bool false, .pointer (some ⟨w1.heap.size, 0, none⟩), .int .i64 (k' : Int), .pointer (some ⟨V.heap.size, 0, none⟩), .slice (some ⟨g, 0, none⟩) cs.length cap, .tuple #[], .slice (some ⟨g, 0, none⟩) cs.length cap, .func (.func 43) #[] #[.pointer (some ⟨w1.heap.size + 1, 0, none⟩)], .int .i64 (k' : Int), .agg #[.complex .f64 (FN c.i) (FN c.j), .int .i64 c.t], .int .i64 s, .bool true, .bool true, .pointer (some ⟨V.heap.size, 0, none⟩), .complex .f64 (FN c.i) (FN c.j), .slice (some ⟨g, 0, none⟩) cs.length cap, undef, undef, undef, undef, undef, undef, undef, undef, undef, undef, undef, undef, undef], defers := [] } _
          refine wpAnyH_take (i := 6) (v := .int .i64 (k' : Int)) rfl (by kernel_rfl) (by kernel_rfl) (by kernel_rfl) (fun _ _ _ h => h) (Or.inl ⟨by rfl, ?_⟩) SV ?_
          · rintro X ⟨s0, s1, s2, s3, s4⟩; go_simp
          change wpAnyH _ _ _ _ _ _ _ { tmps := #[.slice (some ⟨g, 0, none⟩) cs.length cap, .pointer (some ⟨w.heap.size, 0, none⟩), .bool false, .pointer (some ⟨w1.heap.size, 0, none⟩), .int .i64 (k' : Int), .pointer (some ⟨V.heap.size, 0, none⟩), .slice (some ⟨g, 0, none⟩) cs.length cap, .tuple #[], .slice (some ⟨g, 0, none⟩) cs.length cap, .func (.func 43) #[] #[.pointer (some ⟨w1.heap.size + 1, 0, none⟩)], .int .i64 (k' : Int), .agg #[.complex .f64 (FN c.i) (FN c.j), .int .i64 c.t], .int .i64 s, .bool true, .bool true, .pointer (some ⟨V.heap.size, 0, none⟩), .complex .f64 (FN c.i) (FN c.j), .slice (some ⟨g, 0, none⟩) cs.length cap, .int .i64 (k' : Int), undef, undef, undef, undef, undef, undef, undef, undef, undef, undef, undef, undef], defers := [] } _
          refine wpAnyH_take (i := 7) (v := .int .i64 ((k' : Int) - 1)) rfl (by kernel_rfl) (by kernel_rfl) (by kernel_rfl) (fun _ _ _ h => h) (Or.inl ⟨by rfl, ?_⟩) SV ?_
          · rintro X ⟨s0, s1, s2, s3, s4⟩; go_simp
          change wpAnyH _ _ _ _ _ _ _ { tmps := #[.slice (some ⟨g, 0, none⟩) cs.length cap, .pointer (some ⟨w.heap.size, 0, none⟩), .bool false, .pointer (some ⟨w1.heap.size, 0, none⟩), .int .i64 (k' : Int), .pointer (some ⟨V.heap.size, 0, none⟩), .slice (some ⟨g, 0, none⟩) cs.length cap, .tuple #[], .slice (some ⟨g, 0, none⟩) cs.length cap, .func (.func 43) #[] #[.pointer (some ⟨w1.heap.size + 1, 0, none⟩)], .int .i64 (k' : Int), .agg #[.complex .f64 (FN c.i) (FN c.j), .int .i64 c.t], .int .i64 s, .bool true, .bool true, .pointer (some ⟨V.heap.size, 0, none⟩), .complex .f64 (FN c.i) (FN c.j), .slice (some ⟨g, 0, none⟩) cs.length cap, .int .i64 (k' : Int), .int .i64 ((k' : Int) - 1), undef, undef, undef, undef, undef, undef, undef, undef, undef, undef, undef], defers := [] } _
          refine wpAnyH_take (i := 8) (v := .pointer (some ⟨g, (k' - 1) * 2, none⟩)) rfl (by kernel_rfl) (by kernel_rfl) (by kernel_rfl) (fun _ _ _ h => h) (Or.inl ⟨by rfl, ?_⟩) SV ?_
          · rintro X ⟨s0, s1, s2, s3, s4⟩; go_simp; intro hh; omega
          change wpAnyH _ _ _ _ _ _ _ { tmps := #[.slice (some ⟨g, 0, none⟩) cs.length cap, .pointer (some ⟨w.heap.size, 0, none⟩), .bool false, .pointer (some ⟨w1.heap.size, 0, none⟩), .int .i64 (k' : Int), .pointer (some ⟨V.heap.size, 0, none⟩), .slice (some ⟨g, 0, none⟩) cs.length cap, .tuple #[], .slice (some ⟨g, 0, none⟩) cs.length cap, .func (.func 43) #[] #[.pointer (some ⟨w1.heap.size + 1, 0, none⟩)], .int .i64 (k' : Int), .agg #[.complex .f64 (FN c.i) (FN c.j), .int .i64 c.t], .int .i64 s, .bool true, .bool true, .pointer (some ⟨V.heap.size, 0, none⟩), .complex .f64 (FN c.i) (FN c.j), .slice (some ⟨g, 0, none⟩) cs.length cap, .int .i64 (k' : Int), .int .i64 ((k' : Int) - 1), .pointer (some ⟨g, (k' - 1) * 2, none⟩), undef, undef, undef, undef, undef, undef, undef, undef, undef, undef], defers := [] } _
          refine wpAnyH_take (i := 9) (v := .pointer (some ⟨g, (k' - 1) * 2, none⟩)) rfl (by kernel_rfl) (by kernel_rfl) (by kernel_rfl) (fun _ _ _ h => h) (Or.inl ⟨by rfl, ?_⟩) SV ?_
          · rintro X ⟨s0, s1, s2, s3, s4⟩; go_simp
          change wpAnyH _ _ _ _ _ _ _ { tmps := #[.slice (some ⟨g, 0, none⟩) cs.length cap, .pointer (some ⟨w.heap.size, 0, none⟩), .bool false, .pointer (some ⟨w1.heap.size, 0, none⟩), .int .i64 (k' : Int), .pointer (some ⟨V.heap.size, 0, none⟩), .slice (some ⟨g, 0, none⟩) cs.length cap, .tuple #[], .slice (some ⟨g, 0, none⟩) cs.length cap, .func (.func 43) #[] #[.pointer (some ⟨w1.heap.size + 1, 0, none⟩)], .int .i64 (k' : Int), .agg #[.complex .f64 (FN c.i) (FN c.j), .int .i64 c.t], .int .i64 s, .bool true, .bool true, .pointer (some ⟨V.heap.size, 0, none⟩), .complex .f64 (FN c.i) (FN c.j), .slice (some ⟨g, 0, none⟩) cs.length cap, .int .i64 (k' : Int), .int .i64 ((k' : Int) - 1), .pointer (some ⟨g, (k' - 1) * 2, none⟩), .pointer (some ⟨g, (k' - 1) * 2, none⟩), undef, undef, undef, undef, undef, undef, undef, undef, undef], defers := [] } _
          refine wpAnyH_take (i := 10) (v := .complex .f64 (FN d.i) (FN d.j)) rfl (by kernel_rfl) (by kernel_rfl) (by kernel_rfl) (fun _ _ _ h => h) (Or.inl ⟨by rfl, ?_⟩) SV ?_
          · rintro X ⟨s0, s1, s2, s3, s4⟩; go_simp
          change wpAnyH _ _ _ _ _ _ _ { tmps := #[.slice (some ⟨g, 0, none⟩) cs.length cap, .pointer (some ⟨w.heap.size, 0, none⟩), .bool false, .pointer (some ⟨w1.heap.size, 0, none⟩), .int .i64 (k' : Int), .pointer (some ⟨V.heap.size, 0, none⟩), .slice (some ⟨g, 0, none⟩) cs.length cap, .tuple #[], .slice (some ⟨g, 0, none⟩) cs.length cap, .func (.func 43) #[] #[.pointer (some ⟨w1.heap.size + 1, 0, none⟩)], .int .i64 (k' : Int), .agg #[.complex .f64 (FN c.i) (FN c.j), .int .i64 c.t], .int .i64 s, .bool true, .bool true, .pointer (some ⟨V.heap.size, 0, none⟩), .complex .f64 (FN c.i) (FN c.j), .slice (some ⟨g, 0, none⟩) cs.length cap, .int .i64 (k' : Int), .int .i64 ((k' : Int) - 1), .pointer (some ⟨g, (k' - 1) * 2, none⟩), .pointer (some ⟨g, (k' - 1) * 2, none⟩), .complex .f64 (FN d.i) (FN d.j), undef, undef, undef, undef, undef, undef, undef, undef], defers := [] } _
          refine wpAnyH_take (i := 11) (v := .bool bb) rfl (by kernel_rfl) (by kernel_rfl) (by kernel_rfl) (fun _ _ _ h => h) (Or.inl ⟨by rfl, ?_⟩) SV ?_
          · rintro X ⟨s0, s1, s2, s3, s4⟩; go_simp
          change wpAnyH _ _ _ _ _ _ _ { tmps := #[.slice (some ⟨g, 0, none⟩) cs.length cap, .pointer (some ⟨w.heap.size, 0, none⟩), .bool false, .pointer (some ⟨w1.heap.size, 0, none⟩), .int .i64 (k' : Int), .pointer (some ⟨V.heap.size, 0, none⟩), .slice (some ⟨g, 0, none⟩) cs.length cap, .tuple #[], .slice (some ⟨g, 0, none⟩) cs.length cap, .func (.func 43) #[] #[.pointer (some ⟨w1.heap.size + 1, 0, none⟩)], .int .i64 (k' : Int), .agg #[.complex .f64 (FN c.i) (FN c.j), .int .i64 c.t], .int .i64 s, .bool true, .bool true, .pointer (some ⟨V.heap.size, 0, none⟩), .complex .f64 (FN c.i) (FN c.j), .slice (some ⟨g, 0, none⟩) cs.length cap, .int .i64 (k' : Int), .int .i64 ((k' : Int) - 1), .pointer (some ⟨g, (k' - 1) * 2, none⟩), .pointer (some ⟨g, (k' - 1) * 2, none⟩), .complex .f64 (FN d.i) (FN d.j), .bool bb, undef, undef, undef, undef, undef, undef, undef], defers := [] } _
          refine wpAnyH_take (i := 12) (v := .bool bb) rfl (by kernel_rfl) (by kernel_rfl) (by kernel_rfl) (fun _ _ _ h => h) (Or.inl ⟨by rfl, ?_⟩) SV ?_
          · rintro X ⟨s0, s1, s2, s3, s4⟩; go_simp
          change wpAnyH _ _ _ _ _ _ _ { tmps := #[.slice (some ⟨g, 0, none⟩) cs.length cap, .pointer (some ⟨w.heap.size, 0, none⟩), .bool false, .pointer (some ⟨w1.heap.size, 0, none⟩), .int .i64 (k' : Int), .pointer (some ⟨V.heap.size, 0, none⟩), .slice (some ⟨g, 0, none⟩) cs.length cap, .tuple #[], .slice (some ⟨g, 0, none⟩) cs.length cap, .func (.func 43) #[] #[.pointer (some ⟨w1.heap.size + 1, 0, none⟩)], .int .i64 (k' : Int), .agg #[.complex .f64 (FN c.i) (FN c.j), .int .i64 c.t], .int .i64 s, .bool true, .bool true, .pointer (some ⟨V.heap.size, 0, none⟩), .complex .f64 (FN c.i) (FN c.j), .slice (some ⟨g, 0, none⟩) cs.length cap, .int .i64 (k' : Int), .int .i64 ((k' : Int) - 1), .pointer (some ⟨g, (k' - 1) * 2, none⟩), .pointer (some ⟨g, (k' - 1) * 2, none⟩), .complex .f64 (FN d.i) (FN d.j), .bool bb, .bool bb, undef, undef, undef, undef, undef, undef], defers := [] } _
          refine wpAnyH_done (by kernel_rfl) ?_ _
          have HBD := Lib.hid (below_dn w1.heap.size V₂ 1)
          have HB2D := Lib.hid hb2D
          have HKW := Lib.hid kwD
          have f3 := kwD.free 0
          have c3 := kwD.cellAt 0
          have c5 := kcD.cellAt 1
          change Hid (Below w1.heap.size V₂ V₂.drew) at HBD
          generalize V₂.drew = V3 at *
          replace c3 : V3.cell? ⟨w1.heap.size, 0, none⟩ = some (.int .i64 s) := c3
          replace c5 : V3.cell? ⟨V.heap.size, 1, none⟩ = some (.int .i64 c.t) := c5
          have HEL := Lib.hid hel
          have HPS := Lib.hid hps.out
          have HPRE := Lib.hid hpre
          clear SV hb2D kwD kcD hel hps hpre' hpre
          cases bb with
          | true =>
            have hne : atC c ≠ atC d := fun e => by
              obtain ⟨e1, e2⟩ := atC_eq.1 e
              have := HBB.out; simp [e1, e2] at this
            have hcx := Lib.hid (canc_stop HS.out k1 hd hc (by rw [HSS.out]; exact hz) hne)
            gi_wp2
            apply wpIn_goto
            exact ⟨KD.out.from _, rfl, hcx.out, ⟨s, hz, HKW.out⟩, HB2D.out⟩
          | false =>
            have he : atC c = atC d := by
              have := HBB.out
              simp at this
              exact atC_eq.2 (by omega)
            have hok' : Hid (okTo ds (k' + 1)) := Lib.hid (okTo_step hok fun a b _ ha hb => by rw [hd] at ha; rw [hc] at hb; cases ha; cases hb; exact .inr he)
            have hwr2 : IntKind.i64.wrap (s + c.t) = s + c.t := by simp [IntKind.wrap, IntKind.bits, IntKind.signed]; omega
            clear he hok
            gi_wp2
            refine ⟨(KD.out.trans (KeepsOthers.setCell _ _ _)).from _, HBD.out.setCell (p := ⟨w1.heap.size, 0, none⟩) (Nat.le_refl _) _, k' + 1, by omega, by rw [elsC_succ, HEL.out, HPRE.out], hok'.out, ?_, HB2D.out.setCell (p := ⟨w1.heap.size, 0, none⟩) (Nat.le_refl _) _⟩
            rw [HPS.out]
            have := HKW.out.set 0 (.int .i64 (s + c.t))
            simpa using this
    case done =>
      rintro D ys V hD rfl ⟨k, hk, hpre, hok, hw3, hbV⟩ hDd
      obtain rfl : ds.length = k := by have := congrArg List.length hpre; rw [elsC_len, elsC_len] at this; exact this
      have hres : Hid ((psum ds ds.length == 0) = cancB cs) := Lib.hid ((canc_end HS.out hl1 hok).trans (cancB_perm HP.out))
      go_wp2
      apply wp_label
      rename_i hK
      have c3 : V.cell? ⟨w1.heap.size, 0, none⟩ = some (.int .i64 (psum ds ds.length)) := hw3.cellAt 0
      have HM := Lib.hid ((Marks.nil w.heap.size V).cons (D := D) (by omega) hDd (fun E hE => by cases hE))
      have HG := Lib.hid (grown_below HGR.out (hbV.mono (by omega)))
      generalize psum ds ds.length = s at *
      clear hw3 hDd hbV hok hpre kb cb HC htd ks k3 hB hk
      refine hK _ _ ?_
      clear hK
      go_wp2
      refine leaves_marks w.heap.size [D] _ HM.out (fun W' hck hbk => ⟨_, results_tmp rfl _ _ _, ?_⟩)
      exact ⟨by rw [← hres.out]; rfl, grown_below HG.out hbk⟩
    case stop =>
      rintro D c pre W hD _ ⟨rfl, hcx, ⟨s, hs0, hw3⟩, hbW⟩ hDd
      apply wpIn_goto
      exact ⟨rfl, w1.heap.size, D, s, rfl, by omega, hDd, Lib.hid (by rw [← cancB_perm HP.out, hcx]; simpa using hs0), hw3, grown_below HGR.out (hbW.mono (by omega))⟩
  · rintro a W ⟨b3, D, s, rfl, hD, hDd, hsz0, hw3, hgr⟩
    have c3 : W.cell? ⟨b3, 0, none⟩ = some (.int .i64 s) := hw3.cellAt 0
    have HM := Lib.hid ((Marks.nil w.heap.size W).cons (D := D) hD hDd (fun E hE => by cases hE))
    have HG := Lib.hid hgr
    clear hw3 hDd hgr SC ht
    go_wp2
    refine leaves_marks w.heap.size [D] _ HM.out (fun W' hck hbk => ⟨_, results_tmp rfl _ _ _, ?_⟩)
    exact ⟨by rw [← hsz0.out]; rfl, grown_below HG.out hbk⟩
end Go.Proofs.Ytjdnhpbifblneaa
