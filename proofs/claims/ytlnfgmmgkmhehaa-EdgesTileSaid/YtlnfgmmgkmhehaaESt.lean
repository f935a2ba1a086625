/- The iterator over the starts of bands (edges.starts). -/
import Derived.Test.YtlnfgmmgkmhehaaERight
import Derived.Test.YtlnfgmmgkmhehaaLnWidM
namespace Go.Proofs.Ytlnfgmmgkmhehaa
open Go.RowKit Go.Shelf
set_option linter.unusedVariables false
attribute [local go_sem] Oper.semAt_some

/-- where the k-th band starts -/
def begW (g : Int) (bs : List Int) (k : Nat) : Int := g + preW g k bs
theorem begW_bd {g : Int} {bs : List Int} (h : okW g bs) {k : Nat} (hk : k ≤ bs.length) : 0 ≤ begW g bs k ∧ begW g bs k ≤ 21476000000000 := by
  have := preW_bd h k hk
  have := h.2.1
  have := h.1
  unfold begW; omega
def encS (g : Int) (bs : List Int) (k : Nat) : Array Value := #[.int .i64 (begW g bs k)]
def nxtS (bs : List Int) (pre : List Nat) (x : Nat) : Prop := x = pre.length ∧ x ≤ bs.length
set_option maxRecDepth 100000 in
set_option maxHeartbeats 2000000 in
theorem starts_in (n : Nat) (hn : 1 ≤ n) (l B g1 g2 m c : Nat) (p : Option Addr) (b : Int) (ws : List Int) (hm : ws.length = m) (hok : okW b ws) (J Jx : List Nat → World → Prop)
    (hY : ∀ pre x W, J pre W → nxtS ws pre x → YieldAt Fence.wide (n - 1) Try.prog l (encS b ws x) W fun e W' =>
      (e = .returned (.bool true) ∧ J (pre ++ [x]) W' ∧ KeepL (WidMem B g1 g2 b (.slice p m c) ws) W W') ∨ (e = .returned (.bool false) ∧ Jx (pre ++ [x]) W'))
    (W : World) (hJ : AbidesFrom W.heap.size J) (hR : WidMem B g1 g2 b (.slice p m c) ws W) (h0 : J [] W) :
    CallsIn Fence.wide n Try.prog 35 #[.func (.yield l) #[] #[], .pointer (some ⟨g1, 0, none⟩), .pointer (some ⟨g2, 0, none⟩)] W fun e W' => (∃ v, e = .returned v) ∧
      ((∃ ys, ys.length = ws.length + 1 ∧ J ys W') ∨ (∃ pre, True ∧ Jx pre W')) := by
  refine callsIn_of_wp Try.func35 rfl trivial ?_ rfl
  simp only [Try.ntmps35, List.size_toArray, List.length_cons, List.length_nil, Nat.reduceAdd, Nat.reduceSub, Array.replicate_succ, Array.replicate_zero, List.push_toArray, List.append_toArray, List.nil_append, List.cons_append]
  have HY := Lib.hid hY
  have HJ := Lib.hid hJ
  have HR0 := Lib.hid hR
  have H0 := Lib.hid h0
  have HM := Lib.hid hm
  have HO := Lib.hid hok
  have hmm : m ≤ 10000 := by have := hok.2.1; omega
  have hb1 := hok.1.1
  have hb2 := hok.1.2
  have bx := hR.c1
  have bx2 := hR.c2
  have lb := hR.l1
  have lb2 := hR.l2
  clear hY hJ h0 hm hR hok
  gi_wp2
  gi_loopw [4, 10] (fun s4 s11 X => ∃ (t : Nat) (pre : List Nat), t ≤ m ∧ s11 = .int .i64 t ∧ s4 = .int .i64 (begW b ws t) ∧ Hid (pre.length = t) ∧ Hid (J pre X) ∧ Hid (WidMem B g1 g2 b (.slice p m c) ws X) ∧ Hid (W.heap.size ≤ X.heap.size)) (fun _ s11 _ => m - (intOf s11).toNat)
  case atStart => exact ⟨0, [], Nat.zero_le _, rfl, by simp [begW, preW], Lib.hid rfl, H0, HR0, Lib.hid (Nat.le_refl _)⟩
  case round =>
    obtain ⟨t, pre, ht, rfl, rfl, HE, HJ1, HR, HZ⟩ := hrel
    clear bx bx2 lb lb2
    by_cases hlt : t < m
    · obtain ⟨x, hx⟩ : ∃ x, ws[t]? = some x := ⟨_, List.getElem?_eq_getElem (by rw [HM.out]; exact hlt)⟩
      obtain ⟨bb, off, rfl, hbB, crow⟩ := HR.out.low.at t x hx
      have hbs : bb < wr.heap.size := by have := HR.out.size; omega
      have hx2 := HO.out.2.2 x (List.mem_iff_getElem?.2 ⟨t, hx⟩)
      have hp := begW_bd HO.out (k := t) (by have := HM.out; omega)
      have HS := Lib.hid (preW_succ b t ws x hx)
      obtain ⟨fn, tmps, assign, body, hy, hRR⟩ := HY.out pre t wr HJ1.out ⟨HE.out.symm, by rw [HM.out]; omega⟩
      dsimp only [encS] at hy
      have hS2 : addS [begW b ws t, x, b] = begW b ws (t + 1) := by rw [addS3 _ _ _ (by omega) (by omega) (by omega) (by omega) (by omega) (by omega)]; simp only [begW, HS.out]; omega
      have HS2 := Lib.hid hS2
      obtain ⟨q, hq⟩ : ∃ q, begW b ws t = q := ⟨_, rfl⟩
      rw [hq] at hy hp HS2 ⊢
      have HRn := Lib.hid hRR
      clear HJ1 hRR HY HS hS2 hq
      gi_wp2
      refine HRn.out.mono ?_
      rintro e W3 (⟨rfl, hJ3, hk3⟩ | ⟨rfl, hJx3⟩)
      · have hS3 := hk3.2 HR.out
        have bx := hS3.c1
        have lb := hS3.l1
        obtain ⟨V, hV⟩ : ∃ V, W3.alloc (.cells #[.int .i64 q, .int .i64 x, .int .i64 b] 2) = V := ⟨_, rfl⟩
        have bV : Below W3.heap.size W3 V := hV ▸ (Below.refl _ W3).alloc (Nat.le_refl _) _
        have HN : Hid (Nums .i64 V (.slice (some ⟨W3.heap.size, 0, none⟩) 3 3) [q, x, b]) := Lib.hid ⟨by simp, .inr ⟨W3.heap.size, 0, 3, rfl, by simp, by omega, fun j hj => by
          have := (whole_new W3 [.int .i64 q, .int .i64 x, .int .i64 b] 2 _ rfl).cellAt j
          rw [hV] at this
          rw [Nat.zero_add, this]
          simp only [List.length_cons, List.length_nil] at hj
          rcases j with _ | _ | _ | j <;> first | rfl | omega⟩⟩
        have HI64 : Hid (In64 [q, x, b]) := Lib.hid fun j hj => by
          simp only [List.length_cons, List.length_nil] at hj
          rcases j with _ | _ | _ | j <;> simp <;> omega
        have H3 := Lib.hid (abidesL HJ.out hJ3 bV)
        have K3 := Lib.hid (hS3.below bV)
        have hZV : Hid (W.heap.size ≤ V.heap.size) := Lib.hid (Nat.le_trans HZ.out (Nat.le_trans hk3.1 bV.size))
        clear hJ3 hk3 hS3 HRn hy HR HZ
        gi_wp2_with (refine ⟨trivial, ?_⟩; gi_at_call 19; refine (callsIn_wide.2 (add_any _ _ _ HN.out HI64.out)).mono ?_; rintro e w7 ⟨rfl, rfl⟩; clear hV)
        go_roundw
        case rel => exact ⟨t + 1, pre ++ [t], by omega, by go_num, by rw [HS2.out], Lib.hid (by simp [HE.out]), H3, K3, hZV⟩
        case measure => simp [intOf]; omega
      · have H3 := Lib.hid hJx3
        clear hJx3 HRn hy
        gi_wp2
        refine bodyPost_ret (results_none rfl _ _ _) rfl ?_
        exact ⟨⟨_, rfl⟩, .inr ⟨_, trivial, H3.out⟩⟩
    · have HE2 : Hid (pre.length = ws.length) := Lib.hid (by rw [HE.out, HM.out]; omega)
      have ht2 : t = ws.length := by have := HM.out; omega
      obtain ⟨fn, tmps, assign, body, hy, hRR⟩ := HY.out pre t wr HJ1.out ⟨HE.out.symm, by omega⟩
      dsimp only [encS] at hy
      have HRn := Lib.hid hRR
      clear HJ1 hRR HY ht2
      gi_wp2
      refine HRn.out.mono ?_
      rintro e W3 (⟨rfl, hJ3, hk3⟩ | ⟨rfl, hJx3⟩)
      · have H3 := Lib.hid hJ3
        clear hJ3 hk3 HRn hy
        gi_wp2
        go_end0
        exact ⟨⟨_, rfl⟩, .inl ⟨_, by simp [HE2.out], H3.out⟩⟩
      · have H3 := Lib.hid hJx3
        clear hJx3 HRn hy
        gi_wp2
        go_end0
        exact ⟨⟨_, rfl⟩, .inr ⟨_, trivial, H3.out⟩⟩
theorem starts_next (n : Nat) (hn : 1 ≤ n) (B g1 g2 : Nat) (b : Int) (v : Value) (ws : List Int) (w : World) (hok : okW b ws) (hR : WidMem B g1 g2 b v ws w) :
    SeqNext Fence.wide n Try.prog 35 #[.pointer (some ⟨g1, 0, none⟩), .pointer (some ⟨g2, 0, none⟩)] (encS b ws) (KeepL (WidMem B g1 g2 b v ws)) (nxtS ws) (fun ys => ys.length = ws.length + 1) (fun _ => True) w := by
  obtain ⟨p, c, rfl⟩ := hR.low.form
  exact fun l J Jx W hW hJ hY h0 => starts_in n hn l _ g1 g2 ws.length c p b ws rfl hok J Jx hY W hJ (hR.below hW) h0
theorem startsF_any (b : Int) (p : Option Addr) (m c : Nat) (w : World) :
    Calls Try.prog 30 #[.int .i64 b, .slice p m c] w fun e w' => e = .returned (.func (.func 35) #[] #[.pointer (some ⟨w.heap.size, 0, none⟩), .pointer (some ⟨w.heap.size + 1, 0, none⟩)]) ∧
      w' = (w.alloc (.cells #[.int .i64 b] 2)).alloc (.cells #[.slice p m c] 22) := by
  go_enter Try.func30, Try.ntmps30
  go_wp2
  go_ret
  exact ⟨rfl, rfl⟩
end Go.Proofs.Ytlnfgmmgkmhehaa
