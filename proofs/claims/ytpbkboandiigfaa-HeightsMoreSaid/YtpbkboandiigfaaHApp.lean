/- Places and heights that grow side by side; cells of one row. -/
import Derived.Test.YtpbkboandiigfaaHLaw
import Derived.Maps.AppendAt
import Derived.Laws.OwnMore
namespace Go.Proofs.Ytpbkboandiigfaa
open Go.RowKit Go.Shelf Go.Maps
set_option linter.unusedVariables false
set_option linter.unusedSimpArgs false

theorem Try.infoPcH : (Try.prog.info? 35).map (fun i => (i.zero, i.size, i.bytes)) = some (some (.agg #[.int .i64 0, .int .i64 0, .int .i64 0, .int .i64 0, .int .i64 0]), 5, 40) := by kernel_rfl
/-- a place appended to a list of its own -/
theorem wpList_appP {ops : Array Oper} {rest : List Oper} {o : Oper} {a : Act} {w : World} {Q : Exit → Act → World → Prop} (dst : Option Tmp) (hd : o.dst = dst) (hgd : o.guard = none) (s x : Operand)
    (ho : o.op = .call { callee := .builtin .append, args := #[s, x], argTypes := #[23, 23] }) (B : Nat) (v : Value) (zs : List Pc) (hs : a.eval s = v)
    (hown : w.ownsRow B 35 5 v zs.length (zs.flatMap Pc.cells)) (g : Nat) (z : Pc) (hx : a.eval x = .slice (some ⟨g, 0, none⟩) 1 1) (hz : ∀ j u, z.cells[j]? = some u → w.cell? ⟨g, j, none⟩ = some u) (hl : zs.length ≤ 1000000) (hB : B ≤ w.heap.size)
    (h : ∀ v' w', w'.ownsRow B 35 5 v' (zs.length + 1) (zs.flatMap Pc.cells ++ z.cells) → w.grownBy w' v.ownBlock → (v'.ownBlock = v.ownBlock ∨ v'.ownBlock = some w.heap.size) → wpList Try.prog ops Q rest (a.put dst v') w') :
    wpList Try.prog ops Q (o :: rest) a w := by
  obtain ⟨i0, hi, hz0, hz1, hz2⟩ := info_threeN Try.infoPcH
  subst hd
  exact wpList_append_own_at _ hgd s x 23 ho B 35 i0 (.agg #[.int .i64 0, .int .i64 0, .int .i64 0, .int .i64 0, .int .i64 0]) 5 40 Try.underlying23 hi hz0 hz1 hz2 rfl (by decide) v zs.length _ hs hown ⟨g, 0, none⟩ 1 1 z.cells hx rfl
    (fun j u hj => by rw [add_plainC, Nat.zero_add]; exact hz j u hj) (fun u hu => by simp [Pc.cells] at hu; rcases hu with rfl | rfl | rfl | rfl | rfl <;> rfl) (by unfold maxLen; omega) (by omega) hB fun v' w' h1 h2 _ h4 => h v' w' h1 h2 h4
/-- a length appended to a list of its own -/
theorem wpList_appL {ops : Array Oper} {rest : List Oper} {o : Oper} {a : Act} {w : World} {Q : Exit → Act → World → Prop} (dst : Option Tmp) (hd : o.dst = dst) (hgd : o.guard = none) (s x : Operand)
    (ho : o.op = .call { callee := .builtin .append, args := #[s, x], argTypes := #[22, 22] }) (B : Nat) (v : Value) (zs : List Int) (hs : a.eval s = v)
    (hown : w.ownsRow B 2 1 v zs.length (zs.map (Value.int .i64))) (g : Nat) (z : Int) (hx : a.eval x = .slice (some ⟨g, 0, none⟩) 1 1) (hz : w.cell? ⟨g, 0, none⟩ = some (.int .i64 z)) (hl : zs.length ≤ 1000000) (hB : B ≤ w.heap.size)
    (h : ∀ v' w', w'.ownsRow B 2 1 v' (zs.length + 1) (zs.map (Value.int .i64) ++ [.int .i64 z]) → w.grownBy w' v.ownBlock → (v'.ownBlock = v.ownBlock ∨ v'.ownBlock = some w.heap.size) → wpList Try.prog ops Q rest (a.put dst v') w') :
    wpList Try.prog ops Q (o :: rest) a w := by
  obtain ⟨i0, hi, hz0, hz1, hz2⟩ := info_partsH Try.infoI64N
  subst hd
  refine wpList_append_own_at _ hgd s x 22 ho B 2 i0 (.int .i64 0) 1 8 Try.underlying22 hi hz0 hz1 hz2 rfl (by decide) v zs.length _ hs hown ⟨g, 0, none⟩ 1 1 [.int .i64 z] hx rfl
    (fun j u hj => ?_) (by simp [Value.oneCell']) (by unfold maxLen; omega) (by omega) hB fun v' w' h1 h2 _ h4 => h v' w' h1 h2 h4
  cases j with
  | zero => simp only [List.getElem?_cons_zero, Option.some.injEq] at hj; rw [add_plainC, ← hj]; exact hz
  | succ j => simp at hj
theorem own_keepH {X Y : World} {B e sz n : Nat} {v : Value} {xs : List Value} (h : X.ownsRow B e sz v n xs) (hk : ∀ k, B ≤ k → k < X.heap.size → Y.heap[k]? = X.heap[k]?) : Y.ownsRow B e sz v n xs := by
  refine ⟨h.1, h.2.imp id ?_⟩
  rintro ⟨g, cap, cur, e, h1, h2, h3⟩
  exact ⟨g, cap, cur, e, h1, (hk g h1 (Array.getElem?_eq_some_iff.1 h2).1).trans h2, h3⟩
theorem own_formH {X : World} {B e sz n : Nat} {v : Value} {xs : List Value} (h : X.ownsRow B e sz v n xs) : ∃ p c, v = .slice p n c := by
  rcases h.2 with ⟨rfl, rfl⟩ | ⟨g, cap, cur, rfl, _⟩
  · exact ⟨none, 0, rfl⟩
  · exact ⟨_, _, rfl⟩
/-- places and heights that grow, each in a block of its own from B on -/
structure TwoG (W : World) (B : Nat) (ps : List Pc) (hs : List Int) (v1 v2 : Value) (X : World) : Prop where
  lo : Below W.heap.size W X
  sz : B ≤ X.heap.size
  o1 : X.ownsRow B 35 5 v1 ps.length (ps.flatMap Pc.cells)
  o2 : X.ownsRow B 2 1 v2 hs.length (hs.map (Value.int .i64))
  ne : ∀ g, v1.ownBlock = some g → v2.ownBlock ≠ some g
theorem TwoG.nil (W : World) (X : World) (h : Below W.heap.size W X) : TwoG W X.heap.size [] [] (.slice none 0 0) (.slice none 0 0) X :=
  ⟨h, Nat.le_refl _, World.ownsRow_nil _ _ _ _, World.ownsRow_nil _ _ _ _, fun g e => by cases e⟩
theorem TwoG.below {W X Y : World} {B : Nat} {ps : List Pc} {hs : List Int} {v1 v2 : Value} (h : TwoG W B ps hs v1 v2 X) (hb : Below X.heap.size X Y) : TwoG W B ps hs v1 v2 Y :=
  ⟨h.lo.trans (hb.mono h.lo.size), Nat.le_trans h.sz hb.size, own_keepH h.o1 fun k _ hk => hb.block k hk, own_keepH h.o2 fun k _ hk => hb.block k hk, h.ne⟩
theorem TwoG.upd {W X Y : World} {B G : Nat} {ps : List Pc} {hs : List Int} {v1 v2 : Value} (h : TwoG W B ps hs v1 v2 X) (hu : Upd [G] X Y) (hG : G < B) (hW : W.heap.size ≤ G) : TwoG W B ps hs v1 v2 Y :=
  ⟨h.lo.trans (hu.below h.lo.size (by simpa using hW)), Nat.le_trans h.sz hu.size, own_keepH h.o1 fun k hk hl => hu.kp.2 k (by simp; omega) hl, own_keepH h.o2 fun k hk hl => hu.kp.2 k (by simp; omega) hl, h.ne⟩
theorem TwoG.app1 {W X Y : World} {B : Nat} {ps : List Pc} {hs : List Int} {v1 v2 v' : Value} {p : Pc} (h : TwoG W B ps hs v1 v2 X) (hB : W.heap.size ≤ B) (ho : Y.ownsRow B 35 5 v' (ps.length + 1) (ps.flatMap Pc.cells ++ p.cells)) (hg : X.grownBy Y v1.ownBlock) (ha : v'.ownBlock = v1.ownBlock ∨ v'.ownBlock = some X.heap.size) :
    TwoG W B (ps ++ [p]) hs v' v2 Y where
  lo := h.lo.grown hg h.lo.size (fun j e => by have := (h.o1.lt j e).1; omega)
  sz := Nat.le_trans h.sz hg.size
  o1 := by simpa using ho
  o2 := h.o2.kept hg (by
    cases e : v2.ownBlock with
    | none => exact .inl rfl
    | some g => exact .inr fun he => h.ne g he.symm e)
  ne := fun g e1 e2 => by
    rcases ha with ha | ha
    · rw [ha] at e1; exact h.ne g e1 e2
    · rw [ha] at e1; injection e1 with e1; have := (h.o2.lt g e2).2; omega
theorem TwoG.app2 {W X Y : World} {B : Nat} {ps : List Pc} {hs : List Int} {v1 v2 v' : Value} {z : Int} (h : TwoG W B ps hs v1 v2 X) (hB : W.heap.size ≤ B) (ho : Y.ownsRow B 2 1 v' (hs.length + 1) (hs.map (Value.int .i64) ++ [.int .i64 z])) (hg : X.grownBy Y v2.ownBlock) (ha : v'.ownBlock = v2.ownBlock ∨ v'.ownBlock = some X.heap.size) :
    TwoG W B ps (hs ++ [z]) v1 v' Y where
  lo := h.lo.grown hg h.lo.size (fun j e => by have := (h.o2.lt j e).1; omega)
  sz := Nat.le_trans h.sz hg.size
  o2 := by simpa using ho
  o1 := h.o1.kept hg (by
    cases e : v1.ownBlock with
    | none => exact .inl rfl
    | some g => exact .inr fun he => h.ne g e he.symm)
  ne := fun g e1 e2 => by
    rcases ha with ha | ha
    · rw [ha] at e2; exact h.ne g e1 e2
    · rw [ha] at e2; injection e2 with e2; have := (h.o1.lt g e1).2; omega
theorem own_plcs {X : World} {B : Nat} {v : Value} {ys : List Pc} (h : X.ownsRow B 35 5 v ys.length (ys.flatMap Pc.cells)) (hm : ys.length ≤ 9223372036854775807) : RowsK Pc.cells 5 X v ys := by
  refine ⟨hm, ?_⟩
  rcases h.2 with ⟨rfl, h0⟩ | ⟨g, cap, cur, rfl, hb, hg, hnc, hcm, hcs, htk⟩
  · exact .inl ⟨none, 0, rfl, List.length_eq_zero_iff.1 h0⟩
  · refine .inr ⟨g, 0, cap, rfl, (Array.getElem?_eq_some_iff.1 hg).1, fun j hj i v hv => ?_⟩
    have hi : i < 5 := (List.getElem?_eq_some_iff.1 hv).1
    have hf := flat_getK Pc.cells 5 Pc.cells_len ys j i hi hj
    rw [← htk, List.getElem?_take_of_lt (by have := Nat.mul_le_mul_right 5 (show j + 1 ≤ ys.length by omega); omega)] at hf
    rw [show 0 + j * 5 + i = j * 5 + i by omega]
    simp [World.cell?, hg]
    rw [← hv, ← hf]; simp
theorem own_intsH {X : World} {B : Nat} {v : Value} {zs : List Int} (h : X.ownsRow B 2 1 v zs.length (zs.map (Value.int .i64))) (hm : zs.length ≤ 9223372036854775807) : Ints X v zs := by
  refine ⟨hm, ?_⟩
  rcases h.2 with ⟨rfl, h0⟩ | ⟨g, cap, cur, rfl, hb, hg, hnc, hcm, hcs, htk⟩
  · exact .inl ⟨none, 0, rfl, List.length_eq_zero_iff.1 h0⟩
  · refine .inr ⟨g, 0, cap, rfl, fun j hj => ?_⟩
    have h2 : (zs.map (Value.int .i64))[j]? = some (.int .i64 (zs[j]?.getD 0)) := by rw [List.getElem?_map, List.getElem?_eq_getElem hj]; rfl
    rw [← htk, List.getElem?_take_of_lt (by omega)] at h2
    rw [Nat.zero_add]
    simp [World.cell?, hg]
    simpa using h2
/-! cells of one row -/
theorem meet_one {gap : Int} {m : Nat} {s : Ht} (h : HtOk gap m s) (h1 : s.rs = 1) {L : List Int} (hl : L.length = m) (hw : OkW L) : meetH gap L s = L.set s.ro.toNat (max (L[s.ro.toNat]?.getD 0) s.hi) := by
  have hp : partP s.hi gap s.rs = s.hi := by
    rw [partP_in _ _ _ h.h0 h.h1 h.g0 h.g1 (by omega) (by omega), h1]
    have := h.h0
    simp; omega
  have hr1 : s.rs.toNat = 1 := by omega
  have hrm : s.ro.toNat < L.length := by have := h.seg; omega
  have hq := h.lol hl hw
  have hsum : sumZ (loH gap s (seg L s.ro.toNat s.rs.toNat)) = max (sumZ (seg L s.ro.toNat s.rs.toNat)) (partP s.hi gap s.rs) := (h.over hl hw).sum
  have hsg := seg_len L s.ro.toNat s.rs.toNat (by rw [hl]; exact h.seg)
  have hg0 := seg_get L s.ro.toNat s.rs.toNat 0 (by omega)
  unfold meetH
  rw [hr1] at hq hsg
  obtain ⟨x, hx⟩ := List.length_eq_one_iff.1 hsg
  obtain ⟨y, hy⟩ := List.length_eq_one_iff.1 hq
  rw [hr1] at hsum hg0
  rw [hx] at hg0 hsum
  rw [hr1, hx]
  rw [hx] at hy
  rw [hy] at hsum ⊢
  rw [hp] at hsum
  have hxv : L[s.ro.toNat]?.getD 0 = x := by
    rw [Nat.add_zero] at hg0
    rw [← hg0]; rfl
  have hyv : y = max x s.hi := by simpa [sumZ] using hsum
  rw [hxv, ← hyv]
  have hc : s.ro.toNat + [y].length ≤ L.length := by simp; omega
  apply List.ext_getElem?
  intro i
  by_cases hi : i = s.ro.toNat
  · subst hi
    have := spl_in L s.ro.toNat [y] hc 0 (by simp)
    rw [Nat.add_zero] at this
    rw [this, List.getElem?_set_self hrm]; rfl
  · rw [spl_out L s.ro.toNat [y] hc i (by simp; omega), List.getElem?_set_ne (by omega)]
theorem htL_ones (m : Nat) (hm : 1 ≤ m) (zs : List Ht) (h : ∀ s ∈ zs, s.rs = 1) : htL m zs = zs := by
  have hmem : ∀ x ∈ tagH zs, x.2.rs = 1 := fun x hx => h x.2 (by rw [← tagH_val zs]; exact List.mem_map_of_mem hx)
  have := sorted_oneH m zs (fun s hs => by have := h s hs; omega) (tagH zs) (List.Perm.refl _) ((tagH_lt zs).imp_of_mem fun {x y} hx hy hxy => .inr ⟨by rw [hmem x hx, hmem y hy], hxy⟩)
  rw [tagH_val] at this
  exact this.symm
theorem rightH_of {ws : List Int} {ps : List Pc} {hs : List Int} {gap : Int} (h1 : hs.length = ps.length) (h2 : ws.length ≤ 10000) (h3 : 0 ≤ gap ∧ gap ≤ 1073741824) (h4 : ∀ z ∈ reqP ws, 0 ≤ z ∧ z ≤ 1073741824) (h5 : ∀ z ∈ htZ ps hs, htB ws.length z = true) : rightH ws ps hs gap = true := by
  unfold rightH okB
  simp only [Bool.and_eq_true, decide_eq_true_eq, List.all_eq_true, reqP_len]
  refine ⟨h1, ⟨h2, ?_, ?_⟩, h5⟩
  · simp [outB]; omega
  · rw [Bool.not_eq_true', List.any_eq_false]
    intro x hx
    have := h4 x hx
    simp [outB]; omega
end Go.Proofs.Ytpbkboandiigfaa
