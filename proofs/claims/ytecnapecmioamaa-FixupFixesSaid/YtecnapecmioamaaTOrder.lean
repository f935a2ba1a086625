/- Contracts of tree.Order and tree.Depths. -/
import Derived.Test.YtecnapecmioamaaTCheck
namespace Go.Proofs.Ytecnapecmioamaa
open Go.RowKit Go.Shelf
set_option linter.unusedVariables false
attribute [local go_sem] Oper.semAt_some

theorem wpListIn_append_room {F : Fence} {nF : Nat} {P : Program} (w : World) {ops : Array Oper} {rest : List Oper} {o : Oper} {a : Act} {Q : Exit → Act → World → Prop} (hgd : o.guard = none) (s x : Operand) (t : TypeId)
    (ho : o.op = .call { callee := .builtin .append, args := #[s, x], argTypes := #[t, t] })
    (e : TypeId) (i : TypeInfo) (ht : P.underlying t = some (.slice e)) (hi : P.info? e = some i) (g sLen sCap : Nat) (cur : Array Value) (hs : a.eval s = .slice (some ⟨g, 0, none⟩) sLen sCap) (hg : w.heap[g]? = some (.cells cur e (0, 0)))
    (ad : Addr) (m c : Nat) (news : List Value) (hx : a.eval x = .slice (some ad) m c) (hl : news.length = m * i.size) (hnews : ∀ j u, news[j]? = some u → w.cell? (ad.add j) = some u) (h1 : ∀ u ∈ news, u.oneCell' = true)
    (hroom : sLen + m ≤ sCap) (hfit : sLen * i.size + news.length ≤ cur.size)
    (h : wpListIn F nF P ops Q rest (a.put o.dst (.slice (some ⟨g, 0, none⟩) (sLen + m) sCap)) (w.setRow g (cur.toList.take (sLen * i.size) ++ news ++ cur.toList.drop (sLen * i.size + news.length)).toArray)) :
    wpListIn F nF P ops Q (o :: rest) a w := by
  refine wpListIn_plain hgd fun K hK => ?_
  have hr := run_append_room (P := P) w t o.type e i ht hi g sLen sCap cur hg ad m c news hl hnews h1 hroom hfit
  unfold Oper.wpIn
  refine ⟨by simp [Oper.about, ho, resolve, Target.leads, Sem.run_pure], ?_⟩
  rw [Oper.semAt_plain F _ _ (by rw [ho]; intro c hc'; cases hc')]
  simp [execOp, ho, resolve, invoke, builtin, hs, hx, hr, Result.andThen]
  exact hK _ _ (by simpa using h)
theorem make_room (m : Nat) (hm : m ≤ 1000000000) (w : World) : (Instr.makeSlice 34 (.int .i64 0) (.int .i64 m)).run Try.prog w = .ok (.slice (some ⟨w.heap.size, 0, none⟩) 0 m) (w.alloc (.cells ((List.replicate m (0 : Int)).map (Value.int .i64)).toArray 3)) := by
  cases hi : Try.prog.info? 3 with
  | none => have := Try.infoInt; rw [hi] at this; cases this
  | some i =>
    have h := Try.infoInt
    rw [hi] at h
    simp only [Option.map_some, Option.some.injEq, Prod.mk.injEq] at h
    obtain ⟨hz, h1, h2⟩ := h
    have hr := run_make (P := Try.prog) w 34 3 i (.int .i64 0) Try.underlying34 hi hz .i64 .i64 0 m (by omega) (by omega) (by rw [h2]; omega) (by omega)
    rw [hr, h1]
    simp only [Int.toNat_natCast, Int.toNat_zero]
    rw [show (madeCells (Value.int IntKind.i64 0).cells (m * 1)) = ((List.replicate m (0 : Int)).map (Value.int .i64)).toArray from by
      apply Array.toList_inj.1
      rw [show (Value.int IntKind.i64 0).cells = #[Value.int .i64 0] from rfl, toList_madeCells_one]; simp]
theorem at_worldIn {F : Fence} {nF : Nat} {P : Program} {ops : Array Oper} {rest : List Oper} {a : Act} {W : World} {Q : Exit → Act → World → Prop} (p : World → Prop) (h : p W) (k : ∀ X, p X → wpListIn F nF P ops Q rest a X) : wpListIn F nF P ops Q rest a W := k W h
theorem row_room (cur : Array Value) (k m : Nat) (z : Value) (zs : List Value) (h1 : cur.size = m) (h2 : k < m) (h3 : cur.toList.take k = zs) :
    (cur.toList.take (k * 1) ++ [z] ++ cur.toList.drop (k * 1 + 1)).toArray.size = m ∧ (cur.toList.take (k * 1) ++ [z] ++ cur.toList.drop (k * 1 + 1)).take (k + 1) = zs ++ [z] := by
  subst h1
  have hl : zs.length = k := by rw [← h3]; simp; omega
  constructor
  · simp; omega
  · rw [Nat.mul_one, h3]
    rw [List.take_append_of_le_length (by simp [hl]), List.take_of_length_le (by simp [hl])]
/-- a page that Check lets be -/
structure Fine (ns : List Nd) : Prop where
  len1 : 1 ≤ ns.length
  len2 : ns.length ≤ 65536
  wrong : ns.any wrongN = false
  link : ∀ n ∈ ns, ∀ z ∈ n.ks, 1 ≤ z ∧ z < (ns.length : Int)
  stray : ((tms ns.length (kidsOf ns)).zip (depthsP ns)).any strayB = false
  deep : (depthsP ns).any deepB = false
theorem fine_of {ns : List Nd} (h : (checkP ns).2 = 0) : Fine ns := by
  unfold checkP at h
  by_cases h1 : ¬ (1 ≤ ns.length ∧ ns.length ≤ 65536)
  · rw [if_pos h1] at h; simp at h
  rw [if_neg h1] at h
  by_cases h2 : 0 ≤ idxI wrongN ns
  · rw [if_pos h2] at h; simp at h
  rw [if_neg h2] at h
  by_cases h3 : 0 ≤ idxI (unlinkedN ns.length) ns
  · rw [if_pos h3] at h; simp at h
  rw [if_neg h3] at h
  by_cases h4 : 0 ≤ strayP ns
  · rw [if_pos h4] at h; simp at h
  rw [if_neg h4] at h
  by_cases h5 : 0 ≤ idxI deepB (depthsP ns)
  · rw [if_pos h5] at h; simp at h
  exact ⟨by omega, by omega, (idxI_neg _ _).1 (by omega), linked (by omega), (idxI_neg _ _).1 (by unfold strayP at h4; omega), (idxI_neg _ _).1 (by omega)⟩
theorem fine_check {ns : List Nd} (h : Fine ns) : checkP ns = (0, 0) := by
  have h3 : ns.any (unlinkedN ns.length) = false := by
    rw [List.any_eq_false]
    intro n hn
    unfold unlinkedN
    rw [Bool.not_eq_true, List.any_eq_false]
    intro z hz
    have := h.link n hn z hz
    rw [outB_in (by omega) (by omega)]; simp
  have e2 := idxI_none _ _ h.wrong
  have e3 := idxI_none _ _ h3
  have e4 : strayP ns = -1 := idxI_none _ _ h.stray
  have e5 := idxI_none _ _ h.deep
  unfold checkP
  rw [if_neg (by have := h.len1; have := h.len2; omega), e2, e3, e4, e5]
  rfl
/-- what the calls that list something answer -/
def ListPost (b : Int) (zs : List Int) (w : World) (e : Ending) (W' : World) : Prop :=
  (if b = 0 then ∃ v, e = .returned (.tuple #[v, .int .i64 0]) ∧ Ints W' v zs else e = .returned (.tuple #[.slice none 0 0, .int .i64 b])) ∧ Below w.heap.size w W'
/-- the order so far -/
def OI (m O : Nat) (w : World) (pre : List (Int × Nat)) (X : World) : Prop :=
  (∃ cur, X.heap[O]? = some (.cells cur 3 (0, 0)) ∧ cur.size = m ∧ cur.toList.take pre.length = (pre.map Prod.fst).map (Value.int .i64)) ∧ Whole X (O + 1) 34 [.slice (some ⟨O, 0, none⟩) pre.length m] ∧ Below O w X
theorem OI.below {m O : Nat} {w : World} {pre : List (Int × Nat)} {X Y : World} {B : Nat} (h : OI m O w pre X) (hb : Below B X Y) (hB : O + 2 ≤ B) : OI m O w pre Y := by
  obtain ⟨⟨cur, h1, h2⟩, h3, h4⟩ := h
  exact ⟨⟨cur, (hb.block O (by omega)).trans h1, h2⟩, h3.below hb (by omega), h4.trans (hb.mono (by omega))⟩
theorem nxt_room {kf : Int → List Int} {m : Nat} (hm : 1 ≤ m) (hk : KidsIn m kf) {pre : List (Int × Nat)} {x : Int × Nat} (h : nxtT kf pre x) : pre.length < m := by
  obtain ⟨vis, st, st', hr, hn⟩ := h
  have g := (hr.good hm hk).step hk hn
  have := g.vlen
  rw [hr.len]
  simp at this; omega
end Go.Proofs.Ytecnapecmioamaa
