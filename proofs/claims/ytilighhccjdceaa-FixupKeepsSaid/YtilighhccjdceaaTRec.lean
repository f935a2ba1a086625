/- Fixing keeps the order in which the nodes that were there are met. Plain data. -/
/- The document's order of a page: its walk, a function that calls itself, and the contract of purflingref04.Order. -/
import Derived.Test.YtilighhccjdceaaTExp
import Derived.Test.YtilighhccjdceaaFAgain
import Derived.Test.YtilighhccjdceaaTGrow
import Derived.Test.YtilighhccjdceaaTCopy
namespace Go.Proofs.Ytilighhccjdceaa
open Go.RowKit Go.Shelf
set_option linter.unusedVariables false

def repK (n : Nat) (runs : List (List Int)) (z : Int) : List Int := if z < (n : Int) then [z] else (runs[(z - n).toNat]?).getD []
structure BackI (n : Nat) (done : List Int) (st : List Int × List (List Int) × Bool) : Prop where
  low : ∀ z ∈ st.1, z < ((n + st.2.1.length : Nat) : Int)
  eq : st.1.flatMap (repK n st.2.1) = done
  op : st.2.2 = true → ∃ init, st.1 = init ++ [((n + (st.2.1.length - 1) : Nat) : Int)] ∧ st.2.1 ≠ [] ∧ ∀ z ∈ init, z < ((n + (st.2.1.length - 1) : Nat) : Int)
theorem rep_more {n : Nat} {runs runs' : List (List Int)} {z : Int} (k : Nat) (h : ∀ j, j < k → runs'[j]? = runs[j]?) (hz : z < ((n + k : Nat) : Int)) : repK n runs' z = repK n runs z := by
  unfold repK
  by_cases hn : z < (n : Int)
  · rw [if_pos hn, if_pos hn]
  · rw [if_neg hn, if_neg hn, h _ (by omega)]
theorem back_step (p : Int → Bool) (n : Nat) (done : List Int) (st : List Int × List (List Int) × Bool) (c : Int) (hc : c < (n : Int)) (h : BackI n done st) : BackI n (done ++ [c]) (stepK p n st c) := by
  by_cases hp : p c = true
  · have e : stepK p n st c = (st.1 ++ [c], st.2.1, false) := by unfold stepK; rw [if_pos hp]
    rw [e]
    refine ⟨fun z hz => ?_, ?_, fun h => by cases h⟩
    · rcases List.mem_append.1 hz with hz | hz
      · exact h.low z hz
      · simp at hz; subst hz; dsimp only; omega
    · dsimp only
      rw [List.flatMap_append, h.eq]
      congr 1
      simp [repK, hc]
  · by_cases ho : st.2.2 = true
    · obtain ⟨init, h1, h2, h3⟩ := h.op ho
      have hl := List.length_pos_iff.2 h2
      have e : stepK p n st c = (st.1, st.2.1.dropLast ++ [st.2.1.getLast?.getD [] ++ [c]], true) := by unfold stepK; rw [if_neg hp, if_pos ho]
      have el : (st.2.1.dropLast ++ [st.2.1.getLast?.getD [] ++ [c]]).length = st.2.1.length := by simp; omega
      rw [e]
      refine ⟨fun z hz => by dsimp only; rw [el]; exact h.low z hz, ?_, fun _ => ⟨init, by dsimp only; rw [el]; exact h1, by simp, by dsimp only; rw [el]; exact h3⟩⟩
      dsimp only
      have hq := h.eq
      rw [h1, List.flatMap_append] at hq ⊢
      have e1 : init.flatMap (repK n (st.2.1.dropLast ++ [st.2.1.getLast?.getD [] ++ [c]])) = init.flatMap (repK n st.2.1) := flat_congr _ _ _ fun z hz => rep_more (st.2.1.length - 1) (fun j hj => by
        rw [List.getElem?_append_left (by simp; omega), List.getElem?_dropLast, if_pos hj]) (h3 z hz)
      have e2 : [((n + (st.2.1.length - 1) : Nat) : Int)].flatMap (repK n (st.2.1.dropLast ++ [st.2.1.getLast?.getD [] ++ [c]])) = [((n + (st.2.1.length - 1) : Nat) : Int)].flatMap (repK n st.2.1) ++ [c] := by
        simp only [List.flatMap_cons, List.flatMap_nil, List.append_nil]
        unfold repK
        rw [if_neg (by omega), if_neg (by omega), show (((n + (st.2.1.length - 1) : Nat) : Int) - n).toNat = st.2.1.length - 1 by omega, List.getElem?_append_right (by simp), List.getLast?_eq_getElem?]
        simp
      rw [e1, e2, ← List.append_assoc, hq]
    · have e : stepK p n st c = (st.1 ++ [((n + st.2.1.length : Nat) : Int)], st.2.1 ++ [[c]], true) := by unfold stepK; rw [if_neg hp, if_neg ho]
      rw [e]
      refine ⟨fun z hz => ?_, ?_, fun _ => ⟨st.1, by simp, by simp, fun z hz => by have := h.low z hz; simp; omega⟩⟩
      · rcases List.mem_append.1 hz with hz | hz
        · have := h.low z hz; simp; omega
        · simp at hz; subst hz; simp; omega
      · dsimp only
        rw [List.flatMap_append]
        have e1 : st.1.flatMap (repK n (st.2.1 ++ [[c]])) = st.1.flatMap (repK n st.2.1) := flat_congr _ _ _ fun z hz => rep_more st.2.1.length (fun j hj => by rw [List.getElem?_append_left hj]) (h.low z hz)
        rw [e1, h.eq]
        congr 1
        simp only [List.flatMap_cons, List.flatMap_nil, List.append_nil]
        unfold repK
        rw [if_neg (by omega), show (((n + st.2.1.length : Nat) : Int) - n).toNat = st.2.1.length by omega, List.getElem?_append_right (Nat.le_refl _)]
        simp
theorem FK_back (p : Int → Bool) (n : Nat) (ks : List Int) (h : ∀ z ∈ ks, z < (n : Int)) : (FK p n ks).1.flatMap (repK n (FK p n ks).2.1) = ks := by
  suffices ∀ (b a : List Int) (st : List Int × List (List Int) × Bool), (∀ z ∈ b, z < (n : Int)) → BackI n a st → BackI n (a ++ b) (b.foldl (stepK p n) st) from
    (this ks [] ([], [], false) h ⟨fun z hz => (by cases hz), rfl, fun h => by cases h⟩).eq
  intro b
  induction b with
  | nil => intro a st _ h; rw [List.append_nil]; exact h
  | cons c b ih =>
    intro a st hb h
    have := ih (a ++ [c]) _ (fun z hz => hb z (by simp [hz])) (back_step p n a st c (hb c (by simp)) h)
    rwa [List.append_assoc] at this
def lowL (n0 : Nat) (l : List Int) : List Int := l.filter fun z => decide (z < (n0 : Int))
theorem low_flat (n0 : Nat) (ks : List Int) (g : Int → List Int) : lowL n0 (ks.flatMap g) = ks.flatMap fun z => lowL n0 (g z) := by
  unfold lowL
  rw [List.filter_flatMap]
theorem fix_exp {ns : List Nd} (h : Tr ns) (i : Nat) (n0 : Nat) (hn0 : n0 ≤ ns.length) : ∀ (f : Nat) (z : Int), 0 ≤ z → z < (ns.length : Int) → okF (kfOf ns) f z →
    okF (kfOf (fixB ns i)) (2 * f) z ∧ lowL n0 (expD (kfOf (fixB ns i)) (2 * f) z) = lowL n0 (expD (kfOf ns) f z) := by
  cases hi : ns[i]? with
  | none =>
    have : fixB ns i = ns := by unfold fixB; rw [hi]
    rw [this]
    intro f z _ _ hz
    exact ⟨okF_mono f _ z (by omega) hz, by rw [← expD_fuel f (2 * f) z (by omega) hz]⟩
  | some n =>
    have hil := (List.getElem?_eq_some_iff.1 hi).1
    have hn := List.mem_iff_getElem?.2 ⟨i, hi⟩
    have e : fixB ns i = ns.set i { n with ks := (FK (mayAt n.k ns) ns.length n.ks).1 } ++ (FK (mayAt n.k ns) ns.length n.ks).2.1.map (newNd n.k) := by unfold fixB; rw [hi]
    have hks : ∀ y ∈ n.ks, y < (ns.length : Int) := fun y hy => (h.link n hn y hy).2
    have hkids := FK_kids (mayAt n.k ns) ns.length n.ks
    have hrun := FK_run (mayAt n.k ns) ns.length n.ks
    have hback := FK_back (mayAt n.k ns) ns.length n.ks hks
    obtain ⟨st, hst⟩ : ∃ st, FK (mayAt n.k ns) ns.length n.ks = st := ⟨_, rfl⟩
    rw [hst] at e hkids hrun hback
    have ki : kfOf (fixB ns i) (i : Int) = st.1 := by
      unfold kfOf
      rw [Int.toNat_natCast, e, List.getElem?_append_left (by simpa using hil), List.getElem?_set_self hil]; rfl
    have ko : kfOf ns (i : Int) = n.ks := by
      unfold kfOf
      rw [Int.toNat_natCast, hi]; rfl
    have kz : ∀ z : Int, 0 ≤ z → z < (ns.length : Int) → z ≠ i → kfOf (fixB ns i) z = kfOf ns z := fun z h0 h1 hz => by
      unfold kfOf
      rw [e, List.getElem?_append_left (by simp; omega), List.getElem?_set_ne (by omega)]
    have kn : ∀ q run, st.2.1[q]? = some run → kfOf (fixB ns i) ((ns.length + q : Nat) : Int) = run := fun q run hq => by
      unfold kfOf
      rw [Int.toNat_natCast, e, List.getElem?_append_right (by simp)]
      simp only [List.length_set, Nat.add_sub_cancel_left]
      rw [List.getElem?_map, hq]; rfl
    intro f
    induction f with
    | zero => intro z _ _ hz; exact hz.elim
    | succ f ih =>
      intro z h0 h1 hz
      have hkr : ∀ y ∈ kfOf ns z, 0 ≤ y ∧ y < (ns.length : Int) := fun y hy => by
        obtain ⟨a, ha, hya⟩ := kf_mem hy
        have := h.link a (List.mem_iff_getElem?.2 ⟨_, ha⟩) y hya
        omega
      have IH : ∀ y ∈ kfOf ns z, okF (kfOf (fixB ns i)) (2 * f) y ∧ lowL n0 (expD (kfOf (fixB ns i)) (2 * f) y) = lowL n0 (expD (kfOf ns) f y) := fun y hy => ih y (hkr y hy).1 (hkr y hy).2 (hz y hy)
      rw [show 2 * (f + 1) = 2 * f + 1 + 1 by omega]
      by_cases hzi : z = i
      · subst hzi
        rw [ko] at IH
        have hok : ∀ w ∈ st.1, okF (kfOf (fixB ns i)) (2 * f + 1) w := fun w hw => by
          rcases hkids w hw with ⟨hw1, _⟩ | ⟨q, hq, rfl⟩
          · exact okF_mono (2 * f) _ w (by omega) (IH w hw1).1
          · have hq' := List.getElem?_eq_getElem hq
            intro y hy
            rw [kn q _ hq'] at hy
            exact (IH y ((hrun _ (List.getElem_mem hq)).2 y hy).1).1
        refine ⟨fun w hw => hok w (by rw [← ki]; exact hw), ?_⟩
        have e1 : expD (kfOf (fixB ns i)) (2 * f + 1 + 1) (i : Int) = (i : Int) :: st.1.flatMap (expD (kfOf (fixB ns i)) (2 * f + 1)) := by rw [expD, ki]
        have e2 : expD (kfOf ns) (f + 1) (i : Int) = (i : Int) :: n.ks.flatMap (expD (kfOf ns) f) := by rw [expD, ko]
        have e3 : lowL n0 (st.1.flatMap (expD (kfOf (fixB ns i)) (2 * f + 1))) = lowL n0 (n.ks.flatMap (expD (kfOf ns) f)) := by
          rw [low_flat, low_flat]
          conv => rhs; rw [← hback]
          rw [List.flatMap_assoc]
          refine flat_congr _ _ _ fun w hw => ?_
          rcases hkids w hw with ⟨hw1, _⟩ | ⟨q, hq, rfl⟩
          · have hwl := hks w hw1
            unfold repK
            rw [if_pos hwl]
            simp only [List.flatMap_cons, List.flatMap_nil, List.append_nil]
            rw [← expD_fuel (2 * f) (2 * f + 1) w (by omega) (IH w hw1).1]
            exact (IH w hw1).2
          · have hq' := List.getElem?_eq_getElem hq
            unfold repK
            rw [if_neg (by omega), show (((ns.length + q : Nat) : Int) - ns.length).toNat = q by omega, hq', Option.getD_some, expD, kn q _ hq']
            have : ¬ (((ns.length + q : Nat) : Int) < (n0 : Int)) := by omega
            unfold lowL
            rw [List.filter_cons, if_neg (by simpa using this), List.filter_flatMap]
            refine flat_congr _ _ _ fun y hy => ?_
            exact (IH y ((hrun _ (List.getElem_mem hq)).2 y hy).1).2
        rw [e1, e2]
        unfold lowL at e3 ⊢
        rw [List.filter_cons, List.filter_cons, e3]
      · have hk := kz z h0 h1 hzi
        refine ⟨fun y hy => ?_, ?_⟩
        · rw [hk] at hy
          exact okF_mono (2 * f) _ y (by omega) (IH y hy).1
        · rw [expD, expD, hk]
          have e3 : lowL n0 ((kfOf ns z).flatMap (expD (kfOf (fixB ns i)) (2 * f + 1))) = lowL n0 ((kfOf ns z).flatMap (expD (kfOf ns) f)) := by
            rw [low_flat, low_flat]
            refine flat_congr _ _ _ fun y hy => ?_
            rw [← expD_fuel (2 * f) (2 * f + 1) y (by omega) (IH y hy).1]
            exact (IH y hy).2
          unfold lowL at e3 ⊢
          rw [List.filter_cons, List.filter_cons, e3]
theorem iter_exp {B : List Nd} (h : Tr B) (h1 : 1 ≤ B.length) : ∀ i, ∃ f, okF (kfOf (iterB B i)) f 0 ∧ lowL B.length (expD (kfOf (iterB B i)) f 0) = lowL B.length (expD (kfOf B) (B.length + 1) 0)
  | 0 => ⟨B.length + 1, h.ok h1 0 (by omega), rfl⟩
  | i + 1 => by
    obtain ⟨f, h2, h3⟩ := iter_exp h h1 i
    have hl := iter_len B 0 i (by omega)
    have hl' : B.length ≤ (iterB B i).length := hl
    have := fix_exp (h.iter i) i B.length hl' f 0 (by omega) (by omega) h2
    exact ⟨2 * f, this.1, this.2.trans h3⟩
theorem kf_map (g : Nd → Nd) (hg : ∀ n, (g n).ks = n.ks) (ns : List Nd) : kfOf (ns.map g) = kfOf ns := by
  funext z
  unfold kfOf
  rw [List.getElem?_map]
  cases ns[z.toNat]? with
  | none => rfl
  | some n => simp [hg]
/-- what is met of the nodes that were there, in a page that is fixed: the walk through the page -/
theorem met_of {ms ns3 : List Nd} (F : Fine ms) (hb : ns3.map Nd.bare = fixPg ms) : ∃ f, okF (kfOf ns3) f 0 ∧ lowL ms.length (expD (kfOf ns3) f 0) = (walkL ms.length (kfOf ms)).map Prod.fst := by
  have hT := F.tr
  obtain ⟨f, h1, h2⟩ := iter_exp hT.comp (by rw [List.length_map]; exact F.len1) ((ms.map compB).length + 3 * (kidsOf (ms.map compB)).length)
  have e : iterB (ms.map compB) ((ms.map compB).length + 3 * (kidsOf (ms.map compB)).length) = ns3.map Nd.bare := hb.symm
  have e2 : kfOf (ns3.map Nd.bare) = kfOf ns3 := kf_map Nd.bare (fun n => rfl) ns3
  have e3 : kfOf (ms.map compB) = kfOf ms := kf_map compB (fun n => rfl) ms
  rw [e, e2] at h1 h2
  rw [e3, List.length_map] at h2
  refine ⟨f, h1, h2.trans ?_⟩
  rw [hT.walk F.len1]
  obtain ⟨vis, st, hr, hn⟩ := walk_facts F.len1 (kids_in F.link)
  have hg := hr.good F.len1 (kids_in F.link)
  have hvis := hr.vis
  unfold lowL
  rw [List.filter_eq_self]
  intro z hz
  have := hg.vrng z (by rw [hvis]; simpa using hz)
  simpa using this.2
end Go.Proofs.Ytilighhccjdceaa

namespace Go.Proofs.Ytilighhccjdceaa
open Go.RowKit Go.Shelf
set_option linter.unusedVariables false
attribute [local go_sem] Oper.semAt_some

theorem fold_bound (g : Int → List Int → List Int) (m : Nat) (hg : ∀ z out, out.length ≤ m + 1 → (g z out).length ≤ m + 1) : ∀ (ks out : List Int), out.length ≤ m + 1 → (ks.foldl (fun o y => g y o) out).length ≤ m + 1
  | [], out, h => h
  | y :: ks, out, h => by
    rw [List.foldl_cons]
    exact fold_bound g m hg ks _ (hg y out h)
theorem ordD_bound (kf : Int → List Int) (m : Nat) : ∀ (f : Nat) (z : Int) (out : List Int), out.length ≤ m + 1 → (ordD kf m f z out).length ≤ m + 1
  | 0, z, out, h => h
  | f + 1, z, out, h => by
    unfold ordD
    split
    · exact h
    · exact fold_bound _ m (ordD_bound kf m f) (kf z) (out ++ [z]) (by simp; omega)
def OwnI (base : Nat) (X : World) (v : Value) (zs : List Int) : Prop := X.ownsRow base 3 1 v zs.length (zs.map (Value.int .i64))
def OrdPost (w0 : World) (zs : List Int) (e : Ending) (W' : World) : Prop := ∃ v', e = .returned v' ∧ OwnI w0.heap.size W' v' zs ∧ Below w0.heap.size w0 W'
theorem fold_snoc (g : Int → List Int → List Int) (ks : List Int) (i : Nat) (y : Int) (h : ks[i]? = some y) (out : List Int) : (ks.take (i + 1)).foldl (fun o y => g y o) out = g y ((ks.take i).foldl (fun o y => g y o) out) := by
  rw [List.take_add_one, h]
  simp [List.foldl_append]
theorem ints_at0' {W : World} {q : Option Addr} {kc kl : Nat} {zs : List Int} (h : Ints W (.slice q kl kc) zs) (t : Nat) (z : Int) (hz : zs[t]? = some z) : ∃ b o, q = some ⟨b, o, none⟩ ∧ W.cell? ⟨b, o + t, none⟩ = some (.int .i64 z) ∧ b < W.heap.size := by
  have ht := (List.getElem?_eq_some_iff.1 hz).1
  obtain ⟨_, ⟨a, cap, e, rfl⟩ | ⟨b, off, cap, e, hc⟩⟩ := h
  · simp at ht
  · injection e with e1 e2 e3
    have := hc t ht
    rw [hz] at this
    exact ⟨b, off, e1, this, cell_lt this⟩
set_option maxRecDepth 100000 in
set_option maxHeartbeats 2000000 in
theorem order_rec (b off cap m : Nat) (ns : List Nd) (w0 : World) (hm : ns.length = m) (h1 : 1 ≤ m) (h2 : m ≤ 65536) (hP : PageAt w0 (.slice (some ⟨b, off, none⟩) m cap) ns) (hK : ∀ n ∈ ns, n.ks.length ≤ 70000)
    (hL : ∀ n ∈ ns, ∀ z ∈ n.ks, 0 ≤ z ∧ z < (m : Int)) :
    ∀ (f : Nat) (z : Int) (out : List Int) (v : Value) (w : World), 0 ≤ z → z < (m : Int) → m + 2 ≤ f + out.length → out.length ≤ m + 1 → Below w0.heap.size w0 w → OwnI w0.heap.size w v out →
      Calls Try.prog 36 #[.slice (some ⟨b, off, none⟩) m cap, .int .i64 z, v] w (OrdPost w0 (ordD (kfOf ns) m f z out)) := by
  have HC : Hid (∀ (j : Nat) (n : Nd), ns[j]? = some n → w0.cell? ⟨b, off + j * 34 + 1, none⟩ = some n.kv ∧ Ints w0 n.kv n.ks ∧ b < w0.heap.size) := Lib.hid (by
    obtain ⟨b', off', e, _, hc⟩ := page_cells hP h1
    injection e with e; injection e with e1 e2
    subst e1 e2
    exact fun j n hn => (hc j n hn).2)
  have HM := Lib.hid hm
  have HKF := Lib.hid hK
  have HLI := Lib.hid hL
  clear hm hK hL hP
  intro f
  induction f with
  | zero => intro z out v w _ _ h3 h4; omega
  | succ f ih =>
    intro z out v w hz0 hz1 hf ho hB hO
    obtain ⟨j, rfl⟩ : ∃ j : Nat, z = (j : Int) := ⟨z.toNat, by omega⟩
    have hjm : j < m := by omega
    obtain ⟨p, c, rfl⟩ := (ints_own hO).1.form
    unfold OwnI at hO
    obtain ⟨k, hk⟩ : ∃ k, out.length = k := ⟨_, rfl⟩
    rw [hk] at hO hf ho ⊢
    by_cases hmk : m < k
    · have e : ordD (kfOf ns) m (f + 1) j out = out := by unfold ordD; rw [if_pos (by omega)]
      rw [e]
      have hO' : Hid (OwnI w0.heap.size w (.slice p k c) out) := Lib.hid (by unfold OwnI; rw [hk]; exact hO)
      have HB := Lib.hid hB
      clear hO hB ih e hk
      go_enter Try.func36, Try.ntmps36
      go_wp2
      go_ret
      exact ⟨_, rfl, hO'.out, HB.out⟩
    · obtain ⟨n, hn⟩ : ∃ n, ns[j]? = some n := ⟨_, List.getElem?_eq_getElem (by rw [HM.out]; exact hjm)⟩
      have hmem : n ∈ ns := List.mem_iff_getElem?.2 ⟨j, hn⟩
      have e : ordD (kfOf ns) m (f + 1) j out = n.ks.foldl (fun o y => ordD (kfOf ns) m f y o) (out ++ [(j : Int)]) := by
        conv => lhs; unfold ordD
        rw [if_neg (by omega)]
        unfold kfOf
        rw [Int.toNat_natCast, hn]; rfl
      rw [e]
      obtain ⟨cv0, hI, hb0⟩ := HC.out j n hn
      have hfew := HKF.out n hmem
      obtain ⟨qk, ck, hkv⟩ := hI.form
      rw [hkv] at cv0 hI
      obtain ⟨kl, hkl⟩ : ∃ kl, n.ks.length = kl := ⟨_, rfl⟩
      rw [hkl] at cv0 hfew hI
      have HI := Lib.hid hI
      have HKL := Lib.hid hkl
      have HLN := Lib.hid (HLI.out n hmem)
      have HO := Lib.hid hO
      have HB := Lib.hid hB
      have HO2 : Hid (out.length = k) := Lib.hid hk
      have IH := Lib.hid ih
      have hsz := hB.size
      clear hn hmem hI hkv hkl hO hB hk ih e
      obtain ⟨i0, hi0, hz0', hz1', hz2'⟩ := info_parts Try.infoInt
      have HZ1 := Lib.hid hz0'
      have HZ2 := Lib.hid hz1'
      have HZ3 := Lib.hid hz2'
      clear hz0' hz1' hz2'
      go_enter Try.func36, Try.ntmps36
      go_wp2_with (at_builtin; refine wpList_append_own_at _ rfl _ _ 29 rfl w0.heap.size 3 i0 (.int .i64 0) 1 8 Try.underlying29 hi0 HZ1.out HZ2.out HZ3.out rfl (by decide) _ _ _ rfl (HO.out.alloc _) ⟨w.heap.size, 0, none⟩ 1 1 [.int .i64 (j : Int)] rfl rfl (cell_one_new _ _ _) (by simp [Value.oneCell']) (by unfold maxLen; omega) (by omega) (by simp; omega) ?_; intro v1 w1 hown1 hgrow1 _ _; have hg1 : (w.alloc (.cells #[.int .i64 (j : Int)] 3)).grownBy w1 (Value.slice p k c).ownBlock := hgrow1; have HO1 : Hid (OwnI w0.heap.size w1 v1 (out ++ [(j : Int)])) := Lib.hid (by unfold OwnI; rw [List.length_append, HO2.out, List.map_append]; exact hown1); have HB1 := Lib.hid ((HB.out.alloc hsz _).grown hg1 (by simp; omega) (fun g e => (HO.out.lt g e).1)); clear hown1 hgrow1 hg1 HO HB)
      go_loopw [2, 7] (fun s2 s7 X => ∃ (i : Nat) (o : List Int), i ≤ kl ∧ s7 = .int .i64 i ∧ Hid (o = (n.ks.take i).foldl (fun o y => ordD (kfOf ns) m f y o) (out ++ [(j : Int)])) ∧ k + 1 ≤ o.length ∧ o.length ≤ m + 1 ∧ Hid (OwnI w0.heap.size X s2 o) ∧ Hid (Below w0.heap.size w0 X)) (fun _ s7 _ => kl - (intOf s7).toNat)
      case atStart => exact ⟨0, out ++ [(j : Int)], by omega, rfl, Lib.hid rfl, by simp [HO2.out], by simp [HO2.out]; omega, HO1, HB1⟩
      case round =>
        obtain ⟨i, o, hi, rfl, HE, hlo, hhi, HOX, HBX⟩ := hrel
        have dv := (HBX.out.cell (p := ⟨b, off + j * 34 + 1, none⟩) hb0).trans cv0
        have ls := HBX.out.size
        by_cases hlt : i < kl
        · obtain ⟨z, hz⟩ : ∃ z, n.ks[i]? = some z := ⟨_, List.getElem?_eq_getElem (by rw [HKL.out]; exact hlt)⟩
          obtain ⟨qb, qo, rfl, cz, lz⟩ := ints_at0' HI.out i z hz
          have dz := (HBX.out.cell (p := ⟨qb, qo + i, none⟩) lz).trans cz
          obtain ⟨p2, c2, hv2⟩ := (ints_own HOX.out).1.form
          obtain ⟨lo, hlo2⟩ : ∃ lo, o.length = lo := ⟨_, rfl⟩
          rw [hlo2] at hlo hhi hv2
          subst hv2
          have hzr := HLN.out z (List.mem_iff_getElem?.2 ⟨i, hz⟩)
          have HZ := Lib.hid hz
          have HLO := Lib.hid hlo2
          have HZR := Lib.hid hzr
          clear hz cz hlo2 hzr
          go_wp2_with (go_at_call 36; refine (IH.out z o _ _ HZR.out.1 HZR.out.2 (by rw [HLO.out]; omega) (by rw [HLO.out]; omega) HBX.out HOX.out).mono ?_; rintro e w3 ⟨v3, rfl, o3, b3⟩; have HO3 := Lib.hid o3; have HB3 := Lib.hid b3; clear o3 b3 HOX HBX dv dz)
          have ml := ordD_mono (kfOf ns) m f z o
          have bl := ordD_bound (kfOf ns) m f z o (by rw [HLO.out]; omega)
          rw [HLO.out] at ml
          go_roundw
          case rel => exact ⟨i + 1, _, by omega, by go_num, Lib.hid (by rw [fold_snoc _ _ i z HZ.out, ← HE.out]), by omega, bl, HO3, HB3⟩
          case measure => simp [intOf]; omega
        · obtain rfl : i = kl := by omega
          clear cv0
          go_wp2
          go_ret
          refine ⟨_, rfl, ?_, HBX.out⟩
          have := HE.out
          rw [List.take_of_length_le (by rw [HKL.out]; exact Nat.le_refl _)] at this
          rw [← this]
          exact HOX.out
set_option maxHeartbeats 1000000 in
theorem refOrder_at (b off cap m : Nat) (w : World) (zs : List Int)
    (H : Hid (Calls Try.prog 36 #[.slice (some ⟨b, off, none⟩) m cap, .int .i64 0, .slice none 0 0] w (OrdPost w zs))) :
    Calls Try.prog 16 #[.slice (some ⟨b, off, none⟩) m cap] w (OrdPost w zs) := by
  go_enter Try.func16, Try.ntmps16
  go_wp2_with (go_at_call 36; refine H.out.mono ?_; clear H; rintro e w3 ⟨v3, rfl, o3, b3⟩; have HO3 := Lib.hid o3; have HB3 := Lib.hid b3; clear o3 b3)
  go_ret
  exact ⟨_, rfl, HO3.out, HB3.out⟩
/-- the document's Order of a page whose links are right -/
theorem refOrder_any (lv : Value) (ns : List Nd) (w : World) (hP : PageAt w lv ns) (h1 : 1 ≤ ns.length) (h2 : ns.length ≤ 65536) (hK : ∀ n ∈ ns, n.ks.length ≤ 70000) (hL : ∀ n ∈ ns, ∀ z ∈ n.ks, 0 ≤ z ∧ z < (ns.length : Int)) :
    Calls Try.prog 16 #[lv] w (OrdPost w (ordN (kfOf ns) ns.length 0 [])) := by
  obtain ⟨p, cap, rfl⟩ := hP.form
  obtain ⟨b, off, rfl, _, _⟩ := page_cells hP h1
  exact refOrder_at b off cap _ w _ (Lib.hid (order_rec b off cap _ ns w rfl h1 h2 hP hK hL (ns.length + 2) 0 [] _ w (by omega) (by omega) (by simp) (by simp) (Below.refl _ _) (World.ownsRow_nil _ _ _ _)))
end Go.Proofs.Ytilighhccjdceaa
