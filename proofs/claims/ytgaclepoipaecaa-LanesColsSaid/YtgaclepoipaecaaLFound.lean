/- Contract of lanes.found: the kids of a kind, parent by parent; at numbers and at lanes. Written by program (mk_LFound.py). -/
import Derived.Test.YtgaclepoipaecaaLKids
import Derived.Test.YtgaclepoipaecaaTCopy
import Derived.Test.YtgaclepoipaecaaMarks
import Derived.Test.YtgaclepoipaecaaRound
import Derived.Maps.AppendAt
namespace Go.Proofs.Ytgaclepoipaecaa
open Go.RowKit Go.Shelf Go.Maps
set_option linter.unusedVariables false
attribute [local go_sem] Oper.semAt_some

def markL (D : Nat) : Deferred := { target := .collected D, args := #[] }
/-- the kids of a place that are of a kind -/
def kindK (ns : List Nd) (k : Int) (p : Int) : List Int := (kfOf ns p).filter fun z => decide (kdOf ns z.toNat = k)
def fndP (ns : List Nd) (k : Int) (ps : List Int) : List (Int × Int) := ps.flatMap fun p => (kindK ns k p).map fun z => (z, p)
theorem own_belowN {V Z : World} {base e size n : Nat} {v : Value} {xs : List Value} (h : V.ownsRow base e size v n xs) (hb : Below V.heap.size V Z) : Z.ownsRow base e size v n xs := by
  refine ⟨h.1, ?_⟩
  rcases h.2 with hn | ⟨g', cap, cur, rfl, hbs, hgg, rest⟩
  · exact .inl hn
  · exact .inr ⟨g', cap, cur, rfl, hbs, (hb.block g' (Array.getElem?_eq_some_iff.1 hgg).1).trans hgg, rest⟩
theorem own_cellsKept {V Z : World} {base e size n : Nat} {v : Value} {xs : List Value} (h : V.ownsRow base e size v n xs) (hb : CellsKept V Z) : Z.ownsRow base e size v n xs := by
  refine ⟨h.1, ?_⟩
  rcases h.2 with hn | ⟨g', cap, cur, rfl, hbs, hgg, rest⟩
  · exact .inl hn
  · exact .inr ⟨g', cap, cur, rfl, hbs, hb _ _ hgg rfl, rest⟩
theorem own_from {V : World} {base base' e size n : Nat} {v : Value} {xs : List Value} (h : V.ownsRow base e size v n xs) (hb : base' ≤ base) : V.ownsRow base' e size v n xs := by
  refine ⟨h.1, ?_⟩
  rcases h.2 with hn | ⟨g', cap, cur, rfl, hbs, rest⟩
  · exact .inl hn
  · exact .inr ⟨g', cap, cur, rfl, by omega, rest⟩
theorem cell_ownGrown {Z X : World} {base e size n : Nat} {v : Value} {xs : List Value} (h : Z.ownsRow base e size v n xs) (hg : Z.grownBy X v.ownBlock) {a : Addr} {u : Value} (hc : Z.cell? a = some u) (hne : v.ownBlock ≠ some a.block) : X.cell? a = some u := hg.cell hc fun e => hne e.symm
/-- the memory of a call of found -/
structure FoundW (N te sz tl tf : Nat) (af : Value) (k : Int) (enc : Int × Int → List Value) (Ds : List Nat) (v : Value) (E : List (Int × Int)) (w X : World) : Prop where
  kb : Whole X N 3 [.int .i64 k]
  ab : Whole X (N + 1) tf [af]
  lb : Whole X (N + 2) tl [v]
  own : X.ownsRow (N + 3) te sz v E.length (E.flatMap enc)
  low : Below N w X
  mks : Marks (N + 3) Ds X
  lt : ∀ D ∈ Ds, D < X.heap.size
theorem FoundW.below {N te sz tl tf : Nat} {af : Value} {k : Int} {enc : Int × Int → List Value} {Ds : List Nat} {v : Value} {E : List (Int × Int)} {w X Y : World} (h : FoundW N te sz tl tf af k enc Ds v E w X) (hb : Below X.heap.size X Y) (hN : N ≤ X.heap.size) : FoundW N te sz tl tf af k enc Ds v E w Y :=
  ⟨h.kb.below hb h.kb.lt, h.ab.below hb h.ab.lt, h.lb.below hb h.lb.lt, own_belowN h.own hb, h.low.trans (hb.mono hN), ⟨h.mks.1, fun D hD => ⟨(h.mks.2 D hD).1, (hb.block D (h.lt D hD)).trans (h.mks.2 D hD).2⟩⟩, fun D hD => Nat.lt_of_lt_of_le (h.lt D hD) hb.size⟩
theorem FoundW.grownN {N te sz tl tf B : Nat} {af : Value} {k : Int} {enc : Int × Int → List Value} {Ds : List Nat} {v : Value} {E : List (Int × Int)} {w X Y : World} {row : Option Nat} (h : FoundW N te sz tl tf af k enc Ds v E w X) (hg : X.grownBy Y row) (hr : ∀ r, row = some r → B ≤ r ∧ ∃ o : Obj, X.heap[r]? = some o ∧ o.isCells = false) (hB : ∀ D ∈ Ds, D < B) (hN : N ≤ B) (hw : N ≤ w.heap.size) : FoundW N te sz tl tf af k enc Ds v E w Y := by
  have hnc : NoCells X row := fun r e => (hr r e).2
  exact ⟨h.kb.grown hg (h.kb.ne hnc), h.ab.grown hg (h.ab.ne hnc), h.lb.grown hg (h.lb.ne hnc), own_grown h.own hg hnc, (ownFrom_below (β := Unit) hw hN) () X Y row h.low hg hr,
    ⟨h.mks.1, fun D hD => ⟨(h.mks.2 D hD).1, (hg.block D (h.lt D hD) (fun e => by have := (hr D e.symm).1; have := hB D hD; omega)).trans (h.mks.2 D hD).2⟩⟩, fun D hD => Nat.lt_of_lt_of_le (h.lt D hD) hg.size⟩
/-- one more is found: the append, and the store -/
theorem FoundW.step {N te sz tl tf by' : Nat} {af z : Value} {i : TypeInfo} {k : Int} {enc : Int × Int → List Value} {Ds : List Nat} {v : Value} {E : List (Int × Int)} {w V Z : World} (h : FoundW N te sz tl tf af k enc Ds v E w V) (hz : Below V.heap.size V Z) (hN : N = w.heap.size) (x : Int × Int) (a : Addr)
    (ht : Try.prog.underlying tl = some (.slice te)) (hi : Try.prog.info? te = some i) (h1 : i.zero = some z) (h2 : i.size = sz) (h3 : i.bytes = by') (h4 : z.cells.size = sz) (h5 : 0 < sz) (hb : by' ≤ 16) (hne : tl ≠ te)
    (hl : (enc x).length = sz) (hc : ∀ j u, (enc x)[j]? = some u → Z.cell? (a.add j) = some u) (h6 : ∀ u ∈ enc x, u.oneCell' = true) (hE : E.length ≤ 4000000000000) :
    ∃ v' X2, (Builtin.append_ #[tl, tl] tl #[v, .slice (some a) 1 1]).run Try.prog Z = .ok v' X2 ∧ Whole X2 (N + 2) tl [v] ∧ FoundW N te sz tl tf af k enc Ds v' (E ++ [x]) w (X2.setCell ⟨N + 2, 0, none⟩ v') ∧
      KeepsOthers V (X2.setCell ⟨N + 2, 0, none⟩ v') ∧ (v'.ownBlock = v.ownBlock ∨ v'.ownBlock = some Z.heap.size) ∧
      (∀ (a : Addr) (u : Value), V.cell? a = some u → a.block ≠ N + 2 → v.ownBlock ≠ some a.block → (X2.setCell ⟨N + 2, 0, none⟩ v').cell? a = some u) := by
  have hNV : N ≤ V.heap.size := by have := h.kb.lt; omega
  have hZ := h.below hz hNV
  have hNZ : N + 3 ≤ Z.heap.size := by have := hZ.lb.lt; omega
  obtain ⟨v', X2, hr, ho, hg, _, hv⟩ := run_append_own_at (P := Try.prog) Z (N + 3) tl tl te i z sz by' ht hi h1 h2 h3 h4 h5 v E.length (E.flatMap enc) hZ.own a 1 1 (enc x) (by rw [hl, Nat.one_mul]) hc h6 (by unfold maxLen; omega) (by
    calc (E.length + 1) * by' ≤ (E.length + 1) * 16 := Nat.mul_le_mul_left _ hb
      _ ≤ 140737488355328 := by omega) hNZ
  have hlb : Whole X2 (N + 2) tl [v] := hZ.lb.grown hg (whole_own hZ.lb hZ.own hne)
  have hsm : ∀ g, g < N + 3 → v.ownBlock ≠ some g := fun g hg' e => by have := (hZ.own.lt g e).1; omega
  have hdf : ∀ D ∈ Ds, v.ownBlock ≠ some D := fun D hD e => by
    obtain ⟨cur, hcc⟩ := own_block_cells hZ.own e
    have := (hZ.mks.2 D hD).2
    rw [hcc] at this; cases this
  have hsz := hg.size
  refine ⟨v', X2, hr, hlb, ⟨?_, ?_, hlb.set 0 v', ?_, ?_, ⟨hZ.mks.1, fun D hD => ⟨(hZ.mks.2 D hD).1, ?_⟩⟩, fun D hD => ?_⟩, ?_, hv, fun a u hau hab hob => ?_⟩
  · exact (hZ.kb.grown hg (hsm N (by omega))).other _ _ (show N ≠ N + 2 by omega)
  · exact (hZ.ab.grown hg (hsm (N + 1) (by omega))).other _ _ (show N + 1 ≠ N + 2 by omega)
  · refine own_setCell ?_ (whole_own hlb ho hne)
    rw [List.length_append, List.flatMap_append]
    simpa using ho
  · exact (hZ.low.grown hg (by omega) (fun g e => by have := (hZ.own.lt g e).1; omega)).setCell (p := ⟨N + 2, 0, none⟩) (show N ≤ N + 2 by omega) _
  · have h0 : X2.heap[D]? = some (.deferred (some [])) := (hg.block D (hZ.lt D hD) (fun e => hdf D hD e.symm)).trans (hZ.mks.2 D hD).2
    rw [Below.heap_setCell X2 _ _ D (show D ≠ N + 2 by
      intro e
      have hh : X2.heap[N + 2]? = _ := hlb
      rw [e, hh] at h0; cases h0)]
    exact h0
  · have := hZ.lt D hD; simp; omega
  · exact (⟨hz.size, fun j o hj _ => (hz.block j (Array.getElem?_eq_some_iff.1 hj).1).trans hj⟩ : KeepsOthers V Z).trans ((own_keeps hZ.own hg).trans (KeepsOthers.setCell _ _ _))
  · have e1 : Z.cell? a = some u := (hz.cell (p := a) (cell_lt hau)).trans hau
    have e2 := hg.cell e1 (fun e => hob e.symm)
    rw [World.cell?_setCell_other _ _ _ _ (fun e => hab (by rw [← e]))]
    exact e2

theorem ints_at0L {W : World} {q : Option Addr} {kc kl : Nat} {zs : List Int} (h : Ints W (.slice q kl kc) zs) (t : Nat) (z : Int) (hz : zs[t]? = some z) : ∃ b o, q = some ⟨b, o, none⟩ ∧ W.cell? ⟨b, o + t, none⟩ = some (.int .i64 z) ∧ b < W.heap.size := by
  have ht := (List.getElem?_eq_some_iff.1 hz).1
  obtain ⟨_, ⟨a, cap, e, rfl⟩ | ⟨b, off, cap, e, hc⟩⟩ := h
  · simp at ht
  · injection e with e1 e2 e3
    have := hc t ht
    rw [hz] at this
    exact ⟨b, off, e1, this, cell_lt this⟩
theorem fnd_len (ns : List Nd) (k : Int) (hK : ∀ n ∈ ns, n.ks.length ≤ 70000) : ∀ (ps : List Int) (i : Nat), ps.length ≤ i → (fndP ns k ps).length ≤ i * 70000
  | [], i, _ => by simp [fndP]
  | p :: ps, 0, h => by simp at h
  | p :: ps, i + 1, h => by
    have ih := fnd_len ns k hK ps i (by simpa using h)
    unfold fndP at ih ⊢
    rw [List.flatMap_cons, List.length_append, List.length_map]
    have h1 : (kindK ns k p).length ≤ 70000 := by
      unfold kindK
      refine Nat.le_trans (List.length_filter_le _ _) ?_
      unfold kfOf
      cases hq : ns[p.toNat]? with
      | none => simp
      | some n => exact hK n (List.mem_iff_getElem?.2 ⟨_, hq⟩)
    omega
theorem KidM.moved {B gl ga L o m cap p N : Nat} {kv : Value} {ks : List Int} {kd : Nat → Int} {X Y : World} (h : KidM B gl ga L o m cap p kv ks kd X) (hs : B ≤ Y.heap.size) (hl : N ≤ gl) (ha : N ≤ ga)
    (hc : ∀ (a : Addr) (u : Value), X.cell? a = some u → a.block = gl ∨ a.block = ga ∨ a.block < N → Y.cell? a = some u) (hL : L < N) (hlow : ks = [] ∨ ∀ qb qo c, kv = .slice (some ⟨qb, qo, none⟩) ks.length c → qb < N) : KidM B gl ga L o m cap p kv ks kd Y := by
  obtain ⟨h1, h2, h3, h4, h5, h6, h7, h8⟩ := h
  refine ⟨hs, h2, hc _ _ h3 (.inl rfl), hc _ _ h4 (.inr (.inl rfl)), hc _ _ h5 (.inr (.inr hL)), ?_, h7, fun i hi => hc _ _ (h8 i hi) (.inr (.inr hL))⟩
  rcases hlow with rfl | hq
  · obtain ⟨q, c, rfl⟩ := h6.form
    exact ⟨h6.1, .inl ⟨q, c, rfl, rfl⟩⟩
  · obtain ⟨g1, ⟨a, c', e, rfl⟩ | ⟨b, off, c', e, hcc⟩⟩ := h6
    · exact ⟨g1, .inl ⟨a, c', e, rfl⟩⟩
    · exact ⟨g1, .inr ⟨b, off, c', e, fun j hj => hc ⟨b, off + j, none⟩ _ (hcc j hj) (.inr (.inr (hq b off c' e)))⟩⟩
def encI (x : Int × Int) : List Value := [.int .i64 x.1]
def encL (x : Int × Int) : List Value := [.int .i64 x.1, .int .i64 x.2]
theorem Try.infoLane : (Try.prog.info? 48).map (fun i => (i.zero, i.size, i.bytes)) = some (some (.agg #[.int .i64 0, .int .i64 0]), 2, 16) := by kernel_rfl
set_option maxHeartbeats 400000 in
theorem itself_any (a b : Int) (w : World) : Calls Try.prog 35 #[.int .i64 a, .int .i64 b] w fun e W' => e = .returned (.int .i64 a) ∧ Below w.heap.size w W' := by
  go_enter Try.func35, Try.ntmps35
  go_wp2
  go_ret
  exact ⟨rfl, Below.refl _ _⟩
set_option maxHeartbeats 400000 in
theorem inGroup_any (a b : Int) (w : World) : Calls Try.prog 28 #[.int .i64 a, .int .i64 b] w fun e W' => e = .returned (.agg #[.int .i64 a, .int .i64 b]) ∧ Below w.heap.size w W' := by
  go_enter Try.func28, Try.ntmps28
  go_wp2
  refine bodyPost_ret (v := .agg #[.int .i64 a, .int .i64 b]) (by simp [results, Try.results28, go_sem]) rfl ⟨rfl, ?_⟩
  exact (Below.refl _ _).alloc (Nat.le_refl _) _

/-- a round of found over one parent -/
def FII (N P : Nat) (k : Int) (Ds : List Nat) (ks : List Int) (kd : Nat → Int) (p : Nat) (acc : List (Int × Int)) (R : World → Prop) (w : World) (pre : List (Int × Int)) (X : World) : Prop :=
  ∃ v, FoundW N 3 1 32 80 (.func (.func 35) #[] #[]) k encI Ds v (acc ++ ((ks.take pre.length).filter fun z => decide (kd z.toNat = k)).map fun z => (z, (p : Int))) w X ∧ X.cell? ⟨P, 0, none⟩ = some (.int .i64 (p : Int)) ∧ R X ∧ (∀ g, v.ownBlock = some g → g < P ∨ P + 3 ≤ g) ∧ P + 3 ≤ X.heap.size
def LFI (b off m cap N : Nat) (k : Int) (q : Option Addr) (pl pc : Nat) (ns : List Nd) (ps : List Int) (w : World) : Act → World → Prop := fun a X =>
  ∃ (i : Nat) (Ds : List Nat) (v : Value) (x11 x17 x18 x19 x20 x21 x22 x35 : Value), a = { tmps := #[.slice (some ⟨b, off, none⟩) m cap, .int .i64 k, .func (.func 35) #[] #[], .slice q pl pc, undef, .pointer (some ⟨N, 0, none⟩), .pointer (some ⟨N + 1, 0, none⟩), undef, .slice none 0 0, .pointer (some ⟨N + 2, 0, none⟩), undef, x11, undef, undef, .slice q pl pc, .int .i64 pl, .int .i64 i, x17, x18, x19, x20, x21, x22, undef, undef, undef, undef, undef, undef, undef, undef, undef, undef, undef, undef, x35, undef], defers := Ds.map markL } ∧ i ≤ pl ∧
    Hid (FoundW N 3 1 32 80 (.func (.func 35) #[] #[]) k encI Ds v (fndP ns k (ps.take i)) w X)
set_option maxRecDepth 100000 in
set_option maxHeartbeats 4000000 in
theorem foundI_ok (b off cap m : Nat) (k : Int) (q : Option Addr) (pl pc : Nat) (ns : List Nd) (ps : List Int) (w : World) (hm : ns.length = m) (h2 : m ≤ 65536) (hK : ∀ n ∈ ns, n.ks.length ≤ 70000) (hP : PageAt w (.slice (some ⟨b, off, none⟩) m cap) ns)
    (hlink : ∀ n ∈ ns, ∀ z ∈ n.ks, 0 ≤ z ∧ z < (m : Int)) (hps : Ints w (.slice q pl pc) ps) (hpl : ps.length = pl) (hpm : pl ≤ 10000000) (hpr : ∀ p ∈ ps, 0 ≤ p ∧ p < (m : Int)) :
    Calls Try.prog 34 #[.slice (some ⟨b, off, none⟩) m cap, .int .i64 k, .func (.func 35) #[] #[], .slice q pl pc] w fun e W' => ∃ v, e = .returned v ∧ W'.ownsRow w.heap.size 3 1 v (fndP ns k ps).length ((fndP ns k ps).flatMap encI) ∧ Below w.heap.size w W' := by
  refine (callsIn_wide (n := 3)).1 (callsIn_of_wp_marks Try.func34 rfl trivial (wpIn_wide.2 ?_) rfl)
  simp only [Try.ntmps34, List.size_toArray, List.length_cons, List.length_nil, Nat.reduceAdd, Nat.reduceSub, Array.replicate_succ, Array.replicate_zero, List.push_toArray, List.append_toArray, List.nil_append, List.cons_append]
  have HP := Lib.hid hP
  have HM := Lib.hid hm
  have HK := Lib.hid hK
  have HLI := Lib.hid hlink
  have HPS := Lib.hid hps
  have HPL := Lib.hid hpl
  have HPR := Lib.hid hpr
  have hbw : Hid (∀ i n, ns[i]? = some n → w.cell? ⟨b, off + i * 34, none⟩ = some (.int .i64 n.k) ∧ w.cell? ⟨b, off + i * 34 + 1, none⟩ = some n.kv ∧ Ints w n.kv n.ks ∧ b < w.heap.size) := Lib.hid (by
    intro i n hn
    obtain ⟨b', off', e, _, hc⟩ := page_cells hP (by rw [← hm]; have := (List.getElem?_eq_some_iff.1 hn).1; omega)
    injection e with e; injection e with e1 e2
    subst e1 e2
    exact hc i n hn)
  have hcapk : Hid (∀ n ∈ ns, CapOk n.kv) := Lib.hid fun n hn => (hP.2.1 n hn).2.2.1
  clear hP hm hK hlink hps hpl hpr
  go_wp2
  obtain ⟨N, hN⟩ : ∃ N, w.heap.size = N := ⟨_, rfl⟩
  obtain ⟨W2, hW2⟩ : ∃ W2, ((w.alloc (.cells #[.int .i64 k] 3)).alloc (.cells #[.func (.func 35) #[] #[]] 80)).alloc (.cells #[.slice none 0 0] 32) = W2 := ⟨_, rfl⟩
  have HI0 : Hid (FoundW N 3 1 32 80 (.func (.func 35) #[] #[]) k encI [] (.slice none 0 0) (fndP ns k (ps.take 0)) w W2) := Lib.hid (by
    subst hN
    rw [← hW2]
    refine ⟨?_, ?_, ?_, ?_, ?_, Marks.nil _ _, by simp⟩
    · exact ((whole_new w [.int .i64 k] 3 _ rfl).alloc _).alloc _
    · exact (whole_new (w.alloc (.cells #[.int .i64 k] 3)) [.func (.func 35) #[] #[]] 80 _ (by simp)).alloc _
    · exact whole_new ((w.alloc (.cells #[.int .i64 k] 3)).alloc (.cells #[.func (.func 35) #[] #[]] 80)) [.slice none 0 0] 32 _ (by simp)
    · simp only [List.take_zero, fndP, List.flatMap_nil, List.length_nil]
      exact World.ownsRow_nil _ _ _ _
    · exact (((Below.refl _ w).alloc (Nat.le_refl _) _).alloc (by simp) _).alloc (by simp; omega) _)
  have HNN := Lib.hid hN
  rw [hN, hW2]
  clear hW2 hN
  have hlow0 : Hid (Below N w W2) := Lib.hid HI0.out.low
  refine wp_loop (LFI b off m cap N k q pl pc ns ps w) (fun a _ => pl - (intOf (a.tmps.getD 16 undef)).toNat) ⟨0, [], .slice none 0 0, undef, undef, undef, undef, undef, undef, undef, undef, rfl, by omega, HI0⟩ ?_
  rintro a X ⟨i, Ds, v, x11, x17, x18, x19, x20, x21, x22, x35, rfl, hi, HI⟩
  clear HI0 hlow0
  have hNX : N + 3 ≤ X.heap.size := by have := HI.out.lb.lt; omega
  have hbX : Below N w X := HI.out.low
  by_cases hlt : i < pl
  · obtain ⟨pz, hpz⟩ : ∃ pz, ps[i]? = some pz := ⟨_, List.getElem?_eq_getElem (by rw [HPL.out]; exact hlt)⟩
    have hprz := HPR.out pz (List.mem_iff_getElem?.2 ⟨i, hpz⟩)
    obtain ⟨p, rfl⟩ : ∃ p : Nat, pz = (p : Int) := ⟨pz.toNat, by omega⟩
    have hpm2 : p < m := by omega
    obtain ⟨qb, qo, hq, cz, lz⟩ := ints_at0L HPS.out i (p : Int) hpz
    subst hq
    have dz := (hbX.cell (p := ⟨qb, qo + i, none⟩) (show qb < N by rw [← HNN.out]; exact lz)).trans cz
    have lz2 : qb < X.heap.size := by have := HNN.out; omega
    obtain ⟨n, hn⟩ : ∃ n, ns[p]? = some n := ⟨_, List.getElem?_eq_getElem (by rw [HM.out]; exact hpm2)⟩
    have hmem : n ∈ ns := List.mem_iff_getElem?.2 ⟨p, hn⟩
    have HN := Lib.hid hn
    have HMEM := Lib.hid hmem
    have HPZ := Lib.hid hpz
    have HKF := Lib.hid (fun Y => kidsF_any (some ⟨b, off, none⟩) m cap (p : Int) Y)
    clear hpz cz hn hmem hprz
    go_wp2_with (go_at_call 22; refine (HKF.out _).mono ?_; rintro e w' ⟨rfl, rfl⟩)
    obtain ⟨P, hPe⟩ : ∃ P, X.heap.size = P := ⟨_, rfl⟩
    have hNP : N + 3 ≤ P := by omega
    obtain ⟨Y, hY⟩ : ∃ Y, X.alloc (.cells #[.int .i64 (p : Int)] 3) = Y := ⟨_, rfl⟩
    have bXY : Below P X Y := by rw [← hY]; exact (Below.refl P X).alloc (by omega) _
    have sY : Y.heap.size = P + 1 := by rw [← hY]; simp [hPe]
    have yP : Whole Y P 3 [.int .i64 (p : Int)] := by rw [← hY]; exact whole_new X [.int .i64 (p : Int)] 3 P hPe.symm
    rw [hPe, hY]
    obtain ⟨W3, hW3⟩ : ∃ W3, (Y.alloc (.cells #[.slice (some ⟨b, off, none⟩) m cap] 22)).alloc (.cells #[.int .i64 (p : Int)] 3) = W3 := ⟨_, rfl⟩
    have bY3 : Below Y.heap.size Y W3 := by rw [← hW3]; exact ((Below.refl _ Y).alloc (Nat.le_refl _) _).alloc (by simp) _
    have s3 : W3.heap.size = P + 3 := by rw [← hW3]; simp [sY]
    have y0 : Whole W3 (P + 1) 22 [.slice (some ⟨b, off, none⟩) m cap] := by rw [← hW3]; exact (whole_new Y [.slice (some ⟨b, off, none⟩) m cap] 22 _ sY.symm).alloc _
    have y1 : Whole W3 (P + 2) 3 [.int .i64 (p : Int)] := by rw [← hW3]; exact whole_new (Y.alloc (.cells #[.slice (some ⟨b, off, none⟩) m cap] 22)) [.int .i64 (p : Int)] 3 _ (by simp [sY])
    have b3 : Below P X W3 := bXY.trans (bY3.mono (by omega))
    have y2 : Whole W3 P 3 [.int .i64 (p : Int)] := yP.below bY3 (by omega)
    have bw3 : Below N w W3 := hbX.trans (b3.mono (by omega))
    have HF3 : Hid (FoundW N 3 1 32 80 (.func (.func 35) #[] #[]) k encI Ds v (fndP ns k (ps.take i)) w W3) := Lib.hid (HI.out.below (by rw [hPe]; exact b3) (by omega))
    obtain ⟨cn0, cn1, hIk, hbw0⟩ := hbw.out p n HN.out
    have HLOW : Hid (b < N ∧ (n.ks = [] ∨ ∀ qb qo c, n.kv = .slice (some ⟨qb, qo, none⟩) n.ks.length c → qb < N)) := Lib.hid (by
      refine ⟨by have := HNN.out; omega, ?_⟩
      by_cases hz : n.ks = []
      · exact .inl hz
      · refine .inr fun qb qo c e => ?_
        obtain ⟨_, ⟨a, cap', e', hz'⟩ | ⟨b', o', cap', e', hc⟩⟩ := hIk
        · exact absurd hz' hz
        · rw [e] at e'
          injection e' with e1; injection e1 with e1; injection e1 with e1 e4
          have : b' < w.heap.size := cell_lt (hc 0 (List.length_pos_iff.2 hz))
          have := HNN.out
          omega)
    have hRun : KidM (P + 3) (P + 1) (P + 2) b off m cap p n.kv n.ks (kdOf ns) W3 := by
      have hbN : b < N := by have := HNN.out; omega
      have hIk3 : Ints W3 n.kv n.ks := hIk.below (by rw [HNN.out]; exact bw3)
      refine ⟨by omega, by omega, y0.cellAt 0, y1.cellAt 0, (bw3.cell (p := ⟨b, off + p * 34 + 1, none⟩) hbN).trans cn1, hIk3, ?_, fun j hj => ?_⟩
      · obtain ⟨_, ⟨a, cap', e, hz⟩ | ⟨b', o', cap', e, hc⟩⟩ := hIk
        · exact .inl hz
        · by_cases hz : n.ks = []
          · exact .inl hz
          · refine .inr ⟨b', o', cap', e, ?_⟩
            have : b' < w.heap.size := cell_lt (hc 0 (List.length_pos_iff.2 hz))
            have := HNN.out
            omega
      · have hj' := List.getElem?_eq_getElem (show j < ns.length by rw [HM.out]; exact hj)
        have := (hbw.out j _ hj').1
        unfold kdOf
        rw [hj']
        exact (bw3.cell (p := ⟨b, off + j * 34, none⟩) hbN).trans this
    have hlinkn := HLI.out n HMEM.out
    have hcapn := hcapk.out n HMEM.out
    have hkfew := HK.out n HMEM.out
    have hav : ∀ g, v.ownBlock = some g → g < P ∨ P + 3 ≤ g := fun g e => .inl (by have := (HI.out.own.lt g e).2; omega)
    have HDs : Hid (∀ D ∈ Ds, D < P) := Lib.hid (fun D hD => by have := HI.out.lt D hD; omega)
    have hacc : (fndP ns k (ps.take i)).length ≤ i * 70000 := fnd_len ns k HK.out (ps.take i) i (by rw [List.length_take]; omega)
    obtain ⟨acc, hac⟩ : ∃ acc, fndP ns k (ps.take i) = acc := ⟨_, rfl⟩
    rw [hac] at HF3 hacc
    have HAC := Lib.hid hac
    have ewn : w.heap.size = N := HNN.out
    have HIF : Hid (FII N P k Ds n.ks (kdOf ns) p acc (KidM (P + 3) (P + 1) (P + 2) b off m cap p n.kv n.ks (kdOf ns)) w [] W3) := Lib.hid ⟨v, by simpa using HF3.out, y2.cellAt 0, hRun, hav, by omega⟩
    rw [hW3]
    clear hW3 hY bXY yP bY3 y0 y1 y2 b3 bw3 cn0 cn1 hIk hbw0 HI hac hav HF3
    refine (wpIn_wide (n := 3)).1 (range_next (F := Fence.wide) rfl (by omega) (gf := 37) (lb := #[.pointer (some ⟨P + 1, 0, none⟩), .pointer (some ⟨P + 1 + 1, 0, none⟩)]) rfl trivial (enters_of Try.func37 (by kernel_rfl) rfl)
      (Kp := KeepR (KidM (P + 3) (P + 1) (P + 2) b off m cap p n.kv n.ks (kdOf ns))) (fun _ _ _ h k => h.trans k) (fun W l o h1 h2 => ⟨by simp, fun hr => hr.below (below_put W o (by omega) h2)⟩)
      (lkids_next _ (by omega) (P + 3) (P + 1) (P + 2) b off m cap p n.kv n.ks (kdOf ns) hcapn (by omega) hpm2 hlinkn W3 hRun s3.symm) (fun x => rfl)
      (FII N P k Ds n.ks (kdOf ns) p acc (KidM (P + 3) (P + 1) (P + 2) b off m cap p n.kv n.ks (kdOf ns)) w) (fun _ _ _ => False) ?own (fun _ _ _ _ _ hs _ _ => hs)
      HIF.out ?round ?done ?stop)
    case own =>
      rintro pre X1 Y1 row ⟨v1, g1, g2, g3, g4, g5⟩ hg hr
      have hnc : NoCells X1 row := fun r e => (hr r e).2
      refine ⟨v1, g1.grownN hg (B := W3.heap.size) hr (fun D hD => by have := HDs.out D hD; omega) (by omega) (by omega), cell_grown hg hnc g2, g3.grownN hg hnc, g4, by have := hg.size; omega⟩
    case round =>
      rintro l pre ⟨z, kz⟩ V hl hI ⟨hz1, hz2⟩
      dsimp only at hz1 hz2
      subst hz2
      have hzr := hlinkn z (List.mem_iff_getElem?.2 ⟨pre.length, hz1⟩)
      obtain ⟨zn, rfl⟩ : ∃ zn : Nat, z = (zn : Int) := ⟨z.toNat, by omega⟩
      rw [Int.toNat_natCast]
      have htl : pre.length < n.ks.length := (List.getElem?_eq_some_iff.1 hz1).1
      have HZ1 := Lib.hid hz1
      refine ⟨{ tmps := #[.slice (some ⟨b, off, none⟩) m cap, .int .i64 k, .func (.func 35) #[] #[], .slice (some ⟨qb, qo, none⟩) pl pc, undef, .pointer (some ⟨N, 0, none⟩), .pointer (some ⟨N + 1, 0, none⟩), undef, .slice none 0 0, .pointer (some ⟨N + 2, 0, none⟩), undef, .pointer (some ⟨P, 0, none⟩), .int .i64 zn, .int .i64 (kdOf ns zn), .slice (some ⟨qb, qo, none⟩) pl pc, .int .i64 pl, .int .i64 i, .bool true, .pointer (some ⟨qb, qo + i, none⟩), .int .i64 p, .slice (some ⟨b, off, none⟩) m cap, .int .i64 p, .func (.func 37) #[] #[.pointer (some ⟨P + 1, 0, none⟩), .pointer (some ⟨P + 1 + 1, 0, none⟩)], .int .i64 zn, .int .i64 (kdOf ns zn), undef, undef, undef, undef, undef, undef, undef, undef, undef, undef, x35, undef], defers := [] }, V, ?_, KeepsFrom.refl _ _, ⟨Nat.le_refl _, id⟩, ?_⟩
      · intro K hK
        dsimp only [encK]
        gi_wp2
        exact hK
      · intro V₂ hgV hnc' hbl
        obtain ⟨v1, g1, g2, g3, g4, g5⟩ := hI
        have q1 := g1.grownN hgV (B := W3.heap.size) (fun r' e => by injection e with e; exact ⟨by omega, hnc' r' (by rw [e])⟩) (fun D hD => by have := HDs.out D hD; omega) (by omega) (by omega)
        have q2 := cell_grown hgV hnc' g2
        have q3 := g3.grownN hgV hnc'
        have q5 : P + 3 ≤ V₂.heap.size := by have := hgV.size; omega
        have cN := q1.kb.cellAt 0
        have lN := q1.kb.lt
        have cA := q1.ab.cellAt 0
        have lA := q1.ab.lt
        have cL := q1.lb.cellAt 0
        have lL := q1.lb.lt
        have cP := q2
        have lP : P < V₂.heap.size := by omega
        have Q1 := Lib.hid q1
        have Q2 := Lib.hid q2
        have Q3 := Lib.hid q3
        have G4 := Lib.hid g4
        have htk : n.ks.take (pre.length + 1) = n.ks.take pre.length ++ [(zn : Int)] := by rw [List.take_add_one, hz1]; rfl
        have HTK := Lib.hid htk
        clear g1 g2 g3 g4 q1 q2 q3 hgV hnc' hbl HIF hz1 htk
        by_cases hk : kdOf ns zn = k
        · have hk' : (kdOf ns zn == k) = true := by simpa using hk
          have HKD := Lib.hid hk
          clear hk
          gi_wp2
          have eg : ∀ args w, (callFunc 35 args).run Try.prog w = .ok (.enter 35 args) w := enters_of Try.func35 (by kernel_rfl) rfl
          obtain ⟨i0, hi0, hz0', hz1', hz2'⟩ := info_parts Try.infoInt
          refine wpIn_round_held (S := fun X => X.cell? ⟨N + 1, 0, none⟩ = some (.func (.func 35) #[] #[]) ∧ X.cell? ⟨P, 0, none⟩ = some (.int .i64 (p : Int))) (by kernel_rfl) (by kernel_rfl) (by simp only [LetsOut, Exit.inBlock]; rintro ⟨x, y, h⟩; exact h) ?_
          obtain ⟨V3, hV3⟩ : ∃ V3, V₂.drew = V3 := ⟨_, rfl⟩
          have SV : Hid (Below V₂.heap.size V₂ V3) := Lib.hid (by rw [← hV3]; exact below_dn _ V₂ 1)
          have sV3 : V3.heap.size = V₂.heap.size := by rw [← hV3]; rfl
          have w1 : V3.cell? ⟨N + 1, 0, none⟩ = some (.func (.func 35) #[] #[]) := (SV.out.cell (p := ⟨N + 1, 0, none⟩) lA).trans cA
          have w2 : V3.cell? ⟨P, 0, none⟩ = some (.int .i64 (p : Int)) := (SV.out.cell (p := ⟨P, 0, none⟩) lP).trans cP
          have w3 : V3.cell? ⟨N + 2, 0, none⟩ = some v1 := (SV.out.cell (p := ⟨N + 2, 0, none⟩) lL).trans cL
          rw [hV3]
          clear hV3 cN lN cA cL cP
          have lA3 : N + 1 < V3.heap.size := by omega
          have lP3 : P < V3.heap.size := by omega
          have lL3 : N + 2 < V3.heap.size := by omega
          obtain ⟨cnt, hcnt⟩ : ∃ cnt, (acc ++ ((n.ks.take pre.length).filter fun z => decide (kdOf ns z.toNat = k)).map fun z => (z, (p : Int))).length = cnt := ⟨_, rfl⟩
          have hE : cnt ≤ 4000000000000 := by
            rw [← hcnt, List.length_append, List.length_map]
            have := List.length_filter_le (fun z => decide (kdOf ns z.toNat = k)) (n.ks.take pre.length)
            rw [List.length_take] at this
            have : i * 70000 ≤ 10000000 * 70000 := Nat.mul_le_mul_right _ (by omega)
            omega
          have hsp : ∃ p1 k1 c1, v1 = .slice p1 k1 c1 := own_slice Q1.out.own
          obtain ⟨p1, k1, c1, hv1⟩ := hsp
          have HV1 := Lib.hid hv1
          -- the store's world
          have TAIL : ∀ U : World, Below V3.heap.size V3 U → Hid (∃ v' X2, (∃ p2 k2 c2, v' = .slice p2 k2 c2) ∧ (Builtin.append_ #[32, 32] 32 #[v1, .slice (some ⟨U.heap.size, 0, none⟩) 1 1]).run Try.prog (U.alloc (.cells #[.int .i64 (zn : Int)] 3)) = .ok v' X2 ∧ Whole X2 (N + 2) 32 [v1] ∧ X2.cell? ⟨N + 1, 0, none⟩ = some (.func (.func 35) #[] #[]) ∧ X2.cell? ⟨P, 0, none⟩ = some (.int .i64 (p : Int)) ∧
              (X2.setCell ⟨N + 2, 0, none⟩ v').cell? ⟨N + 1, 0, none⟩ = some (.func (.func 35) #[] #[]) ∧ (X2.setCell ⟨N + 2, 0, none⟩ v').cell? ⟨P, 0, none⟩ = some (.int .i64 (p : Int)) ∧
              ownPostG W3.heap.size (KeepR (KidM (P + 3) (P + 1) (P + 2) b off m cap p n.kv n.ks (kdOf ns))) (FII N P k Ds n.ks (kdOf ns) p acc (KidM (P + 3) (P + 1) (P + 2) b off m cap p n.kv n.ks (kdOf ns)) w) (fun _ _ _ => False) (pre ++ [((zn : Int), kdOf ns zn)]) V₂ .normal { tmps := #[], defers := [] } (X2.setCell ⟨N + 2, 0, none⟩ v')) := fun U hU => by
            obtain ⟨Z, hZe⟩ : ∃ Z, U.alloc (.cells #[.int .i64 (zn : Int)] 3) = Z := ⟨_, rfl⟩
            have hcz : ∀ j u, (encI ((zn : Int), (p : Int)))[j]? = some u → Z.cell? ((⟨U.heap.size, 0, none⟩ : Addr).add j) = some u := by rw [← hZe]; exact lay_new U (encI ((zn : Int), (p : Int))) 3 _ rfl
            rw [hZe]
            have hZV : Below V₂.heap.size V₂ Z := by rw [← hZe]; exact (SV.out.trans (hU.mono (by omega))).alloc (by have := hU.size; omega) _
            obtain ⟨v', X2, hr, hlb, hF, hko, hv, hcell⟩ := Q1.out.step hZV HNN.out.symm ((zn : Int), (p : Int)) ⟨U.heap.size, 0, none⟩ Try.underlying32 hi0 hz0' hz1' hz2' rfl (by decide) (by decide) (by decide) rfl hcz (by intro u hu; simp [encI] at hu; rcases hu with rfl | rfl <;> rfl) (by rw [hcnt]; exact hE)
            have hob : ∀ g, g < N + 3 ∨ (P ≤ g ∧ g < P + 3) → v1.ownBlock ≠ some g := fun g hg e => by
              have := (Q1.out.own.lt g e).1
              have := G4.out g e
              omega
            have hkid : KidM (P + 3) (P + 1) (P + 2) b off m cap p n.kv n.ks (kdOf ns) (X2.setCell ⟨N + 2, 0, none⟩ v') := Q3.out.moved (N := N) (by have := hko.size; have := Q3.out.size; omega) (by omega) (by omega) (fun a u hau hab => hcell a u hau (by rcases hab with h | h | h <;> omega) (hob _ (by omega))) HLOW.out.1 HLOW.out.2
            have eX1 : (X2.setCell ⟨N + 2, 0, none⟩ v').cell? ⟨N + 1, 0, none⟩ = some (.func (.func 35) #[] #[]) := hcell ⟨N + 1, 0, none⟩ _ (Q1.out.ab.cellAt 0) (show N + 1 ≠ N + 2 by omega) (hob (N + 1) (by omega))
            have eX2 : (X2.setCell ⟨N + 2, 0, none⟩ v').cell? ⟨P, 0, none⟩ = some (.int .i64 (p : Int)) := hcell ⟨P, 0, none⟩ _ Q2.out (show P ≠ N + 2 by omega) (hob P (by omega))
            have f1 : X2.cell? ⟨N + 1, 0, none⟩ = some (.func (.func 35) #[] #[]) := by rw [World.cell?_setCell_other _ _ _ _ (by intro e; injection e with e; omega)] at eX1; exact eX1
            have f2 : X2.cell? ⟨P, 0, none⟩ = some (.int .i64 (p : Int)) := by rw [World.cell?_setCell_other _ _ _ _ (by intro e; injection e with e; omega)] at eX2; exact eX2
            refine Lib.hid ⟨v', X2, own_slice hF.own, hr, hlb, f1, f2, eX1, eX2, hko.from _, ⟨hko.size, fun _ => hkid⟩, v', ?_, ?_, hkid, ?_, ?_⟩
            · rw [List.length_append, List.length_singleton, HTK.out, List.filter_append, List.map_append, ← List.append_assoc]
              have e1 : ([(zn : Int)].filter fun z => decide (kdOf ns z.toNat = k)) = [(zn : Int)] := by simp [HKD.out]
              rw [e1]
              exact hF
            · exact eX2
            · intro g hg
              rcases hv with hv | hv
              · exact G4.out g (hv ▸ hg)
              · rw [hv] at hg; injection hg with hg; have := hZV.size; omega
            · have := hko.size; omega
          have HAS := Lib.hid (fun X => itself_any (zn : Int) (p : Int) X)
          have HSB : ∀ U : World, Below V3.heap.size V3 U → Hid ((U.cell? ⟨N + 1, 0, none⟩ = some (.func (.func 35) #[] #[]) ∧ U.cell? ⟨P, 0, none⟩ = some (.int .i64 (p : Int))) ∧ U.cell? ⟨N + 2, 0, none⟩ = some v1 ∧ N + 2 < U.heap.size) := fun U hU => Lib.hid ⟨⟨(hU.cell (p := ⟨N + 1, 0, none⟩) lA3).trans w1, (hU.cell (p := ⟨P, 0, none⟩) lP3).trans w2⟩, (hU.cell (p := ⟨N + 2, 0, none⟩) lL3).trans w3, by have := hU.size; omega⟩
          subst hv1
          clear hcnt hE Q1 Q2 Q3 G4
          refine wpAnyH_take (i := 1) (v := .func (.func 35) #[] #[]) rfl (by kernel_rfl) (by kernel_rfl) (by kernel_rfl) (fun _ _ _ h => h) (Or.inl ⟨by rfl, ?_⟩) ⟨w1, w2⟩ ?_
          · rintro X ⟨hX1, hX2⟩; go_simp
          refine wpAnyH_take (i := 2) (v := .int .i64 zn) rfl (by kernel_rfl) (by kernel_rfl) (by kernel_rfl) (fun _ _ _ h => h) (Or.inl ⟨by rfl, ?_⟩) ⟨w1, w2⟩ ?_
          · rintro X ⟨hX1, hX2⟩; go_simp
          refine wpAnyH_take (i := 3) (v := .int .i64 p) rfl (by kernel_rfl) (by kernel_rfl) (by kernel_rfl) (fun _ _ _ h => h) (Or.inl ⟨by rfl, ?_⟩) ⟨w1, w2⟩ ?_
          · rintro X ⟨hX1, hX2⟩; go_simp
          refine wpAnyH_all (rs := [0, 4]) (by kernel_rfl) (by simp) ?_
          intro i2 hi2
          rcases (show i2 = 0 ∨ i2 = 4 by simpa using hi2) with rfl | rfl
          · refine wpOp_step rfl (fun K hK => ?_)
            go_simp
            refine hK _ _ ⟨⟨w1, w2⟩, ?_⟩
            clear hK K hi2
            refine wpAnyH_all (rs := [4]) (by kernel_rfl) (by simp) ?_
            intro i2 hi2; obtain rfl : i2 = 4 := by simpa using hi2
            refine wpOp_step rfl (fun K hK => ?_)
            go_simp
            refine (HAS.out _).mono ?_
            rintro e U ⟨rfl, bU⟩
            obtain ⟨us, u3, u4⟩ := (HSB U bU).out
            refine hK _ _ ⟨us, ?_⟩
            clear hK K hi2
            refine wpAnyH_all (rs := [5]) (by kernel_rfl) (by simp) ?_
            intro i2 hi2; obtain rfl : i2 = 5 := by simpa using hi2
            refine wpOp_step rfl (fun K hK => ?_)
            go_simp
            obtain ⟨zs, z3, z4⟩ := (HSB _ (bU.alloc bU.size (.cells #[.int .i64 (zn : Int)] 3))).out
            refine hK _ _ ⟨zs, ?_⟩
            clear hK K hi2
            obtain ⟨v', X2, ⟨p2, k2, c2, rfl⟩, hr7, hlb, f1, f2, e1, e2, hend⟩ := (TAIL U bU).out
            have c7 := hlb.cellAt 0
            have f7 := hlb.free 0
            have l7 := hlb.lt
            refine wpAnyH_all (rs := [6]) (by kernel_rfl) (by simp) ?_
            intro i2 hi2; obtain rfl : i2 = 6 := by simpa using hi2
            refine wpOp_step rfl (fun K hK => ?_)
            refine wp_append_run _ _ _ rfl _ _ _ rfl rfl hr7 ?_
            refine hK _ _ ⟨⟨f1, f2⟩, ?_⟩
            clear hK K hi2
            refine wpAnyH_all (rs := [7]) (by kernel_rfl) (by simp) ?_
            intro i2 hi2; obtain rfl : i2 = 7 := by simpa using hi2
            refine wpOp_step rfl (fun K hK => ?_)
            go_simp
            refine hK _ _ ⟨⟨e1, e2⟩, ?_⟩
            clear hK K hi2
            refine wpAnyH_done (by kernel_rfl) ?_ _
            exact hend
          · refine wpOp_step rfl (fun K hK => ?_)
            go_simp
            refine (HAS.out _).mono ?_
            rintro e U ⟨rfl, bU⟩
            obtain ⟨us, u3, u4⟩ := (HSB U bU).out
            refine hK _ _ ⟨us, ?_⟩
            clear hK K hi2
            refine wpAnyH_all (rs := [0, 5]) (by kernel_rfl) (by simp) ?_
            intro i2 hi2
            rcases (show i2 = 0 ∨ i2 = 5 by simpa using hi2) with rfl | rfl
            · refine wpOp_step rfl (fun K hK => ?_)
              go_simp
              refine hK _ _ ⟨us, ?_⟩
              clear hK K hi2
              refine wpAnyH_all (rs := [5]) (by kernel_rfl) (by simp) ?_
              intro i2 hi2; obtain rfl : i2 = 5 := by simpa using hi2
              refine wpOp_step rfl (fun K hK => ?_)
              go_simp
              obtain ⟨zs, z3, z4⟩ := (HSB _ (bU.alloc bU.size (.cells #[.int .i64 (zn : Int)] 3))).out
              refine hK _ _ ⟨zs, ?_⟩
              clear hK K hi2
              obtain ⟨v', X2, ⟨p2, k2, c2, rfl⟩, hr7, hlb, f1, f2, e1, e2, hend⟩ := (TAIL U bU).out
              have c7 := hlb.cellAt 0
              have f7 := hlb.free 0
              have l7 := hlb.lt
              refine wpAnyH_all (rs := [6]) (by kernel_rfl) (by simp) ?_
              intro i2 hi2; obtain rfl : i2 = 6 := by simpa using hi2
              refine wpOp_step rfl (fun K hK => ?_)
              refine wp_append_run _ _ _ rfl _ _ _ rfl rfl hr7 ?_
              refine hK _ _ ⟨⟨f1, f2⟩, ?_⟩
              clear hK K hi2
              refine wpAnyH_all (rs := [7]) (by kernel_rfl) (by simp) ?_
              intro i2 hi2; obtain rfl : i2 = 7 := by simpa using hi2
              refine wpOp_step rfl (fun K hK => ?_)
              go_simp
              refine hK _ _ ⟨⟨e1, e2⟩, ?_⟩
              clear hK K hi2
              refine wpAnyH_done (by kernel_rfl) ?_ _
              exact hend
            · refine wpOp_step rfl (fun K hK => ?_)
              go_simp
              obtain ⟨zs, z3, z4⟩ := (HSB _ (bU.alloc bU.size (.cells #[.int .i64 (zn : Int)] 3))).out
              refine hK _ _ ⟨zs, ?_⟩
              clear hK K hi2
              refine wpAnyH_all (rs := [0]) (by kernel_rfl) (by simp) ?_
              intro i2 hi2; obtain rfl : i2 = 0 := by simpa using hi2
              refine wpOp_step rfl (fun K hK => ?_)
              go_simp
              refine hK _ _ ⟨zs, ?_⟩
              clear hK K hi2
              obtain ⟨v', X2, ⟨p2, k2, c2, rfl⟩, hr7, hlb, f1, f2, e1, e2, hend⟩ := (TAIL U bU).out
              have c7 := hlb.cellAt 0
              have f7 := hlb.free 0
              have l7 := hlb.lt
              refine wpAnyH_all (rs := [6]) (by kernel_rfl) (by simp) ?_
              intro i2 hi2; obtain rfl : i2 = 6 := by simpa using hi2
              refine wpOp_step rfl (fun K hK => ?_)
              refine wp_append_run _ _ _ rfl _ _ _ rfl rfl hr7 ?_
              refine hK _ _ ⟨⟨f1, f2⟩, ?_⟩
              clear hK K hi2
              refine wpAnyH_all (rs := [7]) (by kernel_rfl) (by simp) ?_
              intro i2 hi2; obtain rfl : i2 = 7 := by simpa using hi2
              refine wpOp_step rfl (fun K hK => ?_)
              go_simp
              refine hK _ _ ⟨⟨e1, e2⟩, ?_⟩
              clear hK K hi2
              refine wpAnyH_done (by kernel_rfl) ?_ _
              exact hend
        · have hk' : (kdOf ns zn == k) = false := by simpa using hk
          gi_wp2
          refine ⟨KeepsFrom.refl _ _, ⟨Nat.le_refl _, id⟩, v1, ?_, Q2.out, Q3.out, G4.out, q5⟩
          rw [List.length_append, List.length_singleton, HTK.out, List.filter_append]
          have e1 : ([(zn : Int)].filter fun z => decide (kdOf ns z.toNat = k)) = [] := by simp [hk]
          rw [e1, List.append_nil]
          exact Q1.out
    case done =>
      rintro D xs V hD hS ⟨v1, g1, g2, g3, g4, g5⟩ hmk
      have hlD : D < V.heap.size := (Array.getElem?_eq_some_iff.1 hmk).1
      have hfin : fndP ns k (ps.take (i + 1)) = acc ++ ((n.ks.take xs.length).filter fun z => decide (kdOf ns z.toNat = k)).map fun z => (z, (p : Int)) := by
        rw [← HAC.out]
        unfold fndP
        rw [List.take_add_one, HPZ.out, List.flatMap_append, hS, List.take_of_length_le (Nat.le_refl _)]
        congr 1
        simp only [Option.toList_some, List.flatMap_cons, List.flatMap_nil, List.append_nil]
        unfold kindK kfOf
        rw [Int.toNat_natCast, HN.out]; rfl
      have HI2 : Hid (FoundW N 3 1 32 80 (.func (.func 35) #[] #[]) k encI (D :: Ds) v1 (fndP ns k (ps.take (i + 1))) w V) := Lib.hid (by
        rw [hfin]
        refine ⟨g1.kb, g1.ab, g1.lb, g1.own, g1.low, g1.mks.cons (by omega) hmk (fun E hE => by have := HDs.out E hE; omega), fun E hE => ?_⟩
        rcases List.mem_cons.1 hE with rfl | hE
        · exact hlD
        · exact g1.lt E hE)
      clear g1 g2 g3 g4 g5 hmk hS hfin hRun
      go_wp2
      refine ⟨⟨i + 1, D :: Ds, v1, _, _, _, _, _, _, _, _, rfl, by omega, HI2⟩, by simp [intOf]; omega⟩
    case stop =>
      rintro D c pre V hD _ hF hmk
      exact hF.elim
  · obtain rfl : i = pl := by omega
    have cL := HI.out.lb.cellAt 0
    have lL := HI.out.lb.lt
    go_wp2
    refine leaves_marks (N + 3) Ds _ HI.out.mks (fun W' hck hbk => ⟨v, by simp [results, Try.results34, go_sem], v, rfl, ?_, ?_⟩)
    · have := HI.out.own
      rw [List.take_of_length_le (by rw [HPL.out]; exact Nat.le_refl _)] at this
      rw [HNN.out]
      exact own_from (own_cellsKept this hck) (by omega)
    · rw [HNN.out]
      exact HI.out.low.trans (hbk.mono (by omega))

/-- a round of found over one parent -/
def FIL (N P : Nat) (k : Int) (Ds : List Nat) (ks : List Int) (kd : Nat → Int) (p : Nat) (acc : List (Int × Int)) (R : World → Prop) (w : World) (pre : List (Int × Int)) (X : World) : Prop :=
  ∃ v, FoundW N 48 2 25 71 (.func (.func 28) #[] #[]) k encL Ds v (acc ++ ((ks.take pre.length).filter fun z => decide (kd z.toNat = k)).map fun z => (z, (p : Int))) w X ∧ X.cell? ⟨P, 0, none⟩ = some (.int .i64 (p : Int)) ∧ R X ∧ (∀ g, v.ownBlock = some g → g < P ∨ P + 3 ≤ g) ∧ P + 3 ≤ X.heap.size
def LFL (b off m cap N : Nat) (k : Int) (q : Option Addr) (pl pc : Nat) (ns : List Nd) (ps : List Int) (w : World) : Act → World → Prop := fun a X =>
  ∃ (i : Nat) (Ds : List Nat) (v : Value) (x11 x17 x18 x19 x20 x21 x22 x35 : Value), a = { tmps := #[.slice (some ⟨b, off, none⟩) m cap, .int .i64 k, .func (.func 28) #[] #[], .slice q pl pc, undef, .pointer (some ⟨N, 0, none⟩), .pointer (some ⟨N + 1, 0, none⟩), undef, .slice none 0 0, .pointer (some ⟨N + 2, 0, none⟩), undef, x11, undef, undef, .slice q pl pc, .int .i64 pl, .int .i64 i, x17, x18, x19, x20, x21, x22, undef, undef, undef, undef, undef, undef, undef, undef, undef, undef, undef, undef, x35, undef], defers := Ds.map markL } ∧ i ≤ pl ∧
    Hid (FoundW N 48 2 25 71 (.func (.func 28) #[] #[]) k encL Ds v (fndP ns k (ps.take i)) w X)
set_option maxRecDepth 100000 in
set_option maxHeartbeats 4000000 in
theorem foundL_ok (b off cap m : Nat) (k : Int) (q : Option Addr) (pl pc : Nat) (ns : List Nd) (ps : List Int) (w : World) (hm : ns.length = m) (h2 : m ≤ 65536) (hK : ∀ n ∈ ns, n.ks.length ≤ 70000) (hP : PageAt w (.slice (some ⟨b, off, none⟩) m cap) ns)
    (hlink : ∀ n ∈ ns, ∀ z ∈ n.ks, 0 ≤ z ∧ z < (m : Int)) (hps : Ints w (.slice q pl pc) ps) (hpl : ps.length = pl) (hpm : pl ≤ 10000000) (hpr : ∀ p ∈ ps, 0 ≤ p ∧ p < (m : Int)) :
    Calls Try.prog 27 #[.slice (some ⟨b, off, none⟩) m cap, .int .i64 k, .func (.func 28) #[] #[], .slice q pl pc] w fun e W' => ∃ v, e = .returned v ∧ W'.ownsRow w.heap.size 48 2 v (fndP ns k ps).length ((fndP ns k ps).flatMap encL) ∧ Below w.heap.size w W' := by
  refine (callsIn_wide (n := 3)).1 (callsIn_of_wp_marks Try.func27 rfl trivial (wpIn_wide.2 ?_) rfl)
  simp only [Try.ntmps27, List.size_toArray, List.length_cons, List.length_nil, Nat.reduceAdd, Nat.reduceSub, Array.replicate_succ, Array.replicate_zero, List.push_toArray, List.append_toArray, List.nil_append, List.cons_append]
  have HP := Lib.hid hP
  have HM := Lib.hid hm
  have HK := Lib.hid hK
  have HLI := Lib.hid hlink
  have HPS := Lib.hid hps
  have HPL := Lib.hid hpl
  have HPR := Lib.hid hpr
  have hbw : Hid (∀ i n, ns[i]? = some n → w.cell? ⟨b, off + i * 34, none⟩ = some (.int .i64 n.k) ∧ w.cell? ⟨b, off + i * 34 + 1, none⟩ = some n.kv ∧ Ints w n.kv n.ks ∧ b < w.heap.size) := Lib.hid (by
    intro i n hn
    obtain ⟨b', off', e, _, hc⟩ := page_cells hP (by rw [← hm]; have := (List.getElem?_eq_some_iff.1 hn).1; omega)
    injection e with e; injection e with e1 e2
    subst e1 e2
    exact hc i n hn)
  have hcapk : Hid (∀ n ∈ ns, CapOk n.kv) := Lib.hid fun n hn => (hP.2.1 n hn).2.2.1
  clear hP hm hK hlink hps hpl hpr
  go_wp2
  obtain ⟨N, hN⟩ : ∃ N, w.heap.size = N := ⟨_, rfl⟩
  obtain ⟨W2, hW2⟩ : ∃ W2, ((w.alloc (.cells #[.int .i64 k] 3)).alloc (.cells #[.func (.func 28) #[] #[]] 71)).alloc (.cells #[.slice none 0 0] 25) = W2 := ⟨_, rfl⟩
  have HI0 : Hid (FoundW N 48 2 25 71 (.func (.func 28) #[] #[]) k encL [] (.slice none 0 0) (fndP ns k (ps.take 0)) w W2) := Lib.hid (by
    subst hN
    rw [← hW2]
    refine ⟨?_, ?_, ?_, ?_, ?_, Marks.nil _ _, by simp⟩
    · exact ((whole_new w [.int .i64 k] 3 _ rfl).alloc _).alloc _
    · exact (whole_new (w.alloc (.cells #[.int .i64 k] 3)) [.func (.func 28) #[] #[]] 71 _ (by simp)).alloc _
    · exact whole_new ((w.alloc (.cells #[.int .i64 k] 3)).alloc (.cells #[.func (.func 28) #[] #[]] 71)) [.slice none 0 0] 25 _ (by simp)
    · simp only [List.take_zero, fndP, List.flatMap_nil, List.length_nil]
      exact World.ownsRow_nil _ _ _ _
    · exact (((Below.refl _ w).alloc (Nat.le_refl _) _).alloc (by simp) _).alloc (by simp; omega) _)
  have HNN := Lib.hid hN
  rw [hN, hW2]
  clear hW2 hN
  have hlow0 : Hid (Below N w W2) := Lib.hid HI0.out.low
  refine wp_loop (LFL b off m cap N k q pl pc ns ps w) (fun a _ => pl - (intOf (a.tmps.getD 16 undef)).toNat) ⟨0, [], .slice none 0 0, undef, undef, undef, undef, undef, undef, undef, undef, rfl, by omega, HI0⟩ ?_
  rintro a X ⟨i, Ds, v, x11, x17, x18, x19, x20, x21, x22, x35, rfl, hi, HI⟩
  clear HI0 hlow0
  have hNX : N + 3 ≤ X.heap.size := by have := HI.out.lb.lt; omega
  have hbX : Below N w X := HI.out.low
  by_cases hlt : i < pl
  · obtain ⟨pz, hpz⟩ : ∃ pz, ps[i]? = some pz := ⟨_, List.getElem?_eq_getElem (by rw [HPL.out]; exact hlt)⟩
    have hprz := HPR.out pz (List.mem_iff_getElem?.2 ⟨i, hpz⟩)
    obtain ⟨p, rfl⟩ : ∃ p : Nat, pz = (p : Int) := ⟨pz.toNat, by omega⟩
    have hpm2 : p < m := by omega
    obtain ⟨qb, qo, hq, cz, lz⟩ := ints_at0L HPS.out i (p : Int) hpz
    subst hq
    have dz := (hbX.cell (p := ⟨qb, qo + i, none⟩) (show qb < N by rw [← HNN.out]; exact lz)).trans cz
    have lz2 : qb < X.heap.size := by have := HNN.out; omega
    obtain ⟨n, hn⟩ : ∃ n, ns[p]? = some n := ⟨_, List.getElem?_eq_getElem (by rw [HM.out]; exact hpm2)⟩
    have hmem : n ∈ ns := List.mem_iff_getElem?.2 ⟨p, hn⟩
    have HN := Lib.hid hn
    have HMEM := Lib.hid hmem
    have HPZ := Lib.hid hpz
    have HKF := Lib.hid (fun Y => kidsF_any (some ⟨b, off, none⟩) m cap (p : Int) Y)
    clear hpz cz hn hmem hprz
    go_wp2_with (go_at_call 22; refine (HKF.out _).mono ?_; rintro e w' ⟨rfl, rfl⟩)
    obtain ⟨P, hPe⟩ : ∃ P, X.heap.size = P := ⟨_, rfl⟩
    have hNP : N + 3 ≤ P := by omega
    obtain ⟨Y, hY⟩ : ∃ Y, X.alloc (.cells #[.int .i64 (p : Int)] 3) = Y := ⟨_, rfl⟩
    have bXY : Below P X Y := by rw [← hY]; exact (Below.refl P X).alloc (by omega) _
    have sY : Y.heap.size = P + 1 := by rw [← hY]; simp [hPe]
    have yP : Whole Y P 3 [.int .i64 (p : Int)] := by rw [← hY]; exact whole_new X [.int .i64 (p : Int)] 3 P hPe.symm
    rw [hPe, hY]
    obtain ⟨W3, hW3⟩ : ∃ W3, (Y.alloc (.cells #[.slice (some ⟨b, off, none⟩) m cap] 22)).alloc (.cells #[.int .i64 (p : Int)] 3) = W3 := ⟨_, rfl⟩
    have bY3 : Below Y.heap.size Y W3 := by rw [← hW3]; exact ((Below.refl _ Y).alloc (Nat.le_refl _) _).alloc (by simp) _
    have s3 : W3.heap.size = P + 3 := by rw [← hW3]; simp [sY]
    have y0 : Whole W3 (P + 1) 22 [.slice (some ⟨b, off, none⟩) m cap] := by rw [← hW3]; exact (whole_new Y [.slice (some ⟨b, off, none⟩) m cap] 22 _ sY.symm).alloc _
    have y1 : Whole W3 (P + 2) 3 [.int .i64 (p : Int)] := by rw [← hW3]; exact whole_new (Y.alloc (.cells #[.slice (some ⟨b, off, none⟩) m cap] 22)) [.int .i64 (p : Int)] 3 _ (by simp [sY])
    have b3 : Below P X W3 := bXY.trans (bY3.mono (by omega))
    have y2 : Whole W3 P 3 [.int .i64 (p : Int)] := yP.below bY3 (by omega)
    have bw3 : Below N w W3 := hbX.trans (b3.mono (by omega))
    have HF3 : Hid (FoundW N 48 2 25 71 (.func (.func 28) #[] #[]) k encL Ds v (fndP ns k (ps.take i)) w W3) := Lib.hid (HI.out.below (by rw [hPe]; exact b3) (by omega))
    obtain ⟨cn0, cn1, hIk, hbw0⟩ := hbw.out p n HN.out
    have HLOW : Hid (b < N ∧ (n.ks = [] ∨ ∀ qb qo c, n.kv = .slice (some ⟨qb, qo, none⟩) n.ks.length c → qb < N)) := Lib.hid (by
      refine ⟨by have := HNN.out; omega, ?_⟩
      by_cases hz : n.ks = []
      · exact .inl hz
      · refine .inr fun qb qo c e => ?_
        obtain ⟨_, ⟨a, cap', e', hz'⟩ | ⟨b', o', cap', e', hc⟩⟩ := hIk
        · exact absurd hz' hz
        · rw [e] at e'
          injection e' with e1; injection e1 with e1; injection e1 with e1 e4
          have : b' < w.heap.size := cell_lt (hc 0 (List.length_pos_iff.2 hz))
          have := HNN.out
          omega)
    have hRun : KidM (P + 3) (P + 1) (P + 2) b off m cap p n.kv n.ks (kdOf ns) W3 := by
      have hbN : b < N := by have := HNN.out; omega
      have hIk3 : Ints W3 n.kv n.ks := hIk.below (by rw [HNN.out]; exact bw3)
      refine ⟨by omega, by omega, y0.cellAt 0, y1.cellAt 0, (bw3.cell (p := ⟨b, off + p * 34 + 1, none⟩) hbN).trans cn1, hIk3, ?_, fun j hj => ?_⟩
      · obtain ⟨_, ⟨a, cap', e, hz⟩ | ⟨b', o', cap', e, hc⟩⟩ := hIk
        · exact .inl hz
        · by_cases hz : n.ks = []
          · exact .inl hz
          · refine .inr ⟨b', o', cap', e, ?_⟩
            have : b' < w.heap.size := cell_lt (hc 0 (List.length_pos_iff.2 hz))
            have := HNN.out
            omega
      · have hj' := List.getElem?_eq_getElem (show j < ns.length by rw [HM.out]; exact hj)
        have := (hbw.out j _ hj').1
        unfold kdOf
        rw [hj']
        exact (bw3.cell (p := ⟨b, off + j * 34, none⟩) hbN).trans this
    have hlinkn := HLI.out n HMEM.out
    have hcapn := hcapk.out n HMEM.out
    have hkfew := HK.out n HMEM.out
    have hav : ∀ g, v.ownBlock = some g → g < P ∨ P + 3 ≤ g := fun g e => .inl (by have := (HI.out.own.lt g e).2; omega)
    have HDs : Hid (∀ D ∈ Ds, D < P) := Lib.hid (fun D hD => by have := HI.out.lt D hD; omega)
    have hacc : (fndP ns k (ps.take i)).length ≤ i * 70000 := fnd_len ns k HK.out (ps.take i) i (by rw [List.length_take]; omega)
    obtain ⟨acc, hac⟩ : ∃ acc, fndP ns k (ps.take i) = acc := ⟨_, rfl⟩
    rw [hac] at HF3 hacc
    have HAC := Lib.hid hac
    have ewn : w.heap.size = N := HNN.out
    have HIF : Hid (FIL N P k Ds n.ks (kdOf ns) p acc (KidM (P + 3) (P + 1) (P + 2) b off m cap p n.kv n.ks (kdOf ns)) w [] W3) := Lib.hid ⟨v, by simpa using HF3.out, y2.cellAt 0, hRun, hav, by omega⟩
    rw [hW3]
    clear hW3 hY bXY yP bY3 y0 y1 y2 b3 bw3 cn0 cn1 hIk hbw0 HI hac hav HF3
    refine (wpIn_wide (n := 3)).1 (range_next (F := Fence.wide) rfl (by omega) (gf := 37) (lb := #[.pointer (some ⟨P + 1, 0, none⟩), .pointer (some ⟨P + 1 + 1, 0, none⟩)]) rfl trivial (enters_of Try.func37 (by kernel_rfl) rfl)
      (Kp := KeepR (KidM (P + 3) (P + 1) (P + 2) b off m cap p n.kv n.ks (kdOf ns))) (fun _ _ _ h k => h.trans k) (fun W l o h1 h2 => ⟨by simp, fun hr => hr.below (below_put W o (by omega) h2)⟩)
      (lkids_next _ (by omega) (P + 3) (P + 1) (P + 2) b off m cap p n.kv n.ks (kdOf ns) hcapn (by omega) hpm2 hlinkn W3 hRun s3.symm) (fun x => rfl)
      (FIL N P k Ds n.ks (kdOf ns) p acc (KidM (P + 3) (P + 1) (P + 2) b off m cap p n.kv n.ks (kdOf ns)) w) (fun _ _ _ => False) ?own (fun _ _ _ _ _ hs _ _ => hs)
      HIF.out ?round ?done ?stop)
    case own =>
      rintro pre X1 Y1 row ⟨v1, g1, g2, g3, g4, g5⟩ hg hr
      have hnc : NoCells X1 row := fun r e => (hr r e).2
      refine ⟨v1, g1.grownN hg (B := W3.heap.size) hr (fun D hD => by have := HDs.out D hD; omega) (by omega) (by omega), cell_grown hg hnc g2, g3.grownN hg hnc, g4, by have := hg.size; omega⟩
    case round =>
      rintro l pre ⟨z, kz⟩ V hl hI ⟨hz1, hz2⟩
      dsimp only at hz1 hz2
      subst hz2
      have hzr := hlinkn z (List.mem_iff_getElem?.2 ⟨pre.length, hz1⟩)
      obtain ⟨zn, rfl⟩ : ∃ zn : Nat, z = (zn : Int) := ⟨z.toNat, by omega⟩
      rw [Int.toNat_natCast]
      have htl : pre.length < n.ks.length := (List.getElem?_eq_some_iff.1 hz1).1
      have HZ1 := Lib.hid hz1
      refine ⟨{ tmps := #[.slice (some ⟨b, off, none⟩) m cap, .int .i64 k, .func (.func 28) #[] #[], .slice (some ⟨qb, qo, none⟩) pl pc, undef, .pointer (some ⟨N, 0, none⟩), .pointer (some ⟨N + 1, 0, none⟩), undef, .slice none 0 0, .pointer (some ⟨N + 2, 0, none⟩), undef, .pointer (some ⟨P, 0, none⟩), .int .i64 zn, .int .i64 (kdOf ns zn), .slice (some ⟨qb, qo, none⟩) pl pc, .int .i64 pl, .int .i64 i, .bool true, .pointer (some ⟨qb, qo + i, none⟩), .int .i64 p, .slice (some ⟨b, off, none⟩) m cap, .int .i64 p, .func (.func 37) #[] #[.pointer (some ⟨P + 1, 0, none⟩), .pointer (some ⟨P + 1 + 1, 0, none⟩)], .int .i64 zn, .int .i64 (kdOf ns zn), undef, undef, undef, undef, undef, undef, undef, undef, undef, undef, x35, undef], defers := [] }, V, ?_, KeepsFrom.refl _ _, ⟨Nat.le_refl _, id⟩, ?_⟩
      · intro K hK
        dsimp only [encK]
        gi_wp2
        exact hK
      · intro V₂ hgV hnc' hbl
        obtain ⟨v1, g1, g2, g3, g4, g5⟩ := hI
        have q1 := g1.grownN hgV (B := W3.heap.size) (fun r' e => by injection e with e; exact ⟨by omega, hnc' r' (by rw [e])⟩) (fun D hD => by have := HDs.out D hD; omega) (by omega) (by omega)
        have q2 := cell_grown hgV hnc' g2
        have q3 := g3.grownN hgV hnc'
        have q5 : P + 3 ≤ V₂.heap.size := by have := hgV.size; omega
        have cN := q1.kb.cellAt 0
        have lN := q1.kb.lt
        have cA := q1.ab.cellAt 0
        have lA := q1.ab.lt
        have cL := q1.lb.cellAt 0
        have lL := q1.lb.lt
        have cP := q2
        have lP : P < V₂.heap.size := by omega
        have Q1 := Lib.hid q1
        have Q2 := Lib.hid q2
        have Q3 := Lib.hid q3
        have G4 := Lib.hid g4
        have htk : n.ks.take (pre.length + 1) = n.ks.take pre.length ++ [(zn : Int)] := by rw [List.take_add_one, hz1]; rfl
        have HTK := Lib.hid htk
        clear g1 g2 g3 g4 q1 q2 q3 hgV hnc' hbl HIF hz1 htk
        by_cases hk : kdOf ns zn = k
        · have hk' : (kdOf ns zn == k) = true := by simpa using hk
          have HKD := Lib.hid hk
          clear hk
          gi_wp2
          have eg : ∀ args w, (callFunc 28 args).run Try.prog w = .ok (.enter 28 args) w := enters_of Try.func28 (by kernel_rfl) rfl
          obtain ⟨i0, hi0, hz0', hz1', hz2'⟩ := info_parts Try.infoLane
          refine wpIn_round_held (S := fun X => X.cell? ⟨N + 1, 0, none⟩ = some (.func (.func 28) #[] #[]) ∧ X.cell? ⟨P, 0, none⟩ = some (.int .i64 (p : Int))) (by kernel_rfl) (by kernel_rfl) (by simp only [LetsOut, Exit.inBlock]; rintro ⟨x, y, h⟩; exact h) ?_
          obtain ⟨V3, hV3⟩ : ∃ V3, V₂.drew = V3 := ⟨_, rfl⟩
          have SV : Hid (Below V₂.heap.size V₂ V3) := Lib.hid (by rw [← hV3]; exact below_dn _ V₂ 1)
          have sV3 : V3.heap.size = V₂.heap.size := by rw [← hV3]; rfl
          have w1 : V3.cell? ⟨N + 1, 0, none⟩ = some (.func (.func 28) #[] #[]) := (SV.out.cell (p := ⟨N + 1, 0, none⟩) lA).trans cA
          have w2 : V3.cell? ⟨P, 0, none⟩ = some (.int .i64 (p : Int)) := (SV.out.cell (p := ⟨P, 0, none⟩) lP).trans cP
          have w3 : V3.cell? ⟨N + 2, 0, none⟩ = some v1 := (SV.out.cell (p := ⟨N + 2, 0, none⟩) lL).trans cL
          rw [hV3]
          clear hV3 cN lN cA cL cP
          have lA3 : N + 1 < V3.heap.size := by omega
          have lP3 : P < V3.heap.size := by omega
          have lL3 : N + 2 < V3.heap.size := by omega
          obtain ⟨cnt, hcnt⟩ : ∃ cnt, (acc ++ ((n.ks.take pre.length).filter fun z => decide (kdOf ns z.toNat = k)).map fun z => (z, (p : Int))).length = cnt := ⟨_, rfl⟩
          have hE : cnt ≤ 4000000000000 := by
            rw [← hcnt, List.length_append, List.length_map]
            have := List.length_filter_le (fun z => decide (kdOf ns z.toNat = k)) (n.ks.take pre.length)
            rw [List.length_take] at this
            have : i * 70000 ≤ 10000000 * 70000 := Nat.mul_le_mul_right _ (by omega)
            omega
          have hsp : ∃ p1 k1 c1, v1 = .slice p1 k1 c1 := own_slice Q1.out.own
          obtain ⟨p1, k1, c1, hv1⟩ := hsp
          have HV1 := Lib.hid hv1
          -- the store's world
          have TAIL : ∀ U : World, Below V3.heap.size V3 U → Hid (∃ v' X2, (∃ p2 k2 c2, v' = .slice p2 k2 c2) ∧ (Builtin.append_ #[25, 25] 25 #[v1, .slice (some ⟨U.heap.size, 0, none⟩) 1 1]).run Try.prog (U.alloc (.cells #[.int .i64 (zn : Int), .int .i64 (p : Int)] 48)) = .ok v' X2 ∧ Whole X2 (N + 2) 25 [v1] ∧ X2.cell? ⟨N + 1, 0, none⟩ = some (.func (.func 28) #[] #[]) ∧ X2.cell? ⟨P, 0, none⟩ = some (.int .i64 (p : Int)) ∧
              (X2.setCell ⟨N + 2, 0, none⟩ v').cell? ⟨N + 1, 0, none⟩ = some (.func (.func 28) #[] #[]) ∧ (X2.setCell ⟨N + 2, 0, none⟩ v').cell? ⟨P, 0, none⟩ = some (.int .i64 (p : Int)) ∧
              ownPostG W3.heap.size (KeepR (KidM (P + 3) (P + 1) (P + 2) b off m cap p n.kv n.ks (kdOf ns))) (FIL N P k Ds n.ks (kdOf ns) p acc (KidM (P + 3) (P + 1) (P + 2) b off m cap p n.kv n.ks (kdOf ns)) w) (fun _ _ _ => False) (pre ++ [((zn : Int), kdOf ns zn)]) V₂ .normal { tmps := #[], defers := [] } (X2.setCell ⟨N + 2, 0, none⟩ v')) := fun U hU => by
            obtain ⟨Z, hZe⟩ : ∃ Z, U.alloc (.cells #[.int .i64 (zn : Int), .int .i64 (p : Int)] 48) = Z := ⟨_, rfl⟩
            have hcz : ∀ j u, (encL ((zn : Int), (p : Int)))[j]? = some u → Z.cell? ((⟨U.heap.size, 0, none⟩ : Addr).add j) = some u := by rw [← hZe]; exact lay_new U (encL ((zn : Int), (p : Int))) 48 _ rfl
            rw [hZe]
            have hZV : Below V₂.heap.size V₂ Z := by rw [← hZe]; exact (SV.out.trans (hU.mono (by omega))).alloc (by have := hU.size; omega) _
            obtain ⟨v', X2, hr, hlb, hF, hko, hv, hcell⟩ := Q1.out.step hZV HNN.out.symm ((zn : Int), (p : Int)) ⟨U.heap.size, 0, none⟩ Try.underlying25 hi0 hz0' hz1' hz2' rfl (by decide) (by decide) (by decide) rfl hcz (by intro u hu; simp [encL] at hu; rcases hu with rfl | rfl <;> rfl) (by rw [hcnt]; exact hE)
            have hob : ∀ g, g < N + 3 ∨ (P ≤ g ∧ g < P + 3) → v1.ownBlock ≠ some g := fun g hg e => by
              have := (Q1.out.own.lt g e).1
              have := G4.out g e
              omega
            have hkid : KidM (P + 3) (P + 1) (P + 2) b off m cap p n.kv n.ks (kdOf ns) (X2.setCell ⟨N + 2, 0, none⟩ v') := Q3.out.moved (N := N) (by have := hko.size; have := Q3.out.size; omega) (by omega) (by omega) (fun a u hau hab => hcell a u hau (by rcases hab with h | h | h <;> omega) (hob _ (by omega))) HLOW.out.1 HLOW.out.2
            have eX1 : (X2.setCell ⟨N + 2, 0, none⟩ v').cell? ⟨N + 1, 0, none⟩ = some (.func (.func 28) #[] #[]) := hcell ⟨N + 1, 0, none⟩ _ (Q1.out.ab.cellAt 0) (show N + 1 ≠ N + 2 by omega) (hob (N + 1) (by omega))
            have eX2 : (X2.setCell ⟨N + 2, 0, none⟩ v').cell? ⟨P, 0, none⟩ = some (.int .i64 (p : Int)) := hcell ⟨P, 0, none⟩ _ Q2.out (show P ≠ N + 2 by omega) (hob P (by omega))
            have f1 : X2.cell? ⟨N + 1, 0, none⟩ = some (.func (.func 28) #[] #[]) := by rw [World.cell?_setCell_other _ _ _ _ (by intro e; injection e with e; omega)] at eX1; exact eX1
            have f2 : X2.cell? ⟨P, 0, none⟩ = some (.int .i64 (p : Int)) := by rw [World.cell?_setCell_other _ _ _ _ (by intro e; injection e with e; omega)] at eX2; exact eX2
            refine Lib.hid ⟨v', X2, own_slice hF.own, hr, hlb, f1, f2, eX1, eX2, hko.from _, ⟨hko.size, fun _ => hkid⟩, v', ?_, ?_, hkid, ?_, ?_⟩
            · rw [List.length_append, List.length_singleton, HTK.out, List.filter_append, List.map_append, ← List.append_assoc]
              have e1 : ([(zn : Int)].filter fun z => decide (kdOf ns z.toNat = k)) = [(zn : Int)] := by simp [HKD.out]
              rw [e1]
              exact hF
            · exact eX2
            · intro g hg
              rcases hv with hv | hv
              · exact G4.out g (hv ▸ hg)
              · rw [hv] at hg; injection hg with hg; have := hZV.size; omega
            · have := hko.size; omega
          have HAS := Lib.hid (fun X => inGroup_any (zn : Int) (p : Int) X)
          have HSB : ∀ U : World, Below V3.heap.size V3 U → Hid ((U.cell? ⟨N + 1, 0, none⟩ = some (.func (.func 28) #[] #[]) ∧ U.cell? ⟨P, 0, none⟩ = some (.int .i64 (p : Int))) ∧ U.cell? ⟨N + 2, 0, none⟩ = some v1 ∧ N + 2 < U.heap.size) := fun U hU => Lib.hid ⟨⟨(hU.cell (p := ⟨N + 1, 0, none⟩) lA3).trans w1, (hU.cell (p := ⟨P, 0, none⟩) lP3).trans w2⟩, (hU.cell (p := ⟨N + 2, 0, none⟩) lL3).trans w3, by have := hU.size; omega⟩
          subst hv1
          clear hcnt hE Q1 Q2 Q3 G4
          refine wpAnyH_take (i := 1) (v := .func (.func 28) #[] #[]) rfl (by kernel_rfl) (by kernel_rfl) (by kernel_rfl) (fun _ _ _ h => h) (Or.inl ⟨by rfl, ?_⟩) ⟨w1, w2⟩ ?_
          · rintro X ⟨hX1, hX2⟩; go_simp
          refine wpAnyH_take (i := 2) (v := .int .i64 zn) rfl (by kernel_rfl) (by kernel_rfl) (by kernel_rfl) (fun _ _ _ h => h) (Or.inl ⟨by rfl, ?_⟩) ⟨w1, w2⟩ ?_
          · rintro X ⟨hX1, hX2⟩; go_simp
          refine wpAnyH_take (i := 3) (v := .int .i64 p) rfl (by kernel_rfl) (by kernel_rfl) (by kernel_rfl) (fun _ _ _ h => h) (Or.inl ⟨by rfl, ?_⟩) ⟨w1, w2⟩ ?_
          · rintro X ⟨hX1, hX2⟩; go_simp
          refine wpAnyH_all (rs := [0, 4]) (by kernel_rfl) (by simp) ?_
          intro i2 hi2
          rcases (show i2 = 0 ∨ i2 = 4 by simpa using hi2) with rfl | rfl
          · refine wpOp_step rfl (fun K hK => ?_)
            go_simp
            refine hK _ _ ⟨⟨w1, w2⟩, ?_⟩
            clear hK K hi2
            refine wpAnyH_all (rs := [4]) (by kernel_rfl) (by simp) ?_
            intro i2 hi2; obtain rfl : i2 = 4 := by simpa using hi2
            refine wpOp_step rfl (fun K hK => ?_)
            go_simp
            refine (HAS.out _).mono ?_
            rintro e U ⟨rfl, bU⟩
            obtain ⟨us, u3, u4⟩ := (HSB U bU).out
            refine hK _ _ ⟨us, ?_⟩
            clear hK K hi2
            refine wpAnyH_all (rs := [5]) (by kernel_rfl) (by simp) ?_
            intro i2 hi2; obtain rfl : i2 = 5 := by simpa using hi2
            refine wpOp_step rfl (fun K hK => ?_)
            go_simp
            obtain ⟨zs, z3, z4⟩ := (HSB _ (bU.alloc bU.size (.cells #[.int .i64 (zn : Int), .int .i64 (p : Int)] 48))).out
            refine hK _ _ ⟨zs, ?_⟩
            clear hK K hi2
            obtain ⟨v', X2, ⟨p2, k2, c2, rfl⟩, hr7, hlb, f1, f2, e1, e2, hend⟩ := (TAIL U bU).out
            have c7 := hlb.cellAt 0
            have f7 := hlb.free 0
            have l7 := hlb.lt
            refine wpAnyH_all (rs := [6]) (by kernel_rfl) (by simp) ?_
            intro i2 hi2; obtain rfl : i2 = 6 := by simpa using hi2
            refine wpOp_step rfl (fun K hK => ?_)
            refine wp_append_run _ _ _ rfl _ _ _ rfl rfl hr7 ?_
            refine hK _ _ ⟨⟨f1, f2⟩, ?_⟩
            clear hK K hi2
            refine wpAnyH_all (rs := [7]) (by kernel_rfl) (by simp) ?_
            intro i2 hi2; obtain rfl : i2 = 7 := by simpa using hi2
            refine wpOp_step rfl (fun K hK => ?_)
            go_simp
            refine hK _ _ ⟨⟨e1, e2⟩, ?_⟩
            clear hK K hi2
            refine wpAnyH_done (by kernel_rfl) ?_ _
            exact hend
          · refine wpOp_step rfl (fun K hK => ?_)
            go_simp
            refine (HAS.out _).mono ?_
            rintro e U ⟨rfl, bU⟩
            obtain ⟨us, u3, u4⟩ := (HSB U bU).out
            refine hK _ _ ⟨us, ?_⟩
            clear hK K hi2
            refine wpAnyH_all (rs := [0, 5]) (by kernel_rfl) (by simp) ?_
            intro i2 hi2
            rcases (show i2 = 0 ∨ i2 = 5 by simpa using hi2) with rfl | rfl
            · refine wpOp_step rfl (fun K hK => ?_)
              go_simp
              refine hK _ _ ⟨us, ?_⟩
              clear hK K hi2
              refine wpAnyH_all (rs := [5]) (by kernel_rfl) (by simp) ?_
              intro i2 hi2; obtain rfl : i2 = 5 := by simpa using hi2
              refine wpOp_step rfl (fun K hK => ?_)
              go_simp
              obtain ⟨zs, z3, z4⟩ := (HSB _ (bU.alloc bU.size (.cells #[.int .i64 (zn : Int), .int .i64 (p : Int)] 48))).out
              refine hK _ _ ⟨zs, ?_⟩
              clear hK K hi2
              obtain ⟨v', X2, ⟨p2, k2, c2, rfl⟩, hr7, hlb, f1, f2, e1, e2, hend⟩ := (TAIL U bU).out
              have c7 := hlb.cellAt 0
              have f7 := hlb.free 0
              have l7 := hlb.lt
              refine wpAnyH_all (rs := [6]) (by kernel_rfl) (by simp) ?_
              intro i2 hi2; obtain rfl : i2 = 6 := by simpa using hi2
              refine wpOp_step rfl (fun K hK => ?_)
              refine wp_append_run _ _ _ rfl _ _ _ rfl rfl hr7 ?_
              refine hK _ _ ⟨⟨f1, f2⟩, ?_⟩
              clear hK K hi2
              refine wpAnyH_all (rs := [7]) (by kernel_rfl) (by simp) ?_
              intro i2 hi2; obtain rfl : i2 = 7 := by simpa using hi2
              refine wpOp_step rfl (fun K hK => ?_)
              go_simp
              refine hK _ _ ⟨⟨e1, e2⟩, ?_⟩
              clear hK K hi2
              refine wpAnyH_done (by kernel_rfl) ?_ _
              exact hend
            · refine wpOp_step rfl (fun K hK => ?_)
              go_simp
              obtain ⟨zs, z3, z4⟩ := (HSB _ (bU.alloc bU.size (.cells #[.int .i64 (zn : Int), .int .i64 (p : Int)] 48))).out
              refine hK _ _ ⟨zs, ?_⟩
              clear hK K hi2
              refine wpAnyH_all (rs := [0]) (by kernel_rfl) (by simp) ?_
              intro i2 hi2; obtain rfl : i2 = 0 := by simpa using hi2
              refine wpOp_step rfl (fun K hK => ?_)
              go_simp
              refine hK _ _ ⟨zs, ?_⟩
              clear hK K hi2
              obtain ⟨v', X2, ⟨p2, k2, c2, rfl⟩, hr7, hlb, f1, f2, e1, e2, hend⟩ := (TAIL U bU).out
              have c7 := hlb.cellAt 0
              have f7 := hlb.free 0
              have l7 := hlb.lt
              refine wpAnyH_all (rs := [6]) (by kernel_rfl) (by simp) ?_
              intro i2 hi2; obtain rfl : i2 = 6 := by simpa using hi2
              refine wpOp_step rfl (fun K hK => ?_)
              refine wp_append_run _ _ _ rfl _ _ _ rfl rfl hr7 ?_
              refine hK _ _ ⟨⟨f1, f2⟩, ?_⟩
              clear hK K hi2
              refine wpAnyH_all (rs := [7]) (by kernel_rfl) (by simp) ?_
              intro i2 hi2; obtain rfl : i2 = 7 := by simpa using hi2
              refine wpOp_step rfl (fun K hK => ?_)
              go_simp
              refine hK _ _ ⟨⟨e1, e2⟩, ?_⟩
              clear hK K hi2
              refine wpAnyH_done (by kernel_rfl) ?_ _
              exact hend
        · have hk' : (kdOf ns zn == k) = false := by simpa using hk
          gi_wp2
          refine ⟨KeepsFrom.refl _ _, ⟨Nat.le_refl _, id⟩, v1, ?_, Q2.out, Q3.out, G4.out, q5⟩
          rw [List.length_append, List.length_singleton, HTK.out, List.filter_append]
          have e1 : ([(zn : Int)].filter fun z => decide (kdOf ns z.toNat = k)) = [] := by simp [hk]
          rw [e1, List.append_nil]
          exact Q1.out
    case done =>
      rintro D xs V hD hS ⟨v1, g1, g2, g3, g4, g5⟩ hmk
      have hlD : D < V.heap.size := (Array.getElem?_eq_some_iff.1 hmk).1
      have hfin : fndP ns k (ps.take (i + 1)) = acc ++ ((n.ks.take xs.length).filter fun z => decide (kdOf ns z.toNat = k)).map fun z => (z, (p : Int)) := by
        rw [← HAC.out]
        unfold fndP
        rw [List.take_add_one, HPZ.out, List.flatMap_append, hS, List.take_of_length_le (Nat.le_refl _)]
        congr 1
        simp only [Option.toList_some, List.flatMap_cons, List.flatMap_nil, List.append_nil]
        unfold kindK kfOf
        rw [Int.toNat_natCast, HN.out]; rfl
      have HI2 : Hid (FoundW N 48 2 25 71 (.func (.func 28) #[] #[]) k encL (D :: Ds) v1 (fndP ns k (ps.take (i + 1))) w V) := Lib.hid (by
        rw [hfin]
        refine ⟨g1.kb, g1.ab, g1.lb, g1.own, g1.low, g1.mks.cons (by omega) hmk (fun E hE => by have := HDs.out E hE; omega), fun E hE => ?_⟩
        rcases List.mem_cons.1 hE with rfl | hE
        · exact hlD
        · exact g1.lt E hE)
      clear g1 g2 g3 g4 g5 hmk hS hfin hRun
      go_wp2
      refine ⟨⟨i + 1, D :: Ds, v1, _, _, _, _, _, _, _, _, rfl, by omega, HI2⟩, by simp [intOf]; omega⟩
    case stop =>
      rintro D c pre V hD _ hF hmk
      exact hF.elim
  · obtain rfl : i = pl := by omega
    have cL := HI.out.lb.cellAt 0
    have lL := HI.out.lb.lt
    go_wp2
    refine leaves_marks (N + 3) Ds _ HI.out.mks (fun W' hck hbk => ⟨v, by simp [results, Try.results27, go_sem], v, rfl, ?_, ?_⟩)
    · have := HI.out.own
      rw [List.take_of_length_le (by rw [HPL.out]; exact Nat.le_refl _)] at this
      rw [HNN.out]
      exact own_from (own_cellsKept this hck) (by omega)
    · rw [HNN.out]
      exact HI.out.low.trans (hbk.mono (by omega))
end Go.Proofs.Ytgaclepoipaecaa
