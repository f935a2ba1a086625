/- Places' rectangles: the program's are the document's. -/
import Derived.Test.YtncgmfdmkjlmaaaRows
import Derived.WalkKit
import Derived.ProofKit
import Derived.OpenShut
import Derived.Below
import Derived.Test.YtncgmfdmkjlmaaaERefC
import Derived.Test.YtncgmfdmkjlmaaaEOpen2
import Derived.ShutString
namespace Go.Proofs.Ytncgmfdmkjlmaaa.edgesCells
open Go.ChangeShapes Go.WideShapes Go.ChangeAt Go.RowKit
set_option linter.unusedVariables false

theorem own : ownKnob Try.prog.godebug = none := by kernel_rfl
theorem laidOut : laidOutB Try.prog = true := by kernel_rfl

theorem cellsPost_row {ok : Bool} {w : World} {l : List RR.R} {e : Ending} {W' : World} (h : CellsPost ok w l e W') : ∃ v, e = .returned (.tuple #[v, .int .i64 (if ok then 0 else 100)]) ∧ RowE W' v (if ok then l else []) ∧ Below w.heap.size w W' := by
  obtain ⟨hb, ⟨rfl, v, he, ho⟩ | ⟨rfl, he⟩⟩ := h
  · exact ⟨v, he, own_rowE ho rfl, hb⟩
  · exact ⟨_, he, .inl ⟨rfl, rfl⟩, hb⟩
set_option maxRecDepth 100000 in
set_option maxHeartbeats 8000000 in
theorem main (W : World) (a0 a1 a2 : Option Addr) (len0 cap0 len1 cap1 len2 cap2 n : Nat) (L : List Pz) (cs rs : List Int) (g0 g1 : Int) (hP : PsAt W (.slice a0 n cap0) L) (hn : L.length = n) (hok : ∀ x ∈ L, x.ok) (hL : LowI W.heap.size W (.slice a1 (min len1 100) cap1) cs) (hR : LowI W.heap.size W (.slice a2 (min len2 100) cap2) rs) (hcs : cs.length = min len1 100) (hrs : rs.length = min len2 100)
    (hm : (len0 ≤ 60 ∧ n = len0) ∨ (60 < len0 ∧ n = 60)) (hc0 : len0 ≤ cap0) (hc1 : len1 ≤ cap1) (hc2 : len2 ≤ cap2) (hx0 : cap0 ≤ 9223372036854775807) (hx1 : cap1 ≤ 9223372036854775807) (hx2 : cap2 ≤ 9223372036854775807) :
    Calls Try.prog 4 #[.slice a0 len0 cap0, .slice a1 len1 cap1, .slice a2 len2 cap2, .agg #[.int .i64 g0, .int .i64 g1]] W fun e w' => e = .returned (.bool true) ∧ Below W.heap.size W w' := by
  have HSH := Lib.hid (fun X => shown10_any X)
  have HC1 := Lib.hid (fun X => ecut_any a1 len1 cap1 X hc1 hx1)
  have HC2 := Lib.hid (fun X => ecut_any a2 len2 cap2 X hc2 hx2)
  generalize min len1 100 = m at *
  generalize min len2 100 = k at *
  have HCE := Lib.hid (fun X (h : Below W.heap.size W X) => ecells_any a0 a1 a2 n cap0 m cap1 k cap2 L cs rs g0 g1 X (hP.below h) hn (by omega) hok ((hL.keep (Y := X) (fun k hk => h.block k hk)).mono h.size) hcs ((hR.keep (Y := X) (fun k hk => h.block k hk)).mono h.size) hrs)
  have HRC := Lib.hid (fun X (h : Below W.heap.size W X) => refCells_any a0 a1 a2 n cap0 m cap1 k cap2 L cs rs g0 g1 X (hP.below h) hn (by omega) hok ((hL.keep (Y := X) (fun k hk => h.block k hk)).mono h.size) hcs ((hR.keep (Y := X) (fun k hk => h.block k hk)).mono h.size) hrs)
  generalize hok2 : (okB g0 cs && (okB g1 rs && L.all (placeN m k))) = ok at *
  have hlen : (if ok then L.map (cellE g0 g1 cs rs) else []).length ≤ 1000000000 := by
    split
    · rw [List.length_map]; omega
    · simp
  obtain ⟨LL, hLL⟩ : ∃ LL, (if ok then L.map (cellE g0 g1 cs rs) else []) = LL := ⟨_, rfl⟩
  obtain ⟨er, her⟩ : ∃ er : Int, (if ok then 0 else 100) = er := ⟨_, rfl⟩
  rw [hLL] at hlen
  have HLL := Lib.hid hLL
  have HER := Lib.hid her
  have HSM := Lib.hid (fun X (v1 v2 : Value) (h1 : RowE X v1 LL) (h2 : RowE X v2 LL) => rsame_any v1 v2 LL X h1 h2 hlen)
  clear hL hR hcs hrs hok2 hlen hLL her hP hn hok
  obtain ⟨gn, hgn⟩ : ∃ gn, W.heap.size = gn := ⟨_, rfl⟩
  obtain ⟨W0, hW0⟩ : ∃ W0, W.alloc (.cells #[.int .i64 g0, .int .i64 g1] 38) = W0 := ⟨_, rfl⟩
  have HB0 : Hid (Below W.heap.size W W0) := Lib.hid (by rw [← hW0]; exact (Below.refl _ W).alloc (Nat.le_refl _) _)
  have HA0 : Hid (Whole W0 gn 38 [.int .i64 g0, .int .i64 g1]) := Lib.hid (by rw [← hW0]; exact whole_new W [.int .i64 g0, .int .i64 g1] 38 gn hgn.symm)
  rcases hm with ⟨h, rfl⟩ | ⟨h, rfl⟩
  · have q0 : min (n : Int) 60 = n := by omega
    go_enter Try.func4, Try.ntmps4
    go_wp2_with fail
    try rw [hW0]
    clear hW0 hgn
    refine (HSH.out _).mono ?_
    rintro e w1 ⟨rfl, hb1⟩
    have HBw1 := Lib.hid (HB0.out.trans (hb1.mono HB0.out.size))
    have HA1 := Lib.hid (HA0.out.below hb1 HA0.out.lt)
    clear hb1 HB0 HA0 HSH
    have d0 := HA1.out.cellAt 0
    have d1 := HA1.out.cellAt 1
    have lgn := HA1.out.lt
    simp only [List.getElem?_cons_zero, List.getElem?_cons_succ] at d0 d1
    go_wp2
    refine region_held_atE (S := fun X => Hid (Below w1.heap.size w1 X)) (by kernel_rfl) (fun w9a hw9 => ?_)
    have SV : Hid (Below w1.heap.size w1 w9a) := Lib.hid (by rw [← hw9]; exact (Below.refl _ _).drew)
    clear hw9
    try simp only [Act.put, List.setIfInBounds_toArray, List.set_cons_succ, List.set_cons_zero]
    refine wpAnyH_takeD (i := 0) (v := .slice a0 n cap0) (some 21) rfl rfl (by kernel_rfl) (by kernel_rfl) (by kernel_rfl) (fun _ _ _ h => h) (Or.inl ⟨by rfl, ?_⟩) SV ?_
    · intro X hX; go_simp
    try simp only [Act.put, List.setIfInBounds_toArray, List.set_cons_succ, List.set_cons_zero]
    refine wpAnyH_takeD (i := 1) (v := .slice a1 len1 cap1) (some 22) rfl rfl (by kernel_rfl) (by kernel_rfl) (by kernel_rfl) (fun _ _ _ h => h) (Or.inl ⟨by rfl, ?_⟩) SV ?_
    · intro X hX; go_simp
    try simp only [Act.put, List.setIfInBounds_toArray, List.set_cons_succ, List.set_cons_zero]
    refine wpAnyH_takeD (i := 3) (v := .slice a2 len2 cap2) (some 24) rfl rfl (by kernel_rfl) (by kernel_rfl) (by kernel_rfl) (fun _ _ _ h => h) (Or.inl ⟨by rfl, ?_⟩) SV ?_
    · intro X hX; go_simp
    try simp only [Act.put, List.setIfInBounds_toArray, List.set_cons_succ, List.set_cons_zero]
    refine wpAnyH_takeD (i := 5) (v := .agg #[.int .i64 g0, .int .i64 g1]) (some 26) rfl rfl (by kernel_rfl) (by kernel_rfl) (by kernel_rfl) (fun _ _ _ h => h) (Or.inl ⟨by rfl, ?_⟩) SV ?_
    · intro X hX; have o0 := (hX.out.cell (p := ⟨gn, 0, none⟩) lgn).trans d0; have o1 := (hX.out.cell (p := ⟨gn, 1, none⟩) lgn).trans d1; have lX := hX.out.size; have lbX : gn < X.heap.size := (by omega); go_simp
    try simp only [Act.put, List.setIfInBounds_toArray, List.set_cons_succ, List.set_cons_zero]
    refine wpAnyH_all (rs := [2]) (by kernel_rfl) (by simp) ?_
    intro ii hii; obtain rfl : ii = 2 := by simpa using hii
    clear hii
    refine wpOp_step rfl (fun K hK => ?_)
    go_simp
    refine (HC1.out _).mono ?_
    rintro e wac ⟨rfl, hwac⟩
    obtain rfl := hwac.symm
    refine hK _ _ ⟨SV, ?_⟩
    clear hK K
    try simp only [Act.put, List.setIfInBounds_toArray, List.set_cons_succ, List.set_cons_zero]
    refine wpAnyH_all (rs := [4]) (by kernel_rfl) (by simp) ?_
    intro ii hii; obtain rfl : ii = 4 := by simpa using hii
    clear hii
    refine wpOp_step rfl (fun K hK => ?_)
    go_simp
    refine (HC2.out _).mono ?_
    rintro e wad ⟨rfl, hwad⟩
    obtain rfl := hwad.symm
    refine hK _ _ ⟨SV, ?_⟩
    clear hK K
    try simp only [Act.put, List.setIfInBounds_toArray, List.set_cons_succ, List.set_cons_zero]
    refine wpAnyH_all (rs := [6]) (by kernel_rfl) (by simp) ?_
    intro ii hii; obtain rfl : ii = 6 := by simpa using hii
    clear hii
    refine wpOp_step rfl (fun K hK => ?_)
    go_simp
    refine (HCE.out _ (HBw1.out.trans (SV.out.mono HBw1.out.size))).mono ?_
    intro e wxa hp
    obtain ⟨v1, rfl, hra, hba⟩ := cellsPost_row hp
    rw [HLL.out] at hra
    rw [HER.out]
    have S7 : Hid (Below w1.heap.size w1 wxa) := Lib.hid (SV.out.trans (hba.mono SV.out.size))
    have HRa := Lib.hid hra
    refine hK _ _ ⟨S7, ?_⟩
    clear hK K SV hba hp hra
    have SV := S7
    clear S7
    try simp only [Act.put, List.setIfInBounds_toArray, List.set_cons_succ, List.set_cons_zero]
    refine wpAnyH_takeD (i := 7) (v := .tuple #[v1, .int .i64 er]) (some 20) rfl rfl (by kernel_rfl) (by kernel_rfl) (by kernel_rfl) (fun _ _ _ h => h) (Or.inl ⟨by rfl, ?_⟩) SV ?_
    · intro X hX; go_simp
    try simp only [Act.put, List.setIfInBounds_toArray, List.set_cons_succ, List.set_cons_zero]
    refine wpAnyH_takeD (i := 8) (v := v1) (some 28) rfl rfl (by kernel_rfl) (by kernel_rfl) (by kernel_rfl) (fun _ _ _ h => h) (Or.inl ⟨by rfl, ?_⟩) SV ?_
    · intro X hX; go_simp
    try simp only [Act.put, List.setIfInBounds_toArray, List.set_cons_succ, List.set_cons_zero]
    refine wpAnyH_takeD (i := 9) (v := .int .i64 er) (some 29) rfl rfl (by kernel_rfl) (by kernel_rfl) (by kernel_rfl) (fun _ _ _ h => h) (Or.inl ⟨by rfl, ?_⟩) SV ?_
    · intro X hX; go_simp
    try simp only [Act.put, List.setIfInBounds_toArray, List.set_cons_succ, List.set_cons_zero]
    refine wpAnyH_takeD (i := 10) (v := v1) (some 10) rfl rfl (by kernel_rfl) (by kernel_rfl) (by kernel_rfl) (fun _ _ _ h => h) (Or.inl ⟨by rfl, ?_⟩) SV ?_
    · intro X hX; go_simp
    try simp only [Act.put, List.setIfInBounds_toArray, List.set_cons_succ, List.set_cons_zero]
    refine wpAnyH_takeD (i := 11) (v := .int .i64 er) (some 11) rfl rfl (by kernel_rfl) (by kernel_rfl) (by kernel_rfl) (fun _ _ _ h => h) (Or.inl ⟨by rfl, ?_⟩) SV ?_
    · intro X hX; go_simp
    try simp only [Act.put, List.setIfInBounds_toArray, List.set_cons_succ, List.set_cons_zero]
    refine wpAnyH_done (by kernel_rfl) ?_ _
    have HBw2 := Lib.hid (HBw1.out.trans (SV.out.mono HBw1.out.size))
    have HA2 := Lib.hid (HA1.out.below SV.out HA1.out.lt)
    clear SV d0 d1 lgn HA1 HCE
    have d0 := HA2.out.cellAt 0
    have d1 := HA2.out.cellAt 1
    have lgn := HA2.out.lt
    simp only [List.getElem?_cons_zero, List.getElem?_cons_succ] at d0 d1
    generalize wxa = w2 at *
    go_wp2
    refine region_held_atE (S := fun X => Hid (Below w2.heap.size w2 X)) (by kernel_rfl) (fun w9b hw9 => ?_)
    have SV : Hid (Below w2.heap.size w2 w9b) := Lib.hid (by rw [← hw9]; exact (Below.refl _ _).drew)
    clear hw9
    try simp only [Act.put, List.setIfInBounds_toArray, List.set_cons_succ, List.set_cons_zero]
    refine wpAnyH_takeD (i := 0) (v := .slice a0 n cap0) (some 31) rfl rfl (by kernel_rfl) (by kernel_rfl) (by kernel_rfl) (fun _ _ _ h => h) (Or.inl ⟨by rfl, ?_⟩) SV ?_
    · intro X hX; go_simp
    try simp only [Act.put, List.setIfInBounds_toArray, List.set_cons_succ, List.set_cons_zero]
    refine wpAnyH_takeD (i := 1) (v := .slice a1 len1 cap1) (some 32) rfl rfl (by kernel_rfl) (by kernel_rfl) (by kernel_rfl) (fun _ _ _ h => h) (Or.inl ⟨by rfl, ?_⟩) SV ?_
    · intro X hX; go_simp
    try simp only [Act.put, List.setIfInBounds_toArray, List.set_cons_succ, List.set_cons_zero]
    refine wpAnyH_takeD (i := 3) (v := .slice a2 len2 cap2) (some 34) rfl rfl (by kernel_rfl) (by kernel_rfl) (by kernel_rfl) (fun _ _ _ h => h) (Or.inl ⟨by rfl, ?_⟩) SV ?_
    · intro X hX; go_simp
    try simp only [Act.put, List.setIfInBounds_toArray, List.set_cons_succ, List.set_cons_zero]
    refine wpAnyH_takeD (i := 5) (v := .agg #[.int .i64 g0, .int .i64 g1]) (some 36) rfl rfl (by kernel_rfl) (by kernel_rfl) (by kernel_rfl) (fun _ _ _ h => h) (Or.inl ⟨by rfl, ?_⟩) SV ?_
    · intro X hX; have o0 := (hX.out.cell (p := ⟨gn, 0, none⟩) lgn).trans d0; have o1 := (hX.out.cell (p := ⟨gn, 1, none⟩) lgn).trans d1; have lX := hX.out.size; have lbX : gn < X.heap.size := (by omega); go_simp
    try simp only [Act.put, List.setIfInBounds_toArray, List.set_cons_succ, List.set_cons_zero]
    refine wpAnyH_all (rs := [2]) (by kernel_rfl) (by simp) ?_
    intro ii hii; obtain rfl : ii = 2 := by simpa using hii
    clear hii
    refine wpOp_step rfl (fun K hK => ?_)
    go_simp
    refine (HC1.out _).mono ?_
    rintro e wbc ⟨rfl, hwbc⟩
    obtain rfl := hwbc.symm
    refine hK _ _ ⟨SV, ?_⟩
    clear hK K
    try simp only [Act.put, List.setIfInBounds_toArray, List.set_cons_succ, List.set_cons_zero]
    refine wpAnyH_all (rs := [4]) (by kernel_rfl) (by simp) ?_
    intro ii hii; obtain rfl : ii = 4 := by simpa using hii
    clear hii
    refine wpOp_step rfl (fun K hK => ?_)
    go_simp
    refine (HC2.out _).mono ?_
    rintro e wbd ⟨rfl, hwbd⟩
    obtain rfl := hwbd.symm
    refine hK _ _ ⟨SV, ?_⟩
    clear hK K
    try simp only [Act.put, List.setIfInBounds_toArray, List.set_cons_succ, List.set_cons_zero]
    refine wpAnyH_all (rs := [6]) (by kernel_rfl) (by simp) ?_
    intro ii hii; obtain rfl : ii = 6 := by simpa using hii
    clear hii
    refine wpOp_step rfl (fun K hK => ?_)
    go_simp
    refine (HRC.out _ (HBw2.out.trans (SV.out.mono HBw2.out.size))).mono ?_
    intro e wxb hp
    obtain ⟨v2, rfl, hrb, hbb⟩ := cellsPost_row hp
    rw [HLL.out] at hrb
    rw [HER.out]
    have S7 : Hid (Below w2.heap.size w2 wxb) := Lib.hid (SV.out.trans (hbb.mono SV.out.size))
    have HRb := Lib.hid hrb
    refine hK _ _ ⟨S7, ?_⟩
    clear hK K SV hbb hp hrb
    have SV := S7
    clear S7
    try simp only [Act.put, List.setIfInBounds_toArray, List.set_cons_succ, List.set_cons_zero]
    refine wpAnyH_takeD (i := 7) (v := .tuple #[v2, .int .i64 er]) (some 30) rfl rfl (by kernel_rfl) (by kernel_rfl) (by kernel_rfl) (fun _ _ _ h => h) (Or.inl ⟨by rfl, ?_⟩) SV ?_
    · intro X hX; go_simp
    try simp only [Act.put, List.setIfInBounds_toArray, List.set_cons_succ, List.set_cons_zero]
    refine wpAnyH_takeD (i := 8) (v := v2) (some 38) rfl rfl (by kernel_rfl) (by kernel_rfl) (by kernel_rfl) (fun _ _ _ h => h) (Or.inl ⟨by rfl, ?_⟩) SV ?_
    · intro X hX; go_simp
    try simp only [Act.put, List.setIfInBounds_toArray, List.set_cons_succ, List.set_cons_zero]
    refine wpAnyH_takeD (i := 9) (v := .int .i64 er) (some 39) rfl rfl (by kernel_rfl) (by kernel_rfl) (by kernel_rfl) (fun _ _ _ h => h) (Or.inl ⟨by rfl, ?_⟩) SV ?_
    · intro X hX; go_simp
    try simp only [Act.put, List.setIfInBounds_toArray, List.set_cons_succ, List.set_cons_zero]
    refine wpAnyH_takeD (i := 10) (v := v2) (some 12) rfl rfl (by kernel_rfl) (by kernel_rfl) (by kernel_rfl) (fun _ _ _ h => h) (Or.inl ⟨by rfl, ?_⟩) SV ?_
    · intro X hX; go_simp
    try simp only [Act.put, List.setIfInBounds_toArray, List.set_cons_succ, List.set_cons_zero]
    refine wpAnyH_takeD (i := 11) (v := .int .i64 er) (some 13) rfl rfl (by kernel_rfl) (by kernel_rfl) (by kernel_rfl) (fun _ _ _ h => h) (Or.inl ⟨by rfl, ?_⟩) SV ?_
    · intro X hX; go_simp
    try simp only [Act.put, List.setIfInBounds_toArray, List.set_cons_succ, List.set_cons_zero]
    refine wpAnyH_done (by kernel_rfl) ?_ _
    have HR2 := Lib.hid (HRa.out.below SV.out)
    have HBw3 := Lib.hid (HBw2.out.trans (SV.out.mono HBw2.out.size))
    clear SV d0 d1 lgn HA2 HRC HRa HC1 HC2
    go_wp2_with fail
    refine (HSM.out _ v1 v2 HR2.out HRb.out).mono ?_
    rintro e w4 ⟨rfl, hb4⟩
    have HB4 := Lib.hid (HBw3.out.trans (hb4.mono HBw3.out.size))
    clear hb4 HSM HR2 HRb HLL HER
    go_wp2
    go_ret
    exact ⟨by first | rfl | (simp; done), HB4.out⟩
  · have q0 : min (len0 : Int) 60 = 60 := by omega
    have q2 : 60 ≤ cap0 := by omega
    go_enter Try.func4, Try.ntmps4
    go_wp2_with fail
    try rw [hW0]
    clear hW0 hgn
    refine (HSH.out _).mono ?_
    rintro e w1 ⟨rfl, hb1⟩
    have HBw1 := Lib.hid (HB0.out.trans (hb1.mono HB0.out.size))
    have HA1 := Lib.hid (HA0.out.below hb1 HA0.out.lt)
    clear hb1 HB0 HA0 HSH
    have d0 := HA1.out.cellAt 0
    have d1 := HA1.out.cellAt 1
    have lgn := HA1.out.lt
    simp only [List.getElem?_cons_zero, List.getElem?_cons_succ] at d0 d1
    go_wp2
    refine region_held_atE (S := fun X => Hid (Below w1.heap.size w1 X)) (by kernel_rfl) (fun w9a hw9 => ?_)
    have SV : Hid (Below w1.heap.size w1 w9a) := Lib.hid (by rw [← hw9]; exact (Below.refl _ _).drew)
    clear hw9
    try simp only [Act.put, List.setIfInBounds_toArray, List.set_cons_succ, List.set_cons_zero]
    refine wpAnyH_takeD (i := 0) (v := .slice a0 60 cap0) (some 21) rfl rfl (by kernel_rfl) (by kernel_rfl) (by kernel_rfl) (fun _ _ _ h => h) (Or.inl ⟨by rfl, ?_⟩) SV ?_
    · intro X hX; go_simp
    try simp only [Act.put, List.setIfInBounds_toArray, List.set_cons_succ, List.set_cons_zero]
    refine wpAnyH_takeD (i := 1) (v := .slice a1 len1 cap1) (some 22) rfl rfl (by kernel_rfl) (by kernel_rfl) (by kernel_rfl) (fun _ _ _ h => h) (Or.inl ⟨by rfl, ?_⟩) SV ?_
    · intro X hX; go_simp
    try simp only [Act.put, List.setIfInBounds_toArray, List.set_cons_succ, List.set_cons_zero]
    refine wpAnyH_takeD (i := 3) (v := .slice a2 len2 cap2) (some 24) rfl rfl (by kernel_rfl) (by kernel_rfl) (by kernel_rfl) (fun _ _ _ h => h) (Or.inl ⟨by rfl, ?_⟩) SV ?_
    · intro X hX; go_simp
    try simp only [Act.put, List.setIfInBounds_toArray, List.set_cons_succ, List.set_cons_zero]
    refine wpAnyH_takeD (i := 5) (v := .agg #[.int .i64 g0, .int .i64 g1]) (some 26) rfl rfl (by kernel_rfl) (by kernel_rfl) (by kernel_rfl) (fun _ _ _ h => h) (Or.inl ⟨by rfl, ?_⟩) SV ?_
    · intro X hX; have o0 := (hX.out.cell (p := ⟨gn, 0, none⟩) lgn).trans d0; have o1 := (hX.out.cell (p := ⟨gn, 1, none⟩) lgn).trans d1; have lX := hX.out.size; have lbX : gn < X.heap.size := (by omega); go_simp
    try simp only [Act.put, List.setIfInBounds_toArray, List.set_cons_succ, List.set_cons_zero]
    refine wpAnyH_all (rs := [2]) (by kernel_rfl) (by simp) ?_
    intro ii hii; obtain rfl : ii = 2 := by simpa using hii
    clear hii
    refine wpOp_step rfl (fun K hK => ?_)
    go_simp
    refine (HC1.out _).mono ?_
    rintro e wac ⟨rfl, hwac⟩
    obtain rfl := hwac.symm
    refine hK _ _ ⟨SV, ?_⟩
    clear hK K
    try simp only [Act.put, List.setIfInBounds_toArray, List.set_cons_succ, List.set_cons_zero]
    refine wpAnyH_all (rs := [4]) (by kernel_rfl) (by simp) ?_
    intro ii hii; obtain rfl : ii = 4 := by simpa using hii
    clear hii
    refine wpOp_step rfl (fun K hK => ?_)
    go_simp
    refine (HC2.out _).mono ?_
    rintro e wad ⟨rfl, hwad⟩
    obtain rfl := hwad.symm
    refine hK _ _ ⟨SV, ?_⟩
    clear hK K
    try simp only [Act.put, List.setIfInBounds_toArray, List.set_cons_succ, List.set_cons_zero]
    refine wpAnyH_all (rs := [6]) (by kernel_rfl) (by simp) ?_
    intro ii hii; obtain rfl : ii = 6 := by simpa using hii
    clear hii
    refine wpOp_step rfl (fun K hK => ?_)
    go_simp
    refine (HCE.out _ (HBw1.out.trans (SV.out.mono HBw1.out.size))).mono ?_
    intro e wxa hp
    obtain ⟨v1, rfl, hra, hba⟩ := cellsPost_row hp
    rw [HLL.out] at hra
    rw [HER.out]
    have S7 : Hid (Below w1.heap.size w1 wxa) := Lib.hid (SV.out.trans (hba.mono SV.out.size))
    have HRa := Lib.hid hra
    refine hK _ _ ⟨S7, ?_⟩
    clear hK K SV hba hp hra
    have SV := S7
    clear S7
    try simp only [Act.put, List.setIfInBounds_toArray, List.set_cons_succ, List.set_cons_zero]
    refine wpAnyH_takeD (i := 7) (v := .tuple #[v1, .int .i64 er]) (some 20) rfl rfl (by kernel_rfl) (by kernel_rfl) (by kernel_rfl) (fun _ _ _ h => h) (Or.inl ⟨by rfl, ?_⟩) SV ?_
    · intro X hX; go_simp
    try simp only [Act.put, List.setIfInBounds_toArray, List.set_cons_succ, List.set_cons_zero]
    refine wpAnyH_takeD (i := 8) (v := v1) (some 28) rfl rfl (by kernel_rfl) (by kernel_rfl) (by kernel_rfl) (fun _ _ _ h => h) (Or.inl ⟨by rfl, ?_⟩) SV ?_
    · intro X hX; go_simp
    try simp only [Act.put, List.setIfInBounds_toArray, List.set_cons_succ, List.set_cons_zero]
    refine wpAnyH_takeD (i := 9) (v := .int .i64 er) (some 29) rfl rfl (by kernel_rfl) (by kernel_rfl) (by kernel_rfl) (fun _ _ _ h => h) (Or.inl ⟨by rfl, ?_⟩) SV ?_
    · intro X hX; go_simp
    try simp only [Act.put, List.setIfInBounds_toArray, List.set_cons_succ, List.set_cons_zero]
    refine wpAnyH_takeD (i := 10) (v := v1) (some 10) rfl rfl (by kernel_rfl) (by kernel_rfl) (by kernel_rfl) (fun _ _ _ h => h) (Or.inl ⟨by rfl, ?_⟩) SV ?_
    · intro X hX; go_simp
    try simp only [Act.put, List.setIfInBounds_toArray, List.set_cons_succ, List.set_cons_zero]
    refine wpAnyH_takeD (i := 11) (v := .int .i64 er) (some 11) rfl rfl (by kernel_rfl) (by kernel_rfl) (by kernel_rfl) (fun _ _ _ h => h) (Or.inl ⟨by rfl, ?_⟩) SV ?_
    · intro X hX; go_simp
    try simp only [Act.put, List.setIfInBounds_toArray, List.set_cons_succ, List.set_cons_zero]
    refine wpAnyH_done (by kernel_rfl) ?_ _
    have HBw2 := Lib.hid (HBw1.out.trans (SV.out.mono HBw1.out.size))
    have HA2 := Lib.hid (HA1.out.below SV.out HA1.out.lt)
    clear SV d0 d1 lgn HA1 HCE
    have d0 := HA2.out.cellAt 0
    have d1 := HA2.out.cellAt 1
    have lgn := HA2.out.lt
    simp only [List.getElem?_cons_zero, List.getElem?_cons_succ] at d0 d1
    generalize wxa = w2 at *
    go_wp2
    refine region_held_atE (S := fun X => Hid (Below w2.heap.size w2 X)) (by kernel_rfl) (fun w9b hw9 => ?_)
    have SV : Hid (Below w2.heap.size w2 w9b) := Lib.hid (by rw [← hw9]; exact (Below.refl _ _).drew)
    clear hw9
    try simp only [Act.put, List.setIfInBounds_toArray, List.set_cons_succ, List.set_cons_zero]
    refine wpAnyH_takeD (i := 0) (v := .slice a0 60 cap0) (some 31) rfl rfl (by kernel_rfl) (by kernel_rfl) (by kernel_rfl) (fun _ _ _ h => h) (Or.inl ⟨by rfl, ?_⟩) SV ?_
    · intro X hX; go_simp
    try simp only [Act.put, List.setIfInBounds_toArray, List.set_cons_succ, List.set_cons_zero]
    refine wpAnyH_takeD (i := 1) (v := .slice a1 len1 cap1) (some 32) rfl rfl (by kernel_rfl) (by kernel_rfl) (by kernel_rfl) (fun _ _ _ h => h) (Or.inl ⟨by rfl, ?_⟩) SV ?_
    · intro X hX; go_simp
    try simp only [Act.put, List.setIfInBounds_toArray, List.set_cons_succ, List.set_cons_zero]
    refine wpAnyH_takeD (i := 3) (v := .slice a2 len2 cap2) (some 34) rfl rfl (by kernel_rfl) (by kernel_rfl) (by kernel_rfl) (fun _ _ _ h => h) (Or.inl ⟨by rfl, ?_⟩) SV ?_
    · intro X hX; go_simp
    try simp only [Act.put, List.setIfInBounds_toArray, List.set_cons_succ, List.set_cons_zero]
    refine wpAnyH_takeD (i := 5) (v := .agg #[.int .i64 g0, .int .i64 g1]) (some 36) rfl rfl (by kernel_rfl) (by kernel_rfl) (by kernel_rfl) (fun _ _ _ h => h) (Or.inl ⟨by rfl, ?_⟩) SV ?_
    · intro X hX; have o0 := (hX.out.cell (p := ⟨gn, 0, none⟩) lgn).trans d0; have o1 := (hX.out.cell (p := ⟨gn, 1, none⟩) lgn).trans d1; have lX := hX.out.size; have lbX : gn < X.heap.size := (by omega); go_simp
    try simp only [Act.put, List.setIfInBounds_toArray, List.set_cons_succ, List.set_cons_zero]
    refine wpAnyH_all (rs := [2]) (by kernel_rfl) (by simp) ?_
    intro ii hii; obtain rfl : ii = 2 := by simpa using hii
    clear hii
    refine wpOp_step rfl (fun K hK => ?_)
    go_simp
    refine (HC1.out _).mono ?_
    rintro e wbc ⟨rfl, hwbc⟩
    obtain rfl := hwbc.symm
    refine hK _ _ ⟨SV, ?_⟩
    clear hK K
    try simp only [Act.put, List.setIfInBounds_toArray, List.set_cons_succ, List.set_cons_zero]
    refine wpAnyH_all (rs := [4]) (by kernel_rfl) (by simp) ?_
    intro ii hii; obtain rfl : ii = 4 := by simpa using hii
    clear hii
    refine wpOp_step rfl (fun K hK => ?_)
    go_simp
    refine (HC2.out _).mono ?_
    rintro e wbd ⟨rfl, hwbd⟩
    obtain rfl := hwbd.symm
    refine hK _ _ ⟨SV, ?_⟩
    clear hK K
    try simp only [Act.put, List.setIfInBounds_toArray, List.set_cons_succ, List.set_cons_zero]
    refine wpAnyH_all (rs := [6]) (by kernel_rfl) (by simp) ?_
    intro ii hii; obtain rfl : ii = 6 := by simpa using hii
    clear hii
    refine wpOp_step rfl (fun K hK => ?_)
    go_simp
    refine (HRC.out _ (HBw2.out.trans (SV.out.mono HBw2.out.size))).mono ?_
    intro e wxb hp
    obtain ⟨v2, rfl, hrb, hbb⟩ := cellsPost_row hp
    rw [HLL.out] at hrb
    rw [HER.out]
    have S7 : Hid (Below w2.heap.size w2 wxb) := Lib.hid (SV.out.trans (hbb.mono SV.out.size))
    have HRb := Lib.hid hrb
    refine hK _ _ ⟨S7, ?_⟩
    clear hK K SV hbb hp hrb
    have SV := S7
    clear S7
    try simp only [Act.put, List.setIfInBounds_toArray, List.set_cons_succ, List.set_cons_zero]
    refine wpAnyH_takeD (i := 7) (v := .tuple #[v2, .int .i64 er]) (some 30) rfl rfl (by kernel_rfl) (by kernel_rfl) (by kernel_rfl) (fun _ _ _ h => h) (Or.inl ⟨by rfl, ?_⟩) SV ?_
    · intro X hX; go_simp
    try simp only [Act.put, List.setIfInBounds_toArray, List.set_cons_succ, List.set_cons_zero]
    refine wpAnyH_takeD (i := 8) (v := v2) (some 38) rfl rfl (by kernel_rfl) (by kernel_rfl) (by kernel_rfl) (fun _ _ _ h => h) (Or.inl ⟨by rfl, ?_⟩) SV ?_
    · intro X hX; go_simp
    try simp only [Act.put, List.setIfInBounds_toArray, List.set_cons_succ, List.set_cons_zero]
    refine wpAnyH_takeD (i := 9) (v := .int .i64 er) (some 39) rfl rfl (by kernel_rfl) (by kernel_rfl) (by kernel_rfl) (fun _ _ _ h => h) (Or.inl ⟨by rfl, ?_⟩) SV ?_
    · intro X hX; go_simp
    try simp only [Act.put, List.setIfInBounds_toArray, List.set_cons_succ, List.set_cons_zero]
    refine wpAnyH_takeD (i := 10) (v := v2) (some 12) rfl rfl (by kernel_rfl) (by kernel_rfl) (by kernel_rfl) (fun _ _ _ h => h) (Or.inl ⟨by rfl, ?_⟩) SV ?_
    · intro X hX; go_simp
    try simp only [Act.put, List.setIfInBounds_toArray, List.set_cons_succ, List.set_cons_zero]
    refine wpAnyH_takeD (i := 11) (v := .int .i64 er) (some 13) rfl rfl (by kernel_rfl) (by kernel_rfl) (by kernel_rfl) (fun _ _ _ h => h) (Or.inl ⟨by rfl, ?_⟩) SV ?_
    · intro X hX; go_simp
    try simp only [Act.put, List.setIfInBounds_toArray, List.set_cons_succ, List.set_cons_zero]
    refine wpAnyH_done (by kernel_rfl) ?_ _
    have HR2 := Lib.hid (HRa.out.below SV.out)
    have HBw3 := Lib.hid (HBw2.out.trans (SV.out.mono HBw2.out.size))
    clear SV d0 d1 lgn HA2 HRC HRa HC1 HC2
    go_wp2_with fail
    refine (HSM.out _ v1 v2 HR2.out HRb.out).mono ?_
    rintro e w4 ⟨rfl, hb4⟩
    have HB4 := Lib.hid (HBw3.out.trans (hb4.mono HBw3.out.size))
    clear hb4 HSM HR2 HRb HLL HER
    go_wp2
    go_ret
    exact ⟨by first | rfl | (simp; done), HB4.out⟩
theorem walk (W : World) (a0 : Option Addr) (len0 cap0 : Nat) (z0 : List Pz) (w0 : PsAt W (.slice a0 len0 cap0) z0 ∧ z0.length = len0 ∧ len0 ≤ cap0 ∧ cap0 ≤ maxLen ∧ ∀ p ∈ z0, p.ok) (a1 : Option Addr) (len1 cap1 : Nat) (z1 : List Int) (w1 : Ints W (.slice a1 len1 cap1) z1 ∧ z1.length = len1 ∧ len1 ≤ cap1 ∧ cap1 ≤ maxLen) (a2 : Option Addr) (len2 cap2 : Nat) (z2 : List Int) (w2 : Ints W (.slice a2 len2 cap2) z2 ∧ z2.length = len2 ∧ len2 ≤ cap2 ∧ cap2 ≤ maxLen) (a3 : Gp) (w3 : a3.wf) :
    Calls Try.prog 4 #[.slice a0 len0 cap0, .slice a1 len1 cap1, .slice a2 len2 cap2, a3.val] W fun e w' => e = .returned (.bool true) ∧ Below W.heap.size W w' := by
  obtain ⟨h1, h2, h3, h4, h5⟩ := w0
  obtain ⟨i1, i2, i3, i4⟩ := w1
  obtain ⟨j1, j2, j3, j4⟩ := w2
  unfold maxLen at h4 i4 j4
  obtain ⟨k1, k2⟩ := cut_low i1 i2
  obtain ⟨l1, l2⟩ := cut_low j1 j2
  have hp := places_take h1 h2 (min len0 60) (by omega)
  exact main W a0 a1 a2 len0 cap0 len1 cap1 len2 cap2 (min len0 60) (z0.take (min len0 60)) _ _ a3.x a3.y hp (by rw [List.length_take]; omega) (fun x hx => h5 x (List.mem_of_mem_take hx)) k1 l1 k2 l2 (by omega) h3 i3 j3 h4 i4 j4

set_option maxRecDepth 100000 in
theorem lifted (os : Os) (started : os.Started) (H : Type) (enc : TypeId × Value → H) :
    ReturnsInHanded {} Try.checked os 4 .any (Rows.edgesCellsSpec.pre6 enc Try.prog Try.f4 Rows.edgesCellsRow.domain false) (Rows.edgesCellsSpec.post enc Try.prog Try.f4 false true false false) := by
  refine returnsInHanded_of_change (C := Try.checked) own started (by kernel_rfl) Try.func4
    (ChangeSpec.witness6 (enc := enc) (C := Try.checked) false ⟨#[], #[.slice none 0 0, .slice none 0 0, .slice none 0 0, .agg #[.int .i64 0, .int .i64 0]], []⟩ 8 (by kernel_rfl) (by kernel_rfl) (by kernel_rfl) (by kernel_rfl)) ?_
  intro W base args ds gs before hval0 hW hcnd _
  have hval : ∀ (j : Nat) t v, Try.f4.params[j]? = some t → args[j]? = some v → Value.okWide Try.prog W .any base t v := hval0
  have hW' := hW
  obtain ⟨p, q, hA0, hV, rfl, hfz, hnd⟩ := hW
  have hA : DataW.TrodAll enc Try.prog W 0 (fun _ => true) true Try.f4.params.toList args.toList ds p := hA0
  rw [Try.params4] at hA hval
  obtain ⟨v0, vs0, d0, ds0, p0, q0, hargs, rfl, rfl, h0, r0⟩ := trodAll_cons hA
  obtain ⟨v1, vs1, d1, ds1, p1, q1, rfl, rfl, rfl, h1, r1⟩ := trodAll_cons r0
  obtain ⟨v2, vs2, d2, ds2, p2, q2, rfl, rfl, rfl, h2, r2⟩ := trodAll_cons r1
  obtain ⟨v3, vs3, d3, ds3, p3, q3, rfl, rfl, rfl, h3, r3⟩ := trodAll_cons r2
  obtain ⟨rfl, rfl, rfl⟩ := trodAll_nil r3
  obtain rfl : args = #[v0, v1, v2, v3] := by cases args; simp_all
  obtain ⟨rfl, rfl⟩ := trodVars_none hV
  obtain ⟨a0, len0, cap0, rfl⟩ := okWide_slice Try.underlying37 (hval 0 37 v0 rfl rfl)
  have k0 := h0
  have lt0 : ∀ x ∈ p0, x.block < W.heap.size := by obtain ⟨m, hm⟩ := k0; exact DataW.trod_lt m _ _ _ hm
  obtain ⟨z0, w0⟩ : ∃ L, PsAt W (.slice a0 len0 cap0) L ∧ L.length = len0 ∧ len0 ≤ cap0 ∧ cap0 ≤ maxLen ∧ ∀ p ∈ L, p.ok := by
    obtain ⟨fuel, hf⟩ := h0
    exact open_places (by simpa [Value.cells] using hf)
  obtain ⟨a1, len1, cap1, rfl⟩ := okWide_slice Try.underlying22 (hval 1 22 v1 rfl rfl)
  have k1 := h1
  have lt1 : ∀ x ∈ p1, x.block < W.heap.size := by obtain ⟨m, hm⟩ := k1; exact DataW.trod_lt m _ _ _ hm
  obtain ⟨z1, w1⟩ : ∃ zs, Ints W (.slice a1 len1 cap1) zs ∧ zs.length = len1 ∧ len1 ≤ cap1 ∧ cap1 ≤ maxLen := by
    obtain ⟨fuel, hf⟩ := h1
    exact open_ints64 (by simpa [Value.cells] using hf)
  obtain ⟨a2, len2, cap2, rfl⟩ := okWide_slice Try.underlying22 (hval 2 22 v2 rfl rfl)
  have k2 := h2
  have lt2 : ∀ x ∈ p2, x.block < W.heap.size := by obtain ⟨m, hm⟩ := k2; exact DataW.trod_lt m _ _ _ hm
  obtain ⟨z2, w2⟩ : ∃ zs, Ints W (.slice a2 len2 cap2) zs ∧ zs.length = len2 ∧ len2 ≤ cap2 ∧ cap2 ≤ maxLen := by
    obtain ⟨fuel, hf⟩ := h2
    exact open_ints64 (by simpa [Value.cells] using hf)
  obtain ⟨a3, rfl, rfl, rfl, w3⟩ := open_two (hval 3 38 v3 rfl rfl) h3
  clear hA0 hval0
  simp only [List.append_nil] at hW'
  refine (walk W a0 len0 cap0 z0 w0 a1 len1 cap1 z1 w1 a2 len2 cap2 z2 w2 a3 w3).mono fun e W' ⟨he, hg⟩ => ?_
  subst he
  exact ⟨_, rfl, _, _, _, [], _, [], hW', (trodAll_cons_mk (shut_bool Try.underlying4 _) trodAll_mk0), (trodAll_cons_mk (Below.trod laidOut (by kernel_rfl) (of_decide_eq_true (by kernel_rfl)) k0 hg lt0) (trodAll_cons_mk (Below.trod laidOut (by kernel_rfl) (of_decide_eq_true (by kernel_rfl)) k1 hg lt1) (trodAll_cons_mk (Below.trod laidOut (by kernel_rfl) (of_decide_eq_true (by kernel_rfl)) k2 hg lt2) (trodAll_cons_mk (shut_two a3 w3) trodAll_mk0)))), rfl, hg.frame _, fun h => by cases h⟩

theorem over : Rows.edgesCellsRow.holds Try.pinned (OpenSpec.ofChange Rows.edgesCellsSpec) :=
  OpenClaim.holds_of_wide 4 Try.f4 rfl rfl rfl rfl rfl rfl rfl ⟨rfl, rfl, rfl, rfl, rfl⟩ rfl rfl rfl rfl rfl (by kernel_rfl) Try.func4 (by kernel_rfl)
    (of_decide_eq_true (by kernel_rfl)) (by unfold Func.isWrapper; first | (rw [if_pos (by decide +kernel)]; kernel_rfl) | (rw [if_neg (by decide +kernel)]; exact ⟨rfl, rfl⟩))
    (fun os started H enc _ => lifted os started H enc)

/-- the statement -/
theorem proved : Rows.EdgesCellsSaid :=
  over
#print axioms proved
end Go.Proofs.Ytncgmfdmkjlmaaa.edgesCells
