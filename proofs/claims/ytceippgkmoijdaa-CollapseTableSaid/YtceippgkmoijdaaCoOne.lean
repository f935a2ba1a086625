/- collapse.Right; what Insets and Outer answer for framings that are not right. Written by mk_CoRt.py. -/
/- The laws' one cell's framing. -/
import Derived.Test.YtceippgkmoijdaaCoIns
namespace Go.Proofs.Ytceippgkmoijdaa
open Go.RowKit Go.Shelf Go.Sort Go.Maps
set_option linter.unusedVariables false
set_option linter.unusedSimpArgs false
attribute [local go_sem] Oper.semAt_some

theorem results_i4 {fn : Func} {W : World} {g : Nat} {x0 x1 x2 x3 v : Value} {tmps : Array Value} (hf : fn.results = #[.cell 4 39, .tmp 5]) (ht : tmps[4]? = some (.pointer (some ⟨g, 0, none⟩))) (hv : tmps[5]? = some v) (h : Whole W g 39 [x0, x1, x2, x3]) :
    (results fn tmps).run Try.prog W = .ok (.tuple #[.agg #[x0, x1, x2, x3], v]) W := by
  have c0 := h.cellAt 0
  have c1 := h.cellAt 1
  have c2 := h.cellAt 2
  have c3 := h.cellAt 3
  simp only [List.getElem?_cons_zero, List.getElem?_cons_succ] at c0 c1 c2 c3
  have hl := Whole.loads (cs := #[x0, x1, x2, x3]) h
  have hr := run_loadVarC W ⟨g, 0, none⟩ 39 #[x0, x1, x2, x3] _ hl Try.underlying39 rfl (by kernel_rfl)
  simp [results, hf, go_sem, ht, hv, hr, c0, c1, c2, c3]
set_option maxRecDepth 100000 in
set_option maxHeartbeats 8000000 in
theorem right_no (f : Fm) (v : FmV) (W : World) (hf : FmAt W f v) (hok : ¬ okF f) :
    Calls Try.prog 20 #[f.val v] W fun e X => e = .returned (.bool false) ∧ Below W.heap.size W X := by
  have HN := Lib.hid (fun X (hX : Below W.heap.size W X) => (fa_net (hf.below hX)).mono (R' := fun e X' => (∃ r k p n c, e = .returned (.tuple #[.agg #[.int .i64 r, .int .i64 k, .slice p n c], .bool false])) ∧ Below X.heap.size X X') (fun e X' h => ⟨by
    rcases h.1 with ⟨h1, _⟩ | ⟨_, r, k, p, n, c, h1⟩
    · exact absurd h1 hok
    · exact ⟨r, k, p, n, c, h1⟩, h.2⟩))
  have M0 : Hid (EdM f v W (W.alloc (.cells (f.cells v).toArray 30))) := Lib.hid ⟨hf.below ((Below.refl _ W).alloc (Nat.le_refl _) _), whole_new W _ 30 _ rfl, (Below.refl _ W).alloc (Nat.le_refl _) _⟩
  have hl := Fm.cells_len f v
  unfold Fm.val at HN ⊢
  obtain ⟨fl, hfl⟩ : ∃ fl, f.cells v = fl := ⟨_, rfl⟩
  rw [hfl] at HN hl
  have HFL := Lib.hid hfl
  rw [hfl]
  have IFA : Hid ((Try.prog.info? 30).map (·.size) = some fl.toArray.size) := Lib.hid (by rw [List.size_toArray, hl]; kernel_rfl)
  rw [hfl] at M0
  obtain ⟨fa, hfa⟩ : ∃ fa, fl.toArray = fa := ⟨_, rfl⟩
  rw [hfa] at HN IFA M0
  rw [hfa]
  have HFA := Lib.hid hfa
  clear hfl hfa hl
  have M1 := M0
  go_enter Try.func20, Try.ntmps20
  have LF : Hid (∀ j u, fa[j]? = some u → (W.alloc (.cells fa 30)).cell? ((⟨W.heap.size, 0, none⟩ : Addr).add j) = some u) := Lib.hid ((whole_arr (HFL.out ▸ M1.out.box) HFA.out).loads)
  go_wp2_with (first
    | (refine wpList_loadC rfl 30 (.tmp 1) rfl ⟨W.heap.size, 0, none⟩ rfl fa _ LF.out Try.underlying30 rfl IFA.out ?_)
    | (go_at_call 23; refine (HN.out _ M1.out.be).mono ?_; rintro e w1 ⟨⟨r, k, p, n, c, rfl⟩, hb⟩; have B1 := Lib.hid (M1.out.be.trans (hb.mono M1.out.be.size)); clear hb LF)
    | fail)
  refine bodyPost_ret (v := .bool false) (by simp [results, Try.func20, go_sem]) rfl ⟨rfl, ?_⟩
  exact B1.out.alloc B1.out.size _
set_option maxRecDepth 100000 in
set_option maxHeartbeats 8000000 in
theorem right_yes (f : Fm) (v : FmV) (W : World) (hf : FmAt W f v) (hok : okF f) :
    Calls Try.prog 20 #[f.val v] W fun e X => e = .returned (.bool true) ∧ Below W.heap.size W X := by
  have HN := Lib.hid (fun X (hX : Below W.heap.size W X) => (fa_net (hf.below hX)).mono (R' := fun e X' => (∃ r k p n c, e = .returned (.tuple #[.agg #[.int .i64 r, .int .i64 k, .slice p n c], .bool true])) ∧ Below X.heap.size X X') (fun e X' h => ⟨by
    rcases h.1 with ⟨_, p, c, h1, _⟩ | ⟨h1, _⟩
    · exact ⟨_, _, p, _, c, h1⟩
    · exact absurd hok h1, h.2⟩))
  have M0 : Hid (EdM f v W (W.alloc (.cells (f.cells v).toArray 30))) := Lib.hid ⟨hf.below ((Below.refl _ W).alloc (Nat.le_refl _) _), whole_new W _ 30 _ rfl, (Below.refl _ W).alloc (Nat.le_refl _) _⟩
  have hl := Fm.cells_len f v
  unfold Fm.val at HN ⊢
  obtain ⟨fl, hfl⟩ : ∃ fl, f.cells v = fl := ⟨_, rfl⟩
  rw [hfl] at HN hl
  have HFL := Lib.hid hfl
  rw [hfl]
  have IFA : Hid ((Try.prog.info? 30).map (·.size) = some fl.toArray.size) := Lib.hid (by rw [List.size_toArray, hl]; kernel_rfl)
  rw [hfl] at M0
  obtain ⟨fa, hfa⟩ : ∃ fa, fl.toArray = fa := ⟨_, rfl⟩
  rw [hfa] at HN IFA M0
  rw [hfa]
  have HFA := Lib.hid hfa
  clear hfl hfa hl
  have M1 := M0
  go_enter Try.func20, Try.ntmps20
  have LF : Hid (∀ j u, fa[j]? = some u → (W.alloc (.cells fa 30)).cell? ((⟨W.heap.size, 0, none⟩ : Addr).add j) = some u) := Lib.hid ((whole_arr (HFL.out ▸ M1.out.box) HFA.out).loads)
  go_wp2_with (first
    | (refine wpList_loadC rfl 30 (.tmp 1) rfl ⟨W.heap.size, 0, none⟩ rfl fa _ LF.out Try.underlying30 rfl IFA.out ?_)
    | (go_at_call 23; refine (HN.out _ M1.out.be).mono ?_; rintro e w1 ⟨⟨r, k, p, n, c, rfl⟩, hb⟩; have B1 := Lib.hid (M1.out.be.trans (hb.mono M1.out.be.size)); clear hb LF)
    | fail)
  refine bodyPost_ret (v := .bool true) (by simp [results, Try.func20, go_sem]) rfl ⟨rfl, ?_⟩
  exact B1.out.alloc B1.out.size _
set_option maxRecDepth 100000 in
set_option maxHeartbeats 8000000 in
theorem ins_no (f : Fm) (v : FmV) (ev : Value) (W : World) (hf : FmAt W f v) (hok : ¬ okF f) :
    Calls Try.prog 11 #[f.val v, ev] W fun e X => e = .returned (.tuple #[.slice none 0 0, .int .i64 120]) ∧ Below W.heap.size W X := by
  have HN := Lib.hid (fun X (hX : Below W.heap.size W X) => (fa_net (hf.below hX)).mono (R' := fun e X' => (∃ r k p n c, e = .returned (.tuple #[.agg #[.int .i64 r, .int .i64 k, .slice p n c], .bool false])) ∧ Below X.heap.size X X') (fun e X' h => ⟨by
    rcases h.1 with ⟨h1, _⟩ | ⟨_, r, k, p, n, c, h1⟩
    · exact absurd h1 hok
    · exact ⟨r, k, p, n, c, h1⟩, h.2⟩))
  have M0 : Hid (EdM f v W (W.alloc (.cells (f.cells v).toArray 30))) := Lib.hid ⟨hf.below ((Below.refl _ W).alloc (Nat.le_refl _) _), whole_new W _ 30 _ rfl, (Below.refl _ W).alloc (Nat.le_refl _) _⟩
  have hl := Fm.cells_len f v
  unfold Fm.val at HN ⊢
  obtain ⟨fl, hfl⟩ : ∃ fl, f.cells v = fl := ⟨_, rfl⟩
  rw [hfl] at HN hl
  have HFL := Lib.hid hfl
  rw [hfl]
  have IFA : Hid ((Try.prog.info? 30).map (·.size) = some fl.toArray.size) := Lib.hid (by rw [List.size_toArray, hl]; kernel_rfl)
  rw [hfl] at M0
  obtain ⟨fa, hfa⟩ : ∃ fa, fl.toArray = fa := ⟨_, rfl⟩
  rw [hfa] at HN IFA M0
  rw [hfa]
  have HFA := Lib.hid hfa
  clear hfl hfa hl
  have M1 := M0
  go_enter Try.func11, Try.ntmps11
  have LF : Hid (∀ j u, fa[j]? = some u → (W.alloc (.cells fa 30)).cell? ((⟨W.heap.size, 0, none⟩ : Addr).add j) = some u) := Lib.hid ((whole_arr (HFL.out ▸ M1.out.box) HFA.out).loads)
  go_wp2_with (first
    | (refine wpList_loadC rfl 30 (.tmp 2) rfl ⟨W.heap.size, 0, none⟩ rfl fa _ LF.out Try.underlying30 rfl IFA.out ?_)
    | (go_at_call 23; refine (HN.out _ M1.out.be).mono ?_; rintro e w1 ⟨⟨r, k, p, n, c, rfl⟩, hb⟩; have B1 := Lib.hid (M1.out.be.trans (hb.mono M1.out.be.size)); clear hb LF)
    | fail)
  refine bodyPost_ret (v := .tuple #[.slice none 0 0, .int .i64 120]) (by simp [results, Try.func11, go_sem]) rfl ⟨rfl, ?_⟩
  exact B1.out.alloc B1.out.size _
set_option maxRecDepth 100000 in
set_option maxHeartbeats 8000000 in
theorem out_no (f : Fm) (v : FmV) (ev : Value) (W : World) (hf : FmAt W f v) (hok : ¬ okF f) :
    Calls Try.prog 12 #[f.val v, ev] W fun e X => e = .returned (.tuple #[.agg #[.int .i64 0, .int .i64 0, .int .i64 0, .int .i64 0], .int .i64 120]) ∧ Below W.heap.size W X := by
  have HN := Lib.hid (fun X (hX : Below W.heap.size W X) => (fa_net (hf.below hX)).mono (R' := fun e X' => (∃ r k p n c, e = .returned (.tuple #[.agg #[.int .i64 r, .int .i64 k, .slice p n c], .bool false])) ∧ Below X.heap.size X X') (fun e X' h => ⟨by
    rcases h.1 with ⟨h1, _⟩ | ⟨_, r, k, p, n, c, h1⟩
    · exact absurd h1 hok
    · exact ⟨r, k, p, n, c, h1⟩, h.2⟩))
  have M0 : Hid (EdM f v W (W.alloc (.cells (f.cells v).toArray 30))) := Lib.hid ⟨hf.below ((Below.refl _ W).alloc (Nat.le_refl _) _), whole_new W _ 30 _ rfl, (Below.refl _ W).alloc (Nat.le_refl _) _⟩
  have hl := Fm.cells_len f v
  unfold Fm.val at HN ⊢
  obtain ⟨fl, hfl⟩ : ∃ fl, f.cells v = fl := ⟨_, rfl⟩
  rw [hfl] at HN hl
  have HFL := Lib.hid hfl
  rw [hfl]
  have IFA : Hid ((Try.prog.info? 30).map (·.size) = some fl.toArray.size) := Lib.hid (by rw [List.size_toArray, hl]; kernel_rfl)
  rw [hfl] at M0
  obtain ⟨fa, hfa⟩ : ∃ fa, fl.toArray = fa := ⟨_, rfl⟩
  rw [hfa] at HN IFA M0
  rw [hfa]
  have HFA := Lib.hid hfa
  clear hfl hfa hl
  have R0 : Hid (Whole ((W.alloc (.cells fa 30)).alloc (.cells [.int .i64 0, .int .i64 0, .int .i64 0, .int .i64 0].toArray 39)) (W.heap.size + 1) 39 [.int .i64 0, .int .i64 0, .int .i64 0, .int .i64 0]) := Lib.hid (whole_new (W.alloc (.cells fa 30)) [.int .i64 0, .int .i64 0, .int .i64 0, .int .i64 0] 39 _ (by simp))
  have M1 := Lib.hid (M0.out.below ((Below.refl _ _).alloc (Nat.le_refl _) (.cells [.int .i64 0, .int .i64 0, .int .i64 0, .int .i64 0].toArray 39)))
  go_enter Try.func12, Try.ntmps12
  have LF : Hid (∀ j u, fa[j]? = some u → ((W.alloc (.cells fa 30)).alloc (.cells #[.int .i64 0, .int .i64 0, .int .i64 0, .int .i64 0] 39)).cell? ((⟨W.heap.size, 0, none⟩ : Addr).add j) = some u) := Lib.hid ((whole_arr (HFL.out ▸ M1.out.box) HFA.out).loads)
  go_wp2_with (first
    | (refine wpList_loadC rfl 30 (.tmp 2) rfl ⟨W.heap.size, 0, none⟩ rfl fa _ LF.out Try.underlying30 rfl IFA.out ?_)
    | (go_at_call 23; refine (HN.out _ M1.out.be).mono ?_; rintro e w1 ⟨⟨r, k, p, n, c, rfl⟩, hb⟩; have B1 := Lib.hid (M1.out.be.trans (hb.mono M1.out.be.size)); have R1 := Lib.hid (R0.out.below hb R0.out.lt); have R2 := Lib.hid (R1.out.alloc (.cells [.int .i64 r, .int .i64 k, .slice p n c].toArray 64)); clear hb LF)
    | (refine wpList_store_row rfl 39 (.tmp 4) (.tmp 21) rfl (W.heap.size + 1) #[.int .i64 0, .int .i64 0, .int .i64 0, .int .i64 0] rfl rfl 39 #[.int .i64 0, .int .i64 0, .int .i64 0, .int .i64 0] R2.out (by kernel_rfl) rfl (by simp [Value.oneCell']) ?_; have R3 := Lib.hid (whole_rowA R2.out #[.int .i64 0, .int .i64 0, .int .i64 0, .int .i64 0]))
    | fail)
  refine bodyPost_ret (results_i4 (g := W.heap.size + 1) rfl rfl rfl R3.out) rfl ⟨rfl, ?_⟩
  exact (B1.out.alloc B1.out.size _).trans (below_setRow (Below.refl _ _) _ _ (by omega))
end Go.Proofs.Ytceippgkmoijdaa

namespace Go.Proofs.Ytceippgkmoijdaa
open Go.RowKit Go.Shelf Go.Sort Go.Maps
set_option linter.unusedVariables false
set_option linter.unusedSimpArgs false
attribute [local go_sem] Oper.semAt_some

def oneA : Li := ⟨3, 4, 0⟩
def oneB : Li := ⟨4, 6, 0⟩
def oneF : Fm := ⟨1, 1, [⟨0, 0, 0, 1, 1⟩], [⟨oneA, oneA, oneA, oneA⟩], [], [], [], [], ⟨oneB, oneB, oneB, oneB⟩⟩
theorem one_ok : okF oneF := by
  refine ⟨?_, rfl, by decide, by decide, by decide, by decide, ⟨⟨by decide, by decide⟩, ⟨by decide, by decide⟩, by decide⟩, ?_⟩
  · show ¬ 10000 < IntKind.i64.wrap (1 * 1)
    decide
  · exact ⟨by decide, by decide⟩
theorem one_hue : HueF oneF 1 1 := ⟨rfl, rfl, by omega, by omega, by intro c hc; simp [oneF] at hc; subst hc; intro x hx; simp [Fr.list] at hx; subst hx; decide, by intro r hr; simp [oneF] at hr, by intro r hr; simp [oneF] at hr, by intro x hx; simp [oneF, Fr.list] at hx; subst hx; decide, by decide, by decide⟩
def oneE : Si := ⟨4, 6, 0, 5, 0, 0⟩
theorem one_edges : edgesP oneF 1 1 = [⟨0, 0, true, oneE, 2⟩, ⟨1, 0, true, oneE, 2⟩, ⟨0, 0, false, oneE, 2⟩, ⟨0, 1, false, oneE, 2⟩] := by decide
theorem one_ins : insP oneF.ps 1 1 (edgesP oneF 1 1) = [⟨3, 3, 3, 3⟩] := by rw [one_edges]; decide
end Go.Proofs.Ytceippgkmoijdaa
