/- Pages in memory; the first node, the first number that is so (slices.IndexFunc); links (tree.firstUnlinked), depths (tree.tooDeep). -/
/- Which node has a kid that is no place of a node (tree.firstUnlinked); which depth is too great (tree.tooDeep). Written by program in part: mk_TLink.py. -/
import Derived.Test.YtecnapecmioamaaTNode
namespace Go.Proofs.Ytecnapecmioamaa
open Go.RowKit Go.Shelf
set_option linter.unusedVariables false
attribute [local go_sem] Oper.semAt_some

/-- a page lies in the slice lv -/
def PageAt (W : World) (lv : Value) (ns : List Nd) : Prop :=
  ns.length ≤ 9223372036854775807 ∧ (∀ n ∈ ns, n.ok W) ∧ ((∃ (a : Option Addr) (cap : Nat), lv = .slice a 0 cap ∧ ns = []) ∨
    ∃ b off cap, lv = .slice (some ⟨b, off, none⟩) ns.length cap ∧ ∀ i n, ns[i]? = some n → NdAt W b (off + i * 34) n)
theorem PageAt.below {W W' : World} {lv : Value} {ns : List Nd} (h : PageAt W lv ns) (hb : Below W.heap.size W W') : PageAt W' lv ns := by
  obtain ⟨h1, h2, h3⟩ := h
  refine ⟨h1, fun n hn => (h2 n hn).below hb, ?_⟩
  rcases h3 with h3 | ⟨b, off, cap, e, hc⟩
  · exact .inl h3
  · exact .inr ⟨b, off, cap, e, fun i n hn => (hc i n hn).below hb⟩
theorem PageAt.form {W : World} {lv : Value} {ns : List Nd} (h : PageAt W lv ns) : ∃ p cap, lv = .slice p ns.length cap := by
  obtain ⟨_, _, ⟨a, cap, rfl, rfl⟩ | ⟨b, off, cap, rfl, _⟩⟩ := h
  · exact ⟨a, cap, rfl⟩
  · exact ⟨_, cap, rfl⟩
/-- where the first one is, or -1 -/
def idxI {α : Type} (p : α → Bool) (l : List α) : Int := match l.findIdx? p with | some i => i | none => -1
theorem idxI_hit {α : Type} (p : α → Bool) (l : List α) (k : Nat) (x : α) (ht : (l.take k).any p = false) (hx : l[k]? = some x) (hp : p x = true) : idxI p l = k := by
  unfold idxI
  have : l.findIdx? p = some k := by
    rw [List.findIdx?_eq_some_iff_getElem]
    obtain ⟨hlt, hxe⟩ := List.getElem?_eq_some_iff.1 hx
    refine ⟨hlt, by rw [hxe]; exact hp, fun j hj => ?_⟩
    rw [List.any_eq_false] at ht
    exact ht _ (List.mem_iff_getElem?.2 ⟨j, by rw [List.getElem?_take_of_lt hj]; simp⟩)
  rw [this]
theorem idxI_none {α : Type} (p : α → Bool) (l : List α) (h : l.any p = false) : idxI p l = -1 := by
  unfold idxI
  have : l.findIdx? p = none := by
    rw [List.findIdx?_eq_none_iff]
    intro x hx
    rw [List.any_eq_false] at h
    simpa using h x hx
  rw [this]
theorem idxI_neg {α : Type} (p : α → Bool) (l : List α) : idxI p l < 0 ↔ l.any p = false := by
  constructor
  · intro h
    cases hq : l.any p with
    | false => rfl
    | true =>
      exfalso
      unfold idxI at h
      cases hf : l.findIdx? p with
      | none => rw [List.findIdx?_eq_none_iff] at hf; rw [List.any_eq_true] at hq; obtain ⟨x, hx, hp⟩ := hq; have := hf x hx; simp_all
      | some i => rw [hf] at h; simp at h; omega
  · intro h; rw [idxI_none p l h]; omega
theorem add_zero_addr (b o : Nat) : (⟨b, o, none⟩ : Addr).add 0 = ⟨b, o, none⟩ := by rw [add_plain]; rfl

--BEGIN
set_option maxHeartbeats 400000 in
theorem idxN_some (b off cap : Nat) (ns : List Nd) (p : Nd → Bool) (w : World) (hm : ns.length ≤ 9223372036854775807)
    (hc : ∀ i n, ns[i]? = some n → NdAt w b (off + i * 34) n)
    (hf : ∀ n ∈ ns, ∀ X : World, Below w.heap.size w X → Calls Try.prog 31 #[n.val] X fun e W' => e = .returned (.bool (p n)) ∧ Below X.heap.size X W') :
    Calls Try.prog 30 #[.slice (some ⟨b, off, none⟩) ns.length cap, .func (.func 31) #[] #[]] w fun e W' => e = .returned (.int .i64 (idxI p ns)) ∧ Below w.heap.size w W' := by
  have eg : ∀ args w, (callFunc 31 args).run Try.prog w = .ok (.enter 31 args) w := enters_of Try.func31 (by kernel_rfl) rfl
  have HF := Lib.hid hf
  have HC := Lib.hid hc
  clear hf hc
  go_enter Try.func30, Try.ntmps30
  go_wp2
  go_loopg [5, 8] ns.length (fun gg _ s8 wr => ∃ kk : Nat, kk ≤ ns.length ∧ ns.length - kk ≤ gg ∧ s8 = .int .i64 kk ∧ Hid (Below w.heap.size w wr) ∧ Hid ((ns.take kk).any p = false))
  case atStart => exact ⟨0, Nat.zero_le _, by omega, rfl, Lib.hid (Below.refl _ _), by simp [Lib.hid]⟩
  case round =>
    obtain ⟨kk, hkk, hg, rfl, HB, A⟩ := hrel
    by_cases hlt : kk < ns.length
    · obtain ⟨n, hn⟩ : ∃ n, ns[kk]? = some n := ⟨_, List.getElem?_eq_getElem hlt⟩
      have LN := Lib.hid ((HC.out kk n hn).below HB.out).load
      have HX := Lib.hid (HF.out n (List.mem_iff_getElem?.2 ⟨kk, hn⟩) wr HB.out)
      have iN := Lib.hid (nd_info n)
      have HN := Lib.hid hn
      rw [show n.val = .agg n.cells.toArray from rfl] at HX
      generalize n.cells.toArray = cs at *
      clear HF HC hn
      cases hq : p n with
      | true =>
        have R := Lib.hid (idxI_hit p ns kk n A.out HN.out hq)
        have HX' := Lib.hid (hq ▸ HX.out)
        clear HX hq
        go_wp2_with (first
          | (refine wpList_load_at rfl 47 (.tmp 14) rfl _ rfl cs _ LN.out Try.underlying47 rfl iN.out ?_)
          | (go_at_fn 31; refine HX'.out.mono ?_; rintro e w' ⟨rfl, hb'⟩))
        go_ret
        exact ⟨by rw [R.out]; rfl, HB.out.trans (hb'.mono HB.out.size)⟩
      | false =>
        have R := Lib.hid (any_take_step p ns kk n hlt HN.out hq A.out)
        have HX' := Lib.hid (hq ▸ HX.out)
        clear HX hq
        go_wp2_with (first
          | (refine wpList_load_at rfl 47 (.tmp 14) rfl _ rfl cs _ LN.out Try.underlying47 rfl iN.out ?_)
          | (go_at_fn 31; refine HX'.out.mono ?_; rintro e w' ⟨rfl, hb'⟩))
        go_roundg (ns.length - (kk + 1))
        case measure => omega
        case rel => exact ⟨kk + 1, by omega, by omega, by go_num, Lib.hid (HB.out.trans (hb'.mono HB.out.size)), R⟩
    · have R := Lib.hid (idxI_none p ns (show ns.any p = false by have := A.out; rwa [List.take_of_length_le (by omega)] at this))
      go_wp2
      go_ret
      exact ⟨by rw [R.out]; rfl, HB.out⟩
--END
set_option maxHeartbeats 400000 in
theorem idxN_none (a : Option Addr) (cap : Nat) (fv : Value) (w : World) :
    Calls Try.prog 30 #[.slice a 0 cap, fv] w fun e W' => e = .returned (.int .i64 (-1)) ∧ Below w.heap.size w W' := by
  go_enter Try.func30, Try.ntmps30
  go_wp2
  refine wp_loop_rounds 1 ?_
  rw [rounds_succ]
  go_wp2
  go_ret
  exact ⟨rfl, Below.refl _ _⟩
theorem idx_wrong (lv : Value) (ns : List Nd) (w : World) (h : PageAt w lv ns) :
    Calls Try.prog 30 #[lv, .func (.func 31) #[] #[]] w fun e W' => e = .returned (.int .i64 (idxI wrongN ns)) ∧ Below w.heap.size w W' := by
  obtain ⟨h1, h2, ⟨a, cap, rfl, rfl⟩ | ⟨b, off, cap, rfl, hc⟩⟩ := h
  · exact idxN_none a cap _ w
  · exact idxN_some b off cap ns wrongN w h1 hc fun n hn X hX => wrong_any n X ((h2 n hn).below hX)
end Go.Proofs.Ytecnapecmioamaa

namespace Go.Proofs.Ytecnapecmioamaa
open Go.RowKit Go.Shelf
set_option linter.unusedVariables false
attribute [local go_sem] Oper.semAt_some

set_option maxHeartbeats 400000 in
theorem idxL_some (b off cap : Nat) (ns : List Nd) (p : Nd → Bool) (a1 : Addr) (w : World) (hm : ns.length ≤ 9223372036854775807)
    (hc : ∀ i n, ns[i]? = some n → NdAt w b (off + i * 34) n)
    (hf : ∀ n ∈ ns, ∀ X : World, Below w.heap.size w X → Calls Try.prog 50 #[n.val, .pointer (some a1)] X fun e W' => e = .returned (.bool (p n)) ∧ Below X.heap.size X W') :
    Calls Try.prog 30 #[.slice (some ⟨b, off, none⟩) ns.length cap, .func (.func 50) #[] #[.pointer (some a1)]] w fun e W' => e = .returned (.int .i64 (idxI p ns)) ∧ Below w.heap.size w W' := by
  have eg : ∀ args w, (callFunc 50 args).run Try.prog w = .ok (.enter 50 args) w := enters_of Try.func50 (by kernel_rfl) rfl
  have HF := Lib.hid hf
  have HC := Lib.hid hc
  clear hf hc
  go_enter Try.func30, Try.ntmps30
  go_wp2
  go_loopg [5, 8] ns.length (fun gg _ s8 wr => ∃ kk : Nat, kk ≤ ns.length ∧ ns.length - kk ≤ gg ∧ s8 = .int .i64 kk ∧ Hid (Below w.heap.size w wr) ∧ Hid ((ns.take kk).any p = false))
  case atStart => exact ⟨0, Nat.zero_le _, by omega, rfl, Lib.hid (Below.refl _ _), by simp [Lib.hid]⟩
  case round =>
    obtain ⟨kk, hkk, hg, rfl, HB, A⟩ := hrel
    by_cases hlt : kk < ns.length
    · obtain ⟨n, hn⟩ : ∃ n, ns[kk]? = some n := ⟨_, List.getElem?_eq_getElem hlt⟩
      have LN := Lib.hid ((HC.out kk n hn).below HB.out).load
      have HX := Lib.hid (HF.out n (List.mem_iff_getElem?.2 ⟨kk, hn⟩) wr HB.out)
      have iN := Lib.hid (nd_info n)
      have HN := Lib.hid hn
      rw [show n.val = .agg n.cells.toArray from rfl] at HX
      generalize n.cells.toArray = cs at *
      clear HF HC hn
      cases hq : p n with
      | true =>
        have R := Lib.hid (idxI_hit p ns kk n A.out HN.out hq)
        have HX' := Lib.hid (hq ▸ HX.out)
        clear HX hq
        go_wp2_with (first
          | (refine wpList_load_at rfl 47 (.tmp 14) rfl _ rfl cs _ LN.out Try.underlying47 rfl iN.out ?_)
          | (go_at_fn 50; refine HX'.out.mono ?_; rintro e w' ⟨rfl, hb'⟩))
        go_ret
        exact ⟨by rw [R.out]; rfl, HB.out.trans (hb'.mono HB.out.size)⟩
      | false =>
        have R := Lib.hid (any_take_step p ns kk n hlt HN.out hq A.out)
        have HX' := Lib.hid (hq ▸ HX.out)
        clear HX hq
        go_wp2_with (first
          | (refine wpList_load_at rfl 47 (.tmp 14) rfl _ rfl cs _ LN.out Try.underlying47 rfl iN.out ?_)
          | (go_at_fn 50; refine HX'.out.mono ?_; rintro e w' ⟨rfl, hb'⟩))
        go_roundg (ns.length - (kk + 1))
        case measure => omega
        case rel => exact ⟨kk + 1, by omega, by omega, by go_num, Lib.hid (HB.out.trans (hb'.mono HB.out.size)), R⟩
    · have R := Lib.hid (idxI_none p ns (show ns.any p = false by have := A.out; rwa [List.take_of_length_le (by omega)] at this))
      go_wp2
      go_ret
      exact ⟨by rw [R.out]; rfl, HB.out⟩

def unlinkedN (m : Nat) (n : Nd) : Bool := n.ks.any (outB 1 ((m : Int) - 1))
set_option maxHeartbeats 400000 in
theorem unlinked_at (n : Nd) (w : World) (g : Nat) (p : Option Addr) (m cap : Nat) (d : Bool) (hm : m ≤ 9223372036854775807) (hc : w.cell? ⟨g, 0, none⟩ = some (.slice p m cap)) (q : Option Addr) (kl kc : Nat) (hk : n.kv = .slice q kl kc)
    (H : Hid (∀ X : World, Below w.heap.size w X → Calls Try.prog 29 #[.int .i64 1, .int .i64 ((m : Int) - 1), .slice q kl kc] X fun e W' => e = .returned (.bool (!d)) ∧ Below X.heap.size X W')) :
    Calls Try.prog 50 #[n.val, .pointer (some ⟨g, 0, none⟩)] w fun e W' => e = .returned (.bool d) ∧ Below w.heap.size w W' := by
  obtain ⟨cs, hcs⟩ : ∃ cs, n.cells.toArray = cs := ⟨_, rfl⟩
  have q1 : cs[1]? = some (.slice q kl kc) := by rw [← hcs, ← hk]; simpa using n.c1
  have hl : g < w.heap.size := cell_lt hc
  have hB : Hid (Below w.heap.size w (w.alloc (.cells cs 47))) := Lib.hid ((Below.refl _ w).alloc (Nat.le_refl _) _)
  rw [show n.val = .agg n.cells.toArray from rfl, hcs]
  clear hcs hk
  go_enter Try.func50, Try.ntmps50
  go_wp2_with (go_at_call 29; refine (H.out _ hB.out).mono ?_; clear H; rintro e w1 ⟨rfl, hb1⟩)
  go_ret
  exact ⟨by simp, hB.out.trans (hb1.mono (by simp))⟩
theorem unlinked_any (n : Nd) (w : World) (g : Nat) (p : Option Addr) (m cap : Nat) (hm : m ≤ 9223372036854775807) (hc : w.cell? ⟨g, 0, none⟩ = some (.slice p m cap)) (h : n.ok w) :
    Calls Try.prog 50 #[n.val, .pointer (some ⟨g, 0, none⟩)] w fun e W' => e = .returned (.bool (unlinkedN m n)) ∧ Below w.heap.size w W' := by
  obtain ⟨q, kc, hk⟩ := h.1.form
  refine unlinked_at n w g p m cap _ hm hc q _ kc hk (Lib.hid fun X hX => ?_)
  rw [← hk]; exact twithin_any_k 1 ((m : Int) - 1) n.kv n.ks X (h.1.below hX)
set_option maxHeartbeats 400000 in
theorem firstUnlinked_any (lv : Value) (ns : List Nd) (w : World) (h : PageAt w lv ns) :
    Calls Try.prog 32 #[lv] w fun e W' => e = .returned (.int .i64 (idxI (unlinkedN ns.length) ns)) ∧ Below w.heap.size w W' := by
  have hB : Below w.heap.size w (w.alloc (.cells #[lv] 22)) := (Below.refl _ w).alloc (Nat.le_refl _) _
  have H : Hid (Calls Try.prog 30 #[lv, .func (.func 50) #[] #[.pointer (some ⟨w.heap.size, 0, none⟩)]] (w.alloc (.cells #[lv] 22)) fun e W' => e = .returned (.int .i64 (idxI (unlinkedN ns.length) ns)) ∧ Below (w.alloc (.cells #[lv] 22)).heap.size (w.alloc (.cells #[lv] 22)) W') := by
    apply Lib.hid
    obtain ⟨p, cap, hf⟩ := h.form
    have hcell : (w.alloc (.cells #[lv] 22)).cell? ⟨w.heap.size, 0, none⟩ = some (.slice p ns.length cap) := by
      have := (whole_new w [lv] 22 _ rfl).cellAt 0
      rw [this, hf]; rfl
    obtain ⟨h1, h2, h3⟩ := h.below hB
    rcases h3 with ⟨a, cap, rfl, rfl⟩ | ⟨b, off, cap, rfl, hc⟩
    · exact idxN_none a cap _ _
    · refine idxL_some b off cap ns (unlinkedN ns.length) ⟨w.heap.size, 0, none⟩ _ h1 hc fun n hn X hX => ?_
      exact unlinked_any n X w.heap.size p ns.length _ h1 ((hX.cell (p := ⟨w.heap.size, 0, none⟩) (by simp)).trans hcell) ((h2 n hn).below hX)
  have HB := Lib.hid hB
  obtain ⟨p, cap, rfl⟩ := h.form
  have hm := h.1
  clear h hB
  go_enter Try.func32, Try.ntmps32
  go_wp2_with (go_at_call 30; refine H.out.mono ?_; clear H; rintro e w1 ⟨rfl, hb1⟩)
  go_ret
  exact ⟨rfl, HB.out.trans (hb1.mono (by simp))⟩
def deepB (z : Int) : Bool := decide (64 < z)
set_option maxHeartbeats 400000 in
theorem tooDeep_any (z : Int) (w : World) : Calls Try.prog 36 #[.int .i64 z] w fun e W' => e = .returned (.bool (deepB z)) ∧ w = W' := by
  by_cases h : 64 < z
  · have hd : Hid (deepB z = true) := Lib.hid (by simp [deepB, h])
    go_enter Try.func36, Try.ntmps36
    go_wp2
    go_ret
    exact ⟨by rw [hd.out]; first | rfl | (simp; done) | (simp; omega), rfl⟩
  · have hd : Hid (deepB z = false) := Lib.hid (by simp [deepB, h])
    go_enter Try.func36, Try.ntmps36
    go_wp2
    go_ret
    exact ⟨by rw [hd.out]; first | rfl | (simp; done) | (simp; omega), rfl⟩
set_option maxHeartbeats 400000 in
theorem idxD_some (b off cap : Nat) (zs : List Int) (w : World) (hm : zs.length ≤ 9223372036854775807)
    (hc : ∀ j, j < zs.length → w.cell? ⟨b, off + j, none⟩ = some (.int .i64 (zs[j]?.getD 0))) :
    Calls Try.prog 35 #[.slice (some ⟨b, off, none⟩) zs.length cap, .func (.func 36) #[] #[]] w fun e W' => e = .returned (.int .i64 (idxI deepB zs)) ∧ w = W' := by
  have eg : ∀ args w, (callFunc 36 args).run Try.prog w = .ok (.enter 36 args) w := enters_of Try.func36 (by kernel_rfl) rfl
  have hout := fun n X => tooDeep_any n X
  go_enter Try.func35, Try.ntmps35
  go_wp2
  go_loopg [5, 8] zs.length (fun gg _ s8 wr => ∃ kk : Nat, kk ≤ zs.length ∧ zs.length - kk ≤ gg ∧ s8 = .int .i64 kk ∧ w = wr ∧ Hid ((zs.take kk).any deepB = false))
  case atStart => exact ⟨0, Nat.zero_le _, by omega, rfl, rfl, by simp [Lib.hid]⟩
  case round =>
    obtain ⟨kk, hkk, hg, rfl, rfl, A⟩ := hrel
    by_cases hlt : kk < zs.length
    · have hcell := hc kk hlt
      have hx : zs[kk]? = some (zs[kk]?.getD 0) := by simp [hlt]
      obtain ⟨y, hy⟩ : ∃ y, zs[kk]?.getD 0 = y := ⟨_, rfl⟩
      rw [hy] at hcell hx
      have HX := Lib.hid hx
      have HC := Lib.hid (hout y w)
      clear hy hc hx hout
      cases hq : deepB y with
      | true =>
        have R := Lib.hid (idxI_hit deepB zs kk y A.out HX.out hq)
        have HC' := Lib.hid (hq ▸ HC.out)
        clear HC hq
        go_wp2_with (go_at_fn 36; refine HC'.out.mono ?_; rintro e w' ⟨rfl, rfl⟩)
        go_ret
        exact ⟨by rw [R.out]; rfl, rfl⟩
      | false =>
        have R := Lib.hid (any_take_step _ zs kk y hlt HX.out hq A.out)
        have HC' := Lib.hid (hq ▸ HC.out)
        clear HC hq
        go_wp2_with (go_at_fn 36; refine HC'.out.mono ?_; rintro e w' ⟨rfl, rfl⟩)
        go_roundg (zs.length - (kk + 1))
        case measure => omega
        case rel => exact ⟨kk + 1, by omega, by omega, by go_num, rfl, R⟩
    · have R := Lib.hid (idxI_none deepB zs (show zs.any deepB = false by have := A.out; rwa [List.take_of_length_le (by omega)] at this))
      go_wp2
      go_ret
      exact ⟨by rw [R.out]; rfl, rfl⟩
set_option maxHeartbeats 400000 in
theorem idxD_none (a : Option Addr) (cap : Nat) (fv : Value) (w : World) :
    Calls Try.prog 35 #[.slice a 0 cap, fv] w fun e W' => e = .returned (.int .i64 (-1)) ∧ w = W' := by
  go_enter Try.func35, Try.ntmps35
  go_wp2
  refine wp_loop_rounds 1 ?_
  rw [rounds_succ]
  go_wp2
  go_ret
  exact ⟨rfl, rfl⟩
theorem idx_deep (sv : Value) (zs : List Int) (w : World) (h : Ints w sv zs) :
    Calls Try.prog 35 #[sv, .func (.func 36) #[] #[]] w fun e W' => e = .returned (.int .i64 (idxI deepB zs)) ∧ w = W' := by
  obtain ⟨h1, ⟨a, cap, rfl, rfl⟩ | ⟨b, off, cap, rfl, hc⟩⟩ := h
  · exact idxD_none a cap _ w
  · exact idxD_some b off cap zs w h1 hc
end Go.Proofs.Ytecnapecmioamaa
