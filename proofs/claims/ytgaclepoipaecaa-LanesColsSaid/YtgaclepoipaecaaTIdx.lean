/- Pages in memory; the first node, the first number that is so (slices.IndexFunc); links (tree.firstUnlinked), depths (tree.tooDeep). -/
import Derived.Test.YtgaclepoipaecaaTNode
namespace Go.Proofs.Ytgaclepoipaecaa
open Go.RowKit Go.Shelf
set_option linter.unusedVariables false
attribute [local go_sem] Oper.semAt_some

/-- a page lies in the slice lv -/
def PageAt (W : World) (lv : Value) (ns : List Nd) : Prop :=
  ns.length ≤ 9223372036854775807 ∧ (∀ n ∈ ns, n.ok W) ∧ ((∃ (a : Option Addr) (cap : Nat), lv = .slice a 0 cap ∧ ns = []) ∨
    ∃ b off cap, lv = .slice (some ⟨b, off, none⟩) ns.length cap ∧ ∀ i n, ns[i]? = some n → NdAt W b (off + i * 34) n)
theorem PageAt.below {W W' : World} {lv : Value} {ns : List Nd} (h : PageAt W lv ns) (hb : Below W.heap.size W W') : PageAt W' lv ns := by
  obtain ⟨h1, h2, h3⟩ := h
  refine ⟨h1, fun n hn => (h2 n hn).below hb, ?_⟩
  rcases h3 with h3 | ⟨b, off, cap, e, hc⟩
  · exact .inl h3
  · exact .inr ⟨b, off, cap, e, fun i n hn => (hc i n hn).below hb⟩
theorem PageAt.form {W : World} {lv : Value} {ns : List Nd} (h : PageAt W lv ns) : ∃ p cap, lv = .slice p ns.length cap := by
  obtain ⟨_, _, ⟨a, cap, rfl, rfl⟩ | ⟨b, off, cap, rfl, _⟩⟩ := h
  · exact ⟨a, cap, rfl⟩
  · exact ⟨_, cap, rfl⟩
/-- where the first one is, or -1 -/
def idxI {α : Type} (p : α → Bool) (l : List α) : Int := match l.findIdx? p with | some i => i | none => -1
theorem idxI_hit {α : Type} (p : α → Bool) (l : List α) (k : Nat) (x : α) (ht : (l.take k).any p = false) (hx : l[k]? = some x) (hp : p x = true) : idxI p l = k := by
  unfold idxI
  have : l.findIdx? p = some k := by
    rw [List.findIdx?_eq_some_iff_getElem]
    obtain ⟨hlt, hxe⟩ := List.getElem?_eq_some_iff.1 hx
    refine ⟨hlt, by rw [hxe]; exact hp, fun j hj => ?_⟩
    rw [List.any_eq_false] at ht
    exact ht _ (List.mem_iff_getElem?.2 ⟨j, by rw [List.getElem?_take_of_lt hj]; simp⟩)
  rw [this]
theorem idxI_none {α : Type} (p : α → Bool) (l : List α) (h : l.any p = false) : idxI p l = -1 := by
  unfold idxI
  have : l.findIdx? p = none := by
    rw [List.findIdx?_eq_none_iff]
    intro x hx
    rw [List.any_eq_false] at h
    simpa using h x hx
  rw [this]
theorem idxI_neg {α : Type} (p : α → Bool) (l : List α) : idxI p l < 0 ↔ l.any p = false := by
  constructor
  · intro h
    cases hq : l.any p with
    | false => rfl
    | true =>
      exfalso
      unfold idxI at h
      cases hf : l.findIdx? p with
      | none => rw [List.findIdx?_eq_none_iff] at hf; rw [List.any_eq_true] at hq; obtain ⟨x, hx, hp⟩ := hq; have := hf x hx; simp_all
      | some i => rw [hf] at h; simp at h; omega
  · intro h; rw [idxI_none p l h]; omega
theorem add_zero_addr (b o : Nat) : (⟨b, o, none⟩ : Addr).add 0 = ⟨b, o, none⟩ := by rw [add_plain]; rfl

--BEGIN
set_option maxHeartbeats 400000 in
theorem idxN_some (b off cap : Nat) (ns : List Nd) (p : Nd → Bool) (w : World) (hm : ns.length ≤ 9223372036854775807)
    (hc : ∀ i n, ns[i]? = some n → NdAt w b (off + i * 34) n)
    (hf : ∀ n ∈ ns, ∀ X : World, Below w.heap.size w X → Calls Try.prog 41 #[n.val] X fun e W' => e = .returned (.bool (p n)) ∧ Below X.heap.size X W') :
    Calls Try.prog 40 #[.slice (some ⟨b, off, none⟩) ns.length cap, .func (.func 41) #[] #[]] w fun e W' => e = .returned (.int .i64 (idxI p ns)) ∧ Below w.heap.size w W' := by
  have eg : ∀ args w, (callFunc 41 args).run Try.prog w = .ok (.enter 41 args) w := enters_of Try.func41 (by kernel_rfl) rfl
  have HF := Lib.hid hf
  have HC := Lib.hid hc
  clear hf hc
  go_enter Try.func40, Try.ntmps40
  go_wp2
  go_loopg [5, 8] ns.length (fun gg _ s8 wr => ∃ kk : Nat, kk ≤ ns.length ∧ ns.length - kk ≤ gg ∧ s8 = .int .i64 kk ∧ Hid (Below w.heap.size w wr) ∧ Hid ((ns.take kk).any p = false))
  case atStart => exact ⟨0, Nat.zero_le _, by omega, rfl, Lib.hid (Below.refl _ _), by simp [Lib.hid]⟩
  case round =>
    obtain ⟨kk, hkk, hg, rfl, HB, A⟩ := hrel
    by_cases hlt : kk < ns.length
    · obtain ⟨n, hn⟩ : ∃ n, ns[kk]? = some n := ⟨_, List.getElem?_eq_getElem hlt⟩
      have LN := Lib.hid ((HC.out kk n hn).below HB.out).load
      have HX := Lib.hid (HF.out n (List.mem_iff_getElem?.2 ⟨kk, hn⟩) wr HB.out)
      have iN := Lib.hid (nd_info n)
      have HN := Lib.hid hn
      rw [show n.val = .agg n.cells.toArray from rfl] at HX
      generalize n.cells.toArray = cs at *
      clear HF HC hn
      cases hq : p n with
      | true =>
        have R := Lib.hid (idxI_hit p ns kk n A.out HN.out hq)
        have HX' := Lib.hid (hq ▸ HX.out)
        clear HX hq
        go_wp2_with (first
          | (refine wpList_load_at rfl 45 (.tmp 14) rfl _ rfl cs _ LN.out Try.underlying45 rfl iN.out ?_)
          | (go_at_fn 41; refine HX'.out.mono ?_; rintro e w' ⟨rfl, hb'⟩))
        go_ret
        exact ⟨by rw [R.out]; rfl, HB.out.trans (hb'.mono HB.out.size)⟩
      | false =>
        have R := Lib.hid (any_take_step p ns kk n hlt HN.out hq A.out)
        have HX' := Lib.hid (hq ▸ HX.out)
        clear HX hq
        go_wp2_with (first
          | (refine wpList_load_at rfl 45 (.tmp 14) rfl _ rfl cs _ LN.out Try.underlying45 rfl iN.out ?_)
          | (go_at_fn 41; refine HX'.out.mono ?_; rintro e w' ⟨rfl, hb'⟩))
        go_roundg (ns.length - (kk + 1))
        case measure => omega
        case rel => exact ⟨kk + 1, by omega, by omega, by go_num, Lib.hid (HB.out.trans (hb'.mono HB.out.size)), R⟩
    · have R := Lib.hid (idxI_none p ns (show ns.any p = false by have := A.out; rwa [List.take_of_length_le (by omega)] at this))
      go_wp2
      go_ret
      exact ⟨by rw [R.out]; rfl, HB.out⟩
--END
set_option maxHeartbeats 400000 in
theorem idxN_none (a : Option Addr) (cap : Nat) (fv : Value) (w : World) :
    Calls Try.prog 40 #[.slice a 0 cap, fv] w fun e W' => e = .returned (.int .i64 (-1)) ∧ Below w.heap.size w W' := by
  go_enter Try.func40, Try.ntmps40
  go_wp2
  refine wp_loop_rounds 1 ?_
  rw [rounds_succ]
  go_wp2
  go_ret
  exact ⟨rfl, Below.refl _ _⟩
theorem idx_wrong (lv : Value) (ns : List Nd) (w : World) (h : PageAt w lv ns) :
    Calls Try.prog 40 #[lv, .func (.func 41) #[] #[]] w fun e W' => e = .returned (.int .i64 (idxI wrongN ns)) ∧ Below w.heap.size w W' := by
  obtain ⟨h1, h2, ⟨a, cap, rfl, rfl⟩ | ⟨b, off, cap, rfl, hc⟩⟩ := h
  · exact idxN_none a cap _ w
  · exact idxN_some b off cap ns wrongN w h1 hc fun n hn X hX => wrong_any n X ((h2 n hn).below hX)
end Go.Proofs.Ytgaclepoipaecaa
