/- What the statements of layer 5 share: a page is cut, then fixed. -/
import Derived.Test.YtdnnbkkfmjdboaaFFacts
import Derived.Test.YtdnnbkkfmjdboaaFShown
import Derived.Test.YtdnnbkkfmjdboaaTCut
import Derived.Test.YtdnnbkkfmjdboaaTOpen
namespace Go.Proofs.Ytdnnbkkfmjdboaa
open Go.RowKit Go.Shelf
set_option linter.unusedVariables false

def CutPost (ms : List Nd) (w : World) (e : Ending) (W' : World) : Prop := ∃ q c, e = .returned (.slice q ms.length c) ∧ PageAt W' (.slice q ms.length c) ms ∧ Below w.heap.size w W'
theorem cut_post (lv : Value) (ns : List Nd) (w : World) (hP : PageAt w lv ns) : Calls Try.prog 15 #[lv] w (CutPost (cutP ns) w) :=
  (cut_any lv ns w hP).mono fun e W' ⟨v, he, hp, hb⟩ => by
    obtain ⟨q, c, rfl⟩ := hp.form
    exact ⟨q, c, he, hp, hb⟩
theorem cutP_both (ns : List Nd) : ∀ n ∈ cutP ns, n.ks.length ≤ 70000 ∧ n.ws.length ≤ 70000 := fun n hn => by
  obtain ⟨a, _, rfl⟩ := List.mem_map.1 hn
  constructor <;> simp [cutN] <;> omega
theorem cutP_len (ns : List Nd) : (cutP ns).length ≤ 150 := by simp [cutP]; omega
def FixForm (ms : List Nd) (w : World) (e : Ending) (W' : World) : Prop := ∃ q c ns', e = .returned (.tuple #[.slice q ns'.length c, .int .i64 0]) ∧ PageAt W' (.slice q ns'.length c) ns' ∧ ns'.map Nd.bare = fixPg ms ∧ Below w.heap.size w W'
theorem fix_form (lv : Value) (ms : List Nd) (w : World) (hP : PageAt w lv ms) (hK : ∀ n ∈ ms, n.ks.length ≤ 70000 ∧ n.ws.length ≤ 70000) (F : Fine ms) : Calls Try.prog 16 #[lv] w (FixForm ms w) :=
  (fixF_good lv ms w hP hK F).mono fun e W' ⟨⟨v, ns', he, hp, hb⟩, hB⟩ => by
    obtain ⟨q, c, rfl⟩ := hp.form
    exact ⟨q, c, ns', he, hp, hb, hB⟩
theorem kids_bare (ns : List Nd) : kidsOf (ns.map Nd.bare) = kidsOf ns := by
  unfold kidsOf
  rw [List.flatMap_map]; rfl
/-- the cells of a page's nodes -/
theorem page_cells {W : World} {q : Option Addr} {m c : Nat} {ns : List Nd} (h : PageAt W (.slice q m c) ns) (hm : 1 ≤ m) : ∃ b off, q = some ⟨b, off, none⟩ ∧ ns.length = m ∧ ∀ i n, ns[i]? = some n → W.cell? ⟨b, off + i * 34, none⟩ = some (.int .i64 n.k) ∧ W.cell? ⟨b, off + i * 34 + 1, none⟩ = some n.kv ∧ Ints W n.kv n.ks ∧ b < W.heap.size := by
  obtain ⟨_, h2, ⟨a, cap, e, rfl⟩ | ⟨b, off, cap, e, hc⟩⟩ := h
  · injection e with _ e; omega
  · injection e with e1 e2 e3
    refine ⟨b, off, e1, e2.symm, fun i n hn => ?_⟩
    have h0 := hc i n hn 0 _ n.c0
    have h1 := hc i n hn 1 _ n.c1
    exact ⟨h0, h1, (h2 n (List.mem_iff_getElem?.2 ⟨i, hn⟩)).1, cell_lt h1⟩
end Go.Proofs.Ytdnnbkkfmjdboaa
