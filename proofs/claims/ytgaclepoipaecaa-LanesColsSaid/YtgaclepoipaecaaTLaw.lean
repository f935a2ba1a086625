/- What the statements on pages share: a page is cut. -/
import Derived.Test.YtgaclepoipaecaaTCut
import Derived.Test.YtgaclepoipaecaaTOpen
namespace Go.Proofs.Ytgaclepoipaecaa
open Go.RowKit Go.Shelf
set_option linter.unusedVariables false

def CutPost (ms : List Nd) (w : World) (e : Ending) (W' : World) : Prop := ∃ q c, e = .returned (.slice q ms.length c) ∧ PageAt W' (.slice q ms.length c) ms ∧ Below w.heap.size w W'
theorem cut_post (lv : Value) (ns : List Nd) (w : World) (hP : PageAt w lv ns) : Calls Try.prog 5 #[lv] w (CutPost (cutP ns) w) :=
  (cut_any lv ns w hP).mono fun e W' ⟨v, he, hp, hb⟩ => by
    obtain ⟨q, c, rfl⟩ := hp.form
    exact ⟨q, c, he, hp, hb⟩
theorem cutP_both (ns : List Nd) : ∀ n ∈ cutP ns, n.ks.length ≤ 70000 ∧ n.ws.length ≤ 70000 := fun n hn => by
  obtain ⟨a, _, rfl⟩ := List.mem_map.1 hn
  constructor <;> simp [cutN] <;> omega
theorem cutP_len (ns : List Nd) : (cutP ns).length ≤ 150 := by simp [cutP]; omega
end Go.Proofs.Ytgaclepoipaecaa
