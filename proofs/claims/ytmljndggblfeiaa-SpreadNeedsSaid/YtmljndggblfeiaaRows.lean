/-
  No cell of these rows narrows 'for every input' (looked for: loops, veiled, ifaces, maps, wideKeys, modest, calm, conditions, laid).
  DERIVED. THE GIVEN ROWS OF THIS SEAT. 3 by the template 'for every input the law returns true; each argument reads behind the call as it read before'; 0 by the template 'total and deterministic' (their statements: YtmljndggblfeiaaTotals.lean).
  GIVEN WITH THE SEED: the statements are not yours to turn. If you find one false, say at which input.
  Laid BY PROGRAM, IN A SANDBOX (cutbox-rows.mjs): the forced cells as the released guide's own fill.sh prints them over the translation 709b1b528f1b3712… (all of the seat's roots in one cut). By AI agents, Wed Nov 11 2026. No macro, syntax, notation, axiom, sorry.
-/
import Derived.Test.YtmljndggblfeiaaChecked
import GoSem.Claim
import GoSem.ClaimJoined
import GoSem.ClaimMapViews
import Derived.JoinedTies
import Derived.KernelRfl
namespace Go.Proofs.Ytmljndggblfeiaa
/- THE CELL 'sum', in the pinned program and in every row, IS THE sha256 OF THE DUMP (.gsa) THAT YtmljndggblfeiaaProg.lean LOADS. Nothing in Lean hashes anything: it is a label: what it is worth is what the hold of that sum in a sandbox is worth. -/
noncomputable def Try.pinned : Pinned := { name := "ytmljndggblfeiaa", sum := "709b1b528f1b37129c9a53c68063ce275bf42809305c35c6d353cb2f5482a2b8", checked := Try.checked }
namespace Rows
def none {H : Type} : Left H := { results := [], args := [] }

/-- 'purflinglaw14.SpreadNeeds': WHATEVER THE INPUT: true; the input reads as it did. -/
def spreadNeedsSpec : ChangeSpec := { name := "spreadNeeds", fn := fun _ => fun
  | [d1, d2, d3] => { results := [.lit (.bool true)], args := [d1, d2, d3] }
  | _ => none }
def spreadNeedsRow : OpenClaim := { program := "ytmljndggblfeiaa", sum := "709b1b528f1b37129c9a53c68063ce275bf42809305c35c6d353cb2f5482a2b8", func := "purfling/purflinglaw14.SpreadNeeds", spec := "spreadNeeds", unfollowed := true, recurses := true, named := ["math/bits.divideError", "math/bits.overflowError"], apart := false }
def SpreadNeedsSaid : Prop := spreadNeedsRow.holds Try.pinned (OpenSpec.ofChange spreadNeedsSpec)

/-- ITS FALSE NEIGHBOUR: 'it returns false'. Refute it at one input. -/
def spreadNeedsWrong : ChangeSpec := { name := "spreadNeeds", fn := fun _ => fun
  | [d1, d2, d3] => { results := [.lit (.bool false)], args := [d1, d2, d3] }
  | _ => none }
def SpreadNeedsWrongFalsely : Prop := spreadNeedsRow.holds Try.pinned (OpenSpec.ofChange spreadNeedsWrong)

/-- 'purflinglaw14.SpreadEnough': WHATEVER THE INPUT: true; the input reads as it did. -/
def spreadEnoughSpec : ChangeSpec := { name := "spreadEnough", fn := fun _ => fun
  | [d1, d2, d3] => { results := [.lit (.bool true)], args := [d1, d2, d3] }
  | _ => none }
def spreadEnoughRow : OpenClaim := { program := "ytmljndggblfeiaa", sum := "709b1b528f1b37129c9a53c68063ce275bf42809305c35c6d353cb2f5482a2b8", func := "purfling/purflinglaw14.SpreadEnough", spec := "spreadEnough", unfollowed := true, recurses := true, named := ["math/bits.divideError", "math/bits.overflowError"], apart := false }
def SpreadEnoughSaid : Prop := spreadEnoughRow.holds Try.pinned (OpenSpec.ofChange spreadEnoughSpec)

/-- ITS FALSE NEIGHBOUR: 'it returns false'. Refute it at one input. -/
def spreadEnoughWrong : ChangeSpec := { name := "spreadEnough", fn := fun _ => fun
  | [d1, d2, d3] => { results := [.lit (.bool false)], args := [d1, d2, d3] }
  | _ => none }
def SpreadEnoughWrongFalsely : Prop := spreadEnoughRow.holds Try.pinned (OpenSpec.ofChange spreadEnoughWrong)

/-- 'purflinglaw14.SpreadNone': WHATEVER THE INPUT: true; the input reads as it did. -/
def spreadNoneSpec : ChangeSpec := { name := "spreadNone", fn := fun _ => fun
  | [d1, d2, d3] => { results := [.lit (.bool true)], args := [d1, d2, d3] }
  | _ => none }
def spreadNoneRow : OpenClaim := { program := "ytmljndggblfeiaa", sum := "709b1b528f1b37129c9a53c68063ce275bf42809305c35c6d353cb2f5482a2b8", func := "purfling/purflinglaw14.SpreadNone", spec := "spreadNone", unfollowed := true, recurses := true, named := ["math/bits.divideError", "math/bits.overflowError"], apart := false }
def SpreadNoneSaid : Prop := spreadNoneRow.holds Try.pinned (OpenSpec.ofChange spreadNoneSpec)

/-- ITS FALSE NEIGHBOUR: 'it returns false'. Refute it at one input. -/
def spreadNoneWrong : ChangeSpec := { name := "spreadNone", fn := fun _ => fun
  | [d1, d2, d3] => { results := [.lit (.bool false)], args := [d1, d2, d3] }
  | _ => none }
def SpreadNoneWrongFalsely : Prop := spreadNoneRow.holds Try.pinned (OpenSpec.ofChange spreadNoneWrong)

/- THE SECOND FORM. 'bulk': how many values and letters a reading holds, each counted each time it is reached (what is shared counts as often as it is met; a slice's spare places count too). A statement '..UptoSaid' is the law's where the arguments, and the package variables that the reading takes, are together of bulk at most 1048576: NARROWER than '..Said'. Prove '..Said' where nothing that the law and all that it calls make is longer than what came in: it says more and counts as full. Else prove '..UptoSaid'. A law counts once. -/
mutual
def uptoBulk {H : Type} : DataW H → Nat
  | .lit (.string bytes) => bytes.length + 1
  | .lit _ => 1
  | .nil => 1
  | .ptr d => uptoBulk d + 1
  | .slice elems spare => uptoBulkAll elems + uptoBulkAll spare + 1
  | .agg parts => uptoBulkAll parts + 1
  | .iface _ d => uptoBulk d + 1
  | .map entries => uptoBulkEntries entries + 1
  | .held _ => 1
def uptoBulkAll {H : Type} : List (DataW H) → Nat
  | [] => 0
  | d :: r => uptoBulk d + uptoBulkAll r
def uptoBulkEntries {H : Type} : List (Lit × DataW H) → Nat
  | [] => 0
  | x :: r => uptoBulkEntry x + uptoBulkEntries r
def uptoBulkEntry {H : Type} : Lit × DataW H → Nat
  | (.string bytes, d) => bytes.length + uptoBulk d + 1
  | (_, d) => uptoBulk d + 1
 end
def uptoSmall : (H : Type) → List (DataW H) → Bool := fun _ ds => decide (uptoBulkAll ds ≤ 1048576)
def OpenSpec.upto (s : _root_.Go.ChangeSpec) : _root_.Go.OpenSpec := { _root_.Go.OpenSpec.ofChange s with cond := some uptoSmall }

/-- 'purflinglaw14.SpreadNeeds', WHERE WHAT IT READS IS OF BULK AT MOST 1048576: true; the input reads as it did. -/
def spreadNeedsUptoRow : OpenClaim := { program := "ytmljndggblfeiaa", sum := "709b1b528f1b37129c9a53c68063ce275bf42809305c35c6d353cb2f5482a2b8", func := "purfling/purflinglaw14.SpreadNeeds", spec := "spreadNeeds", unfollowed := true, recurses := true, named := ["math/bits.divideError", "math/bits.overflowError"], apart := false, narrowed := true }
def SpreadNeedsUptoSaid : Prop := spreadNeedsUptoRow.holds Try.pinned (OpenSpec.upto spreadNeedsSpec)

/-- 'purflinglaw14.SpreadEnough', WHERE WHAT IT READS IS OF BULK AT MOST 1048576: true; the input reads as it did. -/
def spreadEnoughUptoRow : OpenClaim := { program := "ytmljndggblfeiaa", sum := "709b1b528f1b37129c9a53c68063ce275bf42809305c35c6d353cb2f5482a2b8", func := "purfling/purflinglaw14.SpreadEnough", spec := "spreadEnough", unfollowed := true, recurses := true, named := ["math/bits.divideError", "math/bits.overflowError"], apart := false, narrowed := true }
def SpreadEnoughUptoSaid : Prop := spreadEnoughUptoRow.holds Try.pinned (OpenSpec.upto spreadEnoughSpec)

/-- 'purflinglaw14.SpreadNone', WHERE WHAT IT READS IS OF BULK AT MOST 1048576: true; the input reads as it did. -/
def spreadNoneUptoRow : OpenClaim := { program := "ytmljndggblfeiaa", sum := "709b1b528f1b37129c9a53c68063ce275bf42809305c35c6d353cb2f5482a2b8", func := "purfling/purflinglaw14.SpreadNone", spec := "spreadNone", unfollowed := true, recurses := true, named := ["math/bits.divideError", "math/bits.overflowError"], apart := false, narrowed := true }
def SpreadNoneUptoSaid : Prop := spreadNoneUptoRow.holds Try.pinned (OpenSpec.upto spreadNoneSpec)

end Rows
end Go.Proofs.Ytmljndggblfeiaa
