/-
  No cell of these rows narrows 'for every input' (looked for: loops, veiled, ifaces, maps, wideKeys, modest, calm, conditions, laid).
  DERIVED. THE GIVEN ROWS OF THIS SEAT. 6 by the template 'for every input the law returns true; each argument reads behind the call as it read before'; 0 by the template 'total and deterministic' (their statements: YtejbngjeleiacaaTotals.lean).
  GIVEN WITH THE SEED: the statements are not yours to turn. If you find one false, say at which input.
  Laid BY PROGRAM, IN A SANDBOX (cutbox-rows.mjs): the forced cells as the released guide's own fill.sh prints them over the translation 973d2c7194c39397… (all of the seat's roots in one cut). By AI agents, Wed Nov 11 2026. No macro, syntax, notation, axiom, sorry.
-/
import Derived.Test.YtejbngjeleiacaaChecked
import GoSem.Claim
import GoSem.ClaimJoined
import GoSem.ClaimMapViews
import Derived.JoinedTies
import Derived.KernelRfl
namespace Go.Proofs.Ytejbngjeleiacaa
/- THE CELL 'sum', in the pinned program and in every row, IS THE sha256 OF THE DUMP (.gsa) THAT YtejbngjeleiacaaProg.lean LOADS. Nothing in Lean hashes anything: it is a label: what it is worth is what the hold of that sum in a sandbox is worth. -/
noncomputable def Try.pinned : Pinned := { name := "ytejbngjeleiacaa", sum := "973d2c7194c39397d8680d3a1876658151f923650342364d4dd168c4a1aaee89", checked := Try.checked }
namespace Rows
def none {H : Type} : Left H := { results := [], args := [] }

/-- 'purflinglaw14.SpreadNeeds': WHATEVER THE INPUT: true; the input reads as it did. -/
def spreadNeedsSpec : ChangeSpec := { name := "spreadNeeds", fn := fun _ => fun
  | [d1, d2, d3] => { results := [.lit (.bool true)], args := [d1, d2, d3] }
  | _ => none }
def spreadNeedsRow : OpenClaim := { program := "ytejbngjeleiacaa", sum := "973d2c7194c39397d8680d3a1876658151f923650342364d4dd168c4a1aaee89", func := "purfling/purflinglaw14.SpreadNeeds", spec := "spreadNeeds", unfollowed := true, recurses := true, named := ["math/bits.divideError", "math/bits.overflowError"], apart := false }
def SpreadNeedsSaid : Prop := spreadNeedsRow.holds Try.pinned (OpenSpec.ofChange spreadNeedsSpec)

/-- ITS FALSE NEIGHBOUR: 'it returns false'. Refute it at one input. -/
def spreadNeedsWrong : ChangeSpec := { name := "spreadNeeds", fn := fun _ => fun
  | [d1, d2, d3] => { results := [.lit (.bool false)], args := [d1, d2, d3] }
  | _ => none }
def SpreadNeedsWrongFalsely : Prop := spreadNeedsRow.holds Try.pinned (OpenSpec.ofChange spreadNeedsWrong)

/-- 'purflinglaw14.SpreadSums': WHATEVER THE INPUT: true; the input reads as it did. -/
def spreadSumsSpec : ChangeSpec := { name := "spreadSums", fn := fun _ => fun
  | [d1, d2, d3] => { results := [.lit (.bool true)], args := [d1, d2, d3] }
  | _ => none }
def spreadSumsRow : OpenClaim := { program := "ytejbngjeleiacaa", sum := "973d2c7194c39397d8680d3a1876658151f923650342364d4dd168c4a1aaee89", func := "purfling/purflinglaw14.SpreadSums", spec := "spreadSums", unfollowed := true, recurses := true, named := ["math/bits.divideError", "math/bits.overflowError"], apart := false }
def SpreadSumsSaid : Prop := spreadSumsRow.holds Try.pinned (OpenSpec.ofChange spreadSumsSpec)

/-- ITS FALSE NEIGHBOUR: 'it returns false'. Refute it at one input. -/
def spreadSumsWrong : ChangeSpec := { name := "spreadSums", fn := fun _ => fun
  | [d1, d2, d3] => { results := [.lit (.bool false)], args := [d1, d2, d3] }
  | _ => none }
def SpreadSumsWrongFalsely : Prop := spreadSumsRow.holds Try.pinned (OpenSpec.ofChange spreadSumsWrong)

/-- 'purflinglaw14.SpreadEnough': WHATEVER THE INPUT: true; the input reads as it did. -/
def spreadEnoughSpec : ChangeSpec := { name := "spreadEnough", fn := fun _ => fun
  | [d1, d2, d3] => { results := [.lit (.bool true)], args := [d1, d2, d3] }
  | _ => none }
def spreadEnoughRow : OpenClaim := { program := "ytejbngjeleiacaa", sum := "973d2c7194c39397d8680d3a1876658151f923650342364d4dd168c4a1aaee89", func := "purfling/purflinglaw14.SpreadEnough", spec := "spreadEnough", unfollowed := true, recurses := true, named := ["math/bits.divideError", "math/bits.overflowError"], apart := false }
def SpreadEnoughSaid : Prop := spreadEnoughRow.holds Try.pinned (OpenSpec.ofChange spreadEnoughSpec)

/-- ITS FALSE NEIGHBOUR: 'it returns false'. Refute it at one input. -/
def spreadEnoughWrong : ChangeSpec := { name := "spreadEnough", fn := fun _ => fun
  | [d1, d2, d3] => { results := [.lit (.bool false)], args := [d1, d2, d3] }
  | _ => none }
def SpreadEnoughWrongFalsely : Prop := spreadEnoughRow.holds Try.pinned (OpenSpec.ofChange spreadEnoughWrong)

/-- 'purflinglaw14.SpreadKeeps': WHATEVER THE INPUT: true; the input reads as it did. -/
def spreadKeepsSpec : ChangeSpec := { name := "spreadKeeps", fn := fun _ => fun
  | [d1, d2, d3] => { results := [.lit (.bool true)], args := [d1, d2, d3] }
  | _ => none }
def spreadKeepsRow : OpenClaim := { program := "ytejbngjeleiacaa", sum := "973d2c7194c39397d8680d3a1876658151f923650342364d4dd168c4a1aaee89", func := "purfling/purflinglaw14.SpreadKeeps", spec := "spreadKeeps", unfollowed := true, recurses := true, named := ["math/bits.divideError", "math/bits.overflowError"], apart := false }
def SpreadKeepsSaid : Prop := spreadKeepsRow.holds Try.pinned (OpenSpec.ofChange spreadKeepsSpec)

/-- ITS FALSE NEIGHBOUR: 'it returns false'. Refute it at one input. -/
def spreadKeepsWrong : ChangeSpec := { name := "spreadKeeps", fn := fun _ => fun
  | [d1, d2, d3] => { results := [.lit (.bool false)], args := [d1, d2, d3] }
  | _ => none }
def SpreadKeepsWrongFalsely : Prop := spreadKeepsRow.holds Try.pinned (OpenSpec.ofChange spreadKeepsWrong)

/-- 'purflinglaw14.SpreadTwice': WHATEVER THE INPUT: true; the input reads as it did. -/
def spreadTwiceSpec : ChangeSpec := { name := "spreadTwice", fn := fun _ => fun
  | [d1, d2, d3] => { results := [.lit (.bool true)], args := [d1, d2, d3] }
  | _ => none }
def spreadTwiceRow : OpenClaim := { program := "ytejbngjeleiacaa", sum := "973d2c7194c39397d8680d3a1876658151f923650342364d4dd168c4a1aaee89", func := "purfling/purflinglaw14.SpreadTwice", spec := "spreadTwice", unfollowed := true, recurses := true, named := ["math/bits.divideError", "math/bits.overflowError"], apart := false }
def SpreadTwiceSaid : Prop := spreadTwiceRow.holds Try.pinned (OpenSpec.ofChange spreadTwiceSpec)

/-- ITS FALSE NEIGHBOUR: 'it returns false'. Refute it at one input. -/
def spreadTwiceWrong : ChangeSpec := { name := "spreadTwice", fn := fun _ => fun
  | [d1, d2, d3] => { results := [.lit (.bool false)], args := [d1, d2, d3] }
  | _ => none }
def SpreadTwiceWrongFalsely : Prop := spreadTwiceRow.holds Try.pinned (OpenSpec.ofChange spreadTwiceWrong)

/-- 'purflinglaw14.SpreadNone': WHATEVER THE INPUT: true; the input reads as it did. -/
def spreadNoneSpec : ChangeSpec := { name := "spreadNone", fn := fun _ => fun
  | [d1, d2, d3] => { results := [.lit (.bool true)], args := [d1, d2, d3] }
  | _ => none }
def spreadNoneRow : OpenClaim := { program := "ytejbngjeleiacaa", sum := "973d2c7194c39397d8680d3a1876658151f923650342364d4dd168c4a1aaee89", func := "purfling/purflinglaw14.SpreadNone", spec := "spreadNone", unfollowed := true, recurses := true, named := ["math/bits.divideError", "math/bits.overflowError"], apart := false }
def SpreadNoneSaid : Prop := spreadNoneRow.holds Try.pinned (OpenSpec.ofChange spreadNoneSpec)

/-- ITS FALSE NEIGHBOUR: 'it returns false'. Refute it at one input. -/
def spreadNoneWrong : ChangeSpec := { name := "spreadNone", fn := fun _ => fun
  | [d1, d2, d3] => { results := [.lit (.bool false)], args := [d1, d2, d3] }
  | _ => none }
def SpreadNoneWrongFalsely : Prop := spreadNoneRow.holds Try.pinned (OpenSpec.ofChange spreadNoneWrong)

/- THE SECOND FORM. 'bulk': how many values and letters a reading holds, each counted each time it is reached (what is shared counts as often as it is met; a slice's spare places count too). A statement '..UptoSaid' is the law's where the arguments, and the package variables that the reading takes, are together of bulk at most 1048576: NARROWER than '..Said'. Prove '..Said' where nothing that the law and all that it calls make is longer than what came in: it says more and counts as full. Else prove '..UptoSaid'. A law counts once. -/
mutual
def uptoBulk {H : Type} : DataW H → Nat
  | .lit (.string bytes) => bytes.length + 1
  | .lit _ => 1
  | .nil => 1
  | .ptr d => uptoBulk d + 1
  | .slice elems spare => uptoBulkAll elems + uptoBulkAll spare + 1
  | .agg parts => uptoBulkAll parts + 1
  | .iface _ d => uptoBulk d + 1
  | .map entries => uptoBulkEntries entries + 1
  | .held _ => 1
def uptoBulkAll {H : Type} : List (DataW H) → Nat
  | [] => 0
  | d :: r => uptoBulk d + uptoBulkAll r
def uptoBulkEntries {H : Type} : List (Lit × DataW H) → Nat
  | [] => 0
  | x :: r => uptoBulkEntry x + uptoBulkEntries r
def uptoBulkEntry {H : Type} : Lit × DataW H → Nat
  | (.string bytes, d) => bytes.length + uptoBulk d + 1
  | (_, d) => uptoBulk d + 1
 end
def uptoSmall : (H : Type) → List (DataW H) → Bool := fun _ ds => decide (uptoBulkAll ds ≤ 1048576)
def OpenSpec.upto (s : _root_.Go.ChangeSpec) : _root_.Go.OpenSpec := { _root_.Go.OpenSpec.ofChange s with cond := some uptoSmall }

/-- 'purflinglaw14.SpreadNeeds', WHERE WHAT IT READS IS OF BULK AT MOST 1048576: true; the input reads as it did. -/
def spreadNeedsUptoRow : OpenClaim := { program := "ytejbngjeleiacaa", sum := "973d2c7194c39397d8680d3a1876658151f923650342364d4dd168c4a1aaee89", func := "purfling/purflinglaw14.SpreadNeeds", spec := "spreadNeeds", unfollowed := true, recurses := true, named := ["math/bits.divideError", "math/bits.overflowError"], apart := false, narrowed := true }
def SpreadNeedsUptoSaid : Prop := spreadNeedsUptoRow.holds Try.pinned (OpenSpec.upto spreadNeedsSpec)

/-- 'purflinglaw14.SpreadSums', WHERE WHAT IT READS IS OF BULK AT MOST 1048576: true; the input reads as it did. -/
def spreadSumsUptoRow : OpenClaim := { program := "ytejbngjeleiacaa", sum := "973d2c7194c39397d8680d3a1876658151f923650342364d4dd168c4a1aaee89", func := "purfling/purflinglaw14.SpreadSums", spec := "spreadSums", unfollowed := true, recurses := true, named := ["math/bits.divideError", "math/bits.overflowError"], apart := false, narrowed := true }
def SpreadSumsUptoSaid : Prop := spreadSumsUptoRow.holds Try.pinned (OpenSpec.upto spreadSumsSpec)

/-- 'purflinglaw14.SpreadEnough', WHERE WHAT IT READS IS OF BULK AT MOST 1048576: true; the input reads as it did. -/
def spreadEnoughUptoRow : OpenClaim := { program := "ytejbngjeleiacaa", sum := "973d2c7194c39397d8680d3a1876658151f923650342364d4dd168c4a1aaee89", func := "purfling/purflinglaw14.SpreadEnough", spec := "spreadEnough", unfollowed := true, recurses := true, named := ["math/bits.divideError", "math/bits.overflowError"], apart := false, narrowed := true }
def SpreadEnoughUptoSaid : Prop := spreadEnoughUptoRow.holds Try.pinned (OpenSpec.upto spreadEnoughSpec)

/-- 'purflinglaw14.SpreadKeeps', WHERE WHAT IT READS IS OF BULK AT MOST 1048576: true; the input reads as it did. -/
def spreadKeepsUptoRow : OpenClaim := { program := "ytejbngjeleiacaa", sum := "973d2c7194c39397d8680d3a1876658151f923650342364d4dd168c4a1aaee89", func := "purfling/purflinglaw14.SpreadKeeps", spec := "spreadKeeps", unfollowed := true, recurses := true, named := ["math/bits.divideError", "math/bits.overflowError"], apart := false, narrowed := true }
def SpreadKeepsUptoSaid : Prop := spreadKeepsUptoRow.holds Try.pinned (OpenSpec.upto spreadKeepsSpec)

/-- 'purflinglaw14.SpreadTwice', WHERE WHAT IT READS IS OF BULK AT MOST 1048576: true; the input reads as it did. -/
def spreadTwiceUptoRow : OpenClaim := { program := "ytejbngjeleiacaa", sum := "973d2c7194c39397d8680d3a1876658151f923650342364d4dd168c4a1aaee89", func := "purfling/purflinglaw14.SpreadTwice", spec := "spreadTwice", unfollowed := true, recurses := true, named := ["math/bits.divideError", "math/bits.overflowError"], apart := false, narrowed := true }
def SpreadTwiceUptoSaid : Prop := spreadTwiceUptoRow.holds Try.pinned (OpenSpec.upto spreadTwiceSpec)

/-- 'purflinglaw14.SpreadNone', WHERE WHAT IT READS IS OF BULK AT MOST 1048576: true; the input reads as it did. -/
def spreadNoneUptoRow : OpenClaim := { program := "ytejbngjeleiacaa", sum := "973d2c7194c39397d8680d3a1876658151f923650342364d4dd168c4a1aaee89", func := "purfling/purflinglaw14.SpreadNone", spec := "spreadNone", unfollowed := true, recurses := true, named := ["math/bits.divideError", "math/bits.overflowError"], apart := false, narrowed := true }
def SpreadNoneUptoSaid : Prop := spreadNoneUptoRow.holds Try.pinned (OpenSpec.upto spreadNoneSpec)

end Rows
end Go.Proofs.Ytejbngjeleiacaa
