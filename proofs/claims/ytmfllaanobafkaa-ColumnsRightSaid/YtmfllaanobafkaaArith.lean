/- Contracts of the arithmetic of layer 1 (fixed) and of the document's own answers: saturated sums, differences, bounds. -/
import Derived.Test.YtmfllaanobafkaaRows
import Derived.WalkKit
import Derived.WalkSpells
import Derived.WalkLawsBesides
import Derived.Test.YtmfllaanobafkaaPlain1
namespace Go.Proofs.Ytmfllaanobafkaa
open Go.RowKit

set_option maxHeartbeats 400000 in
theorem clamp_any (a b c : Int) (w : World) :
    Calls Try.prog 35 #[.int .i64 a, .int .i64 b, .int .i64 c] w fun e w' => e = .returned (.int .i64 (max (min a c) b)) ∧ w = w' := by
  go_enter Try.func35, Try.ntmps35
  go_wp2
  all_goals (go_ret; exact ⟨ret_int (by omega), rfl⟩)
theorem wrap_mag (a : Int) (a1 : -9223372036854775808 ≤ a) (h : a < 0) : IntKind.u64.wrap (-IntKind.u64.wrap a) = (a.natAbs : Int) := by
  simp [IntKind.wrap, IntKind.bits, IntKind.signed]; omega

end Go.Proofs.Ytmfllaanobafkaa
