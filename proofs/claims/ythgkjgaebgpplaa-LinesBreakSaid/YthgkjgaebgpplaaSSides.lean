/- Contract of the sides of a style that have something (style.sides), as an iterator: which sides come, in which order. -/
import Derived.Test.YthgkjgaebgpplaaSNext
import Derived.Test.YthgkjgaebgpplaaSSmall
import Derived.Test.YthgkjgaebgpplaaMarks
import Derived.Test.YthgkjgaebgpplaaRound
import Derived.Deep.RegionHeld3
import Derived.Shelf.Abstract
import Derived.Shelf.RegionOpen
import Derived.ScopeJumps
import Derived.WalkMore
namespace Go.Proofs.Ythgkjgaebgpplaa
open Go.RowKit Go.Shelf
set_option linter.unusedVariables false
attribute [local go_sem] Oper.semAt_some

theorem grown_of_below {W W' : World} (hb : Below W.heap.size W W') : W.grownBy W' none := ⟨hb.os, hb.tape, hb.output, hb.size, fun k hk _ => hb.block k hk⟩
theorem abides_below {β : Type} {B : Nat} {J : β → World → Prop} (h : AbidesFrom B J) {s : β} {W W' : World} (hs : J s W) (hb : Below W.heap.size W W') : J s W' :=
  h s W W' none hs (grown_of_below hb) (fun r e => by cases e)
theorem region_held_at {P : Program} {ops : Array Oper} {Q : Exit → Act → World → Prop} {S : World → Prop} {id : Nat} {a : Act} {w : World} (hm : P.follows .mixedOrders = true)
    (h : ∀ w2 : World, w.drew = w2 → wpAnyH P .any ops Q S ops.size (Array.replicate ops.size false) a w2) : (Code.region id ops true).wp P Q a w := wp_region_held hm (h _ rfl)
def encS (x : Nat × Sd) : Array Value := #[.int .i64 (x.1 : Int), .agg #[.int .i64 x.2.p, .int .i64 x.2.s, .int .i64 x.2.w, .int .u32 x.2.c]]
/-- what is at one side is nothing -/
theorem sd_eq (p s w c : Int) : ((p == 0 && (s == 0 && (w == 0 && c == 0))) = true) ↔ (⟨p, s, w, c⟩ : Sd) = Sd.zero := by
  simp [Sd.zero]
end Go.Proofs.Ythgkjgaebgpplaa
