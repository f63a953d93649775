/-
  From some place on the world is any one of which this much is known.
-/
import Derived.Test.YtacfjngnfgnmeaaDoorWalks
namespace Go.Proofs.YtacfjngnfgnmeaaDoor
open Go.RowKit
theorem wp_abs {P : Program} {c : Code} {Q : Exit → Act → World → Prop} {a : Act} {w : World} (S : World → Prop) (h : S w) (k : ∀ W, S W → Code.wp P c Q a W) : Code.wp P c Q a w := k w h
theorem then_abs {K : Act → World → Prop} {Q : Exit → Act → World → Prop} {e : Exit} {a : Act} {w : World} (S : World → Prop) (h : S w) (k : ∀ W, S W → Exit.then K Q e a W) : Exit.then K Q e a w := k w h
end Go.Proofs.YtacfjngnfgnmeaaDoor
