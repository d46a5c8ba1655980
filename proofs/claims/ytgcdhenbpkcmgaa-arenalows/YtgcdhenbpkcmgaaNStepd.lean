/- Set over from a lower layer: Stepd. -/
import Derived.Test.YtgcdhenbpkcmgaaQuietb
import Derived.Test.YtgcdhenbpkcmgaaNStepc
import Derived.Test.YtgcdhenbpkcmgaaNNuma
import Derived.Test.YtgcdhenbpkcmgaaNWalko
import Derived.Laws.StructEq
import Derived.Deep.Strs
import Derived.Deep.Slices
import Derived.Deep.RegionLaw
namespace Go.Proofs.Ytgcdhenbpkcmgaa
open Go.RowKit Go.Shelf
set_option linter.unusedVariables false
/-- Three boxes are made: a step's, a memory's, the answer's. -/
def W3 (w : World) (x : Mi) (u1 u2 u3 : Value) : World := ((w.alloc (.cells #[.int .i64 x.k, .int .i64 x.a, .int .i64 x.v] 99999)).alloc (.cells #[u1, u2, u3] 99999)).alloc (.cells #[.slice none 0 0, .slice none 0 0, .slice none 0 0] 99999)
theorem W3.below (w : World) (x : Mi) (u1 u2 u3 : Value) : Below w.heap.size w (W3 w x u1 u2 u3) := (((Below.refl _ _).alloc (Nat.le_refl _) _).alloc (by simp) _).alloc (by simp; omega) _
end Go.Proofs.Ytgcdhenbpkcmgaa
namespace Go.Proofs.Ytgcdhenbpkcmgaa
open Go.RowKit Go.Shelf
set_option linter.unusedVariables false
end Go.Proofs.Ytgcdhenbpkcmgaa
