/- Set over from a lower layer: Stepc. -/
import Derived.Test.YtgcdhenbpkcmgaaQuietb
import Derived.Test.YtgcdhenbpkcmgaaNNumq
import Derived.Test.YtgcdhenbpkcmgaaNWalko
import Derived.Maps.OwnOps
namespace Go.Proofs.Ytgcdhenbpkcmgaa
open Go.RowKit Go.Shelf
set_option linter.unusedVariables false
/-- Steps of a box. -/
def B3 (W : World) (b : Nat) (x : Mi) : Prop := W.cell? ⟨b, 0, none⟩ = some (.int .i64 x.k) ∧ W.cell? ⟨b, 1, none⟩ = some (.int .i64 x.a) ∧ W.cell? ⟨b, 2, none⟩ = some (.int .i64 x.v)
end Go.Proofs.Ytgcdhenbpkcmgaa
