/- Set over from a lower layer: Walkk. -/
import Derived.Test.YtgcdhenbpkcmgaaBase
import Derived.Test.YtgcdhenbpkcmgaaQuietb
import Derived.Test.YtgcdhenbpkcmgaaNWalkd
import Derived.Test.YtgcdhenbpkcmgaaNNuma
import Derived.Deep.RegionWith
import Derived.Laws.CopyOwn
import Derived.RangeFuncBox
import Derived.RangeFuncNested
import Derived.RangeFuncBound
import Derived.RangeFuncCalls
import Derived.RangeFuncLeaves
import Derived.Shelf.Abstract
import Derived.Shelf.RegionOpen
import Derived.OwnWalkIn
import Derived.TacticsInMore
import Derived.LoopNIn
import Derived.LoopIn
import Derived.Maps.AppendAt
import Derived.Shelf.SlSortCmp.QuietGrown
import Derived.Deep.AppendLies
namespace Go.Proofs.Ytgcdhenbpkcmgaa
open Go.RowKit Go.Shelf
set_option linter.unusedVariables false
theorem OwnI.at {W : World} {B r n c : Nat} {zs : List Int} (h : OwnI W B (.slice (some ⟨r, 0, none⟩) n c) zs) {k : Nat} {x : Int} (hx : zs[k]? = some x) : W.cell? ⟨r, k, none⟩ = some (.int .i64 x) ∧ W.frozen? ⟨r, k, none⟩ = false ∧ ∀ y : Int, OwnI (W.setCell ⟨r, k, none⟩ (.int .i64 y)) B (.slice (some ⟨r, 0, none⟩) n c) (zs.set k y) := by
  obtain ⟨hk, rfl⟩ := List.getElem?_eq_some_iff.1 hx
  obtain ⟨g, e, _, _, ⟨h1, h2⟩, h3⟩ := h.put hk
  cases e
  exact ⟨h1, h2, h3⟩
end Go.Proofs.Ytgcdhenbpkcmgaa
namespace Go.Proofs.Ytgcdhenbpkcmgaa
open Go.RowKit Go.Shelf
set_option linter.unusedVariables false
end Go.Proofs.Ytgcdhenbpkcmgaa
namespace Go.Proofs.Ytgcdhenbpkcmgaa
open Go.RowKit Go.Shelf
set_option linter.unusedVariables false
end Go.Proofs.Ytgcdhenbpkcmgaa
