/- Set over from a lower layer: Walko. -/
import Derived.Test.YtgcdhenbpkcmgaaBase
import Derived.Test.YtgcdhenbpkcmgaaQuietb
import Derived.Test.YtgcdhenbpkcmgaaNWalkk
import Derived.Test.YtgcdhenbpkcmgaaNNuma
namespace Go.Proofs.Ytgcdhenbpkcmgaa
open Go.RowKit Go.Shelf
set_option linter.unusedVariables false
/-- Where a list stands, and all that is read of it. -/
theorem Rd.base {W : World} {a : Option Addr} {n c : Nat} {zs : List Int} (h : Rd W (.slice a n c) zs) (h0 : 0 < zs.length) : ∃ b off, a = some ⟨b, off, none⟩ ∧ ∀ k z, zs[k]? = some z → W.cell? ⟨b, off + k, none⟩ = some (.int .i64 z) := by
  obtain ⟨_, _, a', cap', e, _, h3⟩ := h
  cases e
  rcases h3 with ⟨h0', _⟩ | ⟨b, off, rfl, _, hc⟩
  · omega
  · exact ⟨b, off, rfl, fun k z hz => hc k _ (by rw [List.getElem?_map, hz]; rfl)⟩
end Go.Proofs.Ytgcdhenbpkcmgaa
namespace Go.Proofs.Ytgcdhenbpkcmgaa
open Go.RowKit Go.Shelf
set_option linter.unusedVariables false
end Go.Proofs.Ytgcdhenbpkcmgaa
