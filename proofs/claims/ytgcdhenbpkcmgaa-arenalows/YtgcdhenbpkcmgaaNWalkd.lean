/- Set over from a lower layer: Walkd. -/
import Derived.Test.YtgcdhenbpkcmgaaBase
import Derived.Test.YtgcdhenbpkcmgaaQuietb
import Derived.Test.YtgcdhenbpkcmgaaNNuma
import Derived.Deep.QuietTactic
import Derived.BigQuiet
import Derived.WalkSmall
import Derived.Deep.MidRow
import Derived.Deep.OwnRows
import Derived.Lib.SliceRun
import Derived.Deep.RegionHeld3
import Derived.Laws.ResultCell
namespace Go.Proofs.Ytgcdhenbpkcmgaa
open Go.RowKit
set_option linter.unusedVariables false
end Go.Proofs.Ytgcdhenbpkcmgaa
namespace Go.Proofs.Ytgcdhenbpkcmgaa
open Go.RowKit
set_option linter.unusedVariables false
/-- A row of the call's own is written at one place. -/
theorem OwnI.put {W : World} {base : Nat} {a : Option Addr} {n c : Nat} {zs : List Int} (h : OwnI W base (.slice a n c) zs) {k : Nat} (hk : k < zs.length) :
    ∃ g, a = some ⟨g, 0, none⟩ ∧ base ≤ g ∧ g < W.heap.size ∧ (W.cell? ⟨g, k, none⟩ = some (.int .i64 zs[k]) ∧ W.frozen? ⟨g, k, none⟩ = false) ∧ ∀ y : Int, OwnI (W.setCell ⟨g, k, none⟩ (.int .i64 y)) base (.slice a n c) (zs.set k y) := by
  have h' := h
  rcases h.2 with ⟨e, h0⟩ | ⟨g, cap, cur, e, hbg, hg, _⟩
  · omega
  · cases e
    refine ⟨g, rfl, hbg, (Array.getElem?_eq_some_iff.1 hg).1, ⟨?_, World.ownsRow.frozenAt h' k⟩, ?_⟩
    · rw [World.ownsRow.cellAt h' k (by omega), List.getElem?_map, List.getElem?_eq_getElem hk]; rfl
    · intro y
      have := (World.ownsRow.stored h' k (.int .i64 y)).1
      unfold OwnI
      rw [List.length_set, List.map_set]
      exact this
end Go.Proofs.Ytgcdhenbpkcmgaa
