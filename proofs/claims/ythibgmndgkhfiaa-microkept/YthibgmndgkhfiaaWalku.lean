/- Walks of layer 4: the document's own answers: Sync, New. -/
import Derived.Test.YthibgmndgkhfiaaWalks
import Derived.Test.YthibgmndgkhfiaaNume
namespace Go.Proofs.Ythibgmndgkhfiaa
open Go.RowKit Go.Shelf
set_option linter.unusedVariables false

theorem syn_all {m : Mm} (h : ok m = true) : synM m = ⟨m.vol, m.vol, []⟩ := by
  obtain ⟨h1, h2⟩ := all_true m.pend m.per
  unfold synM
  rw [h, if_pos rfl]
  unfold kM
  rw [h1, h2, (ok_out h).2.2.2.2.2]


end Go.Proofs.Ythibgmndgkhfiaa

