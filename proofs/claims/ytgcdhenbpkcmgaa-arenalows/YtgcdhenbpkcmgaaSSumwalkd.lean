/- Set over from a lower layer: Sumwalkd. -/
import Derived.Test.YtgcdhenbpkcmgaaBase
import Derived.Test.YtgcdhenbpkcmgaaQuietb
import Derived.Test.YtgcdhenbpkcmgaaSSumwalka
namespace Go.Proofs.Ytgcdhenbpkcmgaa.Sm
open Go.RowKit
/-- A row of one number that was just laid is read. -/
theorem Rd.one (W : World) (z : Int) (h : -9223372036854775808 ≤ z ∧ z < 9223372036854775808) : Rd (W.alloc (.cells #[.int .i64 z] 3)) (.slice (some ⟨W.heap.size, 0, none⟩) 1 1) [z] := by
  refine ⟨by intro y hy; rw [List.mem_singleton.1 hy]; exact h, by simp, some ⟨W.heap.size, 0, none⟩, 1, rfl, .inr ⟨W.heap.size, 0, rfl, by simp, ?_⟩⟩
  intro j hj
  have : j = 0 := by simpa using hj
  subst this
  exact cell_one_new W (.int .i64 z) 3 0 _ rfl
end Go.Proofs.Ytgcdhenbpkcmgaa.Sm
namespace Go.Proofs.Ytgcdhenbpkcmgaa.Sm
open Go.RowKit
end Go.Proofs.Ytgcdhenbpkcmgaa.Sm
namespace Go.Proofs.Ytgcdhenbpkcmgaa.Sm
open Go.RowKit
end Go.Proofs.Ytgcdhenbpkcmgaa.Sm
