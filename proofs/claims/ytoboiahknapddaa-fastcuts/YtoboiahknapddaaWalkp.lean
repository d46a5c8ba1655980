/- Walks of layer 4: awake. -/
import Derived.Test.YtoboiahknapddaaWalko
namespace Go.Proofs.Ytoboiahknapddaa
open Go.RowKit Go.Shelf
set_option linter.unusedVariables false

theorem rd_two (W : World) (x y : Int) {b : Nat} (hb : b = W.heap.size) : Rd (W.alloc (.cells #[.int .i64 x, .int .i64 y] 3)) (.slice (some ⟨b, 0, none⟩) 2 2) [x, y] := by
  subst hb
  refine ⟨rfl, by simp, some ⟨W.heap.size, 0, none⟩, 2, rfl, Nat.le_refl _, .inr ⟨W.heap.size, 0, rfl, by simp, ?_⟩⟩
  intro j u hj
  match j, hj with
  | 0, hj => cases hj; simp
  | 1, hj => cases hj; simp
theorem rd_one (W : World) (x : Int) {b : Nat} (hb : b = W.heap.size) : Rd (W.alloc (.cells #[.int .i64 x] 3)) (.slice (some ⟨b, 0, none⟩) 1 1) [x] := by
  subst hb
  refine ⟨rfl, by simp, some ⟨W.heap.size, 0, none⟩, 1, rfl, Nat.le_refl _, .inr ⟨W.heap.size, 0, rfl, by simp, ?_⟩⟩
  intro j u hj
  match j, hj with
  | 0, hj => cases hj; simp


end Go.Proofs.Ytoboiahknapddaa

