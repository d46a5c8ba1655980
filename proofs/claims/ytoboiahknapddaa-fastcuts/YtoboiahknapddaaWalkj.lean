/- Walks of layer 4: Evict. -/
import Derived.Test.YtoboiahknapddaaWalki
namespace Go.Proofs.Ytoboiahknapddaa
open Go.RowKit Go.Shelf
set_option linter.unusedVariables false

theorem bx_new (W : World) (x y z : Value) (t : TypeId) : Bx (W.alloc (.cells #[x, y, z] t)) W.heap.size x y z := by simp [Bx]
/-- What is held: what is pending, in its box, and a number. -/
def SL (w : World) (b lb : Nat) (x y z u : Value) (w2 : World) : Prop := (w2.cell? ⟨b, 0, none⟩ = some x ∧ w2.cell? ⟨b, 1, none⟩ = some y ∧ w2.cell? ⟨b, 2, none⟩ = some z) ∧ w2.cell? ⟨lb, 0, none⟩ = some u ∧ Below w.heap.size w w2
theorem SL.next {w W w2 : World} {b lb : Nat} {x y z u : Value} (hb : Below W.heap.size W w2) (h : SL w b lb x y z u W) : SL w b lb x y z u w2 := ⟨⟨cell_held h.1.1 hb, cell_held h.1.2.1 hb, cell_held h.1.2.2 hb⟩, cell_held h.2.1 hb, bstep h.2.2 hb⟩


end Go.Proofs.Ytoboiahknapddaa

