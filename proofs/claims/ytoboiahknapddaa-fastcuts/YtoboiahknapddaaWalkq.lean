/- Walks of layer 4: the document's own answers: one word changed; what may be. -/
import Derived.Test.YtoboiahknapddaaMemin
namespace Go.Proofs.Ytoboiahknapddaa
open Go.RowKit Go.Shelf
set_option linter.unusedVariables false

theorem own_zy {W : World} {base : Nat} {v : Value} {zs : List Int} (h : W.ownsRow base 3 1 v (0 + zs.length) ([] ++ zs.map (Value.int .i64))) : OwnI W base v zs := by
  rw [Nat.zero_add] at h
  exact h

end Go.Proofs.Ytoboiahknapddaa
