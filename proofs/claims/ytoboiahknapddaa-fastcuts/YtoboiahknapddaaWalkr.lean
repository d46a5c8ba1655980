/- Walks of layer 4: the document's own answers: what may be. -/
import Derived.Test.YtoboiahknapddaaWalkq
namespace Go.Proofs.Ytoboiahknapddaa
open Go.RowKit Go.Shelf
set_option linter.unusedVariables false

def OwnNN (W : World) (base : Nat) (v : Value) (n : Nat) (xs : List Value) : Prop := W.ownsRow base 3 1 v n xs
theorem fit_more {l : List Pd} {x p : Pd} (h : ∀ y ∈ l, Fit y p) (hx : Fit x p) : ∀ y ∈ l ++ [x], Fit y p := by
  intro y hy
  rcases List.mem_append.1 hy with hy | hy
  · exact h y hy
  · rw [List.mem_singleton.1 hy]; exact hx
theorem not_ahead {m : Mm} {k : Nat} {l : List Pd} {p : Pd} (hT : m.pend.take (k + 1) = l ++ [p]) (h : ¬ ∀ q ∈ l, Fit q p) : ok m = false := ok_false fun hk => h (by
  have := ahead_take hk.2.2.2.2.1 (k + 1)
  rw [hT, ahead_snoc] at this
  exact this.2)
theorem not_inPl {m : Mm} {k : Nat} {l : List Pd} {p : Pd} (hT : m.pend.take (k + 1) = l ++ [p]) (h : ¬ (0 ≤ p.a ∧ p.a < (m.vol.length : Int))) : ok m = false := ok_false fun hk => h (by
  have := inPl_take hk.2.2.2.1 (k + 1)
  rw [hT, inPl_snoc] at this
  exact this.2)

end Go.Proofs.Ytoboiahknapddaa

