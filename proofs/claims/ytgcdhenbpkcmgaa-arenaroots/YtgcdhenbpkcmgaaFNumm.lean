/- Set over from a lower layer: Numm. -/
import Derived.Test.YtgcdhenbpkcmgaaBase
namespace Go.Proofs.Ytgcdhenbpkcmgaa
def plN : List Int → List Int
  | [] => []
  | x :: r => if r.head? = some x then plN r else x :: plN r
theorem plN_cons (x : Int) (r : List Int) : plN (x :: r) = if r.head? = some x then plN r else x :: plN r := rfl
theorem plN_twice (a : List Int) (x : Int) (b : List Int) : plN (a ++ x :: x :: b) = plN (a ++ x :: b) := by
  induction a with
  | nil => rw [List.nil_append, plN_cons, if_pos (show (x :: b).head? = some x from rfl)]; rfl
  | cons y a ih =>
    rw [List.cons_append, List.cons_append, plN_cons, plN_cons, ih]
    have : (a ++ x :: x :: b).head? = (a ++ x :: b).head? := by cases a <;> rfl
    rw [this]
theorem plN_next (a : List Int) (x y : Int) (h : x ≠ y) : plN (a ++ [x, y]) = plN (a ++ [x]) ++ [y] := by
  induction a with
  | nil => rw [List.nil_append, plN_cons, if_neg (by intro e; exact h (by simpa using e.symm))]; rfl
  | cons z a ih =>
    rw [List.cons_append, List.cons_append, plN_cons, plN_cons, ih]
    have : (a ++ [x, y]).head? = (a ++ [x]).head? := by cases a <;> rfl
    rw [this]
    split <;> rfl
end Go.Proofs.Ytgcdhenbpkcmgaa
